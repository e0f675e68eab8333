/-
  A table is good: what the document answers.
  Both answers about names are one.
  Both answers about an enum are one.
  Both answers about a message are one.
  Both answers about a table are one.
  Is, Field, Named, Wire, Takes: what the document answers.
  Wire, Takes: what the document answers; both answers are one.
  The messages of a field, one by one, where what is done with them writes.
-/
import Derived.Test.YtnfdlnelfnigdaaGreatDoorCOB
import Derived.Test.YtnfdlnelfnigdaaGreatDoorNF
import Derived.Test.YtnfdlnelfnigdaaGreatDoorCTQ
import Derived.Test.YtnfdlnelfnigdaaGreatDoorCTZ
namespace Go.Proofs.YtnfdlnelfnigdaaGreatDoor
open Go.RowKit
set_option maxRecDepth 1000000
set_option linter.unusedVariables false
set_option linter.unusedSimpArgs false
set_option maxHeartbeats 1000000
def gtD (l : List TV) (i : Nat) (t : TT) : Bool := nmdB l i t && (if t.enum = true then enmB t else msgD l t)
def gdA (l : List TV) : Nat → List TV → Bool
  | _, [] => true
  | i, x :: r => gtD l i x.t && gdA l (i + 1) r
def goodD (l : List TV) : Bool := decide (l.length ≤ 128) && gdA l 0 l
theorem goodR (w : World) (l : List TV) (ta : Option Addr) (tc : Nat) (h : TbR w (.slice ta l.length tc) l) (hk : ∀ x ∈ l, OkV x) (hz : ∀ x ∈ l, x.t.name.length < 4000000) : Calls Tryz.prog 39 #[.agg #[.slice ta l.length tc]] w fun e w' => e = .returned (.bool (goodD l)) ∧ Below w.heap.size w w' := by
  obtain ⟨_, _, e, hn⟩ := rowS_sl h.row
  clear e
  have h1 : (l.length : Int) ≤ 9223372036854775807 := by omega
  have HT := hid h
  have HK := hid hk
  have HZ := hid hz
  clear h hk hz
  have HX : Hid (goodD l = (decide (l.length ≤ 128) && gdA l 0 l)) := hid rfl
  generalize goodD l = res at *
  by_cases hbig : 128 < l.length
  case pos =>
    have h2 : (128 : Int) < (l.length : Int) := by omega
    have HE : Hid (res = false) := hid (by rw [HX.out, decide_eq_false (by omega)]; rfl)
    go_enter Tryz.func39, Tryz.ntmps39
    go_wp2
    go_ret
    exact ⟨ret_bool HE.out.symm, by exact blBy⟩
  have h2 : ¬ (128 : Int) < (l.length : Int) := by omega
  replace HX := hid (show res = gdA l 0 l by rw [HX.out, decide_eq_true (by omega)]; rfl)
  go_enter Tryz.func39, Tryz.ntmps39
  go_wp2
  go_loopw [3] (fun r wr => ∃ i : Nat, r = .int .i64 i ∧ i ≤ l.length ∧ Hid (res = gdA l i (l.drop i)) ∧ Hid (Blk wr w.heap.size 46 #[.slice ta l.length tc]) ∧ Hid (Below w.heap.size w wr)) (fun r wr => l.length - numAt wr r)
  case atStart => exact ⟨0, rfl, by omega, HX, hid (Blk.new _ _ _), hid (by exact blBy)⟩
  case round =>
    clear HX
    obtain ⟨i, rfl, hi, HX, Ba, hb⟩ := hrel
    have xa := Ba.out.cellF
    have za := Ba.out.lt
    by_cases hlt : i < l.length
    case neg =>
      have h3 : ¬ (i : Int) < (l.length : Int) := by omega
      have HE : Hid (res = true) := hid (by rw [HX.out, List.drop_of_length_le (by omega)]; rfl)
      go_wp2
      go_ret
      exact ⟨ret_bool HE.out.symm, hb.out⟩
    have h3 : (i : Int) < (l.length : Int) := by omega
    have HST : Hid (gdA l i (l.drop i) = (gtD l i l[i].t && gdA l (i + 1) (l.drop (i + 1)))) := hid (by rw [List.drop_eq_getElem_cons hlt, gdA])
    rw [HST.out] at HX
    clear HST
    have HTY := hid (HT.out.ty _ (List.getElem_mem hlt))
    have HOK := hid (HK.out _ (List.getElem_mem hlt))
    have HNM : Hid (∀ W, Below w.heap.size w W → Calls Tryz.prog 78 #[.agg #[.slice ta l.length tc], .int .i64 (i : Int)] W fun e w' => e = .returned (.bool (nmdB l i l[i].t)) ∧ Below W.heap.size W w') := hid fun W hW => namedR W l ta tc i (HT.out.kept hW) (fun x hx => (HK.out x hx).ok.nm) HZ.out hlt
    obtain ⟨tb, tof, rfl, hbl, c0, c1, c2, c3, c4, c5⟩ := row6 (HT.out.row.kept hb.out) hlt
    generalize l[i] = x at *
    obtain ⟨t, f, o, s, r⟩ := x
    obtain ⟨fa, fc, ef, -⟩ := rowS_sl HTY.out.f
    obtain ⟨oa, oc, eo, -⟩ := rowS_sl HTY.out.o
    obtain ⟨sa, sc, es, -⟩ := rowS_sl HTY.out.s
    obtain ⟨ra, rc, er, -⟩ := rowS_sl HTY.out.r
    dsimp only at ef eo es er
    subst ef eo es er
    dsimp only at c0 c1 c2 c3 c4 c5 HX HNM
    go_wp2_with fail
    have Bx : Blk (wr.alloc (.cells #[.string (strOfNums t.name), .bool t.enum, .slice fa t.fs.length fc, .slice oa t.os.length oc, .slice sa t.ss.length sc, .slice ra t.rs.length rc] 66)) wr.heap.size 66 #[.string (strOfNums t.name), .bool t.enum, .slice fa t.fs.length fc, .slice oa t.os.length oc, .slice sa t.ss.length sc, .slice ra t.rs.length rc] := Blk.new _ _ _
    have Ba1 := Ba.out.kept (below_alloc (w := wr) (.cells #[.string (strOfNums t.name), .bool t.enum, .slice fa t.fs.length fc, .slice oa t.os.length oc, .slice sa t.ss.length sc, .slice ra t.rs.length rc] 66))
    have hb1 : Hid (Below w.heap.size w (wr.alloc (.cells #[.string (strOfNums t.name), .bool t.enum, .slice fa t.fs.length fc, .slice oa t.os.length oc, .slice sa t.ss.length sc, .slice ra t.rs.length rc] 66))) := hid (by have := hb.out; exact blBy)
    refine (HNM.out _ hb1.out).mono ?_
    rintro e w1 ⟨rfl, hb2⟩
    replace Ba1 := Ba1.kept hb2
    replace Bx := Bx.kept hb2
    replace hb2 : Hid (Below w.heap.size w w1) := hid (bl_then hb1.out hb2)
    have HBA := hid Ba1
    have HBX := hid Bx
    clear xa za Ba c0 c1 c2 c3 c4 c5 hbl
    have xa := Ba1.cellF
    have za := Ba1.lt
    have xx := Bx.cellF
    have zx := Bx.lt
    clear Ba1 Bx hb1 hb
    generalize wr.heap.size = xp at *
    have HD : Hid (gtD l i t = (nmdB l i t && (if t.enum = true then enmB t else msgD l t))) := hid rfl
    rw [HD.out] at HX
    cases q0 : nmdB l i t with
    | false =>
      have HE : Hid (res = false) := hid (by rw [HX.out, q0]; rfl)
      go_wp2
      go_ret
      exact ⟨ret_bool HE.out.symm, hb2.out⟩
    | true =>
    replace HX := hid (show res = ((if t.enum = true then enmB t else msgD l t) && gdA l (i + 1) (l.drop (i + 1))) by rw [HX.out, q0]; rfl)
    cases qe : t.enum with
    | true =>
      have HEN : Hid (∀ W, Below w.heap.size w W → Calls Tryz.prog 79 #[.agg #[.string (strOfNums t.name), .bool true, .slice fa t.fs.length fc, .slice oa t.os.length oc, .slice sa t.ss.length sc, .slice ra t.rs.length rc]] W fun e w' => e = .returned (.bool (enmB t)) ∧ Below W.heap.size W w') := hid (fun W hW => by have := enumR W t fa oa sa ra fc oc sc rc (HTY.out.kept hW) (fun x hx => (HOK.out.ok.ss x hx).1); rw [qe] at this; exact this)
      replace HX := hid (show res = (enmB t && gdA l (i + 1) (l.drop (i + 1))) by rw [HX.out, qe]; rfl)
      go_wp2_with fail
      refine (HEN.out _ (by have := hb2.out; exact blBy)).mono ?_
      rintro e w2 ⟨rfl, hb3⟩
      have HBA2 := hid (HBA.out.kept hb3)
      have HBX2 := hid (HBX.out.kept hb3)
      replace hb3 : Hid (Below w.heap.size w w2) := hid (bl_then hb2.out hb3)
      clear xa za xx zx
      have xa := HBA2.out.cellF
      have za := HBA2.out.lt
      have xx := HBX2.out.cellF
      have zx := HBX2.out.lt
      cases q1 : enmB t with
      | false =>
        have HE : Hid (res = false) := hid (by rw [HX.out, q1]; rfl)
        go_wp2
        go_ret
        exact ⟨ret_bool HE.out.symm, hb3.out⟩
      | true =>
        have HE : Hid (res = gdA l (i + 1) (l.drop (i + 1))) := hid (by rw [HX.out, q1]; rfl)
        go_wp2
        exact ⟨⟨i + 1, by simp, by omega, HE, HBA2, hb3⟩, by simp [numAt]; omega⟩
    | false =>
      have HEN : Hid (∀ W, Below w.heap.size w W → Calls Tryz.prog 80 #[.agg #[.slice (some ⟨tb, tof, none⟩) l.length tc], .agg #[.string (strOfNums t.name), .bool false, .slice fa t.fs.length fc, .slice oa t.os.length oc, .slice sa t.ss.length sc, .slice ra t.rs.length rc]] W fun e w' => e = .returned (.bool (msgD l t)) ∧ Below W.heap.size W w') := hid (fun W hW => by have := messageR W l _ tc t fa oa sa ra fc oc sc rc (HT.out.kept hW) (HTY.out.kept hW) HOK.out.ok; rw [qe] at this; exact this)
      replace HX := hid (show res = (msgD l t && gdA l (i + 1) (l.drop (i + 1))) by rw [HX.out, qe]; rfl)
      go_wp2_with fail
      refine (HEN.out _ (by have := hb2.out; exact blBy)).mono ?_
      rintro e w2 ⟨rfl, hb3⟩
      have HBA2 := hid (HBA.out.kept hb3)
      have HBX2 := hid (HBX.out.kept hb3)
      replace hb3 : Hid (Below w.heap.size w w2) := hid (bl_then hb2.out hb3)
      clear xa za xx zx
      have xa := HBA2.out.cellF
      have za := HBA2.out.lt
      have xx := HBX2.out.cellF
      have zx := HBX2.out.lt
      cases q1 : msgD l t with
      | false =>
        have HE : Hid (res = false) := hid (by rw [HX.out, q1]; rfl)
        go_wp2
        go_ret
        exact ⟨ret_bool HE.out.symm, hb3.out⟩
      | true =>
        have HE : Hid (res = gdA l (i + 1) (l.drop (i + 1))) := hid (by rw [HX.out, q1]; rfl)
        go_wp2
        exact ⟨⟨i + 1, by simp, by omega, HE, HBA2, hb3⟩, by simp [numAt]; omega⟩
end Go.Proofs.YtnfdlnelfnigdaaGreatDoor
namespace Go.Proofs.YtnfdlnelfnigdaaGreatDoor
open Go.RowKit
set_option maxRecDepth 1000000
set_option linter.unusedVariables false
set_option linter.unusedSimpArgs false
set_option maxHeartbeats 1000000
theorem byteAt {x : List Int} (hb : ∀ c ∈ x, 0 ≤ c ∧ c ≤ 255) {j : Nat} (hj : j < x.length) : (((strOfNums x).data[j]!).toNat : Int) = x[j] := by
  have hs : j < (strOfNums x).data.size := by have := strOfNums_size x; rw [ByteArray.size] at this; omega
  rw [getElem!_pos (strOfNums x).data j hs]
  have e : (strOfNums x).data[j] = UInt8.ofNat (x[j]).toNat := by simp [strOfNums]
  have := hb _ (List.getElem_mem hj)
  rw [e, UInt8.toNat_ofNat']
  omega
theorem lastD_spec {x : List Int} (hb : ∀ c ∈ x, 0 ≤ c ∧ c ≤ 255) : (lastD x = -1 ∧ ∀ c ∈ x, c ≠ 46) ∨ ∃ a b : List Int, x = a ++ 46 :: b ∧ (∀ c ∈ b, c ≠ 46) ∧ lastD x = a.length := by
  rcases Lib.lastIndexByte_spec (strOfNums x) 46 with ⟨e, h⟩ | ⟨i, hi, e, h1, h2⟩
  · refine .inl ⟨e, fun c hc => ?_⟩
    obtain ⟨j, hj, rfl⟩ := List.mem_iff_getElem.1 hc
    rw [← byteAt hb hj]
    exact h j (by rw [strOfNums_size]; exact hj)
  · rw [strOfNums_size] at hi
    refine .inr ⟨x.take i, x.drop (i + 1), ?_, fun c hc => ?_, ?_⟩
    · rw [byteAt hb hi] at h1
      rw [← h1, List.getElem_cons_drop, List.take_append_drop]
    · obtain ⟨j, hj, rfl⟩ := List.mem_iff_getElem.1 hc
      rw [List.length_drop] at hj
      rw [List.getElem_drop, ← byteAt hb (show i + 1 + j < x.length by omega)]
      exact h2 _ (by omega) (by rw [strOfNums_size]; omega)
    · rw [List.length_take, Nat.min_eq_left (by omega)]; exact e
theorem cutI_app : ∀ (a b : List Int), cutI (a ++ 46 :: b) = cutI a ++ cutI b
  | [], b => by simp [cutI]
  | c :: r, b => by
    rw [List.cons_append, cutI, cutI, cutI_app r b]
    obtain ⟨p, q, e⟩ := cutI_ne r
    rw [e]
    split <;> rfl
theorem headA_find (hd : List Int) : ∀ l : List TV, headA hd l = (match l.find? (fun v => v.t.name == hd) with
  | none => false
  | some v => !v.t.enum)
  | [] => rfl
  | v :: r => by
    rw [headA, List.find?_cons, headA_find hd r]
    by_cases h : v.t.name = hd
    · rw [show nameP hd v = true from decide_eq_true h, show (v.t.name == hd) = true by simpa using h]; rfl
    · rw [show nameP hd v = false from decide_eq_false h, show (v.t.name == hd) = false by simpa using h]; rfl
theorem standEq (l : List TV) (i : Nat) {x : List Int} (hb : ∀ c ∈ x, 0 ≤ c ∧ c ≤ 255) : standB l i x = (decide ((cutI x).length = 1) || headA (x.take (hdN x)) (l.take i)) := by
  rcases lastD_spec hb with ⟨e, h⟩ | ⟨a, b, rfl, h, e⟩
  · rw [cutI_none x h]
    unfold standB
    rw [if_pos (by rw [e]; omega)]
    rfl
  · have ec : cutI (a ++ 46 :: b) = cutI a ++ [b] := by rw [cutI_app, cutI_none b h]
    have hl : 1 ≤ (cutI a).length := by rw [cutI_len]; omega
    have el : lastP (a ++ 46 :: b) = b := by unfold lastP; rw [ec]; simp
    have eh : hdN (a ++ 46 :: b) = a.length := by unfold hdN; rw [el]; simp; omega
    unfold standB
    rw [if_neg (by rw [e]; omega), e, Int.toNat_natCast, headA_find, eh, decide_eq_false (by rw [ec, List.length_append]; simp only [List.length_cons, List.length_nil]; omega)]
    simp only [Bool.false_or]
    cases List.find? (fun v => v.t.name == List.take a.length (a ++ 46 :: b)) (List.take i l) <;> rfl
theorem any_name (l : List TV) (x : List Int) : l.any (nameP x) = named l x := by
  unfold named
  congr 1
  funext v
  unfold nameP
  by_cases h : v.t.name = x <;> simp [h]
theorem nmdEq (l : List TV) (i : Nat) (t : TT) (hb : ∀ c ∈ t.name, 0 ≤ c ∧ c ≤ 255) : nmdB l i t = (!named (l.take i) t.name && (fullB t && standB l i t.name)) := by
  unfold nmdB fullB
  rw [any_name, standEq l i hb, Bool.and_assoc]
  congr 2
  rw [cutI_len]
  split <;> (congr 1; try (apply propext; omega))
end Go.Proofs.YtnfdlnelfnigdaaGreatDoor
namespace Go.Proofs.YtnfdlnelfnigdaaGreatDoor
open Go.RowKit
set_option maxRecDepth 1000000
set_option linter.unusedVariables false
set_option linter.unusedSimpArgs false
set_option maxHeartbeats 1000000
theorem pw_and {α : Type} {R S : α → α → Prop} : ∀ l : List α, l.Pairwise (fun a b => R a b ∧ S a b) ↔ l.Pairwise R ∧ l.Pairwise S
  | [] => by simp
  | x :: r => by
    rw [List.pairwise_cons, List.pairwise_cons, List.pairwise_cons, pw_and r]
    constructor
    · rintro ⟨h1, h2, h3⟩
      exact ⟨⟨fun a ha => (h1 a ha).1, h2⟩, fun a ha => (h1 a ha).2, h3⟩
    · rintro ⟨⟨h1, h2⟩, h3, h4⟩
      exact ⟨fun a ha => ⟨h1 a ha, h3 a ha⟩, h2, h4⟩
theorem enmA_iff : ∀ (r pre : List SY), enmA pre r = true ↔ (∀ s ∈ r, nmB s.name = true ∧ 0 ≤ s.num ∧ s.num < 2147483648) ∧ r.Pairwise (fun a b => a.name ≠ b.name ∧ a.num ≠ b.num) ∧ ∀ p ∈ pre, ∀ s ∈ r, p.name ≠ s.name ∧ p.num ≠ s.num
  | [], pre => by simp [enmA]
  | s :: r, pre => by
    rw [enmA, Bool.and_eq_true, Bool.and_eq_true, Bool.and_eq_true, enmA_iff r (pre ++ [s]), decide_eq_true_eq, List.pairwise_cons]
    have hd : ((!pre.any (dupP s)) = true) ↔ ∀ p ∈ pre, p.name ≠ s.name ∧ p.num ≠ s.num := by
      rw [Bool.not_eq_true', List.any_eq_false]
      constructor
      · intro h p hp
        have := h p hp
        unfold dupP at this
        simp at this
        exact this
      · intro h p hp
        have := h p hp
        unfold dupP
        simp
        exact this
    rw [hd]
    constructor
    · rintro ⟨h1, h2, h3, h4, h5, h6⟩
      refine ⟨fun x hx => ?_, ⟨fun x hx => h6 s (by simp) x hx, h5⟩, fun p hp x hx => ?_⟩
      · rcases List.mem_cons.1 hx with rfl | hx
        · exact ⟨h1, h2⟩
        · exact h4 x hx
      · rcases List.mem_cons.1 hx with rfl | hx
        · exact h3 p hp
        · exact h6 p (by simp [hp]) x hx
    · rintro ⟨h1, ⟨h2, h3⟩, h4⟩
      refine ⟨(h1 s (by simp)).1, (h1 s (by simp)).2, fun p hp => h4 p hp s (by simp), fun x hx => h1 x (by simp [hx]), h3, fun p hp x hx => ?_⟩
      rcases List.mem_append.1 hp with hp | hp
      · exact h4 p hp x (by simp [hx])
      · simp at hp; subst hp; exact h2 x hx
theorem isKeyS (x : List Int) : WideAt.IsKeyLit (litS x) := trivial
theorem isKeyI (x : Int) : WideAt.IsKeyLit (litI x) := trivial
theorem dfS_iff {ns : List (List Int)} (ht : ∀ x ∈ ns, TxA x) : dfB (ns.map litS) = true ↔ ns.Pairwise (· ≠ ·) := by
  rw [dfB_iff _ (fun x hx => by obtain ⟨y, _, rfl⟩ := List.mem_map.1 hx; exact isKeyS y), List.Nodup, List.pairwise_map]
  exact List.Pairwise.iff_of_mem (fun ha hb => ⟨fun h e => h (by rw [e]), fun h e => h (litS_inj (ht _ ha) (ht _ hb) e)⟩)
theorem dfI_iff (ns : List Int) : dfB (ns.map litI) = true ↔ ns.Pairwise (· ≠ ·) := by
  rw [dfB_iff _ (fun x hx => by obtain ⟨y, _, rfl⟩ := List.mem_map.1 hx; exact isKeyI y), List.Nodup, List.pairwise_map]
  exact List.Pairwise.iff_of_mem (fun ha hb => ⟨fun h e => h (by rw [e]), fun h e => h (by unfold litI at e; injection e)⟩)
theorem enumEq (t : TT) (hk : ∀ x ∈ t.ss, TxA x.name) : enmB t = (decide (t.fs.length + t.os.length + t.rs.length = 0) && symB t.ss) := by
  rw [Bool.eq_iff_iff]
  unfold enmB
  cases hs : t.ss with
  | nil => simp [symB]
  | cons s r =>
    rw [hs] at hk
    rw [symB_is (by simp)]
    simp only [Bool.and_eq_true, decide_eq_true_eq, enmA_iff, List.length_cons, List.getElem?_cons_zero, Option.map_some, Option.getD_some, List.getElem_cons_zero]
    rw [dfS_iff (fun x hx => by obtain ⟨y, hy, rfl⟩ := List.mem_map.1 hx; exact hk y hy), dfI_iff, List.pairwise_map, List.pairwise_map, pw_and, List.all_eq_true, List.all_eq_true]
    constructor
    · rintro ⟨⟨h1, h2⟩, h3, h4, h5, h6, h7, ⟨h8, h9⟩, h10⟩
      refine ⟨by omega, h2, h3, fun x hx => ?_, fun x hx => ?_, h8, h9⟩
      · have := (h7 x hx).2; simp; omega
      · obtain ⟨y, hy, rfl⟩ := List.mem_map.1 hx; exact (h7 y hy).1
    · rintro ⟨h1, h2, h3, h4, h5, h6, h7⟩
      refine ⟨⟨by omega, h2⟩, h3, by omega, by omega, by omega, fun x hx => ⟨h5 _ (List.mem_map.2 ⟨x, hx, rfl⟩), ?_⟩, ⟨h6, h7⟩, by simp⟩
      have := h4 x hx
      simp at this
      omega
end Go.Proofs.YtnfdlnelfnigdaaGreatDoor
namespace Go.Proofs.YtnfdlnelfnigdaaGreatDoor
open Go.RowKit
set_option maxRecDepth 1000000
set_option linter.unusedVariables false
set_option linter.unusedSimpArgs false
set_option maxHeartbeats 1000000
theorem nmsA_iff : ∀ (r pre : List (List Int)), nmsA pre r = true ↔ (∀ s ∈ r, nmB s = true) ∧ r.Pairwise (· ≠ ·) ∧ ∀ p ∈ pre, ∀ s ∈ r, p ≠ s
  | [], pre => by simp [nmsA]
  | s :: r, pre => by
    rw [nmsA, Bool.and_eq_true, Bool.and_eq_true, nmsA_iff r (pre ++ [s]), List.pairwise_cons]
    have hd : ((!pre.any (sameP s)) = true) ↔ ∀ p ∈ pre, p ≠ s := by
      rw [Bool.not_eq_true', List.any_eq_false]
      constructor
      · intro h p hp e
        exact h p hp (decide_eq_true e.symm)
      · intro h p hp q
        exact h p hp (of_decide_eq_true q).symm
    rw [hd]
    constructor
    · rintro ⟨h1, h3, h4, h5, h6⟩
      refine ⟨fun x hx => ?_, ⟨fun x hx => h6 s (by simp) x hx, h5⟩, fun p hp x hx => ?_⟩
      · rcases List.mem_cons.1 hx with rfl | hx
        · exact h1
        · exact h4 x hx
      · rcases List.mem_cons.1 hx with rfl | hx
        · exact h3 p hp
        · exact h6 p (by simp [hp]) x hx
    · rintro ⟨h1, ⟨h2, h3⟩, h4⟩
      refine ⟨h1 s (by simp), fun p hp => h4 p hp s (by simp), fun x hx => h1 x (by simp [hx]), h3, fun p hp x hx => ?_⟩
      rcases List.mem_append.1 hp with hp | hp
      · exact h4 p hp x (by simp [hx])
      · simp at hp; subst hp; exact h2 x hx
theorem riseA_iff : ∀ (fs : List FT) (z : Int), riseA fs z = true ↔ z ≤ 536870911 ∧ fs.Pairwise (fun a b => a.num < b.num) ∧ ∀ f ∈ fs, z < f.num ∧ f.num ≤ 536870911
  | [], z => by simp [riseA]
  | f :: r, z => by
    rw [riseA, List.pairwise_cons]
    by_cases h : f.num ≤ z
    · rw [if_pos h]
      constructor
      · intro q; cases q
      · rintro ⟨_, _, h2⟩
        have := h2 f (by simp)
        omega
    · rw [if_neg h, riseA_iff r f.num]
      constructor
      · rintro ⟨h1, h2, h3⟩
        refine ⟨by omega, ⟨fun g hg => (h3 g hg).1, h2⟩, fun g hg => ?_⟩
        rcases List.mem_cons.1 hg with rfl | hg
        · omega
        · have := h3 g hg; omega
      · rintro ⟨h1, ⟨h2, h3⟩, h4⟩
        exact ⟨(h4 f (by simp)).2, h3, fun g hg => ⟨h2 g hg, (h4 g (by simp [hg])).2⟩⟩
theorem flA_iff (l : List TV) (k : Nat) (rs : List RG) (fs : List FT) : ∀ (n i : Nat), i + n = fs.length → (flA l k rs fs i (fs.drop i) = true ↔ (∀ f ∈ fs.drop i, docB l k f = true ∧ rs.all (outP f.num) = true) ∧ (fs.drop i).Pairwise (fun a b => a.num < b.num) ∧ (i = 0 ∨ ∀ f ∈ fs.drop i, (fs[i - 1]?.map FT.num).getD 0 < f.num))
  | 0, i, h => by
    rw [List.drop_of_length_le (by omega)]
    simp [flA]
  | n + 1, i, h => by
    have hi : i < fs.length := by omega
    rw [List.drop_eq_getElem_cons hi, flA, Bool.and_eq_true, Bool.and_eq_true, Bool.and_eq_true, flA_iff l k rs fs n (i + 1) (by omega), List.pairwise_cons]
    have e : (fs[i + 1 - 1]?.map FT.num).getD 0 = fs[i].num := by rw [Nat.add_sub_cancel, List.getElem?_eq_getElem hi]; rfl
    rw [e]
    unfold riseP
    rw [decide_eq_true_eq]
    generalize (fs[i - 1]?.map FT.num).getD 0 = pv
    generalize fs[i] = f
    generalize fs.drop (i + 1) = r
    constructor
    · rintro ⟨h1, h2, h3, h4, h5, h6⟩
      have h6' : ∀ g ∈ r, f.num < g.num := fun g hg => by rcases h6 with h6 | h6; omega; exact h6 g hg
      refine ⟨fun g hg => ?_, ⟨h6', h5⟩, ?_⟩
      · rcases List.mem_cons.1 hg with rfl | hg
        · exact ⟨h1, h3⟩
        · exact h4 g hg
      · rcases h2 with h2 | h2
        · exact .inl h2
        · refine .inr fun g hg => ?_
          rcases List.mem_cons.1 hg with rfl | hg
          · exact h2
          · have := h6' g hg; omega
    · rintro ⟨h1, ⟨h2, h3⟩, h4⟩
      exact ⟨(h1 f (by simp)).1, h4.imp id (fun q => q f (by simp)), (h1 f (by simp)).2, fun g hg => h1 g (by simp [hg]), h3, .inr h2⟩
theorem rgA_iff (rs : List RG) : ∀ (n i : Nat), i + n = rs.length → (rgA rs i (rs.drop i) = true ↔ (∀ g ∈ rs.drop i, 1 ≤ g.lo ∧ g.hi ≤ 536870911 ∧ g.lo ≤ g.hi) ∧ (rs.drop i).Pairwise (fun a b => a.hi < b.lo) ∧ (i = 0 ∨ ∀ g ∈ rs.drop i, (rs[i - 1]?.map RG.hi).getD 0 < g.lo))
  | 0, i, h => by
    rw [List.drop_of_length_le (by omega)]
    simp [rgA]
  | n + 1, i, h => by
    have hi : i < rs.length := by omega
    rw [List.drop_eq_getElem_cons hi, rgA, Bool.and_eq_true, rgA_iff rs n (i + 1) (by omega), List.pairwise_cons]
    have e : (rs[i + 1 - 1]?.map RG.hi).getD 0 = rs[i].hi := by rw [Nat.add_sub_cancel, List.getElem?_eq_getElem hi]; rfl
    rw [e]
    unfold rgP
    rw [Bool.and_eq_true, Bool.and_eq_true, Bool.and_eq_true, decide_eq_true_eq, decide_eq_true_eq, decide_eq_true_eq, decide_eq_true_eq]
    generalize (rs[i - 1]?.map RG.hi).getD 0 = pv
    generalize rs[i] = f
    generalize rs.drop (i + 1) = r
    constructor
    · rintro ⟨⟨h1, h2, h3, h0⟩, h4, h5, h6⟩
      have h6' : ∀ g ∈ r, f.hi < g.lo := fun g hg => by rcases h6 with h6 | h6; omega; exact h6 g hg
      refine ⟨fun g hg => ?_, ⟨h6', h5⟩, ?_⟩
      · rcases List.mem_cons.1 hg with rfl | hg
        · exact ⟨h1, h2, h3⟩
        · exact h4 g hg
      · rcases h0 with h2 | h2
        · exact .inl h2
        · refine .inr fun g hg => ?_
          rcases List.mem_cons.1 hg with rfl | hg
          · exact h2
          · have := h6' g hg; omega
    · rintro ⟨h1, ⟨h2, h3⟩, h4⟩
      have := h1 f (by simp)
      exact ⟨⟨this.1, this.2.1, this.2.2, h4.imp id (fun q => q f (by simp))⟩, fun g hg => h1 g (by simp [hg]), h3, .inr h2⟩
theorem freeA_iff (fs : List FT) : ∀ (rs : List RG) (z : Int), freeA fs rs z = true ↔ z ≤ 536870911 ∧ (∀ g ∈ rs, z < g.lo ∧ g.hi ≤ 536870911 ∧ g.lo ≤ g.hi ∧ hitB fs g = false) ∧ rs.Pairwise (fun a b => a.hi < b.lo)
  | [], z => by simp [freeA]
  | g :: r, z => by
    rw [freeA, List.pairwise_cons]
    by_cases h : g.lo ≤ z ∨ g.hi < g.lo
    · rw [if_pos h]
      constructor
      · intro q; cases q
      · rintro ⟨_, h2, _⟩
        have := h2 g (by simp)
        omega
    · rw [if_neg h]
      cases hh : hitB fs g with
      | true =>
        rw [if_pos rfl]
        constructor
        · intro q; cases q
        · rintro ⟨_, h2, _⟩
          have := (h2 g (by simp)).2.2.2
          rw [hh] at this; cases this
      | false =>
        rw [if_neg (by simp), freeA_iff fs r g.hi]
        constructor
        · rintro ⟨h1, h2, h3⟩
          refine ⟨by omega, fun x hx => ?_, fun x hx => (h2 x hx).1, h3⟩
          rcases List.mem_cons.1 hx with rfl | hx
          · exact ⟨by omega, h1, by omega, hh⟩
          · have := h2 x hx; exact ⟨by omega, this.2⟩
        · rintro ⟨h1, h2, h3, h4⟩
          exact ⟨(h2 g (by simp)).2.1, fun x hx => ⟨h3 x hx, (h2 x (by simp [hx])).2⟩, h4⟩
theorem hit_out (fs : List FT) (rs : List RG) : (∀ g ∈ rs, hitB fs g = false) ↔ ∀ f ∈ fs, rs.all (outP f.num) = true := by
  unfold hitB outP
  simp only [List.any_eq_false, List.all_eq_true, decide_eq_true_eq, Bool.not_eq_true', decide_eq_false_iff_not]
  exact ⟨fun h f hf g hg => h g hg f hf, fun h g hg f hf => h f hf g hg⟩
theorem messageEq (l : List TV) (t : TT) (hk : OkT t) : msgD l t = (decide (t.ss.length = 0) && msgB l t) := by
  rw [Bool.eq_iff_iff]
  have htx : ∀ x ∈ t.os ++ t.fs.map FT.name, TxA x := fun x hx => by
    rcases List.mem_append.1 hx with q | q
    · exact hk.os x q
    · obtain ⟨y, hy, rfl⟩ := List.mem_map.1 q
      exact hk.fs y hy
  unfold msgD msgB cntB nmsB
  have hf := flA_iff l t.os.length t.rs t.fs t.fs.length 0 (by omega)
  have hr := rgA_iff t.rs t.rs.length 0 (by omega)
  rw [List.drop_zero] at hf hr
  simp only [Bool.and_eq_true, decide_eq_true_eq, hf, hr, nmsA_iff, riseA_iff, freeA_iff, dfS_iff htx]
  constructor
  · rintro ⟨⟨h1, h2, h3, h4⟩, h5, ⟨h6, h7, -⟩, ⟨h8, h9, -⟩, h10, h11, -⟩
    have hd : ∀ f ∈ t.fs, (1 ≤ f.num ∧ f.num ≤ 536870911) ∧ fldB l t.os.length f = true := fun f hf => by
      have := (h6 f hf).1
      unfold docB at this
      rw [Bool.and_eq_true, decide_eq_true_eq] at this
      exact this
    refine ⟨h1, ⟨h2, h3⟩, List.all_eq_true.2 fun f hf => (hd f hf).2, ⟨by omega, h7, fun f hf => by have := (hd f hf).1; omega⟩, ⟨by omega, fun g hg => ?_, h11⟩, h5, List.all_eq_true.2 h8, h9⟩
    have := h10 g hg
    exact ⟨by omega, this.2.1, this.2.2, (hit_out t.fs t.rs).2 (fun f hf => (h6 f hf).2) g hg⟩
  · rintro ⟨h1, ⟨h2, h3⟩, h4, ⟨-, h5, h6⟩, ⟨-, h7, h8⟩, h9, h10, h11⟩
    refine ⟨⟨h1, h2, h3, mem_few h9⟩, h9, ⟨fun f hf => ⟨?_, ?_⟩, h5, .inl trivial⟩, ⟨List.all_eq_true.1 h10, h11, by simp⟩, fun g hg => ?_, h8, .inl trivial⟩
    · unfold docB
      rw [Bool.and_eq_true, decide_eq_true_eq]
      have := h6 f hf
      exact ⟨by omega, List.all_eq_true.1 h4 f hf⟩
    · exact (hit_out t.fs t.rs).1 (fun g hg => (h7 g hg).2.2.2) f hf
    · have := h7 g hg
      exact ⟨by omega, this.2.1, this.2.2.1⟩
end Go.Proofs.YtnfdlnelfnigdaaGreatDoor
namespace Go.Proofs.YtnfdlnelfnigdaaGreatDoor
open Go.RowKit
set_option maxRecDepth 1000000
set_option linter.unusedVariables false
set_option linter.unusedSimpArgs false
set_option maxHeartbeats 1000000
theorem stepEq (l : List TV) (i : Nat) (t : TT) (hk : OkT t) : gtD l i t = stepB l i t := by
  unfold gtD stepB typB
  rw [nmdEq l i t hk.nm.1, enumEq t (fun x hx => (hk.ss x hx).1), messageEq l t hk]
  simp only [Bool.and_assoc]
theorem goodA_eq (l : List TV) (hk : ∀ x ∈ l, OkV x) : ∀ (r : List TV) (i : Nat), (∀ x ∈ r, OkV x) → gdA l i r = goodA l r i
  | [], _, _ => rfl
  | x :: r, i, h => by rw [gdA, goodA, stepEq l i x.t (h x (by simp)).ok, goodA_eq l hk r (i + 1) (fun y hy => h y (by simp [hy]))]
theorem goodEq (l : List TV) (hk : ∀ x ∈ l, OkV x) : goodD l = goodB l := by
  unfold goodD goodB
  rw [goodA_eq l hk l 0 hk]
end Go.Proofs.YtnfdlnelfnigdaaGreatDoor
namespace Go.Proofs.YtnfdlnelfnigdaaGreatDoor
open Go.RowKit
set_option maxRecDepth 1000000
set_option linter.unusedVariables false
set_option linter.unusedSimpArgs false
set_option maxHeartbeats 1000000
theorem isR (w : World) (l : List TV) (ta : Option Addr) (tc : Nat) (h : TbR w (.slice ta l.length tc) l) (hk : ∀ x ∈ l, OkV x) (hz : ∀ x ∈ l, x.t.name.length < 4000000) (idx : Int) : Calls Tryz.prog 19 #[.agg #[.slice ta l.length tc], .int .i64 idx] w fun e w' => e = .returned (.bool (isB l idx false)) ∧ Below w.heap.size w w' := by
  obtain ⟨_, _, e, hn⟩ := rowS_sl h.row
  clear e
  have h63 : (l.length : Int) ≤ 9223372036854775807 := by omega
  have HX : Hid (isB l idx false = (goodB l && (decide (0 ≤ idx) && (match l[idx.toNat]? with | some x => x.t.enum == false | none => false)))) := hid rfl
  have HGC : Hid (∀ W, Below w.heap.size w W → Calls Tryz.prog 39 #[.agg #[.slice ta l.length tc]] W fun e w' => e = .returned (.bool (goodB l)) ∧ Below W.heap.size W w') := hid fun W hW => by
    have := goodR W l ta tc (h.kept hW) hk hz
    rw [goodEq l hk] at this
    exact this
  clear hk hz
  generalize isB l idx false = res at *
  cases q : goodB l with
  | false =>
    rw [q] at HGC HX
    clear h
    go_enter Tryz.func19, Tryz.ntmps19
    go_wp2_with fail
    refine (HGC.out _ (by exact blBy)).mono ?_
    rintro e w1 ⟨rfl, hb1⟩
    have Ba : Blk w1 w.heap.size 46 #[.slice ta l.length tc] := (Blk.new _ _ _).kept hb1
    replace hb1 : Hid (Below w.heap.size w w1) := hid (bl_then (by exact blBy) hb1)
    have xa := Ba.cellF
    have za := Ba.lt
    go_wp2
    go_ret
    exact ⟨ret_bool (HX.out.symm), hb1.out⟩
  | true =>
  rw [q, Bool.true_and] at HX
  rw [q] at HGC
  by_cases r1 : 0 ≤ idx
  case neg =>
    have r2 : (0 ≤ idx) = False := eq_false r1
    rw [decide_eq_false r1, Bool.false_and] at HX
    clear h r1
    go_enter Tryz.func19, Tryz.ntmps19
    go_wp2_with fail
    refine (HGC.out _ (by exact blBy)).mono ?_
    rintro e w1 ⟨rfl, hb1⟩
    have Ba : Blk w1 w.heap.size 46 #[.slice ta l.length tc] := (Blk.new _ _ _).kept hb1
    replace hb1 : Hid (Below w.heap.size w w1) := hid (bl_then (by exact blBy) hb1)
    have xa := Ba.cellF
    have za := Ba.lt
    go_wp2
    go_ret
    exact ⟨ret_bool (HX.out.symm), hb1.out⟩
  obtain ⟨k, rfl⟩ := Int.eq_ofNat_of_zero_le r1
  rw [decide_eq_true r1, Bool.true_and, Int.toNat_natCast] at HX
  have r2 : (0 ≤ (k : Int)) = True := eq_true r1
  by_cases r3 : k < l.length
  case neg =>
    have r4 : ((k : Int) < (l.length : Int)) = False := eq_false (by omega)
    rw [List.getElem?_eq_none (by omega)] at HX
    clear h r1 r3
    go_enter Tryz.func19, Tryz.ntmps19
    go_wp2_with fail
    refine (HGC.out _ (by exact blBy)).mono ?_
    rintro e w1 ⟨rfl, hb1⟩
    have Ba : Blk w1 w.heap.size 46 #[.slice ta l.length tc] := (Blk.new _ _ _).kept hb1
    replace hb1 : Hid (Below w.heap.size w w1) := hid (bl_then (by exact blBy) hb1)
    have xa := Ba.cellF
    have za := Ba.lt
    go_wp2
    go_ret
    exact ⟨ret_bool (HX.out.symm), hb1.out⟩
  have r4 : ((k : Int) < (l.length : Int)) = True := eq_true (by omega)
  have r5 : (k : Int) < (l.length : Int) := by omega
  obtain ⟨tb, tof, rfl, hbl, -, c1, -⟩ := row6 h.row r3
  rw [List.getElem?_eq_getElem r3] at HX
  dsimp only at HX
  clear h r1
  generalize l[k].t.enum = en at *
  clear r3
  go_enter Tryz.func19, Tryz.ntmps19
  go_wp2_with fail
  refine (HGC.out _ (by exact blBy)).mono ?_
  rintro e w1 ⟨rfl, hb1⟩
  have Ba : Blk w1 w.heap.size 46 #[.slice (some ⟨tb, tof, none⟩) l.length tc] := (Blk.new _ _ _).kept hb1
  replace hb1 : Hid (Below w.heap.size w w1) := hid (bl_then (by exact blBy) hb1)
  have d1 := cell_below c1 hb1.out
  have hbl1 : tb < w1.heap.size := World.block_lt_of_cell? _ _ d1
  clear c1
  have xa := Ba.cellF
  have za := Ba.lt
  go_wp2
  go_ret
  exact ⟨ret_bool (by rw [HX.out]; cases en <;> rfl), hb1.out⟩
/-- A field that is looked for, one by one. -/
theorem fieldDR (w : World) (l : List TV) (ta : Option Addr) (tc : Nat) (h : TbR w (.slice ta l.length tc) l) (k : Nat) (hk : k < l.length) (n : Int)  : Calls Tryz.prog 40 #[.agg #[.slice ta l.length tc], .int .i64 (k : Int), .int .i64 n] w fun e w' => e = .returned (.tuple #[aFT ((l[k].t.fs.find? (fun f => decide (f.num = n))).getD ftZ), .bool (l[k].t.fs.find? (fun f => decide (f.num = n))).isSome]) ∧ Below w.heap.size w w' := by
  obtain ⟨_, _, e, hn0⟩ := rowS_sl h.row
  clear e
  have h63 : (l.length : Int) ≤ 9223372036854775807 := by omega
  have r5 : (k : Int) < (l.length : Int) := by omega
  have HTY := hid (h.ty _ (List.getElem_mem hk))
  obtain ⟨tb, tof, rfl, hbl, -, -, c2, -⟩ := row6 h.row hk
  clear h
  generalize l[k] = x at *
  obtain ⟨t, f, o, s, r⟩ := x
  obtain ⟨fa, fc, ef, hfl⟩ := rowS_sl HTY.out.f
  dsimp only at ef hfl
  subst ef
  have hf63 : (t.fs.length : Int) ≤ 9223372036854775807 := by omega
  dsimp only at c2
  dsimp only
  have HF := hid HTY.out.f
  dsimp only at HF
  clear HTY
  have HV : Hid (∀ (v : Option FT), v = t.fs.find? (fun f => decide (f.num = n)) → True) := hid fun _ _ => trivial
  clear HV
  generalize hfv : t.fs.find? (fun f => decide (f.num = n)) = fv
  have HFV := hid hfv
  clear hfv
  go_enter Tryz.func40, Tryz.ntmps40
  go_wp2
  clear c2
  go_loopw [9] (fun r wr => ∃ j : Nat, r = .int .i64 j ∧ j ≤ t.fs.length ∧ Hid ((t.fs.drop j).find? (fun f => decide (f.num = n)) = fv) ∧ Hid (Blk wr (w.heap.size + 1) 77 #[.string ⟨#[]⟩, .int .i64 0, .int .i64 0, .int .i64 0, .int .i64 0, .int .i64 0, .int .i64 0]) ∧ Hid (Below w.heap.size w wr)) (fun r wr => t.fs.length - numAt wr r)
  case atStart => exact ⟨0, rfl, by omega, HFV, hid (Blk.newAt (by simp)), hid (by exact blBy)⟩
  case round =>
    clear HFV
    obtain ⟨j, rfl, hj, HFV, Br, hb⟩ := hrel
    have xr := Br.out.cellF
    have yr := Br.out.frz
    have zr := Br.out.lt
    by_cases hlt : j < t.fs.length
    · have h2 : (j : Int) < (t.fs.length : Int) := by omega
      obtain ⟨fb, fo, rfl, hbf, c0, c1, c2, c3, c4, c5, c6⟩ := row7 HF.out hlt
      have d0 := cell_below c0 hb.out
      have d1 := cell_below c1 hb.out
      have d2 := cell_below c2 hb.out
      have d3 := cell_below c3 hb.out
      have d4 := cell_below c4 hb.out
      have d5 := cell_below c5 hb.out
      have d6 := cell_below c6 hb.out
      clear c0 c1 c2 c3 c4 c5 c6
      have HST : Hid ((t.fs.drop j).find? (fun f => decide (f.num = n)) = match (fun f => decide (f.num = n)) t.fs[j] with | true => some t.fs[j] | false => (t.fs.drop (j + 1)).find? (fun f => decide (f.num = n))) := hid (by rw [List.drop_eq_getElem_cons hlt, List.find?_cons]; first | rfl | (split <;> rfl) | (split <;> simp_all))
      rw [HST.out] at HFV
      clear HST
      generalize t.fs[j] = f at *
      have hfb : fb ≠ w.heap.size + 1 := by omega
      have hfb2 : fb < wr.heap.size := World.block_lt_of_cell? _ _ d0
      by_cases hq : f.num = n
      · have kq : (f.num == n) = true := by simpa using hq
        rw [show (fun f => decide (f.num = n)) f = true from decide_eq_true hq] at HFV
        have HE : Hid (fv = some f) := hid HFV.out.symm
        replace hq := hid hq
        go_wp2
        exact bodyPost_ret (v := .tuple #[.agg #[.string (strOfNums f.name), .int .i64 f.num, .int .i64 f.kind, .int .i64 f.ref, .int .i64 f.lab, .int .i64 f.one, .int .i64 f.key], .bool true]) (by simp [results, Tryz.results40, go_sem, xr, zr, yr]) rfl ⟨by rw [HE.out]; rfl, by have := hb.out; exact blBy⟩
      · have kq : (f.num == n) = false := by simpa using hq
        rw [show (fun f => decide (f.num = n)) f = false from decide_eq_false hq] at HFV
        replace hq := hid hq
        go_wp2
        exact ⟨⟨j + 1, by simp, by omega, HFV, Br, hb⟩, by simp [numAt]; omega⟩
    · have h2 : ¬ (j : Int) < (t.fs.length : Int) := by omega
      have HE : Hid (fv = none) := hid (by rw [← HFV.out, List.drop_of_length_le (by omega)]; rfl)
      go_wp2
      exact bodyPost_ret (v := .tuple #[.agg #[.string ⟨#[]⟩, .int .i64 0, .int .i64 0, .int .i64 0, .int .i64 0, .int .i64 0, .int .i64 0], .bool false]) (by simp [results, Tryz.results40, go_sem, xr, zr, yr]) rfl ⟨by rw [HE.out]; rfl, by have := hb.out; exact blBy⟩
end Go.Proofs.YtnfdlnelfnigdaaGreatDoor
namespace Go.Proofs.YtnfdlnelfnigdaaGreatDoor
open Go.RowKit
set_option maxRecDepth 1000000
set_option linter.unusedVariables false
set_option linter.unusedSimpArgs false
set_option maxHeartbeats 1000000
def wireD (f : FT) : Int := if f.lab = 5 then 2 else kwire f.kind
def takenD (f : FT) (k : Int) : Int := if wireD f = k then 1 else if rowsF f = true ∧ k = 2 then 2 else 0
theorem wireDR (f : FT) (w : World) : Calls Tryz.prog 92 #[.agg #[.string (strOfNums f.name), .int .i64 f.num, .int .i64 f.kind, .int .i64 f.ref, .int .i64 f.lab, .int .i64 f.one, .int .i64 f.key]] w fun e w' => e = .returned (.int .i64 (wireD f)) ∧ Below w.heap.size w w' := by
  have HK := hid (wireKR f.kind)
  have HX : Hid (wireD f = if f.lab = 5 then 2 else kwire f.kind) := hid rfl
  generalize kwire f.kind = kw at *
  by_cases h : f.lab = 5
  · have k5 : (f.lab == 5) = true := by simpa using h
    rw [if_pos h] at HX
    replace h := hid h
    go_enter Tryz.func92, Tryz.ntmps92
    go_wp2
    go_ret
    exact ⟨ret_int HX.out.symm, by exact blBy⟩
  · have k5 : (f.lab == 5) = false := by simpa using h
    rw [if_neg h] at HX
    replace h := hid h
    go_enter Tryz.func92, Tryz.ntmps92
    go_wp2_with (first | (go_at_call 125; refine (HK.out _).mono ?_; rintro e w1 ⟨rfl, rfl⟩))
    go_ret
    exact ⟨ret_int HX.out.symm, by exact blBy⟩
def takesD (fs : List FT) (n kd : Int) : Int := match fs.find? (fun f => decide (f.num = n)) with | some f => takenD f kd | none => 0
theorem takesDR (w : World) (l : List TV) (ta : Option Addr) (tc : Nat) (h : TbR w (.slice ta l.length tc) l) (k : Nat) (hk : k < l.length) (n kd : Int) : Calls Tryz.prog 48 #[.agg #[.slice ta l.length tc], .int .i64 (k : Int), .int .i64 n, .int .i64 kd] w fun e w' => e = .returned (.int .i64 (takesD l[k].t.fs n kd)) ∧ Below w.heap.size w w' := by
  have HX : Hid (takesD l[k].t.fs n kd = match l[k].t.fs.find? (fun f => decide (f.num = n)) with | some f => takenD f kd | none => 0) := hid rfl
  have HF := hid fun W (hW : Below w.heap.size w W) => fieldDR W l ta tc (h.kept hW) k hk n
  clear h
  generalize takesD l[k].t.fs n kd = res at *
  generalize l[k].t.fs.find? (fun f => decide (f.num = n)) = fv at *
  cases fv with
  | none =>
    dsimp only [Option.getD_none, Option.isSome_none] at HF
    go_enter Tryz.func48, Tryz.ntmps48
    go_wp2_with fail
    refine (HF.out _ (by exact blBy)).mono ?_
    rintro e w1 ⟨rfl, hb1⟩
    replace hb1 : Hid (Below w.heap.size w w1) := hid (bl_then (by exact blBy) hb1)
    unfold aFT ftZ
    go_wp2
    go_ret
    exact ⟨ret_int HX.out.symm, by have := hb1.out; exact blBy⟩
  | some f =>
    dsimp only [Option.getD_some, Option.isSome_some] at HF HX
    have HW := hid (wireDR f)
    have HNU := hid (numericR f.kind)
    have HTD : Hid (takenD f kd = if wireD f = kd then 1 else if rowsF f = true ∧ kd = 2 then 2 else 0) := hid rfl
    have HRF : Hid (rowsF f = (decide (f.lab = 2 ∨ f.lab = 3) && knum f.kind)) := hid rfl
    rw [HTD.out] at HX
    clear HTD
    generalize rowsF f = rf at *
    generalize wireD f = wf at *
    generalize knum f.kind = kn at *
    go_enter Tryz.func48, Tryz.ntmps48
    go_wp2_with fail
    refine (HF.out _ (by exact blBy)).mono ?_
    rintro e w1 ⟨rfl, hb1⟩
    replace hb1 : Hid (Below w.heap.size w w1) := hid (bl_then (by exact blBy) hb1)
    unfold aFT
    go_wp2_with fail
    refine (HW.out _).mono ?_
    rintro e w2 ⟨rfl, hb2⟩
    have Bf : Blk w2 w1.heap.size 77 #[.string (strOfNums f.name), .int .i64 f.num, .int .i64 f.kind, .int .i64 f.ref, .int .i64 f.lab, .int .i64 f.one, .int .i64 f.key] := (Blk.new _ _ _).kept hb2
    replace hb2 : Hid (Below w.heap.size w w2) := hid (bl_then (by have := hb1.out; exact blBy) hb2)
    have xf := Bf.cellF
    have zf := Bf.lt
    by_cases h1 : wf = kd
    · have k1 : (wf == kd) = true := by simpa using h1
      rw [if_pos h1] at HX
      replace h1 := hid h1
      go_wp2
      go_ret
      exact ⟨ret_int HX.out.symm, hb2.out⟩
    have k1 : (wf == kd) = false := by simpa using h1
    rw [if_neg h1] at HX
    replace h1 := hid h1
    by_cases l2 : f.lab = 2
    case pos =>
      have m2 : (f.lab == 2) = true := by simpa using l2
      rw [decide_eq_true (.inl l2), Bool.true_and] at HRF
      replace l2 := hid l2
      cases kn with
      | true =>
        by_cases k2 : kd = 2
        · have k3 : (kd == 2) = true := by simpa using k2
          rw [if_pos ⟨HRF.out, k2⟩] at HX
          replace k2 := hid k2
          go_wp2_with (first | (go_at_call 93; refine (HNU.out _).mono ?_; rintro e w3 ⟨rfl, rfl⟩))
          go_ret
          exact ⟨ret_int HX.out.symm, hb2.out⟩
        · have k3 : (kd == 2) = false := by simpa using k2
          rw [if_neg (fun q => k2 q.2)] at HX
          replace k2 := hid k2
          go_wp2_with (first | (go_at_call 93; refine (HNU.out _).mono ?_; rintro e w3 ⟨rfl, rfl⟩))
          go_ret
          exact ⟨ret_int HX.out.symm, hb2.out⟩
      | false =>
        rw [if_neg (fun q => by rw [HRF.out] at q; cases q.1)] at HX
        go_wp2_with (first | (go_at_call 93; refine (HNU.out _).mono ?_; rintro e w3 ⟨rfl, rfl⟩))
        go_ret
        exact ⟨ret_int HX.out.symm, hb2.out⟩
    have m2 : (f.lab == 2) = false := by simpa using l2
    by_cases l3 : f.lab = 3
    case pos =>
      have m3 : (f.lab == 3) = true := by simpa using l3
      rw [decide_eq_true (.inr l3), Bool.true_and] at HRF
      replace l2 := hid l2
      replace l3 := hid l3
      cases kn with
      | true =>
        by_cases k2 : kd = 2
        · have k3 : (kd == 2) = true := by simpa using k2
          rw [if_pos ⟨HRF.out, k2⟩] at HX
          replace k2 := hid k2
          go_wp2_with (first | (go_at_call 93; refine (HNU.out _).mono ?_; rintro e w3 ⟨rfl, rfl⟩))
          go_ret
          exact ⟨ret_int HX.out.symm, hb2.out⟩
        · have k3 : (kd == 2) = false := by simpa using k2
          rw [if_neg (fun q => k2 q.2)] at HX
          replace k2 := hid k2
          go_wp2_with (first | (go_at_call 93; refine (HNU.out _).mono ?_; rintro e w3 ⟨rfl, rfl⟩))
          go_ret
          exact ⟨ret_int HX.out.symm, hb2.out⟩
      | false =>
        rw [if_neg (fun q => by rw [HRF.out] at q; cases q.1)] at HX
        go_wp2_with (first | (go_at_call 93; refine (HNU.out _).mono ?_; rintro e w3 ⟨rfl, rfl⟩))
        go_ret
        exact ⟨ret_int HX.out.symm, hb2.out⟩
    have m3 : (f.lab == 3) = false := by simpa using l3
    rw [decide_eq_false (by omega), Bool.false_and] at HRF
    rw [if_neg (fun q => by rw [HRF.out] at q; cases q.1)] at HX
    replace l2 := hid l2
    replace l3 := hid l3
    go_wp2
    go_ret
    exact ⟨ret_int HX.out.symm, by have := hb2.out; exact blBy⟩
theorem tvF_wire {f : FT} (h : 1 ≤ f.kind ∧ f.kind ≤ 17) (k : Int) : tvF f k = decide (k = wireF f) := by
  unfold tvF wireF
  split
  · rfl
  · rw [show kwireE f.kind = 0 by unfold kwireE; rw [if_pos h], decide_eq_true rfl, Bool.true_and]
theorem takenEq {f : FT} (h : 1 ≤ f.kind ∧ f.kind ≤ 17) (k : Int) : takenD f k = takenF f k := by
  have hw : wireD f = wireF f := by
    unfold wireD wireF
    split
    · rfl
    · have : 0 ≤ kwire f.kind := by
        unfold kwire
        (repeat' split) <;> omega
      omega
  unfold takenD takenF
  rw [hw, tvF_wire h]
  by_cases h1 : wireF f = k
  · rw [if_pos h1, if_pos (by simp [h1])]
  · have h1' : ¬ k = wireF f := fun e => h1 e.symm
    rw [if_neg h1, if_neg (show ¬ (decide (k = wireF f) = true) by simp [h1'])]
    unfold trF
    by_cases h2 : rowsF f = true ∧ k = 2
    · rw [if_pos h2, if_pos (by simp [h2.1, h2.2])]
    · rw [if_neg h2, if_neg (by simpa using h2)]
end Go.Proofs.YtnfdlnelfnigdaaGreatDoor
namespace Go.Proofs.YtnfdlnelfnigdaaGreatDoor
open Go.RowKit Go.Shelf
set_option maxRecDepth 1000000
attribute [local go_sem] Oper.semAt_some
set_option linter.unusedVariables false
set_option linter.unusedSimpArgs false
set_option maxHeartbeats 2000000
theorem cell_kp {f : Nat → Prop} {w w' : World} {b o : Nat} {v : Value} (h : w.cell? ⟨b, o, none⟩ = some v) (hb : Keep f w w') (hf : f b) : w'.cell? ⟨b, o, none⟩ = some v := by
  have hlt : b < w.heap.size := World.block_lt_of_cell? _ _ h
  have := hb.block b hlt hf
  unfold World.cell? at *
  rw [this]
  exact h
end Go.Proofs.YtnfdlnelfnigdaaGreatDoor
