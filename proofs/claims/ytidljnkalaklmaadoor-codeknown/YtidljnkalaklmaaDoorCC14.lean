/-
  code: awake.
  The variables of Go's library that the rows list: a world that lays them.
-/
import Derived.Test.YtidljnkalaklmaaDoorCKY
import Derived.Test.YtidljnkalaklmaaDoorRows
import Derived.Stop.LaidErr
import Derived.Lib.LaidTab
import Derived.Deep.DeepHandedRow
import Derived.Deep.DeepWitnessRowRef
import Derived.LaidLaws
namespace Go.Proofs.YtidljnkalaklmaaDoor
open Go.RowKit
set_option maxRecDepth 1000000
set_option linter.unusedVariables false
set_option linter.unusedSimpArgs false
set_option maxHeartbeats 2000000
theorem tinyP (w : World) : Calls Tryd.prog 16 #[] w fun e w' => ∃ b r : Nat, e = .returned (.agg #[.slice (some ⟨b, 0, none⟩) 1 1]) ∧ PgR w' (.slice (some ⟨b, 0, none⟩) 1 1) [⟨oneK, .slice none 0 0, .slice none 0 0, .slice (some ⟨r, 0, none⟩) 1 1⟩] ∧ Below w.heap.size w w' := by
  go_enter Tryd.func16, Tryd.ntmps16
  go_wp2
  refine bodyPost_ret (v := .agg #[.slice (some ⟨w.heap.size + 1 + 1, 0, none⟩) 1 1]) (by simp [results, Tryd.results16, go_sem]) rfl ?_
  refine ⟨_, w.heap.size + 1, rfl, ⟨?_, ?_⟩, by exact blBy⟩
  · refine rowOf' (t := 38) (cs := #[.slice none 0 0, .slice none 0 0, .slice (some ⟨w.heap.size + 1, 0, none⟩) 1 1]) ?_ 3 1 _ rfl rfl (by decide)
    exact Blk.newAt (by simp)
  · intro x hx
    simp only [List.mem_cons, List.not_mem_nil, or_false] at hx
    subst hx
    refine ⟨rowS_nil _ _ _, rowS_nil _ _ _, ?_⟩
    refine rowOf' (t := 34) (cs := #[.int .i64 0, .int .i64 0]) ?_ 2 1 _ rfl rfl (by decide)
    exact (Blk.newAt (by simp)).kept (below_alloc _)
theorem validOne (w : World) (b : Nat) (d e r : Value) (h : PgR w (.slice (some ⟨b, 0, none⟩) 1 1) [⟨oneK, d, e, r⟩]) : ∀ W0, Below w.heap.size w W0 → Calls Tryd.prog 11 #[.agg #[.slice (some ⟨b, 0, none⟩) 1 1]] W0 fun e w' => e = .returned (.bool true) ∧ Below W0.heap.size W0 w' := fun W0 hW => validT W0 [⟨oneK, d, e, r⟩] (some ⟨b, 0, none⟩) 1 (h.kept hW) (by simp) (fun x hx => by simp only [List.mem_cons, List.not_mem_nil, or_false] at hx; subst hx; exact vbOne _)
theorem bytesOne (w : World) (b : Nat) (d e r : Value) (h : PgR w (.slice (some ⟨b, 0, none⟩) 1 1) [⟨oneK, d, e, r⟩]) : Calls Tryd.prog 5 #[.agg #[.slice (some ⟨b, 0, none⟩) 1 1]] w fun e w' => ∃ va cap, e = .returned (.tuple #[.slice va 8 cap, .int .i64 0]) ∧ Hid (W.Reads w' va 8 cap [67, 84, 1, 0, 0, 1, 0, 0]) ∧ Below w.heap.size w w' := by
  refine (bytesOk w [⟨oneK, d, e, r⟩] (some ⟨b, 0, none⟩) 1 h (fun x hx => by simp only [List.mem_cons, List.not_mem_nil, or_false] at hx; subst hx; exact bwOne) (show bkN oneK + 12 ≤ 140737488355328 by decide) (validOne w b d e r h)).mono ?_
  rintro e' w' ⟨v, rfl, ho, hb⟩
  rw [tiny_bytes] at ho
  obtain ⟨va, cap, rfl, hr⟩ := W.own_reads ho (by decide)
  exact ⟨va, cap, rfl, hid hr, hb⟩
theorem textOne (w : World) (b : Nat) (d e r : Value) (h : PgR w (.slice (some ⟨b, 0, none⟩) 1 1) [⟨oneK, d, e, r⟩]) : Calls Tryd.prog 7 #[.agg #[.slice (some ⟨b, 0, none⟩) 1 1]] w fun e w' => e = .returned (.tuple #[.string (strOfNums tinyT), .int .i64 0]) ∧ Below w.heap.size w w' := by
  have := textOk itS itS_ok w [⟨oneK, d, e, r⟩] (some ⟨b, 0, none⟩) 1 h (fun x hx => by simp only [List.mem_cons, List.not_mem_nil, or_false] at hx; subst hx; exact bwOne) smP (fun W0 n hn => itoaS W0 n hn) (fun i hi => by have : i < 1 := hi; exact ⟨by omega, by omega⟩) (fun x hx => by simp only [List.mem_cons, List.not_mem_nil, or_false] at hx; subst hx; exact bpOne) (show bkM oneK + 0 ≤ 140737488355328 by decide) (by simp) (validOne w b d e r h)
  rw [tiny_text] at this
  exact this
theorem awakeP (w : World) : Calls Tryd.prog 9 #[] w fun e w' => e = .returned (.bool true) ∧ Below w.heap.size w w' := by
  go_enter Tryd.func9, Tryd.ntmps9
  go_wp2_with fail
  refine (tinyP _).mono ?_
  rintro e w1 ⟨b1, r1, rfl, hp1, hb1⟩
  have HP1 := hid hp1
  clear hp1
  go_wp2_with fail
  refine (bytesOne _ _ _ _ _ HP1.out).mono ?_
  rintro e w2 ⟨va, cap, rfl, HR2, hb2⟩
  go_wp2_with fail
  refine (tinyP _).mono ?_
  rintro e w3 ⟨b3, r3, rfl, hp3, hb3⟩
  have HP3 := hid hp3
  clear hp3
  go_wp2_with fail
  refine (textOne _ _ _ _ _ HP3.out).mono ?_
  rintro e w4 ⟨rfl, hb4⟩
  have HB : Hid (Below w.heap.size w w4) := hid (bl_then (bl_then (bl_then hb1 hb2) hb3) hb4)
  have hcv := W.conv (W.reads_kept HR2.out (bl_then hb3 hb4))
  rw [show strOfNums [67, 84, 1, 0, 0, 1, 0, 0] = (⟨#[67, 84, 1, 0, 0, 1, 0, 0]⟩ : ByteArray) from rfl] at hcv
  rw [show strOfNums tinyT = (⟨#[98, 108, 111, 99, 107, 32, 48, 10, 32, 32, 114, 111, 119, 32, 48, 32, 48, 10]⟩ : ByteArray) from rfl]
  clear HP1 HP3 HR2 hb1 hb2 hb3 hb4
  go_wp2
  go_ret
  exact ⟨rfl, by have := HB.out; exact blBy⟩
theorem twoPg (w : World) (b r h1 h2 : Nat) (B : Blk w b 38 #[.slice none 0 0, .slice none 0 0, .slice (some ⟨r, 0, none⟩) 1 1, .slice (some ⟨h1, 0, none⟩) 17 17, .slice (some ⟨h2, 0, none⟩) 10 10, .slice none 0 0]) (R : Blk w r 34 #[.int .i64 0, .int .i64 0]) (hk : BkR w lowK (.slice (some ⟨h1, 0, none⟩) 17 17) (.slice (some ⟨h2, 0, none⟩) 10 10) (.slice none 0 0)) : PgR w (.slice (some ⟨b, 0, none⟩) 2 2) (twoV (.slice none 0 0) (.slice none 0 0) (.slice (some ⟨r, 0, none⟩) 1 1) (.slice (some ⟨h1, 0, none⟩) 17 17) (.slice (some ⟨h2, 0, none⟩) 10 10) (.slice none 0 0)) := by
  refine ⟨rowOf' B 3 2 _ rfl rfl (by decide), ?_⟩
  intro x hx
  unfold twoV at hx
  simp only [List.mem_cons, List.not_mem_nil, or_false] at hx
  rcases hx with rfl | rfl
  · exact ⟨rowS_nil _ _ _, rowS_nil _ _ _, rowOf' R 2 1 _ rfl rfl (by decide)⟩
  · exact hk
theorem textTwo (w : World) (b : Nat) (d0 e0 r0 d1 e1 r1 : Value) (h : PgR w (.slice (some ⟨b, 0, none⟩) 2 2) (twoV d0 e0 r0 d1 e1 r1)) : Calls Tryd.prog 7 #[.agg #[.slice (some ⟨b, 0, none⟩) 2 2]] w fun e w' => e = .returned (.tuple #[.string (strOfNums bigT), .int .i64 0]) ∧ Below w.heap.size w w' := by
  have hm : ∀ {P : BK → Prop}, P oneK → P lowK → ∀ x ∈ twoV d0 e0 r0 d1 e1 r1, P x.k := fun h1 h2 x hx => by
    unfold twoV at hx
    simp only [List.mem_cons, List.not_mem_nil, or_false] at hx
    rcases hx with rfl | rfl
    · exact h1
    · exact h2
  have := textOk itS itS_ok w (twoV d0 e0 r0 d1 e1 r1) (some ⟨b, 0, none⟩) 2 h (hm bwOne bwLow) smP (fun W0 n hn => itoaS W0 n hn) (fun i hi => by have : i < 2 := hi; exact ⟨by omega, by omega⟩) (hm bpOne bpLow) (show bkM oneK + (bkM lowK + 0) ≤ 140737488355328 by decide) (by simp [twoV]) (fun W0 hW => validT W0 (twoV d0 e0 r0 d1 e1 r1) (some ⟨b, 0, none⟩) 2 (h.kept hW) (show 2 ≤ 128 by decide) (vbTwo d0 e0 r0 d1 e1 r1))
  rw [big_text] at this
  exact this
theorem validNone (W0 : World) : Calls Tryd.prog 11 #[.agg #[.slice none 0 0]] W0 fun e w' => e = .returned (.bool true) ∧ Below W0.heap.size W0 w' := validT W0 [] none 0 ⟨rowS_nil _ _ _, fun x hx => (by cases hx)⟩ (by decide) (fun x hx => (by cases hx))
theorem bytesNone (w : World) : Calls Tryd.prog 5 #[.agg #[.slice none 0 0]] w fun e w' => ∃ va cap, e = .returned (.tuple #[.slice va 3 cap, .int .i64 0]) ∧ Hid (W.Reads w' va 3 cap [67, 84, 0]) ∧ Below w.heap.size w w' := by
  refine (bytesOk w [] none 0 ⟨rowS_nil _ _ _, fun x hx => (by cases hx)⟩ (fun x hx => (by cases hx)) (by decide) (fun W0 _ => validNone W0)).mono ?_
  rintro e' w' ⟨v, rfl, ho, hb⟩
  rw [pgB_nil] at ho
  obtain ⟨va, cap, rfl, hr⟩ := W.own_reads ho (by decide)
  exact ⟨va, cap, rfl, hid hr, hb⟩
theorem big_bd : ∀ x ∈ bigT, 0 ≤ x ∧ x ≤ 255 := by decide
theorem codeKnownP (w : World) : Calls Tryd.prog 3 #[] w fun e w' => e = .returned (.bool true) ∧ Below w.heap.size w w' := by
  go_enter Tryd.func3, Tryd.ntmps3
  go_wp2_with fail
  refine (bytesNone _).mono ?_
  rintro e w1 ⟨va, cap, rfl, HR1, hb1⟩
  go_wp2_with fail
  refine (readNone _ w1.heap.size (by rw [(Blk.new w1 5 _).cellF]; rfl) (by rw [(Blk.new w1 5 _).cellF]; rfl) (by rw [(Blk.new w1 5 _).cellF]; rfl) (fun W0 _ => validNone W0)).mono ?_
  rintro e w2 ⟨rfl, hb2⟩
  have HR2 : Hid (W.Reads w2 va 3 cap [67, 84, 0]) := hid (W.reads_kept (W.reads_kept HR1.out (below_alloc _)) hb2)
  have HB2 : Hid (Below w.heap.size w w2) := hid (bl_then (bl_alloc hb1 _) hb2)
  clear HR1 hb1 hb2
  go_wp2_with fail
  refine (readMark _ (w2.heap.size + 1) (by rw [(Blk.newAt (w := w2.alloc (.cells #[.slice none 0 0] 28)) (p := w2.heap.size + 1) (t := 5) (by simp)).cellF]; rfl) (by rw [(Blk.newAt (w := w2.alloc (.cells #[.slice none 0 0] 28)) (p := w2.heap.size + 1) (t := 5) (by simp)).cellF]; rfl)).mono ?_
  rintro e w3 ⟨rfl, hb3⟩
  have B3 : Hid (Blk w3 w2.heap.size 28 #[.slice none 0 0]) := hid (((Blk.new w2 28 #[.slice none 0 0]).kept (below_alloc _)).kept hb3)
  have HR3 : Hid (W.Reads w3 va 3 cap [67, 84, 0]) := hid (W.reads_kept (W.reads_kept HR2.out (bl_alloc (below_alloc _) _)) hb3)
  have HB3 : Hid (Below w.heap.size w w3) := hid (bl_then (bl_alloc (bl_alloc HB2.out _) _) hb3)
  clear HR2 hb3 HB2
  go_wp2_with fail
  refine (loweredT _).mono ?_
  rintro e w4 ⟨h1, h2, rfl, hk4, hb4⟩
  have B4 : Hid (Blk w4 w2.heap.size 28 #[.slice none 0 0]) := hid ((B3.out.kept (bl_alloc (below_alloc _) _)).kept hb4)
  have R4 : Hid (Blk w4 (w3.heap.size + 1) 34 #[.int .i64 0, .int .i64 0]) := hid ((Blk.newAt (w := w3.alloc (.cells #[.slice none 0 0] 28)) (p := w3.heap.size + 1) (by simp)).kept hb4)
  have HR4 : Hid (W.Reads w4 va 3 cap [67, 84, 0]) := hid (W.reads_kept (W.reads_kept HR3.out (bl_alloc (below_alloc _) _)) hb4)
  have HB4 : Hid (Below w.heap.size w w4) := hid (bl_then (bl_alloc (bl_alloc HB3.out _) _) hb4)
  have HK4 := hid hk4
  clear hk4 hb4 B3 HR3 HB3
  generalize w3.heap.size + 1 = r3 at *
  generalize w2.heap.size = p2 at *
  have HT4 := hid (textTwo (w4.alloc (.cells #[.slice none 0 0, .slice none 0 0, .slice (some ⟨r3, 0, none⟩) 1 1, .slice (some ⟨h1, 0, none⟩) 17 17, .slice (some ⟨h2, 0, none⟩) 10 10, .slice none 0 0] 38)) w4.heap.size _ _ _ _ _ _ (twoPg _ w4.heap.size r3 h1 h2 (Blk.new _ _ _) (R4.out.kept (below_alloc _)) (HK4.out.kept (below_alloc _))))
  generalize hbs : strOfNums bigT = sv at HT4
  have HSV := hid hbs
  clear hbs
  go_wp2_with fail
  refine HT4.out.mono ?_
  rintro e w5 ⟨rfl, hb5⟩
  have B5 : Hid (Blk w5 p2 28 #[.slice none 0 0]) := hid ((B4.out.kept (below_alloc _)).kept hb5)
  have HR5 : Hid (W.Reads w5 va 3 cap [67, 84, 0]) := hid (W.reads_kept (W.reads_kept HR4.out (below_alloc _)) hb5)
  have HB5 : Hid (Below w.heap.size w w5) := hid (bl_then (bl_alloc HB4.out _) hb5)
  clear hb5 B4 R4 HR4 HB4 HK4 HT4
  go_wp2_with fail
  refine (awakeP _).mono ?_
  rintro e w6 ⟨rfl, hb6⟩
  have B6 : Hid (Blk w6 p2 28 #[.slice none 0 0]) := hid (B5.out.kept hb6)
  have hcv := W.conv (W.reads_kept HR5.out hb6)
  have HB6 : Hid (Below w.heap.size w w6) := hid (bl_then HB5.out hb6)
  clear hb6 B5 HR5 HB5
  rw [show strOfNums [67, 84, 0] = (⟨#[67, 84, 0]⟩ : ByteArray) from rfl] at hcv
  have x6 := B6.out.cellF
  have z6 := B6.out.lt
  have hsz : sv.size = 443 := by rw [← HSV.out, strOfNums_size, big_len]
  go_wp2_with fail
  go_loopw [10] (fun s10 wr => ∃ i : Nat, s10 = .int .i64 (i : Int) ∧ i ≤ 37 ∧ Hid (Below w.heap.size w wr)) (fun s10 wr => 38 - numAt wr s10)
  case atStart => exact ⟨0, rfl, by decide, HB6⟩
  case round =>
    obtain ⟨i, rfl, hi, hb⟩ := hrel
    have i64 : (i : Int) ≤ 37 := by omega
    have hcut : sv.extract i (i + 18) = strOfNums ((bigT.take (i + 18)).drop i) := by rw [← HSV.out]; exact str_cut _ _ _
    have h443 : ¬ (443 : Int) < (i : Int) + 18 := by omega
    have h443' : (i : Int) + 18 ≤ 443 := by omega
    have hse := str_eq (xs := (bigT.take (i + 18)).drop i) (ys := wantT) (fun x hx => big_bd x (List.mem_of_mem_take (List.mem_of_mem_drop hx))) (by decide)
    rw [show (strOfNums wantT).toList = [10, 32, 32, 100, 101, 99, 32, 49, 32, 99, 97, 115, 101, 32, 56, 32, 53, 10] by rw [str_list]; rfl] at hse
    by_cases hlt : i < 37
    · rw [decide_eq_false (big_no i hlt)] at hse
      generalize strOfNums ((bigT.take (i + 18)).drop i) = sc at *
      go_wp2
      exact ⟨⟨i + 1, by simp, by omega, hb⟩, by simp [numAt]; omega⟩
    · obtain rfl : i = 37 := by omega
      rw [decide_eq_true big_at] at hse
      generalize strOfNums ((bigT.take (37 + 18)).drop 37) = sc at *
      go_wp2
      go_ret
      exact ⟨rfl, hb.out⟩
end Go.Proofs.YtidljnkalaklmaaDoor
namespace Go.Proofs.YtidljnkalaklmaaDoor
open Go.ChangeShapes Go.WideShapes Go.ChangeAt Go.RowKit
set_option maxRecDepth 1000000
set_option maxRecDepth 100000
/-- The rows' list. -/
def laidL : List (String × DataW Unit) := [("math/bits.deBruijn32tab", Rows.laid_math_bits_deBruijn32tab), ("math/bits.deBruijn64tab", Rows.laid_math_bits_deBruijn64tab), ("internal/strconv.uint64pow10", Rows.laid_internal_strconv_uint64pow10)]
theorem laid_plain {W : World} (h : laidMetH Tryd.prog laidL W) : laidMet Tryd.prog laidL W := h
/-- A block's cells laid anew. -/
noncomputable def layAt (g : Nat) (cs : Array Value) (w : World) : World := { w with heap := w.heap.modify g fun
      | .cells _ t frozen => .cells cs t frozen
      | o => o }
noncomputable def laidWorld (os : Os) : World :=
  (layAt 0 (List.toArray (.int .u64 1 :: .int .u64 10 :: .int .u64 100 :: .int .u64 1000 :: .int .u64 10000 :: .int .u64 100000 :: .int .u64 1000000 :: .int .u64 10000000 :: .int .u64 100000000 :: .int .u64 1000000000 :: .int .u64 10000000000 :: .int .u64 100000000000 :: .int .u64 1000000000000 :: .int .u64 10000000000000 :: .int .u64 100000000000000 :: .int .u64 1000000000000000 :: .int .u64 10000000000000000 :: .int .u64 100000000000000000 :: .int .u64 1000000000000000000 :: .int .u64 10000000000000000000 :: []))
    (layAt 2 (List.toArray (.int .u8 0 :: .int .u8 1 :: .int .u8 56 :: .int .u8 2 :: .int .u8 57 :: .int .u8 49 :: .int .u8 28 :: .int .u8 3 :: .int .u8 61 :: .int .u8 58 :: .int .u8 42 :: .int .u8 50 :: .int .u8 38 :: .int .u8 29 :: .int .u8 17 :: .int .u8 4 :: .int .u8 62 :: .int .u8 47 :: .int .u8 59 :: .int .u8 36 :: .int .u8 45 :: .int .u8 43 :: .int .u8 51 :: .int .u8 22 :: .int .u8 53 :: .int .u8 39 :: .int .u8 33 :: .int .u8 30 :: .int .u8 24 :: .int .u8 18 :: .int .u8 12 :: .int .u8 5 :: .int .u8 63 :: .int .u8 55 :: .int .u8 48 :: .int .u8 27 :: .int .u8 60 :: .int .u8 41 :: .int .u8 37 :: .int .u8 16 :: .int .u8 46 :: .int .u8 35 :: .int .u8 44 :: .int .u8 21 :: .int .u8 52 :: .int .u8 32 :: .int .u8 23 :: .int .u8 11 :: .int .u8 54 :: .int .u8 26 :: .int .u8 40 :: .int .u8 15 :: .int .u8 34 :: .int .u8 20 :: .int .u8 31 :: .int .u8 10 :: .int .u8 25 :: .int .u8 14 :: .int .u8 19 :: .int .u8 9 :: .int .u8 13 :: .int .u8 8 :: .int .u8 7 :: .int .u8 6 :: []))
    (layAt 1 (List.toArray (.int .u8 0 :: .int .u8 1 :: .int .u8 28 :: .int .u8 2 :: .int .u8 29 :: .int .u8 14 :: .int .u8 24 :: .int .u8 3 :: .int .u8 30 :: .int .u8 22 :: .int .u8 20 :: .int .u8 15 :: .int .u8 25 :: .int .u8 17 :: .int .u8 4 :: .int .u8 8 :: .int .u8 31 :: .int .u8 27 :: .int .u8 13 :: .int .u8 23 :: .int .u8 21 :: .int .u8 19 :: .int .u8 16 :: .int .u8 7 :: .int .u8 26 :: .int .u8 12 :: .int .u8 18 :: .int .u8 6 :: .int .u8 11 :: .int .u8 5 :: .int .u8 10 :: .int .u8 9 :: []))
    (World.holding Tryd.prog os ⟨#[], #[], []⟩))))
theorem laid_met (os : Os) (args : Array Value) : laidMet Tryd.prog laidL ((laidWorld os).forCall (fun _ _ => 0) ⟨#[], args, []⟩).memory :=
  laidMet_of_run' 8 (by kernel_rfl) (by kernel_rfl)
end Go.Proofs.YtidljnkalaklmaaDoor
