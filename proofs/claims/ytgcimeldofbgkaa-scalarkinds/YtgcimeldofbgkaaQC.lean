/-
  Walks over the program's counting of characters: count, Valid, Runes.
-/
import Derived.Test.YtgcimeldofbgkaaG
import Derived.Test.YtgcimeldofbgkaaQB
namespace Go.Proofs.Ytgcimeldofbgkaa
open Go.RowKit
set_option maxRecDepth 1000000

theorem str_list (xs : List Int) : (strOfNums xs).toList = xs.map fun n => UInt8.ofNat n.toNat := by
  rw [strOfNums, ByteArray.toList_mk]
theorem str_cut (xs : List Int) (a b : Nat) : (strOfNums xs).extract a b = strOfNums ((xs.take b).drop a) := by
  apply ByteArray.ext
  apply Array.ext'
  simp [strOfNums, ByteArray.data_extract, List.map_drop, List.map_take, List.drop_take]
theorem str_eq {xs ys : List Int} (hx : ∀ x ∈ xs, 0 ≤ x ∧ x ≤ 255) (hy : ∀ x ∈ ys, 0 ≤ x ∧ x ≤ 255) : ((strOfNums xs).toList == (strOfNums ys).toList) = decide (xs = ys) := by
  by_cases h : xs = ys
  · subst h; simp
  · have : (strOfNums xs).toList ≠ (strOfNums ys).toList := fun e => h (strOfNums_inj xs ys hx hy (by
      apply ByteArray.ext; apply Array.ext'
      rw [str_list, str_list] at e
      simpa [strOfNums] using e))
    simp [h, this]

def preB (l : List Int) : Bool := decide (l.take 3 = [239, 191, 189])
theorem preB_iff (l : List Int) : preB l = true ↔ pre l := by simp [preB, pre]

theorem prefixS (l : List Int) (w : World) (hl : l.length ≤ 9223372036854775807) (hb : ∀ x ∈ l, 0 ≤ x ∧ x ≤ 255) : Calls Try.prog 72 #[.string (strOfNums l), .string ⟨#[239, 191, 189]⟩] w fun e w' => e = .returned (.bool (preB l)) ∧ w = w' := by
  have hs := strOfNums_size l
  have h1 : Hid ((((strOfNums l).extract 0 3).toList == [239, 191, 189]) = preB l) := by
    show _ = _
    rw [str_cut, List.drop_zero, show ([239, 191, 189] : List UInt8) = (strOfNums [239, 191, 189]).toList by rw [str_list]; rfl, str_eq (fun x hx => hb x (List.mem_of_mem_take hx)) (by simp)]
    rfl
  have h2 : Hid ((l.length : Int) < 3 → preB l = false) := fun h => by
    unfold preB
    simp
    intro e
    have := congrArg List.length e
    simp at this
    omega
  go_enter Try.func72, Try.ntmps72
  go_wp2
  · go_ret
    exact ⟨ret_bool h1.out, rfl⟩
  · go_ret
    exact ⟨ret_bool (h2.out ‹_›).symm, rfl⟩
theorem prefixW (l : List Int) (w : World) (hl : l.length ≤ 9223372036854775807) (hb : ∀ x ∈ l, 0 ≤ x ∧ x ≤ 255) : Calls Try.prog 71 #[.string (strOfNums l), .string ⟨#[239, 191, 189]⟩] w fun e w' => e = .returned (.bool (preB l)) ∧ w = w' := by
  go_enter Try.func71, Try.ntmps71
  go_wp2_with (go_at_call 72; refine (prefixS l _ hl hb).mono ?_; rintro e w' ⟨rfl, rfl⟩)
  go_ret
  exact ⟨rfl, rfl⟩

/-- One step of the counting. -/
theorem rn_step {xs : List Int} {pos f : Nat} {n : Int} (h : pos < xs.length) (hc : chr (xs.drop pos) ≠ 0) : rnF (f + 1) (xs.drop pos) n = rnF f (xs.drop (pos + chr (xs.drop pos))) (n + 1) := by
  rw [rnF, if_neg (by simp; omega), if_neg hc, List.drop_drop]
theorem rn_bad {xs : List Int} {pos f : Nat} {n : Int} (h : pos < xs.length) (hc : chr (xs.drop pos) = 0) : rnF (f + 1) (xs.drop pos) n = -1 := by
  rw [rnF, if_neg (by simp; omega), if_pos hc]
theorem rn_end {xs : List Int} {pos f : Nat} {n : Int} (h : ¬ pos < xs.length) : rnF f (xs.drop pos) n = n := by
  rw [List.drop_eq_nil_of_le (by omega), rnF_nil]

set_option maxRecDepth 1000000 in
set_option maxHeartbeats 1000000 in
theorem countW (a : Option Addr) (len cap : Nat) (xs : List Int) (w : World) (h : Reads w a len cap xs) :
    Calls Try.prog 68 #[.slice a len cap] w fun e w' => e = .returned (.tuple #[.int .i64 (max (rn xs) 0), .bool (decide (0 ≤ rn xs))]) ∧ ∃ pos, w' = w.iter (strOfNums xs) pos := by
  have hcv := conv h
  have hb := bd_mem h.bd
  have hlen := h.length
  have hmax : xs.length ≤ 9223372036854775807 := by have := h.le; have := h.max; omega
  have hsz := strOfNums_size xs
  clear h
  subst hlen
  go_enter Try.func68, Try.ntmps68
  go_wp2
  go_loopw [2] (fun n w' => ∃ (pos b : Nat) (acc : Int), w' = w.iter (strOfNums xs) pos ∧ n = .int .i64 acc ∧ 0 ≤ acc ∧ acc ≤ pos ∧ pos ≤ xs.length ∧ Hid (rnF b (xs.drop pos) acc = rn xs) ∧ xs.length ≤ pos + b) (fun _ w' => xs.length - w'.iterPos w.heap.size)
  case atStart => exact ⟨0, xs.length, 0, rfl, rfl, by omega, by omega, by omega, by rw [List.drop_zero]; rfl, by omega⟩
  case round =>
    obtain ⟨pos, b, acc, rfl, rfl, ha0, hap, hpl, HR, hbb⟩ := hrel
    by_cases hp : pos < xs.length
    · have hps : pos < (strOfNums xs).size := by rw [hsz]; exact hp
      have hnx : ∀ ty, (Instr.next (.pointer (some ⟨w.heap.size, 0, none⟩)) true ty).run Try.prog (w.iter (strOfNums xs) pos) = _ := fun ty => run_next_any w (strOfNums xs) pos ty hps
      obtain ⟨d1, d2⟩ := dec_chr hb hp
      have HC : Hid (chr (xs.drop pos) ≤ xs.length - pos) := hid (by
        have := chr_len (l := xs.drop pos) (fun x hx => hb x (List.mem_of_mem_drop hx))
        simpa using this)
      have hcut : (strOfNums xs).extract pos xs.length = strOfNums (xs.drop pos) := by rw [str_cut, List.take_length]
      have hdl : (xs.drop pos).length ≤ 9223372036854775807 := by simp; omega
      have hdb : ∀ x ∈ xs.drop pos, 0 ≤ x ∧ x ≤ 255 := fun x hx => hb x (List.mem_of_mem_drop hx)
      obtain ⟨b, rfl⟩ : ∃ b', b = b' + 1 := ⟨b - 1, by omega⟩
      by_cases hc : chr (xs.drop pos) = 0
      · obtain ⟨e1, e2⟩ := d1 hc
        have HM : Hid (rn xs = -1) := by show _ = _; rw [← HR.out, rn_bad hp hc]
        rw [e1] at hnx
        have hpre : preB (xs.drop pos) = false := by rw [Bool.eq_false_iff]; exact fun h => e2 ((preB_iff _).1 h)
        have Hdl := hid hdl
        have Hdb := hid hdb
        clear d1 d2 HR e1 e2 HC hdl hdb
        go_wp2_with (go_at_call 71; refine (prefixW (xs.drop pos) _ Hdl.out Hdb.out).mono ?_; rintro e w' ⟨rfl, rfl⟩)
        try rw [Exit.noGoto_ret]
        go_ret2
        exact ⟨by rw [HM.out]; rfl, _, rfl⟩
      · obtain ⟨e1, e2⟩ := d2 hc
        have HS : Hid (rnF b (xs.drop (pos + chr (xs.drop pos))) (acc + 1) = rn xs) := by show _ = _; rw [← HR.out, rn_step hp hc]
        rw [e1] at hnx
        clear d1 d2 HR e1
        by_cases hr : ((Utf8.decode (strOfNums xs) pos).1 : Int) = 65533
        · have hpre : preB (xs.drop pos) = true := (preB_iff _).2 (e2 (by omega))
          rw [hr] at hnx
          have Hdl := hid hdl
          have Hdb := hid hdb
          have Hc := hid hc
          clear e2 hr hdl hdb hc
          go_wp2_with (go_at_call 71; refine (prefixW (xs.drop pos) _ Hdl.out Hdb.out).mono ?_; rintro e w' ⟨rfl, rfl⟩)
          have := HC.out
          have := Hc.out
          exact ⟨⟨pos + chr (xs.drop pos), b, acc + 1, rfl, by go_num, by omega, by omega, by omega, HS, by omega⟩, by rw [World.iterPos_iter, World.iterPos_iter]; omega⟩
        · have hr' : (((Utf8.decode (strOfNums xs) pos).1 : Int) == 65533) = false := by simpa using hr
          have Hc := hid hc
          generalize ((Utf8.decode (strOfNums xs) pos).1 : Int) = rr at *
          clear e2 hr hdl hdb hc
          go_wp2
          have := HC.out
          have := Hc.out
          exact ⟨⟨pos + chr (xs.drop pos), b, acc + 1, rfl, by go_num, by omega, by omega, by omega, HS, by omega⟩, by rw [World.iterPos_iter, World.iterPos_iter]; omega⟩
    · have hnx : ∀ ty, (Instr.next (.pointer (some ⟨w.heap.size, 0, none⟩)) true ty).run Try.prog (w.iter (strOfNums xs) pos) = _ := fun ty => run_next_end w (strOfNums xs) pos ty (by rw [hsz]; exact hp)
      have HE : Hid (acc = rn xs) := by show _ = _; rw [← HR.out, rn_end hp]
      clear HR
      go_wp2
      go_ret2
      have := HE.out
      exact ⟨by subst this; simp [ha0, Int.max_eq_left ha0], _, rfl⟩

theorem validW (a : Option Addr) (len cap : Nat) (xs : List Int) (w : World) (h : Reads w a len cap xs) :
    Calls Try.prog 55 #[.slice a len cap] w fun e w' => e = .returned (.bool (decide (0 ≤ rn xs))) ∧ Below w.heap.size w w' := by
  have H := hid h
  clear h
  go_enter Try.func55, Try.ntmps55
  go_wp2_with (go_at_call 68; refine (countW a len cap xs _ H.out).mono ?_; rintro e w' ⟨rfl, pos, rfl⟩)
  go_ret
  exact ⟨rfl, below_alloc _⟩
end Go.Proofs.Ytgcimeldofbgkaa
