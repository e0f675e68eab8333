/-
  Plain mathematics for entries; nothing of the program.
  Walks over writing entries: their faults and their bytes, the program's and the document's.
  Walks over PutEntry, the program's and the document's.
  Entries that can be written; what a typed message holds.
  Both answers of a value are one.
  Whether a message is typed, with all messages within.
  The document's Typed: what it asks, field by field; and that this is what the program asks.
  What stays of a typed message.
  What stays of a typed message: its lists; whether all stays.
  Whether a message is normal.
  Settle: what the program answers, at every depth.
  Settle: what the program answers.
  Settle: what the program answers.
  Settle.
  Settling: what the document does to a field is what the program does; normal is: settling changes nothing.
  What is settled: it is typed, it stays, it is not deeper.
  The merge of two messages: what it holds; it is typed, and brackets make no difference.
  One struct more, out of a block of its own wherever it lies.
  A message within a field; a field around a message.
  The message to which a way leads.
  Of a typed message a way goes through messages.
-/
import Derived.Test.YtmiemocdjkeefaaGreatDoorCAL
import Derived.Test.YtmiemocdjkeefaaGreatDoorCBA
import Derived.Test.YtmiemocdjkeefaaGreatDoorCAQ
import Derived.Test.YtmiemocdjkeefaaGreatDoorCIC
import Derived.Test.YtmiemocdjkeefaaGreatDoorCTY
import Derived.Test.YtmiemocdjkeefaaGreatDoorCGA
namespace Go.Proofs.YtmiemocdjkeefaaGreatDoor.W
open Go.RowKit
set_option maxRecDepth 1000000
/-- Do an entry's parts fit its kind? Its fault. Its bytes. -/
def fit (kind n : Int) (len : Nat) : Bool := if kind = 2 then decide (n = 0) else decide (len = 0) && (decide (kind ≠ 5) || decide (n ≤ 4294967295))
def ef (num kind n : Int) (len : Nat) : Int := if tf num kind ≠ 0 then tf num kind else if fit kind n len = true then 0 else 7
def body (kind n : Int) (ys : List Int) : List Int := if kind = 1 then pw 8 n else if kind = 5 then pw 4 n else if kind = 2 then pc ys else pv n
def pe (num kind n : Int) (ys : List Int) : List Int := pv (num * 8 + kind) ++ body kind n ys
theorem okK_cases {k : Int} (h : okK k = true) : k = 0 ∨ k = 1 ∨ k = 2 ∨ k = 5 := by simpa [okK] using h
theorem ef_tf {num kind n : Int} {len : Nat} (h : tf num kind ≠ 0) : ef num kind n len = tf num kind := by unfold ef; rw [if_pos h]
theorem ef_fit {num kind n : Int} {len : Nat} (h : tf num kind = 0) : ef num kind n len = if fit kind n len = true then 0 else 7 := by unfold ef; rw [if_neg (by simp [h])]
theorem ef_ok {num kind n : Int} {len : Nat} (h : ef num kind n len = 0) : tf num kind = 0 ∧ fit kind n len = true := by
  unfold ef at h
  split at h
  · rename_i h1; exact absurd h h1
  · rename_i h1
    split at h
    · exact ⟨by simpa using h1, by assumption⟩
    · cases h
theorem body_bd {kind n : Int} {ys : List Int} (h0 : 0 ≤ n) (h1 : n < 18446744073709551616) (hy : ∀ x ∈ ys, 0 ≤ x ∧ x ≤ 255) (hl : ys.length < 18446744073709551616) : ∀ x ∈ body kind n ys, 0 ≤ x ∧ x ≤ 255 := by
  unfold body
  split
  · exact pw_bd 8 n
  · split
    · exact pw_bd 4 n
    · split
      · intro x hx
        rcases List.mem_append.1 hx with h | h
        · exact pv_bd (by omega) (by omega) x h
        · exact hy x h
      · exact pv_bd h0 h1
theorem pe_bd {num kind n : Int} {ys : List Int} (ht : tf num kind = 0) (h0 : 0 ≤ n) (h1 : n < 18446744073709551616) (hy : ∀ x ∈ ys, 0 ≤ x ∧ x ≤ 255) (hl : ys.length < 18446744073709551616) : ∀ x ∈ pe num kind n ys, 0 ≤ x ∧ x ≤ 255 := by
  obtain ⟨a, b, c⟩ := tf_ok ht
  have := okK_bd c
  intro x hx
  rcases List.mem_append.1 hx with h | h
  · exact pv_bd (by omega) (by omega) x h
  · exact body_bd h0 h1 hy hl x h
end Go.Proofs.YtmiemocdjkeefaaGreatDoor.W
namespace Go.Proofs.YtmiemocdjkeefaaGreatDoor.W
open Go.RowKit
set_option maxRecDepth 1000000
set_option maxHeartbeats 400000 in
theorem entryFaultW (num kind n : Int) (a : Option Addr) (len cap : Nat) (w : World) (hl : len ≤ 9223372036854775807) :
    Calls Tryz.prog 178 #[.agg #[.int .i64 num, .int .i64 kind, .int .u64 n, .slice a len cap]] w fun e w' => e = .returned (.int .i64 (ef num kind n len)) ∧ Below w.heap.size w w' := by
  by_cases ht : tf num kind ≠ 0
  · have hne : (tf num kind != 0) = true := by simp [ht]
    rw [ef_tf ht]
    clear ht
    go_enter Tryz.func178, Tryz.ntmps178
    go_wp2_with (go_at_call 186; refine (tagFaultW _ _ _).mono ?_; rintro e w' ⟨rfl, rfl⟩)
    go_ret
    exact ⟨rfl, below_alloc _⟩
  · have ht : tf num kind = 0 := by simpa using ht
    rw [ef_fit ht]
    obtain ⟨_, _, hk⟩ := tf_ok ht
    have HT := hid ht
    clear ht
    have hk2 := okK_cases hk
    clear hk
    rcases hk2 with rfl | rfl | rfl | rfl
    · by_cases hz : len = 0
      · subst hz
        have HF : (if fit 0 n 0 = true then (0 : Int) else 7) = 0 := by simp [fit]
        rw [HF]
        clear HF
        go_enter Tryz.func178, Tryz.ntmps178
        go_wp2_with (go_at_call 186; refine (tagFaultW _ _ _).mono ?_; rw [HT.out]; rintro e w' ⟨rfl, rfl⟩)
        go_ret
        exact ⟨rfl, below_alloc _⟩
      · have hzb : ((len : Int) == 0) = false := by simp [hz]
        have HF : (if fit 0 n len = true then (0 : Int) else 7) = 7 := by simp [fit, hz]
        rw [HF]
        clear HF
        clear hz
        go_enter Tryz.func178, Tryz.ntmps178
        go_wp2_with (go_at_call 186; refine (tagFaultW _ _ _).mono ?_; rw [HT.out]; rintro e w' ⟨rfl, rfl⟩)
        go_ret
        exact ⟨rfl, below_alloc _⟩
    · by_cases hz : len = 0
      · subst hz
        have HF : (if fit 1 n 0 = true then (0 : Int) else 7) = 0 := by simp [fit]
        rw [HF]
        clear HF
        go_enter Tryz.func178, Tryz.ntmps178
        go_wp2_with (go_at_call 186; refine (tagFaultW _ _ _).mono ?_; rw [HT.out]; rintro e w' ⟨rfl, rfl⟩)
        go_ret
        exact ⟨rfl, below_alloc _⟩
      · have hzb : ((len : Int) == 0) = false := by simp [hz]
        have HF : (if fit 1 n len = true then (0 : Int) else 7) = 7 := by simp [fit, hz]
        rw [HF]
        clear HF
        clear hz
        go_enter Tryz.func178, Tryz.ntmps178
        go_wp2_with (go_at_call 186; refine (tagFaultW _ _ _).mono ?_; rw [HT.out]; rintro e w' ⟨rfl, rfl⟩)
        go_ret
        exact ⟨rfl, below_alloc _⟩
    · by_cases hz : n = 0
      · subst hz
        have HF : (if fit 2 0 len = true then (0 : Int) else 7) = 0 := by simp [fit]
        rw [HF]
        clear HF
        go_enter Tryz.func178, Tryz.ntmps178
        go_wp2_with (go_at_call 186; refine (tagFaultW _ _ _).mono ?_; rw [HT.out]; rintro e w' ⟨rfl, rfl⟩)
        go_ret
        exact ⟨rfl, below_alloc _⟩
      · have hzb : (n == 0) = false := by simp [hz]
        have HF : (if fit 2 n len = true then (0 : Int) else 7) = 7 := by simp [fit, hz]
        rw [HF]
        clear HF
        clear hz
        go_enter Tryz.func178, Tryz.ntmps178
        go_wp2_with (go_at_call 186; refine (tagFaultW _ _ _).mono ?_; rw [HT.out]; rintro e w' ⟨rfl, rfl⟩)
        go_ret
        exact ⟨rfl, below_alloc _⟩
    · by_cases hz : len = 0
      · subst hz
        by_cases hn : n ≤ 4294967295
        · have HF : (if fit 5 n 0 = true then (0 : Int) else 7) = 0 := by simp [fit, hn]
          rw [HF]
          clear HF
          have hd : decide (n ≤ 4294967295) = true := by simpa using hn
          go_enter Tryz.func178, Tryz.ntmps178
          go_wp2_with (go_at_call 186; refine (tagFaultW _ _ _).mono ?_; rw [HT.out]; rintro e w' ⟨rfl, rfl⟩)
          go_ret
          exact ⟨rfl, below_alloc _⟩
        · have HF : (if fit 5 n 0 = true then (0 : Int) else 7) = 7 := by simp [fit, hn]
          rw [HF]
          clear HF
          have hd : decide (n ≤ 4294967295) = false := by simpa using hn
          go_enter Tryz.func178, Tryz.ntmps178
          go_wp2_with (go_at_call 186; refine (tagFaultW _ _ _).mono ?_; rw [HT.out]; rintro e w' ⟨rfl, rfl⟩)
          go_ret
          exact ⟨rfl, below_alloc _⟩
      · have hzb : ((len : Int) == 0) = false := by simp [hz]
        have HF : (if fit 5 n len = true then (0 : Int) else 7) = 7 := by simp [fit, hz]
        rw [HF]
        clear HF
        clear hz
        go_enter Tryz.func178, Tryz.ntmps178
        go_wp2_with (go_at_call 186; refine (tagFaultW _ _ _).mono ?_; rw [HT.out]; rintro e w' ⟨rfl, rfl⟩)
        go_ret
        exact ⟨rfl, below_alloc _⟩
theorem own_cat2 {w : World} {base m : Nat} {v : Value} {xs : List Value} {ps ys zs : List Int} (h : w.ownsRow base 5 1 v (m + ps.length + ys.length) (xs ++ ps.map (Value.int .u8) ++ ys.map (Value.int .u8))) (e : zs = ps ++ ys) :
    w.ownsRow base 5 1 v (m + zs.length) (xs ++ zs.map (Value.int .u8)) := by
  subst e
  exact own_cat h rfl rfl
set_option maxHeartbeats 1000000 in
theorem addEntryW (base : Nat) (v : Value) (m : Nat) (xs : List Value) (num kind n : Int) (a : Option Addr) (len cap : Nat) (ys : List Int) (w : World) (hown : w.ownsRow base 5 1 v m xs) (hb : base ≤ w.heap.size) (hsrc : ∀ w', Below base w w' → Reads w' a len cap ys)
    (ht : tf num kind = 0) (hn0 : 0 ≤ n) (hn1 : n < 18446744073709551616) (hm : m + 20 + len ≤ 140737488355328) :
    Calls Tryz.prog 179 #[v, .agg #[.int .i64 num, .int .i64 kind, .int .u64 n, .slice a len cap]] w fun e w' => ∃ v', e = .returned v' ∧ w'.ownsRow base 5 1 v' (m + (pe num kind n ys).length) (xs ++ (pe num kind n ys).map (Value.int .u8)) ∧ Grow w w' v v' := by
  obtain ⟨h1, h2, hk⟩ := tf_ok ht
  have hkb := okK_bd hk
  have hlv : ∀ k, v.ownBlock = some k → base ≤ k ∧ k < w.heap.size := hown.lt
  have HLV := hid hlv
  have HT := hid ht
  have HS := hid hsrc
  have HO := hid hown
  have hpl := (pv_len (num * 8 + kind)).2
  clear hsrc hown ht hlv
  go_enter Tryz.func179, Tryz.ntmps179
  go_wp2_with fail
  refine (tagW _ _ _ HT.out).mono ?_
  rintro e w' ⟨rfl, rfl⟩
  go_wp2_with fail
  refine (addvG base v m xs (num * 8 + kind) _ (HO.out.alloc _) (by simp; omega) (by omega) (by omega) (by omega)).mono ?_
  rintro e w2 ⟨v2, rfl, ho2, hg2⟩
  have hg0 : Grow w (w.alloc (.cells #[.int .i64 num, .int .i64 kind, .int .u64 n, .slice a len cap] 118)) v v := (Grow.refl w v).alloc _
  have hbx : ∀ o, w2.cell? ⟨w.heap.size, o, none⟩ = (w.alloc (.cells #[.int .i64 num, .int .i64 kind, .int .u64 n, .slice a len cap] 118)).cell? ⟨w.heap.size, o, none⟩ := fun o => World.cell?_of_block (hg2.block w.heap.size (by simp) (fun e => by have := (HLV.out _ e).2; omega))
  have c1 : w2.cell? ⟨w.heap.size, 1, none⟩ = some (.int .i64 kind) := by rw [hbx, World.cell?_alloc_at _ _ _ _ rfl]; rfl
  have c2 : w2.cell? ⟨w.heap.size, 2, none⟩ = some (.int .u64 n) := by rw [hbx, World.cell?_alloc_at _ _ _ _ rfl]; rfl
  have c3 : w2.cell? ⟨w.heap.size, 3, none⟩ = some (.slice a len cap) := by rw [hbx, World.cell?_alloc_at _ _ _ _ rfl]; rfl
  have hsz2 : w.heap.size + 1 ≤ w2.heap.size := by have := hg2.size; simpa using this
  have hb2 : Below base w w2 := (hg0.trans hg2).below hb (fun k hk => (HLV.out k hk).1)
  have HB2 := hid hb2
  have HO2 := hid ho2
  have HG2 := hid hg2
  have HG0 := hid hg0
  clear hbx hb2 ho2 hg2 hg0
  have hk2 := okK_cases hk
  clear hk
  rcases hk2 with rfl | rfl | rfl | rfl
  · go_wp2_with fail
    refine (addvG base v2 _ _ n _ HO2.out (by omega) hn0 hn1 (by omega)).mono ?_
    rintro e w3 ⟨v3, rfl, ho3, hg3⟩
    go_wp2
    go_ret
    exact ⟨v3, rfl, own_cat2 ho3 rfl, (HG0.out.trans HG2.out).trans hg3⟩
  · go_wp2_with fail
    refine (addWordG base v2 _ _ n 8 _ HO2.out (by omega) (by omega) (by omega)).mono ?_
    rintro e w3 ⟨v3, rfl, ho3, hg3⟩
    go_wp2
    go_ret
    exact ⟨v3, rfl, own_cat2 ho3 rfl, (HG0.out.trans HG2.out).trans hg3⟩
  · go_wp2_with fail
    refine (addChunkG base v2 _ _ a len cap ys _ HO2.out (by omega) (fun w' h => HS.out w' (HB2.out.trans h)) (by omega)).mono ?_
    rintro e w3 ⟨v3, rfl, ho3, hg3⟩
    go_wp2
    go_ret
    exact ⟨v3, rfl, own_cat2 ho3 rfl, (HG0.out.trans HG2.out).trans hg3⟩
  · go_wp2_with fail
    refine (addWordG base v2 _ _ n 4 _ HO2.out (by omega) (by omega) (by omega)).mono ?_
    rintro e w3 ⟨v3, rfl, ho3, hg3⟩
    go_wp2
    go_ret
    exact ⟨v3, rfl, own_cat2 ho3 rfl, (HG0.out.trans HG2.out).trans hg3⟩
end Go.Proofs.YtmiemocdjkeefaaGreatDoor.W
namespace Go.Proofs.YtmiemocdjkeefaaGreatDoor.W
open Go.RowKit
set_option maxRecDepth 1000000
/-- The bytes of an entry; none where it has a fault. -/
def pp (num kind n : Int) (ys : List Int) : List Int := if ef num kind n ys.length = 0 then pe num kind n ys else []
set_option maxHeartbeats 400000 in
theorem putEntryNo (num kind n : Int) (a : Option Addr) (len cap : Nat) (w : World) (hl : len ≤ 9223372036854775807) (he : ef num kind n len ≠ 0) :
    Calls Tryz.prog 156 #[.agg #[.int .i64 num, .int .i64 kind, .int .u64 n, .slice a len cap]] w fun e w' => e = .returned (.tuple #[.slice none 0 0, .int .i64 (ef num kind n len)]) ∧ Below w.heap.size w w' := by
  have hne : (ef num kind n len != 0) = true := by simp [he]
  clear he
  go_enter Tryz.func156, Tryz.ntmps156
  go_wp2_with fail
  refine (entryFaultW _ _ _ _ _ _ _ hl).mono ?_
  rintro e w1 ⟨rfl, hb1⟩
  go_wp2
  go_ret2
  exact ⟨rfl, below_trans (below_alloc _) hb1⟩
set_option maxHeartbeats 400000 in
theorem putEntryYes (num kind n : Int) (a : Option Addr) (len cap : Nat) (ys : List Int) (w : World) (hr : Reads w a len cap ys) (he : ef num kind n len = 0) (hn0 : 0 ≤ n) (hn1 : n < 18446744073709551616) (hm : 20 + len ≤ 140737488355328) :
    Calls Tryz.prog 156 #[.agg #[.int .i64 num, .int .i64 kind, .int .u64 n, .slice a len cap]] w fun e w' => ∃ v, e = .returned (.tuple #[v, .int .i64 0]) ∧ w'.ownsRow w.heap.size 5 1 v (pe num kind n ys).length ((pe num kind n ys).map (Value.int .u8)) ∧ Below w.heap.size w w' := by
  have HE := hid he
  have HT := hid (ef_ok he).1
  have HR := hid hr
  have hl : len ≤ 9223372036854775807 := Nat.le_trans hr.le hr.max
  clear he hr
  go_enter Tryz.func156, Tryz.ntmps156
  go_wp2_with fail
  refine (entryFaultW _ _ _ _ _ _ _ hl).mono ?_
  rw [HE.out]
  rintro e w1 ⟨rfl, hb1⟩
  have hb := below_trans (below_alloc (.cells #[.int .i64 num, .int .i64 kind, .int .u64 n, .slice a len cap] 118)) hb1
  have c0 : w1.cell? ⟨w.heap.size, 0, none⟩ = some (.int .i64 num) := by rw [hb1.cell (p := ⟨w.heap.size, 0, none⟩) (by simp), World.cell?_alloc_at _ _ _ _ rfl]; rfl
  have c1 : w1.cell? ⟨w.heap.size, 1, none⟩ = some (.int .i64 kind) := by rw [hb1.cell (p := ⟨w.heap.size, 1, none⟩) (by simp), World.cell?_alloc_at _ _ _ _ rfl]; rfl
  have c2 : w1.cell? ⟨w.heap.size, 2, none⟩ = some (.int .u64 n) := by rw [hb1.cell (p := ⟨w.heap.size, 2, none⟩) (by simp), World.cell?_alloc_at _ _ _ _ rfl]; rfl
  have c3 : w1.cell? ⟨w.heap.size, 3, none⟩ = some (.slice a len cap) := by rw [hb1.cell (p := ⟨w.heap.size, 3, none⟩) (by simp), World.cell?_alloc_at _ _ _ _ rfl]; rfl
  have hsz : w.heap.size ≤ w1.heap.size := hb.size
  have HB := hid hb
  clear hb hb1
  go_wp2_with fail
  refine (addEntryW w.heap.size _ 0 [] num kind n a len cap ys _ (World.ownsRow_nil _ _ _ _) hsz (fun w' h => reads_kept HR.out (HB.out.trans h)) HT.out hn0 hn1 (by omega)).mono ?_
  rintro e w3 ⟨v3, rfl, ho3, hg3⟩
  go_wp2
  go_ret2
  refine ⟨v3, rfl, by simpa using ho3, HB.out.trans (hg3.below hsz (fun k hk => by cases hk))⟩
/-- PutEntry's answer as a slice that can be read. -/
theorem putEntryAny (num kind n : Int) (a : Option Addr) (len cap : Nat) (ys : List Int) (w : World) (hr : Reads w a len cap ys) (hn0 : 0 ≤ n) (hn1 : n < 18446744073709551616) (hm : 20 + len ≤ 140737488355328) :
    Calls Tryz.prog 156 #[.agg #[.int .i64 num, .int .i64 kind, .int .u64 n, .slice a len cap]] w fun e w' => ∃ b c, e = .returned (.tuple #[.slice b (pp num kind n ys).length c, .int .i64 (ef num kind n len)]) ∧ Reads w' b (pp num kind n ys).length c (pp num kind n ys) ∧ Below w.heap.size w w' := by
  have hlen := hr.length
  by_cases he : ef num kind n len = 0
  · refine (putEntryYes num kind n a len cap ys w hr he hn0 hn1 hm).mono ?_
    rintro e w' ⟨v, rfl, ho, hb⟩
    obtain ⟨b, c, rfl, hr2⟩ := own_reads ho (pe_bd (ef_ok he).1 hn0 hn1 (bd_mem hr.bd) (by omega))
    have e1 : pp num kind n ys = pe num kind n ys := by rw [pp, hlen, if_pos he]
    rw [e1, he]
    exact ⟨b, c, rfl, hr2, hb⟩
  · refine (putEntryNo num kind n a len cap w (Nat.le_trans hr.le hr.max) he).mono ?_
    rintro e w' ⟨rfl, hb⟩
    have e1 : pp num kind n ys = [] := by rw [pp, hlen, if_neg he]
    rw [e1]
    exact ⟨none, 0, rfl, reads_nil _, hb⟩
end Go.Proofs.YtmiemocdjkeefaaGreatDoor.W
namespace Go.Proofs.YtmiemocdjkeefaaGreatDoor
open Go.RowKit
set_option maxRecDepth 1000000
set_option linter.unusedVariables false
set_option linter.unusedSimpArgs false
set_option maxHeartbeats 1000000
/-- An entry that can be written. -/
def entB (x : CE) : Bool := W.ef x.num x.kind x.n x.b.length == 0
theorem Reads.old {w : World} {a : Option Addr} {len cap : Nat} {xs : List Int} (h : Reads w a len cap xs) : W.Reads w a len cap xs := ⟨h.length, h.le, h.max, h.bd, h.cells⟩
theorem isEntryM (w : World) (Z : Nat → Prop) (cs : List Value) (x : CE) (h : EntE w Z cs x) : Calls Tryz.prog 118 #[.agg cs.toArray] w fun e w' => e = .returned (.bool (entB x)) ∧ Below w.heap.size w w' := by
  obtain ⟨ba, bc, rfl, g1, l1, -, -, hu⟩ := ent_open h
  have HP := hid fun W1 (hW : Below w.heap.size w W1) => W.putEntryAny x.num x.kind x.n ba x.b.length bc x.b W1 (g1.kept hW).reads.old hu.1 hu.2 (by omega)
  have HX : Hid (entB x = (W.ef x.num x.kind x.n x.b.length == 0)) := hid rfl
  clear h g1 hu
  generalize entB x = res at *
  generalize W.ef x.num x.kind x.n x.b.length = er at *
  go_enter Tryz.func118, Tryz.ntmps118
  go_wp2_with fail
  refine (HP.out _ (by exact blBy)).mono ?_
  rintro e w1 ⟨b, c, rfl, -, hb1⟩
  have hbz : Hid (Below w.heap.size w w1) := hid (bl_then (by exact blBy) hb1)
  clear hb1
  go_wp2
  go_ret
  exact ⟨ret_bool HX.out.symm, hbz.out⟩
/-- What hold asks of a message, by the entries' own rule. -/
theorem holdT (w : World) (l : List TV) (ta : Option Addr) (tc : Nat) (h : TbR w (.slice ta l.length tc) l) (hg : goodB l = true) (x : TV) (hx : x ∈ l) (Z : Nat → Prop) (d : Nat) (cs : List Value) (m : CM) (hm : MsgE w Z (d + 1) cs m) : Calls Tryz.prog 90 #[.agg #[.slice ta l.length tc], .agg (cTV x).toArray, .agg cs.toArray] w fun e w' => e = .returned (.bool (holdB l entB x m)) ∧ Below w.heap.size w w' :=
  holdM w l ta tc h hg x hx (good_ones hg hx) entB Z (fun W hW cs y hy => isEntryM W Z cs y hy) d cs m hm
end Go.Proofs.YtmiemocdjkeefaaGreatDoor
namespace Go.Proofs.YtmiemocdjkeefaaGreatDoor
open Go.RowKit
set_option maxRecDepth 1000000
set_option linter.unusedVariables false
set_option linter.unusedSimpArgs false
/-- Of each oneof at most one: by pairs. -/
theorem single_pairs (fs : List FT) : ∀ (l : List (CF CM)) (T : Nat → Bool), singleT fs l T = true ↔ (∀ x ∈ l, (ownF fs x.num).lab = 4 → T (ownF fs x.num).one.toNat = false) ∧ l.Pairwise (fun x y => (ownF fs x.num).lab = 4 → (ownF fs y.num).lab = 4 → (ownF fs x.num).one.toNat ≠ (ownF fs y.num).one.toNat)
  | [], T => by simp [singleT]
  | f :: r, T => by
    unfold singleT
    by_cases h4 : (ownF fs f.num).lab = 4
    · rw [if_pos h4]
      cases hT : T (ownF fs f.num).one.toNat with
      | true =>
        rw [if_pos rfl]
        refine ⟨fun e => (by cases e), fun h => ?_⟩
        have := h.1 f List.mem_cons_self h4
        rw [hT] at this
        cases this
      | false =>
        rw [if_neg (by simp), single_pairs fs r, List.pairwise_cons]
        constructor
        · rintro ⟨h1, h2⟩
          refine ⟨fun x hx hx4 => ?_, fun y hy _ hy4 e => ?_, h2⟩
          · rcases List.mem_cons.1 hx with rfl | hx
            · exact hT
            · have := h1 x hx hx4
              simp at this
              exact this.2
          · have := h1 y hy hy4
            simp at this
            exact this.1 e.symm
        · rintro ⟨h1, h2, h3⟩
          refine ⟨fun x hx hx4 => ?_, h3⟩
          have a1 := h1 x (List.mem_cons_of_mem _ hx) hx4
          have a2 := h2 x hx h4 hx4
          simp [a1]
          exact fun e => a2 e.symm
    · rw [if_neg h4, single_pairs fs r, List.pairwise_cons]
      constructor
      · rintro ⟨h1, h2⟩
        refine ⟨fun x hx hx4 => ?_, fun y hy hf _ => absurd hf h4, h2⟩
        rcases List.mem_cons.1 hx with rfl | hx
        · exact absurd hx4 h4
        · exact h1 x hx hx4
      · rintro ⟨h1, -, h3⟩
        exact ⟨fun x hx hx4 => h1 x (List.mem_cons_of_mem _ hx) hx4, h3⟩
end Go.Proofs.YtmiemocdjkeefaaGreatDoor
namespace Go.Proofs.YtmiemocdjkeefaaGreatDoor
open Go.RowKit
set_option maxRecDepth 1000000
set_option linter.unusedVariables false
set_option linter.unusedSimpArgs false
set_option maxHeartbeats 1000000
/-- The type of the messages in a field. -/
def blwB (l : List TV) (x : TV) (f : CF CM) : TV := (l[(ownF x.t.fs f.num).ref.toNat]?).getD x
/-- Whether a message, so deep at most, is typed. -/
def keptB (l : List TV) (d : Nat) (x : TV) (m : CM) : Bool := walkB (holdB l entB) (blwB l) d x m
theorem ownF_hasF {fs : List FT} {n : Int} (h : hasF fs n = true) : ownF fs n ∈ fs ∧ (ownF fs n).num = n := by
  unfold hasF at h
  unfold ownF
  cases hq : fs.find? (fun o => o.num == n) with
  | none => rw [hq] at h; cases h
  | some o => exact ⟨List.mem_of_find?_eq_some hq, by have := List.find?_some hq; simpa using this⟩
theorem holdB_has {l : List TV} {ent : CE → Bool} {x : TV} {m : CM} (h : holdB l ent x m = true) {f : CF CM} (hf : f ∈ m.fs) : hasF x.t.fs f.num = true := by
  unfold holdB at h
  simp only [Bool.and_eq_true, List.all_eq_true] at h
  have := h.2.1 f hf
  unfold typB8 at this
  simp only [Bool.and_eq_true] at this
  exact this.1
theorem blwB_at {l : List TV} (hg : goodB l = true) {x : TV} (hx : x ∈ l) {f : CF CM} (hf : hasF x.t.fs f.num = true) : l[(ownF x.t.fs f.num).ref.toNat]? = some (blwB l x f) := by
  obtain ⟨h1, h2⟩ := ownF_hasF hf
  obtain ⟨r0, r1⟩ := good_refs hg hx h1
  unfold blwB
  rw [List.getElem?_eq_getElem r1]
  rfl
theorem blwB_in {l : List TV} (hg : goodB l = true) {x : TV} (hx : x ∈ l) {f : CF CM} (hf : hasF x.t.fs f.num = true) : blwB l x f ∈ l := List.mem_of_getElem? (blwB_at hg hx hf)
theorem cfHold (args : Array Value) (W : World) : (callFunc 90 args).run Tryz.prog W = .ok (.enter 90 args) W := cf_enter Tryz.func90 (by kernel_rfl) (by kernel_rfl) args W
theorem cfBelow (args : Array Value) (W : World) : (callFunc 91 args).run Tryz.prog W = .ok (.enter 91 args) W := cf_enter Tryz.func91 (by kernel_rfl) (by kernel_rfl) args W
theorem wkHold (l : List TV) (ta : Option Addr) (tc : Nat) (hg : goodB l = true) (hsh : ∀ x ∈ l, ShT x) (Z : Nat → Prop) : WkH Z (fun W => TbR W (.slice ta l.length tc) l) (· ∈ l) (fun _ _ _ => True) (holdB l entB) (blwB l) 90 91 #[.agg #[.slice ta l.length tc]] #[.agg #[.slice ta l.length tc]] where
  kept h hb := h.kept hb
  sh := hsh
  eh := cfHold
  eb := cfBelow
  h W x d cs m hW hx _ hm := by
    cases d with
    | zero => exact hm.elim
    | succ d => exact holdT W l ta tc hW hg x hx Z d cs m hm
  b W x d cs m f hW hx _ hh hf hfe := by
    have h1 := holdB_has hh hf
    exact belowT W l ta tc hW hg x hx Z d cs f hfe _ (ownF_hasF h1).1 (ownF_hasF h1).2 _ (blwB_at hg hx h1)
  i x d m f hx _ hh hf := blwB_in hg hx (holdB_has hh hf)
  q _ _ _ _ _ _ _ _ _ _ := trivial
theorem areKeptT (w : World) (l : List TV) (ta : Option Addr) (tc : Nat) (h : TbR w (.slice ta l.length tc) l) (hg : goodB l = true) (x : TV) (hx : x ∈ l) (Z : Nat → Prop) (d : Nat) (cs : List Value) (m : CM) (hm : MsgE w Z d cs m) : Calls Tryz.prog 61 #[.agg #[.slice ta l.length tc], .agg (cTV x).toArray, .agg cs.toArray] w fun e w' => e = .returned (.bool (keptB l d x m)) ∧ Below w.heap.size w w' := by
  have HW := hid fun W (hW : Below w.heap.size w W) => walkT (wkHold l ta tc hg (fun x hx => shT_of (h.ty x hx)) Z) d W x cs m (h.kept hW) hx trivial (hm.kept hW)
  obtain ⟨ta1, tc1, ta2, tc2, ta3, tc3, ta4, tc4, e1, e2, e3, e4⟩ := shT_of (h.ty x hx)
  have ec : cTV x = [.string (strOfNums x.t.name), .bool x.t.enum, .slice ta1 x.t.fs.length tc1, .slice ta2 x.t.os.length tc2, .slice ta3 x.t.ss.length tc3, .slice ta4 x.t.rs.length tc4] := by unfold cTV; rw [e1, e2, e3, e4]
  obtain ⟨fa, fc, ua, uc, rfl, -⟩ := msg_openD hm
  have HX : Hid (walkB (holdB l entB) (blwB l) d x m = keptB l d x m) := hid rfl
  rw [ec] at HW ⊢
  clear h hg hx hm e1 e2 e3 e4 ec
  generalize keptB l d x m = res at *
  go_enter Tryz.func61, Tryz.ntmps61
  go_wp2_with fail
  refine (HW.out _ (by exact blBy)).mono ?_
  rintro e w1 ⟨rfl, hb1⟩
  have HB1 : Hid (Below w.heap.size w w1) := hid (bl_then (by exact blBy) hb1)
  clear hb1 HW
  go_wp2
  go_ret
  exact ⟨ret_bool HX.out, HB1.out⟩
theorem typedT (w : World) (l : List TV) (ta : Option Addr) (tc : Nat) (h : TbR w (.slice ta l.length tc) l) (hk : ∀ x ∈ l, OkV x) (mx : Int) (hm0 : w.cell? ⟨0, 0, none⟩ = some (.int .i64 mx)) (k : Nat) (hkl : k < l.length) (hg : goodB l = true) (he : l[k].t.enum = false) (Z : Nat → Prop) (d : Nat) (cs : List Value) (m : CM) (hm : MsgE w Z d cs m) : Calls Tryz.prog 37 #[.agg #[.slice ta l.length tc], .int .i64 (k : Int), .agg cs.toArray] w fun e w' => e = .returned (.tuple #[.bool (keptB l d l[k] m), .int .i64 0]) ∧ Below w.heap.size w w' := by
  have HA := hid fun W (hW : Below w.heap.size w W) => msgAtOk W l ta tc (h.kept hW) hk mx (cell_below hm0 hW) k hkl hg he
  have HK := hid fun W (hW : Below w.heap.size w W) => areKeptT W l ta tc (h.kept hW) hg l[k] (List.getElem_mem hkl) Z d cs m (hm.kept hW)
  obtain ⟨ta1, tc1, ta2, tc2, ta3, tc3, ta4, tc4, e1, e2, e3, e4⟩ := shT_of (h.ty l[k] (List.getElem_mem hkl))
  have ec : cTV l[k] = [.string (strOfNums l[k].t.name), .bool false, .slice ta1 l[k].t.fs.length tc1, .slice ta2 l[k].t.os.length tc2, .slice ta3 l[k].t.ss.length tc3, .slice ta4 l[k].t.rs.length tc4] := by unfold cTV; rw [e1, e2, e3, e4, he]
  obtain ⟨fa, fc, ua, uc, rfl, -⟩ := msg_openD hm
  rw [ec] at HK
  rw [e1, e2, e3, e4] at HA
  clear h hg hm e1 e2 e3 e4 ec hm0 hk he
  generalize keptB l d l[k] m = res at *
  generalize l[k] = x at *
  go_enter Tryz.func37, Tryz.ntmps37
  go_wp2_with fail
  refine (HA.out _ (by exact blBy)).mono ?_
  rintro e w1 ⟨rfl, hb1⟩
  have HB1 : Hid (Below w.heap.size w w1) := hid (bl_then (by exact blBy) hb1)
  have Bt : Blk w1 w.heap.size 24 #[.slice ta l.length tc] := ((Blk.new _ _ _).kept (below_alloc _)).kept hb1
  have Bm : Blk w1 (w.heap.size + 1) 29 #[.slice fa m.fs.length fc, .slice ua m.us.length uc] := (Blk.newAt (by simp)).kept hb1
  have xt := Bt.cellF
  have zt := Bt.lt
  have xm := Bm.cellF
  have zm := Bm.lt
  clear hb1 HA
  go_wp2_with fail
  refine (HK.out _ (by have := HB1.out; exact blBy)).mono ?_
  rintro e w2 ⟨rfl, hb2⟩
  have HB2 : Hid (Below w.heap.size w w2) := hid (bl_then (by have := HB1.out; exact blBy) hb2)
  clear hb2 HK
  go_wp2
  exact bodyPost_ret (v := .tuple #[.bool res, .int .i64 0]) (by simp [results, Tryz.results37, go_sem]) rfl ⟨rfl, by have := HB2.out; exact blBy⟩
theorem typedNo (w : World) (l : List TV) (ta : Option Addr) (tc : Nat) (h : TbR w (.slice ta l.length tc) l) (hk : ∀ x ∈ l, OkV x) (mx : Int) (hm0 : w.cell? ⟨0, 0, none⟩ = some (.int .i64 mx)) (idx : Int) (hno : isB l idx false = false) (fa ua : Option Addr) (fn fc un uc : Nat) : Calls Tryz.prog 37 #[.agg #[.slice ta l.length tc], .int .i64 idx, .agg #[.slice fa fn fc, .slice ua un uc]] w fun e w' => e = .returned (.tuple #[.bool false, .int .i64 18]) ∧ Below w.heap.size w w' := by
  have HA := hid fun W (hW : Below w.heap.size w W) => msgAtNo W l ta tc (h.kept hW) hk mx (cell_below hm0 hW) idx hno
  clear h hm0 hk hno
  go_enter Tryz.func37, Tryz.ntmps37
  go_wp2_with fail
  refine (HA.out _ (by exact blBy)).mono ?_
  rintro e w1 ⟨rfl, hb1⟩
  have HB1 : Hid (Below w.heap.size w w1) := hid (bl_then (by exact blBy) hb1)
  clear hb1 HA
  go_wp2
  exact bodyPost_ret (v := .tuple #[.bool false, .int .i64 18]) (by simp [results, Tryz.results37, go_sem]) rfl ⟨rfl, by have := HB1.out; exact blBy⟩
end Go.Proofs.YtmiemocdjkeefaaGreatDoor
namespace Go.Proofs.YtmiemocdjkeefaaGreatDoor
open Go.RowKit
set_option maxRecDepth 1000000
set_option linter.unusedVariables false
set_option linter.unusedSimpArgs false
theorem scalar_fit {k : Int} {v : CV CM} (h : scalarB k v = true) : vfit k v.n v.b.length v.ms.length = true := by
  unfold scalarB at h
  rw [Bool.and_eq_true] at h
  exact h.1
theorem fit_ms {k n : Int} {a b : Nat} (h : vfit k n a b = true) : b = 0 := by
  unfold vfit at h
  rw [Bool.and_eq_true, decide_eq_true_eq] at h
  exact h.1
theorem keysB_iff {k : Int} {l : List (CV CM)} : keysB k l = true ↔ ∀ i (h : i + 1 < l.length), keyLt k l[i] l[i + 1] = true := by
  unfold keysB keyS
  rw [List.all_eq_true]
  constructor
  · intro h i hi
    have := h i (List.mem_range'_1.2 ⟨by omega, by omega⟩)
    rw [List.getElem?_eq_getElem (by omega), List.getElem?_eq_getElem hi] at this
    exact this
  · intro h i hi
    have := List.mem_range'_1.1 hi
    rw [List.getElem?_eq_getElem (by omega), List.getElem?_eq_getElem (by omega)]
    exact h i (by omega)
theorem riseM_iff {l : List (CF CM)} : riseM l = true ↔ ∀ i (h : i + 1 < l.length), l[i].num < l[i + 1].num := by
  unfold riseM
  rw [List.all_eq_true]
  constructor
  · intro h i hi
    have := h i (List.mem_range.2 (by omega))
    rw [List.getElem?_eq_getElem (by omega), List.getElem?_eq_getElem hi] at this
    exact of_decide_eq_true this
  · intro h i hi
    have := List.mem_range.1 hi
    rw [List.getElem?_eq_getElem (by omega), List.getElem?_eq_getElem (by omega)]
    exact decide_eq_true (h i (by omega))
theorem rise_lt {l : List (CF CM)} (h : riseM l = true) : ∀ (i j : Nat) (hij : i < j) (hj : j < l.length), (l[i]'(by omega)).num < l[j].num := by
  rw [riseM_iff] at h
  intro i j hij hj
  induction j with
  | zero => omega
  | succ j ih =>
    have h1 := h j hj
    by_cases e : i = j
    · subst e; exact h1
    · have := ih (by omega) (by omega); omega
theorem rise_pairs {l : List (CF CM)} (h : riseM l = true) : l.Pairwise (fun x y => x.num < y.num) := by
  rw [List.pairwise_iff_getElem]
  intro i j hi hj hij
  exact rise_lt h i j hij hj
theorem valB_ms {l : List TV} {o : FT} {v : CV CM} (h : valB l o v = true) (h17 : o.kind ≠ 17) : v.ms = [] := by
  unfold valB at h
  rw [if_neg h17] at h
  refine List.eq_nil_of_length_eq_zero ?_
  by_cases h16 : o.kind = 16
  · rw [if_pos h16, Bool.and_eq_true] at h
    exact fit_ms h.1
  · rw [if_neg h16] at h
    exact fit_ms (scalar_fit h)
end Go.Proofs.YtmiemocdjkeefaaGreatDoor
namespace Go.Proofs.YtmiemocdjkeefaaGreatDoor
open Go.RowKit
set_option maxRecDepth 1000000
set_option linter.unusedVariables false
set_option linter.unusedSimpArgs false
set_option maxHeartbeats 1000000
end Go.Proofs.YtmiemocdjkeefaaGreatDoor
namespace Go.Proofs.YtmiemocdjkeefaaGreatDoor
open Go.RowKit
set_option maxRecDepth 1000000
set_option linter.unusedVariables false
set_option linter.unusedSimpArgs false
set_option maxHeartbeats 1000000
end Go.Proofs.YtmiemocdjkeefaaGreatDoor
namespace Go.Proofs.YtmiemocdjkeefaaGreatDoor
open Go.RowKit
set_option maxRecDepth 1000000
set_option linter.unusedVariables false
set_option linter.unusedSimpArgs false
set_option maxHeartbeats 1000000
theorem kept_all {l : List TV} {d : Nat} {x : TV} {m : CM} (h : keptB l (d + 1) x m = true) : holdB l entB x m = true ∧ ∀ f ∈ m.fs, ∀ z ∈ allM f, keptB l d (blwB l x f) z = true := by
  unfold keptB walkB at h
  simp only [Bool.and_eq_true, List.all_eq_true] at h
  exact ⟨h.1, fun f hf z hz => h.2 f hf z hz⟩
end Go.Proofs.YtmiemocdjkeefaaGreatDoor
namespace Go.Proofs.YtmiemocdjkeefaaGreatDoor
open Go.RowKit
set_option maxRecDepth 1000000
set_option linter.unusedVariables false
set_option linter.unusedSimpArgs false
set_option maxHeartbeats 2000000
end Go.Proofs.YtmiemocdjkeefaaGreatDoor
namespace Go.Proofs.YtmiemocdjkeefaaGreatDoor
open Go.RowKit
set_option maxRecDepth 1000000
set_option linter.unusedVariables false
set_option linter.unusedSimpArgs false
set_option maxHeartbeats 2000000
end Go.Proofs.YtmiemocdjkeefaaGreatDoor
namespace Go.Proofs.YtmiemocdjkeefaaGreatDoor
open Go.RowKit
set_option maxRecDepth 1000000
set_option linter.unusedVariables false
set_option linter.unusedSimpArgs false
set_option maxHeartbeats 2000000
end Go.Proofs.YtmiemocdjkeefaaGreatDoor
namespace Go.Proofs.YtmiemocdjkeefaaGreatDoor
open Go.RowKit
set_option maxRecDepth 1000000
set_option linter.unusedVariables false
set_option linter.unusedSimpArgs false
set_option maxHeartbeats 2000000
end Go.Proofs.YtmiemocdjkeefaaGreatDoor
namespace Go.Proofs.YtmiemocdjkeefaaGreatDoor
open Go.RowKit
set_option maxRecDepth 1000000
set_option linter.unusedVariables false
set_option linter.unusedSimpArgs false
/-- Of a typed message: its keys hold no messages; its values one, where the kind is Message, else none. -/
theorem kept_ms {l : List TV} {d : Nat} {x : TV} {m : CM} (h : keptB l (d + 1) x m = true) {f : CF CM} (hf : f ∈ m.fs) : hasF x.t.fs f.num = true ∧ (∀ v ∈ f.ks, v.ms = []) ∧ ∀ v ∈ f.vs, ((ownF x.t.fs f.num).kind ≠ 17 → v.ms = []) ∧ ((ownF x.t.fs f.num).kind = 17 → ∃ z, v.ms = [z]) := by
  have h1 := (kept_all h).1
  unfold holdB at h1
  simp only [Bool.and_eq_true, List.all_eq_true] at h1
  have h2 := h1.2.1 f hf
  unfold typB8 fieldB at h2
  simp only [Bool.and_eq_true, List.all_eq_true] at h2
  refine ⟨h2.1, fun v hv => List.eq_nil_of_length_eq_zero (fit_ms (scalar_fit (h2.2.2.2.1 v hv))), fun v hv => ⟨fun h17 => valB_ms (h2.2.2.1 v hv) h17, fun h17 => ?_⟩⟩
  have h3 := h2.2.2.1 v hv
  unfold valB at h3
  rw [if_pos h17] at h3
  simp only [Bool.and_eq_true, beq_iff_eq] at h3
  have h4 : v.ms.length = 1 := by omega
  match v.ms, h4 with
  | [z], _ => exact ⟨z, rfl⟩
end Go.Proofs.YtmiemocdjkeefaaGreatDoor
namespace Go.Proofs.YtmiemocdjkeefaaGreatDoor
open Go.RowKit
set_option maxRecDepth 1000000
set_option linter.unusedVariables false
set_option linter.unusedSimpArgs false
theorem rise_of {l : List (CF CM)} (h : l.Pairwise (fun x y => x.num < y.num)) : riseM l = true := riseM_iff.2 fun i hi => List.pairwise_iff_getElem.1 h i (i + 1) (by omega) hi (by omega)
end Go.Proofs.YtmiemocdjkeefaaGreatDoor
namespace Go.Proofs.YtmiemocdjkeefaaGreatDoor
open Go.RowKit
set_option maxRecDepth 1000000
set_option linter.unusedVariables false
set_option linter.unusedSimpArgs false
def fOrd (x y : CF CM) : Int := cmpI x.num y.num
theorem fOrd_lt {x y : CF CM} : fOrd x y < 0 ↔ x.num < y.num := by unfold fOrd cmpI; split <;> (try split) <;> simp <;> omega
theorem fOrd_eq {x y : CF CM} : fOrd x y = 0 ↔ x.num = y.num := by unfold fOrd cmpI; split <;> (try split) <;> simp <;> omega
theorem rise_asc {l : List (CF CM)} : riseM l = true ↔ Asc fOrd l := by
  constructor
  · intro h
    exact (rise_pairs h).imp (fun h => fOrd_lt.2 h)
  · intro h
    exact rise_of (h.imp (fun h => fOrd_lt.1 h))
/-- A member of a oneof that another field list has a member of, is left out. -/
def memB (fs : List FT) (w : Int) (p : CF CM) : Bool := (ownF fs p.num).lab == 4 && (ownF fs p.num).one == w
def rivB (fs : List FT) (os : List (CF CM)) (o : CF CM) : Bool := !((ownF fs o.num).lab == 4 && os.any (memB fs (ownF fs o.num).one))
def wM (f : CF CM) : CM := match f.vs with | v :: _ => (match v.ms with | m :: _ => m | [] => CM.mk [] []) | [] => CM.mk [] []
def prs (f : CF CM) : List (CV CM × CV CM) := f.ks.zip f.vs
def kOrd (k : Int) (p q : CV CM × CV CM) : Int := (cmpE k p.1.n q.1.n p.1.b q.1.b p.1.ms.length q.1.ms.length).1
def mapM (o : FT) (a b : CF CM) : CF CM := ⟨o.num, (uni (kOrd o.key) (fun _ q => q) (prs a) (prs b)).map Prod.fst, (uni (kOrd o.key) (fun _ q => q) (prs a) (prs b)).map Prod.snd⟩
def bothF (l : List TV) (mg : TV → CM → CM → CM) (x : TV) (a b : CF CM) : CF CM :=
  if (ownF x.t.fs a.num).lab = 1 ∧ (ownF x.t.fs a.num).kind = 17 then ⟨(ownF x.t.fs a.num).num, [], [⟨0, [], [mg (blwB l x a) (wM a) (wM b)]⟩]⟩
  else if (ownF x.t.fs a.num).lab = 2 ∨ (ownF x.t.fs a.num).lab = 3 then ⟨(ownF x.t.fs a.num).num, [], a.vs ++ b.vs⟩
  else if (ownF x.t.fs a.num).lab = 5 then mapM (ownF x.t.fs a.num) a b
  else b
def mergM (l : List TV) : Nat → TV → CM → CM → CM
  | 0, _, _, b => b
  | d + 1, x, a, b => CM.mk (uni fOrd (bothF l (mergM l d) x) (a.fs.filter (rivB x.t.fs b.fs)) b.fs) (a.us ++ b.us)
theorem Ord.l0 {α : Type} {In : α → Prop} {ord : α → α → Int} (O : Ord In ord) {x y z : α} (hx : In x) (hy : In y) (hz : In z) (e : ord x y = 0) : (ord y z < 0 ↔ ord x z < 0) ∧ (ord y z = 0 ↔ ord x z = 0) := by
  have e' := (O.swap0 hx hy).1 e
  exact ⟨⟨fun h => O.le hx hy hz e h, fun h => O.le hy hx hz e' h⟩, ⟨fun h => O.ee hx hy hz e h, fun h => O.ee hy hx hz e' h⟩⟩
end Go.Proofs.YtmiemocdjkeefaaGreatDoor
namespace Go.Proofs.YtmiemocdjkeefaaGreatDoor
open Go.RowKit
set_option maxRecDepth 1000000
set_option linter.unusedVariables false
set_option linter.unusedSimpArgs false
theorem rowOne {α : Type} {w : World} {Z : Nat → Prop} {k : Nat} {E : List Value → α → Prop} {vb : Nat} {cs : List Value} {x : α} {t : TypeId} (hx : E cs x) (hl : cs.length = k) (hz : Z vb) (hc : Blk w vb t cs.toArray) : RowM w Z k E (.slice (some ⟨vb, 0, none⟩) [x].length 1) [x] := by
  refine ⟨[⟨cs, hl⟩], ⟨_, _, rfl, by simp [hl], by simp, by omega, .inr ⟨vb, 0, rfl, hz, fun j u hu => ?_⟩⟩, rfl, by simp, fun j t x ht hx => ?_⟩
  · rw [Nat.zero_add]
    exact hc.cell j u (by simpa using hu)
  · have e0 : j = 0 := by
      have := (List.getElem?_eq_some_iff.1 ht).1
      simpa using this
    subst e0
    simp at ht hx
    subst ht hx
    assumption
theorem OwnA.one {α : Type} {k : Nat} {E : World → (Nat → Prop) → List Value → α → Prop} (F : Fam k E) (t ts : TypeId) (bytes : Nat) (z : Value) (hts : Tryz.prog.underlying ts = some (.slice t)) (hinfo : (Tryz.prog.info? t).map (fun i => (i.zero, i.size, i.bytes)) = some (some z, k, bytes)) (hzs : z.cells.size = k) (h0 : 0 < k) (hby : bytes ≤ 400)
    {base : Nat} {Y : Nat → Prop} {v : Value} {xs : List α} {w : World} {cs : List Value} {x : α} {vb : Nat} (h : OwnA w base Y t k E v xs) (hx : E w (ZofA w Y v) cs x) (hz : ZofA w Y v vb) (hv : Blk w vb t cs.toArray) (hb : base ≤ w.heap.size) (hn : xs.length + 1 ≤ 4000000) :
    ∃ a c w', Hid ((Builtin.append_ #[ts, ts] ts #[v, .slice (some ⟨vb, 0, none⟩) 1 1]).run Tryz.prog w = .ok (.slice a (xs.length + 1) c) w') ∧ Hid (OwnA w' base Y t k E (.slice a (xs.length + 1) c) (xs ++ [x])) ∧ Hid (Grow w w' v (.slice a (xs.length + 1) c)) :=
  OwnA.app F t ts bytes z hts hinfo hzs h0 hby (ys := [x]) h (rowOne hx (F.len hx) hz hv) hb hn
end Go.Proofs.YtmiemocdjkeefaaGreatDoor
namespace Go.Proofs.YtmiemocdjkeefaaGreatDoor
open Go.RowKit
set_option maxRecDepth 1000000
set_option linter.unusedVariables false
set_option linter.unusedSimpArgs false
set_option maxHeartbeats 4000000
theorem isWayT (o : FT) (w : World) : Calls Tryz.prog 40 #[.agg #[.string (strOfNums o.name), .int .i64 o.num, .int .i64 o.kind, .int .i64 o.ref, .int .i64 o.lab, .int .i64 o.one, .int .i64 o.key]] w fun e w' => e = .returned (.bool (o.lab == 1 && o.kind == 17)) ∧ Below w.heap.size w w' := by
  by_cases h1 : o.lab = 1
  · have k1 : (o.lab == 1) = true := by simp [h1]
    go_enter Tryz.func40, Tryz.ntmps40
    go_wp2
    go_ret
    exact ⟨ret_bool (by simp [h1]), by exact blBy⟩
  · have k1 : (o.lab == 1) = false := by simp [h1]
    go_enter Tryz.func40, Tryz.ntmps40
    go_wp2
    go_ret
    exact ⟨ret_bool (by simp [h1]), by exact blBy⟩
theorem withinT (d : Nat) (w : World) (Z : Nat → Prop) (cs : List Value) (f : CF CM) (h : FmF d w Z cs f) (v : CV CM) (vs : List (CV CM)) (hv : f.vs = v :: vs) (m : CM) (ms : List CM) (hm : v.ms = m :: ms) : Calls Tryz.prog 44 #[.agg cs.toArray] w fun e w' => ∃ ds : List Value, e = .returned (.agg ds.toArray) ∧ MsgE w' Z d ds m ∧ Below w.heap.size w w' := by
  obtain ⟨ka, kc, va, vc, rfl, g1, g2, -⟩ := fld_open h
  obtain ⟨b1, o1, ba, bc, ma, mc, rfl, -, hb1, c0, c1, c2, he⟩ := vls_at g2 (i := 0) (by rw [hv]; simp)
  have ev : f.vs[0]'(by rw [hv]; simp) = v := by simp [hv]
  rw [ev] at c2 he
  obtain ⟨_, _, ma', mc', e1, -, g4, -⟩ := val_open he
  simp only [List.cons.injEq, Value.slice.injEq, true_and, and_true] at e1
  obtain ⟨-, rfl, rfl⟩ := e1
  obtain ⟨b2, o2, ds, e2, -, hb2, hl2, hm2, hc2⟩ := RowM.at g4 (by decide) (i := 0) (by rw [hm]; simp)
  have em : v.ms[0]'(by rw [hm]; simp) = m := by simp [hm]
  rw [em] at hm2
  subst e2
  have HM := hid hm2
  obtain ⟨fa, fc, ua, uc, rfl, -⟩ := msg_openD HM.out
  have d0 := hc2 0 _ rfl
  have d1 := hc2 1 _ rfl
  simp only [Nat.zero_mul, Nat.add_zero] at c2 d0 d1
  have n1 : (0 : Int) < (f.vs.length : Int) := by rw [hv]; simp
  have n2 : (0 : Int) < (v.ms.length : Int) := by rw [hm]; simp
  clear h g1 g2 he g4 hm2 hc2 c0 c1 hv hm ev em
  go_enter Tryz.func44, Tryz.ntmps44
  go_wp2
  exact bodyPost_ret (v := .agg #[.slice fa m.fs.length fc, .slice ua m.us.length uc]) (by simp [results, Tryz.results44, go_sem]) rfl ⟨_, rfl, MsgE.kept HM.out (by exact blBy), by exact blBy⟩
theorem aroundT (d : Nat) (w : World) (Z : Nat → Prop) (cs : List Value) (m : CM) (n : Int) (h : MsgE w Z d cs m) (hn : I64 n) : Calls Tryz.prog 68 #[.int .i64 n, .agg cs.toArray] w fun e w' => ∃ es : List Value, e = .returned (.agg es.toArray) ∧ FmF d w' (fun b => Z b ∨ w.heap.size ≤ b) es ⟨n, [], [⟨0, [], [m]⟩]⟩ ∧ Below w.heap.size w w' := by
  have HM := hid h
  obtain ⟨fa, fc, ua, uc, rfl, -⟩ := msg_openD h
  clear h
  go_enter Tryz.func68, Tryz.ntmps68
  go_wp2
  refine bodyPost_ret (v := .agg #[.int .i64 n, .slice none 0 0, .slice (some ⟨w.heap.size + 1 + 1 + 1, 0, none⟩) 1 1]) (by simp [results, Tryz.results68, go_sem]) rfl ⟨[.int .i64 n, .slice none 0 0, .slice (some ⟨w.heap.size + 1 + 1 + 1, 0, none⟩) 1 1], rfl, ?_, by exact blBy⟩
  refine ⟨_, _, rfl, RowM.nil _ _ _ _, ?_, hn⟩
  refine rowOne (t := 39) (cs := [.int .u64 0, .slice none 0 0, .slice (some ⟨w.heap.size + 1 + 1, 0, none⟩) 1 1]) ?_ rfl (Or.inr (by omega)) (Blk.newAt (by simp))
  refine ⟨_, _, rfl, ⟨rowS_nil _ _ 1, by simp, by simp⟩, rowOne (t := 29) (cs := [.slice fa m.fs.length fc, .slice ua m.us.length uc]) ?_ rfl (Or.inr (by omega)) ((Blk.newAt (by simp)).kept (below_alloc _)), ⟨by simp, by simp⟩⟩
  exact MsgE.go (keepT (by exact blBy)) (fun _ _ => trivial) (fun _ h => Or.inl h) d _ _ HM.out
end Go.Proofs.YtmiemocdjkeefaaGreatDoor
namespace Go.Proofs.YtmiemocdjkeefaaGreatDoor
open Go.RowKit
set_option maxRecDepth 1000000
set_option linter.unusedVariables false
set_option linter.unusedSimpArgs false
set_option maxHeartbeats 600000
def wthM (x : CF CM) : CM := match x.vs with
  | v :: _ => (match v.ms with | m :: _ => m | [] => CM.mk [] [])
  | [] => CM.mk [] []
def intoM : List Int → CM → CM
  | [], m => m
  | n :: r, m => match m.fs.find? (isN n) with
    | none => CM.mk [] []
    | some x => intoM r (wthM x)
/-- What a way goes through has messages within. -/
def PthOk : List Int → CM → Prop
  | [], _ => True
  | n :: r, m => ∀ x, m.fs.find? (isN n) = some x → (∃ v vs z zs, x.vs = v :: vs ∧ v.ms = z :: zs) ∧ PthOk r (wthM x)
theorem intoFn (w : World) (Z : Nat → Prop) (d : Nat) (cs : List Value) (x : CF CM) (h : FmF d w Z cs x) (p : Nat) (n : Int) (hp : Blk w p 3 #[.int .i64 n]) : Calls Tryz.prog 43 #[.agg cs.toArray, .pointer (some ⟨p, 0, none⟩)] w fun e w' => e = .returned (.bool (isN n x)) ∧ Below w.heap.size w w' := by
  obtain ⟨ka, kc, va, vc, rfl, -⟩ := fld_open h
  have xp := hp.cellF
  have zp := hp.lt
  clear h hp
  go_enter Tryz.func43, Tryz.ntmps43
  go_wp2
  go_ret
  exact ⟨ret_bool (by unfold isN; by_cases q : x.num = n <;> simp [q]), by exact blBy⟩
theorem cfInto (args : Array Value) (W : World) : (callFunc 43 args).run Tryz.prog W = .ok (.enter 43 args) W := cf_enter Tryz.func43 (by kernel_rfl) (by kernel_rfl) args W
theorem intoT (w : World) (ws : List Int) (wa : Option Addr) (wc : Nat) (hw : RowS w AnyZ 1 (.slice wa ws.length wc) ws.length (ws.flatMap cI64)) (Z : Nat → Prop) (d : Nat) (cs : List Value) (m0 : CM) (hm : MsgE w Z (d + 1) cs m0) (hp : PthOk ws m0) : Calls Tryz.prog 25 #[.slice wa ws.length wc, .agg cs.toArray] w fun e w' => ∃ ds : List Value, e = .returned (.agg ds.toArray) ∧ MsgE w' Z (d + 1) ds (intoM ws m0) ∧ Below w.heap.size w w' := by
  obtain ⟨_, _, e, hn⟩ := rowS_sl hw
  clear e
  have n63 : (ws.length : Int) ≤ 9223372036854775807 := by omega
  have HW := hid hw
  obtain ⟨fa, fc, ua, uc, rfl, -⟩ := msg_openD hm
  replace hm := (famM (d + 1)).old hm
  obtain ⟨Y, eY⟩ : ∃ Y : Nat → Prop, Y = fun b => Z b ∧ b < w.heap.size := ⟨_, rfl⟩
  rw [← eY] at hm
  have HY : Hid (∀ b, Y b → Z b ∧ b < w.heap.size) := hid (fun b hb => by rw [eY] at hb; exact hb)
  clear eY
  have HM0 := hid (MsgE.kept hm (below_alloc (w := w) (.cells #[.slice fa m0.fs.length fc, .slice ua m0.us.length uc] 29)))
  have HST : Hid (PthOk (ws.drop 0) m0 ∧ intoM ws m0 = intoM (ws.drop 0) m0) := hid ⟨hp, rfl⟩
  clear hw hm hp hn
  go_enter Tryz.func25, Tryz.ntmps25
  go_wp2
  go_loopw [10] (fun r wr => ∃ (j : Nat) (m : CM) (fa : Option Addr) (fc : Nat) (ua : Option Addr) (uc : Nat), r = .int .i64 j ∧ j ≤ ws.length ∧ Hid (PthOk (ws.drop j) m ∧ intoM ws m0 = intoM (ws.drop j) m) ∧ Hid (MsgE wr Y (d + 1) [.slice fa m.fs.length fc, .slice ua m.us.length uc] m) ∧ Hid (Blk wr w.heap.size 29 #[.slice fa m.fs.length fc, .slice ua m.us.length uc]) ∧ Hid (Blk wr (w.heap.size + 1) 29 #[.slice none 0 0, .slice none 0 0]) ∧ Hid (Below w.heap.size w wr)) (fun r wr => ws.length - numAt wr r)
  case atStart => exact ⟨0, m0, fa, fc, ua, uc, rfl, by omega, HST, hid (MsgE.kept HM0.out (below_alloc _)), hid ((Blk.new _ _ _).kept (below_alloc _)), hid (Blk.newAt (by simp)), hid (by exact blBy)⟩
  case round =>
    clear HM0 HST
    obtain ⟨j, m, fa, fc, ua, uc, rfl, hj, HP, HM, BM, BR, hb⟩ := hrel
    have xm := BM.out.cellF
    have zm := BM.out.lt
    have ym := BM.out.frz
    have xr := BR.out.cellF
    have zr := BR.out.lt
    have yr := BR.out.frz
    by_cases hlt : j < ws.length
    · have j1 : (j : Int) < (ws.length : Int) := by omega
      obtain ⟨pb, po, epb, hc⟩ := rowAt (g := cI64) (fun _ => rfl) (HW.out.kept hb.out) (i := j) (x := ws[j]) (by simp [hlt])
      have c0 := hc 0 _ rfl
      clear hc
      subst epb
      simp only [Nat.mul_one, Nat.add_zero] at c0
      have hpb : pb < wr.heap.size := World.block_lt_of_cell? _ _ c0
      have HPJ : Hid ((∀ x, m.fs.find? (isN ws[j]) = some x → (∃ v vs z zs, x.vs = v :: vs ∧ v.ms = z :: zs) ∧ PthOk (ws.drop (j + 1)) (wthM x)) ∧ intoM ws m0 = (match m.fs.find? (isN ws[j]) with
        | none => CM.mk [] []
        | some x => intoM (ws.drop (j + 1)) (wthM x))) := hid (by
        have := HP.out
        rw [List.drop_eq_getElem_cons hlt] at this
        exact this)
      clear HP
      generalize ws[j] = n at *
      obtain ⟨_, _, _, _, e1, hfs, -, -, -⟩ := msg_open HM.out
      simp only [List.cons.injEq, Value.slice.injEq] at e1
      obtain ⟨⟨rfl, -, rfl⟩, -⟩ := e1
      have HFS := hid hfs
      clear hfs
      have HI := hid fun W (hW : Below wr.heap.size wr W) (p : Nat) (hp : Blk W p 3 #[.int .i64 n]) => idxFld W Y d m.fs fa fc (HFS.out.kept hW) 43 #[.pointer (some ⟨p, 0, none⟩)] cfInto (isN n) (fun W' hW' cs x _ hx => intoFn W' Y d cs x hx p n (hp.kept hW'))
      go_wp2_with fail
      refine (HI.out _ (by exact blBy) wr.heap.size (Blk.new _ _ _)).mono ?_
      rintro e w1 ⟨rfl, hb1⟩
      replace hb1 : Hid (Below wr.heap.size wr w1) := hid (below_trans (below_alloc _) hb1)
      have BM1 := hid (BM.out.kept hb1.out)
      have BR1 := hid (BR.out.kept hb1.out)
      have HF1 := hid (HFS.out.kept hb1.out)
      have HBB : Hid (Below w.heap.size w w1) := hid (bl_then hb.out hb1.out)
      clear xm zm ym xr zr yr BM BR HI HFS
      have xm := BM1.out.cellF
      have zm := BM1.out.lt
      have ym := BM1.out.frz
      have xr := BR1.out.cellF
      have zr := BR1.out.lt
      have yr := BR1.out.frz
      rcases fnd_find (isN n) m.fs 0 with ⟨hq, hf⟩ | ⟨k, hk, hq, hf⟩
      · rw [fnd_ge _ _ 0 hq]
        rw [hf] at HPJ
        have HR : Hid (intoM ws m0 = CM.mk [] []) := hid HPJ.out.2
        clear hq hf HPJ
        go_wp2
        exact bodyPost_ret (v := .agg #[.slice none 0 0, .slice none 0 0]) (by simp [results, Tryz.results25, go_sem, xr, zr, yr]) rfl ⟨[.slice none 0 0, .slice none 0 0], rfl, by rw [HR.out]; exact ⟨_, _, rfl, RowM.nil _ _ _ _, RowM.nil _ _ _ _⟩, by have := HBB.out; exact blBy⟩
      · rw [hq]
        simp only [Nat.zero_add]
        rw [hf] at HPJ
        have HPX := hid (HPJ.out.1 _ rfl)
        have HR : Hid (intoM ws m0 = intoM (ws.drop (j + 1)) (wthM m.fs[k])) := hid HPJ.out.2
        have r1 : ((k : Int) < 0) = False := eq_false (by omega)
        have r2 : (k : Int) < (m.fs.length : Int) := by omega
        obtain ⟨fb, fo, ka, kc, va, vc, efa, -, hfb, d0, d1, d2, hfe⟩ := fls_at HF1.out hk
        subst efa
        have HFE := hid hfe
        clear hq hf HPJ hfe
        replace hk := hid hk
        generalize m.fs[k]'hk.out = x at *
        obtain ⟨v, vs, z, zs, ev, ez⟩ := HPX.out.1
        have HWT := hid (fun W (hW : Below w1.heap.size w1 W) => withinT d W Y _ x (FldE.kept HFE.out hW) v vs ev z zs ez)
        have EZ : Hid (wthM x = z) := hid (by unfold wthM; rw [ev]; dsimp only; rw [ez])
        rw [EZ.out] at HPX HR
        clear ev ez EZ
        go_wp2_with fail
        refine (HWT.out _ (by first | exact Below.refl _ _ | exact blBy)).mono ?_
        rintro e w2 ⟨ds, rfl, hds, hb2⟩
        obtain ⟨fa2, fc2, ua2, uc2, rfl, -⟩ := msg_openD hds
        have BM2 := hid (BM1.out.kept hb2)
        have BR2 := hid (BR1.out.kept hb2)
        have HB2 : Hid (Below w.heap.size w w2) := hid (bl_then HBB.out hb2)
        have HM2 : Hid (MsgE ((w2.setCell ⟨w.heap.size, 0, none⟩ (.slice fa2 z.fs.length fc2)).setCell ⟨w.heap.size, 1, none⟩ (.slice ua2 z.us.length uc2)) Y (d + 1) [.slice fa2 z.fs.length fc2, .slice ua2 z.us.length uc2] z) := hid (MsgE.more _ _ _ (MsgE.go ((Keep.setCell (f := (· < w.heap.size)) _ _ _ (by simp)).trans (Keep.setCell _ _ _ (by simp))) (fun k hk => (HY.out k hk).2) (fun _ h => h) _ _ _ hds))
        have HPN : Hid (PthOk (ws.drop (j + 1)) z ∧ intoM ws m0 = intoM (ws.drop (j + 1)) z) := hid ⟨HPX.out.2, HR.out⟩
        clear hb2 hds HPX HR xm zm ym xr zr yr BM1 BR1 HBB HWT HF1 HFE HM
        have xm := BM2.out.cellF
        have zm := BM2.out.lt
        have ym := BM2.out.frz
        go_wp2
        exact ⟨⟨j + 1, z, fa2, fc2, ua2, uc2, by simp, by omega, HPN, HM2, hid ((BM2.out.set 0 _).set 1 _), hid ((BR2.out.oth).oth), hid (by have := HB2.out; exact blBy)⟩, by simp [numAt]; omega⟩
    · have j1 : ¬ (j : Int) < (ws.length : Int) := by omega
      have HR : Hid (intoM ws m0 = m) := hid (by
        rw [HP.out.2, List.drop_of_length_le (by omega)]
        rfl)
      have HMZ : Hid (∀ W, Keep (· < w.heap.size) wr W → MsgE W Z (d + 1) [.slice fa m.fs.length fc, .slice ua m.us.length uc] m) := hid (fun W hW => MsgE.go hW (fun k hk => (HY.out k hk).2) (fun k hk => (HY.out k hk).1) _ _ _ HM.out)
      go_wp2
      exact bodyPost_ret (v := .agg #[.slice fa m.fs.length fc, .slice ua m.us.length uc]) (by simp [results, Tryz.results25, go_sem, xr, zr, yr]) rfl ⟨[.slice fa m.fs.length fc, .slice ua m.us.length uc], rfl, by rw [HR.out]; exact HMZ.out _ ((Keep.setCell _ _ _ (by simp)).trans (Keep.setCell _ _ _ (by simp))), by have := hb.out; exact blBy⟩
end Go.Proofs.YtmiemocdjkeefaaGreatDoor
namespace Go.Proofs.YtmiemocdjkeefaaGreatDoor
open Go.RowKit
set_option maxRecDepth 1000000
set_option linter.unusedVariables false
set_option linter.unusedSimpArgs false
set_option maxHeartbeats 600000
theorem riseOneW {fs : List FT} (h : Rise fs) {a b : FT} (ha : a ∈ fs) (hb : b ∈ fs) (e : a.num = b.num) : a = b := by
  obtain ⟨i, hi, rfl⟩ := List.mem_iff_getElem.1 ha
  obtain ⟨j, hj, rfl⟩ := List.mem_iff_getElem.1 hb
  rcases Nat.lt_trichotomy i j with q | q | q
  · have := h i j q hj hi; omega
  · subst q; rfl
  · have := h j i q hi hj; omega
theorem way_ne {l : List TV} : ∀ (n : Nat) (fs : List FT) (p ws : List Int), wayM l n fs p = some ws → ws ≠ []
  | 0, _, _, _, h => by cases h
  | n + 1, fs, p, ws, h => by
    rw [wayM] at h
    split at h
    · cases h
    · split at h
      · split at h
        · obtain ⟨r, _, rfl⟩ := Option.map_eq_some_iff.1 h
          simp
        · cases h
      · cases h; simp
theorem kept_shape {l : List TV} {d : Nat} {x : TV} {m : CM} (h : keptB l (d + 1) x m = true) {f : CF CM} (hf : f ∈ m.fs) : shapeB (ownF x.t.fs f.num).lab f = true := by
  have h1 := (kept_all h).1
  unfold holdB at h1
  simp only [Bool.and_eq_true, List.all_eq_true] at h1
  have h2 := h1.2.1 f hf
  unfold typB8 fieldB at h2
  simp only [Bool.and_eq_true, List.all_eq_true] at h2
  exact h2.2.1
theorem kept_way {l : List TV} (hg : goodB l = true) {d : Nat} {x : TV} (hx : x ∈ l) {m : CM} (h : keptB l (d + 1) x m = true) {f : FT} (hf : f ∈ x.t.fs) (hw : isWyB f = true) {y : CF CM} (hy : m.fs.find? (isN f.num) = some y) : ∃ v z t, y.vs = [v] ∧ v.ms = [z] ∧ l[f.ref.toNat]? = some t ∧ t ∈ l ∧ keptB l d t z = true := by
  have hm := List.mem_of_find?_eq_some hy
  have hn : y.num = f.num := by have := List.find?_some hy; unfold isN at this; exact of_decide_eq_true this
  unfold isWyB at hw
  simp only [Bool.and_eq_true, decide_eq_true_eq] at hw
  obtain ⟨k1, k2, k3⟩ := kept_ms h hm
  have ho := ownF_hasF k1
  have eo : ownF x.t.fs y.num = f := riseOneW (good_rise hg hx).1 ho.1 hf (by rw [ho.2, hn])
  have hs := kept_shape h hm
  rw [eo, hw.1] at hs
  unfold shapeB at hs
  rw [if_neg (by decide), if_neg (by decide)] at hs
  simp only [Bool.and_eq_true, decide_eq_true_eq] at hs
  obtain ⟨v, ev⟩ : ∃ v, y.vs = [v] := by
    match y.vs, hs.2 with
    | [v], _ => exact ⟨v, rfl⟩
  obtain ⟨z, ez⟩ := (k3 v (by rw [ev]; simp)).2 (by rw [eo]; exact hw.2)
  obtain ⟨r0, r1⟩ := good_refs hg hx hf
  have et : l[f.ref.toNat]? = some l[f.ref.toNat] := List.getElem?_eq_getElem r1
  refine ⟨v, z, l[f.ref.toNat], ev, ez, et, List.getElem_mem r1, ?_⟩
  have := (kept_all h).2 y hm z (by unfold allM; simp [ev, ez])
  unfold blwB at this
  rw [eo, et] at this
  exact this
theorem RowM.eachW {α : Type} {w : World} {Z : Nat → Prop} {k : Nat} {E : List Value → α → Prop} {v : Value} {xs : List α} (h : RowM w Z k E v xs) : ∀ x ∈ xs, ∃ cs, E cs x := by
  intro x hx
  obtain ⟨ts, _, hl, _, he⟩ := h
  obtain ⟨i, hi, rfl⟩ := List.mem_iff_getElem.1 hx
  exact ⟨_, he i ts[i] xs[i] (by simp) (by simp)⟩
theorem msg_within {w : World} {Z : Nat → Prop} {d : Nat} {cs : List Value} {m : CM} (h : MsgE w Z (d + 1) cs m) {y : CF CM} (hy : y ∈ m.fs) {v : CV CM} (hv : v ∈ y.vs) {z : CM} (hz : z ∈ v.ms) : ∃ ds, MsgE w Z d ds z := by
  obtain ⟨_, _, _, h1, _⟩ := h
  obtain ⟨_, _, _, _, _, h2, _⟩ := RowM.eachW h1 y hy
  obtain ⟨_, _, _, _, _, h3, _⟩ := RowM.eachW h2 v hv
  exact RowM.eachW h3 z hz
theorem way_pth {l : List TV} (hg : goodB l = true) (w : World) (Z : Nat → Prop) : ∀ (n d : Nat) (x : TV) (m : CM) (p ws : List Int), x ∈ l → (∃ cs, MsgE w Z d cs m) → keptB l d x m = true → wayM l n x.t.fs p = some ws → PthOk ws.dropLast m
  | 0, _, _, _, _, _, _, _, _, h => by cases h
  | n + 1, d, x, m, p, ws, hx, hM, hk, h => by
    rw [wayM] at h
    split at h
    · cases h
    · rename_i f hf
      have hfm := List.mem_of_find?_eq_some hf
      split at h
      · split at h
        · rename_i hG hW
          obtain ⟨r, hr, rfl⟩ := Option.map_eq_some_iff.1 h
          have hne := way_ne _ _ _ _ hr
          rw [List.dropLast_cons_of_ne_nil hne]
          intro y hy
          cases d with
          | zero => obtain ⟨cs, hc⟩ := hM; exact hc.elim
          | succ d =>
            obtain ⟨v, z, t, ev, ez, et, htl, hkz⟩ := kept_way hg hx hk hfm hW hy
            refine ⟨⟨v, [], z, [], ev, ez⟩, ?_⟩
            have ew : wthM y = z := by unfold wthM; rw [ev]; dsimp only; rw [ez]
            rw [ew]
            rw [et] at hr
            obtain ⟨cs, hc⟩ := hM
            exact way_pth hg w Z n d t z _ _ htl (msg_within (v := v) hc (List.mem_of_find?_eq_some hy) (by rw [ev]; simp) (by rw [ez]; simp)) hkz hr
        · cases h
      · cases h; exact trivial
end Go.Proofs.YtmiemocdjkeefaaGreatDoor
