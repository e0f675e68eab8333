/-
  A message that comes in, opened.
  What stays of a typed message.
  What stays of a typed message: its lists; whether all stays.
  Whether a message is normal.
  Settle: what the program answers, at every depth.
  Settle: what the program answers.
  Settle: what the program answers.
  Settle.
  The messages of the examples, laid.
  The laws' first question: a number that fits, and one that does not.
  The document's Copy: an entry, a message of copied fields.
-/
import Derived.Test.YtpmpfcnmjdeoiaaGreatDoorCTY
import Derived.Test.YtpmpfcnmjdeoiaaGreatDoorCw8WP
import Derived.Test.YtpmpfcnmjdeoiaaGreatDoorCAJ
import Derived.Deep.RegionHeld3
import Derived.Test.YtpmpfcnmjdeoiaaGreatDoorCAB
import Derived.Test.YtpmpfcnmjdeoiaaGreatDoorCBA
namespace Go.Proofs.YtpmpfcnmjdeoiaaGreatDoor
open Go.ChangeShapes Go.WideShapes Go.ChangeAt Go.RowKit Go.Deep
set_option maxRecDepth 1000000
set_option linter.unusedVariables false
set_option linter.unusedSimpArgs false
set_option maxHeartbeats 1000000
theorem fieldsMM : ∃ f0 f1, Tryz.prog.underlying 35 = some (.struct #[f0, f1]) ∧ oneCellFields Tryz.prog #[f0, f1] = true ∧ Tryz.prog.cellsOf 35 = 2 ∧ f0.type = 32 ∧ f1.type = 33 :=
  ⟨_, _, Tryz.underlying35, by kernel_rfl, by kernel_rfl, by kernel_rfl, by kernel_rfl⟩
theorem fieldsMF : ∃ f0 f1 f2, Tryz.prog.underlying 29 = some (.struct #[f0, f1, f2]) ∧ oneCellFields Tryz.prog #[f0, f1, f2] = true ∧ Tryz.prog.cellsOf 29 = 3 ∧ f0.type = 3 ∧ f1.type = 27 ∧ f2.type = 27 :=
  ⟨_, _, _, Tryz.underlying29, by kernel_rfl, by kernel_rfl, by kernel_rfl, by kernel_rfl, by kernel_rfl⟩
theorem fieldsMV : ∃ f0 f1 f2, Tryz.prog.underlying 26 = some (.struct #[f0, f1, f2]) ∧ oneCellFields Tryz.prog #[f0, f1, f2] = true ∧ Tryz.prog.cellsOf 26 = 3 ∧ f0.type = 22 ∧ f1.type = 23 ∧ f2.type = 24 :=
  ⟨_, _, _, Tryz.underlying26, by kernel_rfl, by kernel_rfl, by kernel_rfl, by kernel_rfl, by kernel_rfl⟩
theorem fieldsME : ∃ f0 f1 f2 f3, Tryz.prog.underlying 40 = some (.struct #[f0, f1, f2, f3]) ∧ oneCellFields Tryz.prog #[f0, f1, f2, f3] = true ∧ Tryz.prog.cellsOf 40 = 4 ∧ f0.type = 3 ∧ f1.type = 3 ∧ f2.type = 22 ∧ f3.type = 23 :=
  ⟨_, _, _, _, Tryz.underlying40, by kernel_rfl, by kernel_rfl, by kernel_rfl, by kernel_rfl, by kernel_rfl, by kernel_rfl⟩
section
variable {H : Type} {enc : TypeId × Value → H} {W : World} {spare : Nat → Bool} {held : Bool}
theorem u64_open {n : Nat} {v : Value} {y : DataW H × List MemPlace} (h : DataW.trod enc Tryz.prog W 0 spare held n 22 [v] = some y) : ∃ x : Int, v = .int .u64 x ∧ U64 x := by
  obtain ⟨x, e, rfl, hs⟩ := DataW.trod_int Tryz.underlying22 h
  simp at e
  subst e
  refine ⟨x, rfl, ?_⟩
  unfold U64
  simp [Lit.wf, IntKind.min, IntKind.max, IntKind.signed, IntKind.bits] at hs
  omega
theorem u8_open (n : Nat) (cs : List Value) (y : DataW H × List MemPlace) (h : DataW.trod enc Tryz.prog W 0 spare held n 5 cs = some y) : ∃ x : Int, cs = [.int .u8 x] ∧ (0 ≤ x ∧ x ≤ 255) := by
  obtain ⟨x, e, rfl, hs⟩ := DataW.trod_int Tryz.underlying5 h
  subst e
  refine ⟨x, rfl, ?_⟩
  simp [Lit.wf, IntKind.min, IntKind.max, IntKind.signed, IntKind.bits] at hs
  omega
theorem flat_one {α β : Type} (f : α → β) : ∀ l : List α, l.flatMap (fun x => [f x]) = l.map f
  | [] => rfl
  | x :: l => by rw [List.flatMap_cons, List.map_cons, flat_one f l]; rfl
theorem by_open {n : Nat} {v : Value} {y : DataW H × List MemPlace} (h : DataW.trod enc Tryz.prog W 0 spare held n 23 [v] = some y) (hb : Rows.uptoBulk y.1 ≤ 4000000) : ∃ b : List Int, ByE W AnyZ v b := by
  obtain ⟨a, c, xs, rfl, r, hl, q⟩ := rows_open (fun x : Int => [Value.int .u8 x]) 1 (by decide) (fun x _ => 0 ≤ x ∧ x ≤ 255) Tryz.underlying23 (by kernel_rfl) (fun _ => rfl) u8_open h
  rw [flat_one] at r
  exact ⟨xs, r, fun x hx => by obtain ⟨d, hd, _⟩ := q x hx; exact hd, by omega⟩
theorem rowM_open {α : Type} (x0 : α) (E : List Value → α → Prop) (K : Nat) (hK0 : 0 < K) (N : Nat) (hN : N ≤ 4000000) {t e : TypeId} (ht : Tryz.prog.underlying t = some (.slice e)) (hK : Tryz.prog.cellsOf e = K) (hlen : ∀ (n : Nat) (cs : List Value) (y : DataW H × List MemPlace), DataW.trod enc Tryz.prog W 0 spare held n e cs = some y → cs.length = K)
    (hel : ∀ (n : Nat) (cs : List Value) (y : DataW H × List MemPlace), DataW.trod enc Tryz.prog W 0 spare held n e cs = some y → Rows.uptoBulk y.1 ≤ N → ∃ x, E cs x) {n : Nat} {v : Value} {y : DataW H × List MemPlace} (hf : DataW.trod enc Tryz.prog W 0 spare held n t [v] = some y) (hb : Rows.uptoBulk y.1 ≤ N) : ∃ xs : List α, RowM W AnyZ K E v xs := by
  obtain ⟨a, c, xs, rfl, r, hl, q⟩ := rows_open (α := {p : List Value × α // p.1.length = K}) (fun p => p.1.1) K hK0 (fun p d => Rows.uptoBulk d ≤ N → E p.1.1 p.1.2) ht hK (fun p => p.2) (fun n cs y h => by
    by_cases hb : Rows.uptoBulk y.1 ≤ N
    · obtain ⟨x, hx⟩ := hel n cs y h hb
      exact ⟨⟨(cs, x), hlen n cs y h⟩, rfl, fun _ => hx⟩
    · exact ⟨⟨(cs, x0), hlen n cs y h⟩, rfl, fun g => absurd g hb⟩) hf
  refine ⟨xs.map (fun p => p.1.2), xs.map (fun p => (⟨p.1.1, p.2⟩ : Tup K)), ?_, by simp, by simp; omega, fun i t x h1 h2 => ?_⟩
  · rw [List.length_map, List.flatMap_map]
    exact r
  · rw [List.getElem?_map] at h1 h2
    cases hp : xs[i]? with
    | none => rw [hp] at h1; cases h1
    | some p =>
      rw [hp] at h1 h2
      simp only [Option.map_some, Option.some.injEq] at h1 h2
      subst h1 h2
      obtain ⟨d, hd, hdb⟩ := q p (List.mem_of_getElem? hp)
      exact hd (by omega)
theorem enB_len (n : Nat) (cs : List Value) (y : DataW H × List MemPlace) (h : DataW.trod enc Tryz.prog W 0 spare held n 40 cs = some y) : cs.length = 4 := by
  obtain ⟨f0, f1, f2, f3, hs, hone, hsz, -⟩ := fieldsME
  obtain ⟨xs, m, hy, hxl, hcl, hi⟩ := struct_open hs hone hsz h
  exact hcl
theorem vlB_len (n : Nat) (cs : List Value) (y : DataW H × List MemPlace) (h : DataW.trod enc Tryz.prog W 0 spare held n 26 cs = some y) : cs.length = 3 := by
  obtain ⟨f0, f1, f2, hs, hone, hsz, -⟩ := fieldsMV
  obtain ⟨xs, m, hy, hxl, hcl, hi⟩ := struct_open hs hone hsz h
  exact hcl
theorem flB_len (n : Nat) (cs : List Value) (y : DataW H × List MemPlace) (h : DataW.trod enc Tryz.prog W 0 spare held n 29 cs = some y) : cs.length = 3 := by
  obtain ⟨f0, f1, f2, hs, hone, hsz, -⟩ := fieldsMF
  obtain ⟨xs, m, hy, hxl, hcl, hi⟩ := struct_open hs hone hsz h
  exact hcl
theorem mgB_len (n : Nat) (cs : List Value) (y : DataW H × List MemPlace) (h : DataW.trod enc Tryz.prog W 0 spare held n 35 cs = some y) : cs.length = 2 := by
  obtain ⟨f0, f1, hs, hone, hsz, -⟩ := fieldsMM
  obtain ⟨xs, m, hy, hxl, hcl, hi⟩ := struct_open hs hone hsz h
  exact hcl
theorem en_open (N : Nat) (hN : N ≤ 4000000) (n : Nat) (cs : List Value) (y : DataW H × List MemPlace) (h : DataW.trod enc Tryz.prog W 0 spare held n 40 cs = some y) (hb : Rows.uptoBulk y.1 ≤ N) : ∃ x : CE, EntE W AnyZ cs x := by
  obtain ⟨f0, f1, f2, f3, hs, hone, hsz, t0, t1, t2, t3⟩ := fieldsME
  obtain ⟨xs, m, hy, hxl, hcl, hi⟩ := struct_open hs hone hsz h
  obtain ⟨v0, y0, c0, x0, h0⟩ := hi 0 f0 rfl
  obtain ⟨v1, y1, c1, x1, h1⟩ := hi 1 f1 rfl
  obtain ⟨v2, y2, c2, x2, h2⟩ := hi 2 f2 rfl
  obtain ⟨v3, y3, c3, x3, h3⟩ := hi 3 f3 rfl
  rw [t0] at h0
  rw [t1] at h1
  rw [t2] at h2
  rw [t3] at h3
  have b3 := bulk_get x3
  rw [← hy] at b3
  obtain ⟨a0, rfl, k0⟩ := int_open h0
  obtain ⟨a1, rfl, k1⟩ := int_open h1
  obtain ⟨a2, rfl, k2⟩ := u64_open h2
  obtain ⟨a3, k3⟩ := by_open h3 (by omega)
  refine ⟨⟨a0, a1, a2, a3⟩, v3, list_eq _ (by rw [hcl]; rfl) fun i v hv => ?_, k3, k0, k1, k2⟩
  match i, hv with
  | 0, hv => simp at hv; subst hv; exact c0
  | 1, hv => simp at hv; subst hv; exact c1
  | 2, hv => simp at hv; subst hv; exact c2
  | 3, hv => simp at hv; subst hv; exact c3
  | i + 4, hv => simp at hv
theorem vl_open (R : List Value → CM → Prop) (N : Nat) (hN : N ≤ 4000000) (IH : ∀ (n : Nat) (cs : List Value) (y : DataW H × List MemPlace), DataW.trod enc Tryz.prog W 0 spare held n 35 cs = some y → Rows.uptoBulk y.1 ≤ N → ∃ m, R cs m) (n : Nat) (cs : List Value) (y : DataW H × List MemPlace) (h : DataW.trod enc Tryz.prog W 0 spare held n 26 cs = some y) (hb : Rows.uptoBulk y.1 ≤ N) : ∃ x : CV CM, ValE W AnyZ R cs x := by
  obtain ⟨f0, f1, f2, hs, hone, hsz, t0, t1, t2⟩ := fieldsMV
  obtain ⟨xs, m, hy, hxl, hcl, hi⟩ := struct_open hs hone hsz h
  obtain ⟨v0, y0, c0, x0, h0⟩ := hi 0 f0 rfl
  obtain ⟨v1, y1, c1, x1, h1⟩ := hi 1 f1 rfl
  obtain ⟨v2, y2, c2, x2, h2⟩ := hi 2 f2 rfl
  rw [t0] at h0
  rw [t1] at h1
  rw [t2] at h2
  have b1 := bulk_get x1
  have b2 := bulk_get x2
  rw [← hy] at b1 b2
  obtain ⟨a0, rfl, k0⟩ := u64_open h0
  obtain ⟨a1, k1⟩ := by_open h1 (by omega)
  obtain ⟨a2, k2⟩ := rowM_open (CM.mk [] []) R 2 (by decide) N hN Tryz.underlying24 (by kernel_rfl) mgB_len IH h2 (by omega)
  refine ⟨⟨a0, a1, a2⟩, v1, v2, list_eq _ (by rw [hcl]; rfl) fun i v hv => ?_, k1, k2, k0⟩
  match i, hv with
  | 0, hv => simp at hv; subst hv; exact c0
  | 1, hv => simp at hv; subst hv; exact c1
  | 2, hv => simp at hv; subst hv; exact c2
  | i + 3, hv => simp at hv
theorem fl_open (R : List Value → CM → Prop) (N : Nat) (hN : N ≤ 4000000) (IH : ∀ (n : Nat) (cs : List Value) (y : DataW H × List MemPlace), DataW.trod enc Tryz.prog W 0 spare held n 35 cs = some y → Rows.uptoBulk y.1 ≤ N → ∃ m, R cs m) (n : Nat) (cs : List Value) (y : DataW H × List MemPlace) (h : DataW.trod enc Tryz.prog W 0 spare held n 29 cs = some y) (hb : Rows.uptoBulk y.1 ≤ N) : ∃ x : CF CM, FldE W AnyZ R cs x := by
  obtain ⟨f0, f1, f2, hs, hone, hsz, t0, t1, t2⟩ := fieldsMF
  obtain ⟨xs, m, hy, hxl, hcl, hi⟩ := struct_open hs hone hsz h
  obtain ⟨v0, y0, c0, x0, h0⟩ := hi 0 f0 rfl
  obtain ⟨v1, y1, c1, x1, h1⟩ := hi 1 f1 rfl
  obtain ⟨v2, y2, c2, x2, h2⟩ := hi 2 f2 rfl
  rw [t0] at h0
  rw [t1] at h1
  rw [t2] at h2
  have b1 := bulk_get x1
  have b2 := bulk_get x2
  rw [← hy] at b1 b2
  obtain ⟨a0, rfl, k0⟩ := int_open h0
  obtain ⟨a1, k1⟩ := rowM_open (⟨0, [], []⟩ : CV CM) (ValE W AnyZ R) 3 (by decide) N hN Tryz.underlying27 (by kernel_rfl) vlB_len (vl_open R N hN IH) h1 (by omega)
  obtain ⟨a2, k2⟩ := rowM_open (⟨0, [], []⟩ : CV CM) (ValE W AnyZ R) 3 (by decide) N hN Tryz.underlying27 (by kernel_rfl) vlB_len (vl_open R N hN IH) h2 (by omega)
  refine ⟨⟨a0, a1, a2⟩, v1, v2, list_eq _ (by rw [hcl]; rfl) fun i v hv => ?_, k1, k2, k0⟩
  match i, hv with
  | 0, hv => simp at hv; subst hv; exact c0
  | 1, hv => simp at hv; subst hv; exact c1
  | 2, hv => simp at hv; subst hv; exact c2
  | i + 3, hv => simp at hv
/-- A message that comes in, so great at most, lies as it should, so deep at most. -/
theorem mg_open : ∀ (N : Nat), N ≤ 4000000 → ∀ (n : Nat) (cs : List Value) (y : DataW H × List MemPlace), DataW.trod enc Tryz.prog W 0 spare held n 35 cs = some y → Rows.uptoBulk y.1 ≤ N → ∃ m, MsgE W AnyZ N cs m
  | 0, _, n, cs, y, h, hb => absurd (bulk_one y.1) (by omega)
  | N + 1, hN, n, cs, y, h, hb => by
    obtain ⟨f0, f1, hs, hone, hsz, t0, t1⟩ := fieldsMM
    obtain ⟨xs, m, hy, hxl, hcl, hi⟩ := struct_open hs hone hsz h
    obtain ⟨v0, y0, c0, x0, h0⟩ := hi 0 f0 rfl
    obtain ⟨v1, y1, c1, x1, h1⟩ := hi 1 f1 rfl
    rw [t0] at h0
    rw [t1] at h1
    have b0 := bulk_get x0
    have b1 := bulk_get x1
    rw [← hy] at b0 b1
    obtain ⟨a0, k0⟩ := rowM_open (⟨0, [], []⟩ : CF CM) (FldE W AnyZ (MsgE W AnyZ N)) 3 (by decide) N (by omega) Tryz.underlying32 (by kernel_rfl) flB_len (fl_open _ N (by omega) (mg_open N (by omega))) h0 (by omega)
    obtain ⟨a1, k1⟩ := rowM_open (⟨0, 0, 0, []⟩ : CE) (EntE W AnyZ) 4 (by decide) N (by omega) Tryz.underlying33 (by kernel_rfl) enB_len (en_open N (by omega)) h1 (by omega)
    refine ⟨CM.mk a0 a1, v0, v1, list_eq _ (by rw [hcl]; rfl) fun i v hv => ?_, k0, k1⟩
    match i, hv with
    | 0, hv => simp at hv; subst hv; exact c0
    | 1, hv => simp at hv; subst hv; exact c1
    | i + 2, hv => simp at hv
end
end Go.Proofs.YtpmpfcnmjdeoiaaGreatDoor
namespace Go.Proofs.YtpmpfcnmjdeoiaaGreatDoor
open Go.RowKit
set_option maxRecDepth 1000000
set_option linter.unusedVariables false
set_option linter.unusedSimpArgs false
set_option maxHeartbeats 1000000
end Go.Proofs.YtpmpfcnmjdeoiaaGreatDoor
namespace Go.Proofs.YtpmpfcnmjdeoiaaGreatDoor
open Go.RowKit
set_option maxRecDepth 1000000
set_option linter.unusedVariables false
set_option linter.unusedSimpArgs false
set_option maxHeartbeats 1000000
end Go.Proofs.YtpmpfcnmjdeoiaaGreatDoor
namespace Go.Proofs.YtpmpfcnmjdeoiaaGreatDoor
open Go.RowKit
set_option maxRecDepth 1000000
set_option linter.unusedVariables false
set_option linter.unusedSimpArgs false
set_option maxHeartbeats 1000000
end Go.Proofs.YtpmpfcnmjdeoiaaGreatDoor
namespace Go.Proofs.YtpmpfcnmjdeoiaaGreatDoor
open Go.RowKit
set_option maxRecDepth 1000000
set_option linter.unusedVariables false
set_option linter.unusedSimpArgs false
set_option maxHeartbeats 2000000
/-- What the closures share: a type, what stays, what is below. -/
structure SeB (l : List TV) (ta : Option Addr) (tc : Nat) (w : World) (y : TV) (p4 p6 p7 : Nat) : Prop where
  k : Blk w p4 71 (cTV y).toArray
  s : Blk w p6 77 #[.func (.func 38) #[] #[]]
  b : Blk w p7 78 #[.func (.func 39) #[.agg #[.slice ta l.length tc]] #[]]
theorem SeB.kept {l : List TV} {ta : Option Addr} {tc : Nat} {w w' : World} {y : TV} {p4 p6 p7 : Nat} (h : SeB l ta tc w y p4 p6 p7) (hb : Below w.heap.size w w') : SeB l ta tc w' y p4 p6 p7 := ⟨h.k.kept hb, h.s.kept hb, h.b.kept hb⟩
end Go.Proofs.YtpmpfcnmjdeoiaaGreatDoor
namespace Go.Proofs.YtpmpfcnmjdeoiaaGreatDoor
open Go.RowKit
set_option maxRecDepth 1000000
set_option linter.unusedVariables false
set_option linter.unusedSimpArgs false
set_option maxHeartbeats 2000000
end Go.Proofs.YtpmpfcnmjdeoiaaGreatDoor
namespace Go.Proofs.YtpmpfcnmjdeoiaaGreatDoor
open Go.RowKit
set_option maxRecDepth 1000000
set_option linter.unusedVariables false
set_option linter.unusedSimpArgs false
set_option maxHeartbeats 2000000
end Go.Proofs.YtpmpfcnmjdeoiaaGreatDoor
namespace Go.Proofs.YtpmpfcnmjdeoiaaGreatDoor
open Go.RowKit
set_option maxRecDepth 1000000
set_option linter.unusedVariables false
set_option linter.unusedSimpArgs false
set_option maxHeartbeats 2000000
end Go.Proofs.YtpmpfcnmjdeoiaaGreatDoor
namespace Go.Proofs.YtpmpfcnmjdeoiaaGreatDoor
open Go.RowKit
set_option maxRecDepth 1000000
set_option linter.unusedVariables false
set_option linter.unusedSimpArgs false
set_option maxHeartbeats 1000000
theorem rowM_blk {α : Type} {W : World} {E : List Value → α → Prop} {k p : Nat} {t : TypeId} (ts : List (Tup k)) (xs : List α) (hl : ts.length = xs.length) (hn : xs.length ≤ 4000000) {cs : Array Value} (B : Blk W p t cs) (hc : cs = (ts.flatMap Subtype.val).toArray) (he : ∀ (i : Nat) (t : Tup k) (x : α), ts[i]? = some t → xs[i]? = some x → E t.1 x) : RowM W AnyZ k E (.slice (some ⟨p, 0, none⟩) xs.length xs.length) xs :=
  ⟨ts, rowOf B k xs.length _ hc (by rw [← hl]; exact flatM_len (fun x => x.2) ts) (by omega), hl, hn, he⟩
theorem rowM_one {α : Type} {W : World} {E : List Value → α → Prop} {k p : Nat} {t : TypeId} {cs : List Value} {x : α} (B : Blk W p t cs.toArray) (hk : cs.length = k) (he : E cs x) : RowM W AnyZ k E (.slice (some ⟨p, 0, none⟩) 1 1) [x] :=
  rowM_blk [⟨cs, hk⟩] [x] rfl (by simp) B (by simp) (fun i t y h1 h2 => by
    cases i with
    | zero => simp at h1 h2; subst h1 h2; exact he
    | succ i => simp at h1)
theorem by_nil (W : World) (Z : Nat → Prop) : ByE W Z (.slice none 0 0) [] := ⟨rowS_nil _ _ _, by simp, by simp⟩
theorem val_num (W : World) (Z : Nat → Prop) (R : List Value → CM → Prop) (n : Int) (hn : U64 n) : ValE W Z R [.int .u64 n, .slice none 0 0, .slice none 0 0] ⟨n, [], []⟩ := ⟨_, _, rfl, by_nil W Z, RowM.nil _ _ _ _, hn⟩
/-- A field of one number. -/
def nF (k n : Int) : CF CM := ⟨k, [], [⟨n, [], []⟩]⟩
theorem nW (w : World) (k v : Int) (hk : I64 k) (n : Int) (hv : (IntKind.u64.wrap v) = n) (hn : U64 n) (d : Nat) : Calls Tryz.prog 12 #[.int .i64 k, .int .i64 v] w fun e w' => ∃ cs : List Value, e = .returned (.agg cs.toArray) ∧ cs.length = 3 ∧ FldE w' AnyZ (MsgE w' AnyZ d) cs (nF k n) ∧ Below w.heap.size w w' := by
  go_enter Tryz.func12, Tryz.ntmps12
  go_wp2
  have B : Blk ((w.alloc (.cells #[.int .i64 k, .slice none 0 0, .slice (some ⟨w.heap.size + 1, 0, none⟩) 1 1] 29)).alloc (.cells #[.int .u64 n, .slice none 0 0, .slice none 0 0] 26)) (w.heap.size + 1) 26 #[.int .u64 n, .slice none 0 0, .slice none 0 0] := Blk.newAt (by simp)
  exact bodyPost_ret (v := .agg #[.int .i64 k, .slice none 0 0, .slice (some ⟨w.heap.size + 1, 0, none⟩) 1 1]) (by simp [results, Tryz.results12, go_sem]) rfl ⟨[.int .i64 k, .slice none 0 0, .slice (some ⟨w.heap.size + 1, 0, none⟩) 1 1], rfl, rfl, ⟨_, _, rfl, RowM.nil _ _ _ _, rowM_one (cs := [.int .u64 n, .slice none 0 0, .slice none 0 0]) B rfl (val_num _ _ _ n hn), hk⟩, by exact blBy⟩
theorem MsgE.any {w : World} {Z : Nat → Prop} {d : Nat} {cs : List Value} {m : CM} (h : MsgE w Z d cs m) : MsgE w AnyZ d cs m := MsgE.go (Keep.refl (fun _ => True) w) (fun _ _ => trivial) (fun _ _ => trivial) d _ _ h
theorem msgW (w : World) (a : Option Addr) (n c : Nat) : Calls Tryz.prog 11 #[.slice a n c] w fun e w' => e = .returned (.agg #[.slice a n c, .slice none 0 0]) ∧ Below w.heap.size w w' := by
  go_enter Tryz.func11, Tryz.ntmps11
  go_wp2
  exact bodyPost_ret (v := .agg #[.slice a n c, .slice none 0 0]) (by simp [results, Tryz.results11, go_sem]) rfl ⟨rfl, by exact blBy⟩
theorem typedLW (w : World) (mx : Int) (hm0 : w.cell? ⟨0, 0, none⟩ = some (.int .i64 mx)) (Z : Nat → Prop) (d : Nat) (cs : List Value) (m : CM) (hm : MsgE w Z d cs m) (is want : Bool) (hi : ∀ h, keptB (simL h) d (simM h) m = is) : Calls Tryz.prog 10 #[.agg cs.toArray, .bool want] w fun e w' => e = .returned (.bool (is == want)) ∧ Below w.heap.size w w' := by
  have HT : Hid (∀ (W : World) (h : Nat) (a : Option Addr), Below w.heap.size w W → TbR W (.slice a (simL h).length 2) (simL h) → Calls Tryz.prog 19 #[.agg #[.slice a (simL h).length 2], .int .i64 1, .agg cs.toArray] W fun e w' => e = .returned (.tuple #[.bool is, .int .i64 0]) ∧ Below W.heap.size W w') := hid fun W h a hW hT => by
    have := typedT W (simL h) a 2 hT (simOk h) mx (cell_below hm0 hW) 1 (by show 1 < 2; decide) (simGood h) rfl Z d cs m (hm.kept hW)
    rw [show keptB (simL h) d ((simL h)[1]'(by show 1 < 2; decide)) m = is from hi h] at this
    exact this
  obtain ⟨fa, fc, ua, uc, rfl, -⟩ := msg_openD hm
  clear hm hm0 hi
  go_enter Tryz.func10, Tryz.ntmps10
  go_upto_region 1 with fail
  have Bm : Blk (w.alloc (.cells #[.slice fa m.fs.length fc, .slice ua m.us.length uc] 35)) w.heap.size 35 #[.slice fa m.fs.length fc, .slice ua m.us.length uc] := Blk.new _ _ _
  have HB : Hid (Below w.heap.size w (w.alloc (.cells #[.slice fa m.fs.length fc, .slice ua m.us.length uc] 35))) := hid (by exact blBy)
  generalize (w.alloc (.cells #[.slice fa m.fs.length fc, .slice ua m.us.length uc] 35)) = W at *
  have f0 : W.cell? ⟨w.heap.size, 0, none⟩ = some (.slice fa m.fs.length fc) := Bm.cell 0 _ rfl
  have f1 : W.cell? ⟨w.heap.size, 1, none⟩ = some (.slice ua m.us.length uc) := Bm.cell 1 _ rfl
  clear Bm
  go_region_held3 (fun W => W.cell? ⟨w.heap.size, 0, none⟩ = some (.slice fa m.fs.length fc) ∧ W.cell? ⟨w.heap.size, 1, none⟩ = some (.slice ua m.us.length uc)) (exact ⟨f0, f1⟩) (first | (go_at_call 16; refine (simpleW _).mono ?_; rintro e w2 ⟨rfl, ht, hbx⟩; replace f0 := cell_below f0 (below_trans (by first | exact Below.refl _ _ | exact below_drew1 _ | exact below_drewN _ _) hbx); replace f1 := cell_below f1 (below_trans (by first | exact Below.refl _ _ | exact below_drew1 _ | exact below_drewN _ _) hbx); replace HB := hid (below_trans HB.out (below_trans (by first | exact Below.refl _ _ | exact below_drew1 _ | exact below_drewN _ _) hbx)); have HT1 := hid ht; clear ht hbx) | (go_at_call 19; refine (HT.out _ _ _ (by have := HB.out; exact blBy) (HT1.out.kept (by first | exact Below.refl _ _ | exact below_drew1 _ | exact below_drewN _ _))).mono ?_; rintro e w3 ⟨rfl, hbx⟩; replace f0 := cell_below f0 (below_trans (by first | exact Below.refl _ _ | exact below_drew1 _ | exact below_drewN _ _) hbx); replace f1 := cell_below f1 (below_trans (by first | exact Below.refl _ _ | exact below_drew1 _ | exact below_drewN _ _) hbx); replace HB := hid (below_trans HB.out (below_trans (by first | exact Below.refl _ _ | exact below_drew1 _ | exact below_drewN _ _) hbx)); clear hbx))
  all_goals go_wp2
  all_goals (go_ret; exact ⟨ret_bool (by cases is <;> cases want <;> rfl), by have := HB.out; exact blBy⟩)
end Go.Proofs.YtpmpfcnmjdeoiaaGreatDoor
namespace Go.Proofs.YtpmpfcnmjdeoiaaGreatDoor
open Go.RowKit
set_option maxRecDepth 1000000
set_option linter.unusedVariables false
set_option linter.unusedSimpArgs false
set_option maxHeartbeats 2000000
theorem msgOne {W : World} {p d : Nat} {cs : List Value} {f : CF CM} (B : Blk W p 29 cs.toArray) (hf : FldE W AnyZ (MsgE W AnyZ d) cs f) (hl : cs.length = 3) : MsgE W AnyZ (d + 1) [.slice (some ⟨p, 0, none⟩) 1 1, .slice none 0 0] (CM.mk [f] []) := ⟨_, _, rfl, rowM_one B hl hf, RowM.nil _ _ _ _⟩
def m5 : CM := CM.mk [nF 1 5] []
def m6 : CM := CM.mk [nF 1 6] []
def m40 : CM := CM.mk [nF 1 1099511627776] []
theorem kept5 (h : Nat) : keptB (simL h) 1 (simM h) m5 = true := by kernel_rfl
theorem kept40 (h : Nat) : keptB (simL h) 1 (simM h) m40 = false := by kernel_rfl
theorem ne56 : ¬ m5 = m6 := by
  intro h
  simp [m5, m6, nF] at h
theorem EqR.val {w : World} {P : Prop} {e : Ending} {w' : World} (h : EqR w P e w') (b : Bool) (hb : b = true ↔ P) : e = .returned (.bool b) ∧ Below w.heap.size w w' := by
  obtain ⟨r, he, hr, hx⟩ := h
  have : r = b := by rw [Bool.eq_iff_iff, hr, hb]
  exact ⟨by rw [he, this], hx⟩
theorem awake8 (w : World) (mx : Int) (hm0 : w.cell? ⟨0, 0, none⟩ = some (.int .i64 mx)) : Calls Tryz.prog 9 #[] w fun e w' => e = .returned (.bool true) ∧ Below w.heap.size w w' := by
  have HM := hid hm0
  have i1 : I64 1 := by unfold I64; omega
  clear hm0
  go_enter Tryz.func9, Tryz.ntmps9
  go_wp2_with fail
  refine (nW _ 1 5 i1 5 rfl ⟨by decide, by decide⟩ 0).mono ?_
  rintro e w1 ⟨cs, rfl, hl, hf, hbx⟩
  have hb1 : Hid (Below w.heap.size w w1) := hid (bl_then (by exact blBy) hbx)
  obtain ⟨ka1, kc1, va1, vc1, rfl, -⟩ := fld_open hf
  have HF1 := hid hf
  clear hf hl hbx
  go_wp2_with fail
  refine (msgW _ _ _ _).mono ?_
  rintro e w2 ⟨rfl, hbx⟩
  have hb2 : Hid (Below w.heap.size w w2) := hid (bl_then (by have := hb1.out; exact blBy) hbx)
  have HG2 := hid (msgOne ((Blk.new w1 29 _).kept hbx) (HF1.out.kept (bl_then (below_alloc _) hbx)) rfl)
  clear hbx
  go_wp2_with fail
  refine (typedLW _ mx (cell_below HM.out (by have := hb2.out; exact blBy)) AnyZ 1 _ _ HG2.out true true kept5).mono ?_
  rintro e w3 ⟨rfl, hbx⟩
  have hb3 : Hid (Below w.heap.size w w3) := hid (bl_then (by have := hb2.out; exact blBy) hbx)
  clear hbx
  go_wp2_with fail
  refine (nW _ 1 1099511627776 i1 1099511627776 rfl ⟨by decide, by decide⟩ 0).mono ?_
  rintro e w4 ⟨cs, rfl, hl, hf, hbx⟩
  have hb4 : Hid (Below w.heap.size w w4) := hid (bl_then (by have := hb3.out; exact blBy) hbx)
  obtain ⟨ka4, kc4, va4, vc4, rfl, -⟩ := fld_open hf
  have HF4 := hid hf
  clear hf hl hbx
  go_wp2_with fail
  refine (msgW _ _ _ _).mono ?_
  rintro e w5 ⟨rfl, hbx⟩
  have hb5 : Hid (Below w.heap.size w w5) := hid (bl_then (by have := hb4.out; exact blBy) hbx)
  have HG5 := hid (msgOne ((Blk.new w4 29 _).kept hbx) (HF4.out.kept (bl_then (below_alloc _) hbx)) rfl)
  clear hbx
  go_wp2_with fail
  refine (typedLW _ mx (cell_below HM.out (by have := hb5.out; exact blBy)) AnyZ 1 _ _ HG5.out false false kept40).mono ?_
  rintro e w6 ⟨rfl, hbx⟩
  have hb6 : Hid (Below w.heap.size w w6) := hid (bl_then (by have := hb5.out; exact blBy) hbx)
  clear hbx
  go_wp2_with fail
  refine (nW _ 1 5 i1 5 rfl ⟨by decide, by decide⟩ 0).mono ?_
  rintro e w7 ⟨cs, rfl, hl, hf, hbx⟩
  have hb7 : Hid (Below w.heap.size w w7) := hid (bl_then (by have := hb6.out; exact blBy) hbx)
  obtain ⟨ka7, kc7, va7, vc7, rfl, -⟩ := fld_open hf
  have HF7 := hid hf
  clear hf hl hbx
  go_wp2_with fail
  refine (msgW _ _ _ _).mono ?_
  rintro e w8 ⟨rfl, hbx⟩
  have hb8 : Hid (Below w.heap.size w w8) := hid (bl_then (by have := hb7.out; exact blBy) hbx)
  have HG8 := hid (msgOne ((Blk.new w7 29 _).kept hbx) (HF7.out.kept (bl_then (below_alloc _) hbx)) rfl)
  clear hbx
  go_wp2_with fail
  refine (nW _ 1 5 i1 5 rfl ⟨by decide, by decide⟩ 0).mono ?_
  rintro e w9 ⟨cs, rfl, hl, hf, hbx⟩
  have hb9 : Hid (Below w.heap.size w w9) := hid (bl_then (by have := hb8.out; exact blBy) hbx)
  replace HG8 := hid (HG8.out.kept (bl_then (by exact blBy) hbx))
  obtain ⟨ka9, kc9, va9, vc9, rfl, -⟩ := fld_open hf
  have HF9 := hid hf
  clear hf hl hbx
  go_wp2_with fail
  refine (msgW _ _ _ _).mono ?_
  rintro e w10 ⟨rfl, hbx⟩
  have hb10 : Hid (Below w.heap.size w w10) := hid (bl_then (by have := hb9.out; exact blBy) hbx)
  replace HG8 := hid (HG8.out.kept (bl_then (by exact blBy) hbx))
  have HG10 := hid (msgOne ((Blk.new w9 29 _).kept hbx) (HF9.out.kept (bl_then (below_alloc _) hbx)) rfl)
  clear hbx
  go_wp2_with fail
  refine ((equalT 1 _ AnyZ AnyZ _ _ _ _ HG8.out HG10.out)).mono ?_
  rintro e w11 he
  have hb11 : Hid (Below w.heap.size w w11) := hid (bl_then (by have := hb10.out; exact blBy) (EqR.val he true ⟨fun _ => rfl, fun _ => rfl⟩).2)
  obtain ⟨rfl, hbx⟩ := EqR.val he true ⟨fun _ => rfl, fun _ => rfl⟩
  clear he hbx
  go_wp2_with fail
  refine (nW _ 1 5 i1 5 rfl ⟨by decide, by decide⟩ 0).mono ?_
  rintro e w12 ⟨cs, rfl, hl, hf, hbx⟩
  have hb12 : Hid (Below w.heap.size w w12) := hid (bl_then (by have := hb11.out; exact blBy) hbx)
  obtain ⟨ka12, kc12, va12, vc12, rfl, -⟩ := fld_open hf
  have HF12 := hid hf
  clear hf hl hbx
  go_wp2_with fail
  refine (msgW _ _ _ _).mono ?_
  rintro e w13 ⟨rfl, hbx⟩
  have hb13 : Hid (Below w.heap.size w w13) := hid (bl_then (by have := hb12.out; exact blBy) hbx)
  have HG13 := hid (msgOne ((Blk.new w12 29 _).kept hbx) (HF12.out.kept (bl_then (below_alloc _) hbx)) rfl)
  clear hbx
  go_wp2_with fail
  refine (nW _ 1 6 i1 6 rfl ⟨by decide, by decide⟩ 0).mono ?_
  rintro e w14 ⟨cs, rfl, hl, hf, hbx⟩
  have hb14 : Hid (Below w.heap.size w w14) := hid (bl_then (by have := hb13.out; exact blBy) hbx)
  replace HG13 := hid (HG13.out.kept (bl_then (by exact blBy) hbx))
  obtain ⟨ka14, kc14, va14, vc14, rfl, -⟩ := fld_open hf
  have HF14 := hid hf
  clear hf hl hbx
  go_wp2_with fail
  refine (msgW _ _ _ _).mono ?_
  rintro e w15 ⟨rfl, hbx⟩
  have hb15 : Hid (Below w.heap.size w w15) := hid (bl_then (by have := hb14.out; exact blBy) hbx)
  replace HG13 := hid (HG13.out.kept (bl_then (by exact blBy) hbx))
  have HG15 := hid (msgOne ((Blk.new w14 29 _).kept hbx) (HF14.out.kept (bl_then (below_alloc _) hbx)) rfl)
  clear hbx
  go_wp2_with fail
  refine ((equalT 1 _ AnyZ AnyZ _ _ _ _ HG13.out HG15.out)).mono ?_
  rintro e w16 he
  have hb16 : Hid (Below w.heap.size w w16) := hid (bl_then (by have := hb15.out; exact blBy) (EqR.val he false ⟨fun h => absurd h (by decide), fun h => absurd h ne56⟩).2)
  obtain ⟨rfl, hbx⟩ := EqR.val he false ⟨fun h => absurd h (by decide), fun h => absurd h ne56⟩
  clear he hbx
  go_wp2
  go_ret
  exact ⟨rfl, hb16.out⟩
end Go.Proofs.YtpmpfcnmjdeoiaaGreatDoor
namespace Go.Proofs.YtpmpfcnmjdeoiaaGreatDoor
open Go.RowKit
set_option maxRecDepth 1000000
set_option linter.unusedVariables false
set_option linter.unusedSimpArgs false
set_option maxHeartbeats 2000000
/-- An append whose run is known, as one step of a region that draws its order. -/
theorem step_append_ran {P : Program} {ops : Array Oper} {o : Oper} {a : Act} {w : World} {K : Act → World → Prop} {Q : Exit → Act → World → Prop} {E : Prop}
    (hg : o.guard = none) (s x : Operand) (t ty : TypeId) (hop : o.op = Op.call { callee := Callee.builtin Builtin.append, args := #[s, x], argTypes := #[t, t] }) (hty : o.type = ty)
    (v xv v' : Value) (w' : World) (hs : a.eval s = v) (hx : a.eval x = xv) (hr : (Builtin.append_ #[t, t] ty #[v, xv]).run P w = .ok v' w') (hK : K (a.put o.dst v') w') :
    if Region.wanted o (yielded ops a.tmps) = true then Oper.wp P o a w K Q else E := by
  have hw : Region.wanted o (yielded ops a.tmps) = true := by simp [Region.wanted, hg]
  rw [if_pos hw]
  subst hty
  unfold Oper.wp
  simp [execOp, hop, resolve, invoke, builtin, hs, hx, hr, Result.andThen]
  exact hK
theorem OwnM.keepB {α : Type} {w w' : World} {base : Nat} {t : TypeId} {k : Nat} {E : World → (Nat → Prop) → List Value → α → Prop} (F : Fam k E) {v : Value} {xs : List α} (h : OwnM w base t k E v xs) (g : Keep (base ≤ ·) w w') : OwnM w' base t k E v xs := by
  obtain ⟨ts, h1, h2, h3⟩ := h
  exact ⟨ts, own_keep h1 (fun q hq => (own_type h1 hq).1) g, h2, fun i t x ht hx => F.go (h3 i t x ht hx) g (fun b hz => hz.1) (fun b hz => ⟨hz.1, Nat.lt_of_lt_of_le hz.2.1 g.size, hz.2.2⟩)⟩
theorem copyEntryD (w : World) (Z : Nat → Prop) (cs : List Value) (x : CE) (h : EntE w Z cs x) : Calls Tryz.prog 74 #[.agg cs.toArray] w (NewE FmE w x) := by
  obtain ⟨ba, bc, rfl, g, l1, u⟩ := ent_open h
  have HU := hid u
  obtain ⟨a', c', w', hr, h1, h2⟩ := appendBy (g.kept (show Below w.heap.size w ((w.alloc (.cells #[.int .i64 x.num, .int .i64 x.kind, .int .u64 x.n, .slice ba x.b.length bc] 40)).alloc (.cells #[.int .i64 0, .int .i64 0, .int .u64 0, .slice none 0 0] 40)) from by exact blBy))
  have Bx : Blk ((w.alloc (.cells #[.int .i64 x.num, .int .i64 x.kind, .int .u64 x.n, .slice ba x.b.length bc] 40)).alloc (.cells #[.int .i64 0, .int .i64 0, .int .u64 0, .slice none 0 0] 40)) w.heap.size 40 #[.int .i64 x.num, .int .i64 x.kind, .int .u64 x.n, .slice ba x.b.length bc] := (Blk.new _ _ _).kept (below_alloc _)
  have Br : Blk ((w.alloc (.cells #[.int .i64 x.num, .int .i64 x.kind, .int .u64 x.n, .slice ba x.b.length bc] 40)).alloc (.cells #[.int .i64 0, .int .i64 0, .int .u64 0, .slice none 0 0] 40)) (w.heap.size + 1) 40 #[.int .i64 0, .int .i64 0, .int .u64 0, .slice none 0 0] := Blk.newAt (by simp)
  have HR := hid hr
  have H1 : Hid (ByE w' (w.heap.size + 2 ≤ ·) (.slice a' x.b.length c') x.b) := hid (h1.weak (fun k hk => by simpa using hk))
  have HB : Hid (Below w.heap.size w w') := hid (bl_then (by exact blBy) h2)
  replace Bx := Bx.kept h2
  replace Br := Br.kept h2
  have xx := Bx.cellF
  have yx := Bx.frz
  have zx := Bx.lt
  have xr := Br.cellF
  have yr := Br.frz
  have zr := Br.lt
  clear h hr h1 h2 g u
  go_enter Tryz.func74, Tryz.ntmps74
  go_wp2_with (first | (at_builtin; refine wpList_append_ran rfl _ _ 23 23 rfl rfl _ _ (.slice a' x.b.length c') w' rfl rfl HR.out ?_))
  exact bodyPost_ret (v := .agg #[.int .i64 x.num, .int .i64 x.kind, .int .u64 x.n, .slice a' x.b.length c']) (by simp [results, Tryz.results74, go_sem, xr, zr, yr, xx, yx, zx]) rfl (NewE.mk [.int .i64 x.num, .int .i64 x.kind, .int .u64 x.n, .slice a' x.b.length c'] ⟨_, rfl, (H1.out.keep (f := (w.heap.size + 2 ≤ ·)) (by with_reducible repeat (first | exact Keep.refl _ _ | refine kpS ?_ (by first | (simp; done) | (simp; omega) | omega) | refine kpA ?_ _ | refine kpD ?_ | refine kpN ?_ _)) (fun _ h => h)).weak (fun k hk => by omega), HU.out⟩ (by have := HB.out; exact blBy))
end Go.Proofs.YtpmpfcnmjdeoiaaGreatDoor
