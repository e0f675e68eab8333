/-
  Messages: what they hold, and how they lie in memory.
  The symbols of an enum.
-/
import Derived.Test.YtnfdlnelfnigdaaGreatDoorCTG
import Derived.Deep.CutRange
namespace Go.Proofs.YtnfdlnelfnigdaaGreatDoor
open Go.RowKit
set_option maxRecDepth 1000000
set_option linter.unusedVariables false
set_option linter.unusedSimpArgs false
set_option maxHeartbeats 1000000
/-- An entry. -/
structure CE where
  num : Int
  kind : Int
  n : Int
  b : List Int
/-- A value, of whatever messages. -/
structure CV (M : Type) where
  n : Int
  b : List Int
  ms : List M
/-- A field. -/
structure CF (M : Type) where
  num : Int
  ks : List (CV M)
  vs : List (CV M)
/-- A message. -/
inductive CM where
  | mk (fs : List (CF CM)) (us : List CE)
def CM.fs : CM → List (CF CM)
  | .mk fs _ => fs
def CM.us : CM → List CE
  | .mk _ us => us
theorem CM.eta (m : CM) : CM.mk m.fs m.us = m := by cases m; rfl
theorem CM.ext {a b : CM} (h : a.fs = b.fs) (g : a.us = b.us) : a = b := by rw [← CM.eta a, ← CM.eta b, h, g]
def U64 (n : Int) : Prop := 0 ≤ n ∧ n < 18446744073709551616
/-- The cells of one struct. -/
abbrev Tup (k : Nat) : Type := {cs : List Value // cs.length = k}
/-- A row of structs of k cells, each as E says. -/
def RowM {α : Type} (w : World) (Z : Nat → Prop) (k : Nat) (E : List Value → α → Prop) (v : Value) (xs : List α) : Prop :=
  ∃ ts : List (Tup k), RowS w Z k v xs.length (ts.flatMap Subtype.val) ∧ ts.length = xs.length ∧ xs.length ≤ 4000000 ∧ ∀ (i : Nat) (t : Tup k) (x : α), ts[i]? = some t → xs[i]? = some x → E t.1 x
theorem RowM.sl {α : Type} {w : World} {Z : Nat → Prop} {k : Nat} {E : List Value → α → Prop} {v : Value} {xs : List α} (h : RowM w Z k E v xs) : ∃ a c, v = .slice a xs.length c ∧ xs.length ≤ 4000000 := by
  obtain ⟨ts, hr, _, hn, _⟩ := h
  obtain ⟨a, c, e, _⟩ := rowS_sl hr
  exact ⟨a, c, e, hn⟩
theorem RowM.at {α : Type} {w : World} {Z : Nat → Prop} {k : Nat} {E : List Value → α → Prop} {a : Option Addr} {n c : Nat} {xs : List α} (h : RowM w Z k E (.slice a n c) xs) (hk : 0 < k) {i : Nat} (hi : i < xs.length) :
    ∃ b o cs, a = some ⟨b, o, none⟩ ∧ Z b ∧ b < w.heap.size ∧ cs.length = k ∧ E cs xs[i] ∧ ∀ j u, cs[j]? = some u → w.cell? ⟨b, o + i * k + j, none⟩ = some u := by
  obtain ⟨ts, hr, hl, hn4, he⟩ := h
  have hti : i < ts.length := by omega
  have hr' : RowS w Z k (.slice a n c) ts.length (ts.flatMap Subtype.val) := by rw [hl]; exact hr
  obtain ⟨b, o, e, hc⟩ := rowAt (g := Subtype.val) (fun x => x.2) hr' (i := i) (x := ts[i]) (List.getElem?_eq_getElem hti)
  have h0 : 0 < ts[i].1.length := by rw [ts[i].2]; exact hk
  refine ⟨b, o, ts[i].1, e, ?_, World.block_lt_of_cell? _ _ (hc 0 _ (List.getElem?_eq_getElem h0)), ts[i].2, he i _ _ (List.getElem?_eq_getElem hti) (List.getElem?_eq_getElem hi), hc⟩
  obtain ⟨_, _, e2, hv⟩ := hr
  cases e2
  rcases hv.cells with ⟨q, _⟩ | ⟨b2, o2, e3, hz, _⟩
  · omega
  · rw [e] at e3
    cases e3
    exact hz
theorem RowM.imp {α : Type} {w : World} {Z : Nat → Prop} {k : Nat} {E E' : List Value → α → Prop} {v : Value} {xs : List α} (h : RowM w Z k E v xs) (hi : ∀ cs x, x ∈ xs → E cs x → E' cs x) : RowM w Z k E' v xs := by
  obtain ⟨ts, hr, hl, hn, he⟩ := h
  exact ⟨ts, hr, hl, hn, fun i t x ht hx => hi _ _ (List.mem_of_getElem? hx) (he i t x ht hx)⟩
theorem RowM.keep {α : Type} {w w' : World} {Z f : Nat → Prop} {k : Nat} {E : List Value → α → Prop} {v : Value} {xs : List α} (h : RowM w Z k E v xs) (g : Keep f w w') (hf : ∀ k, Z k → f k) : RowM w' Z k E v xs := by
  obtain ⟨ts, hr, hl, he⟩ := h
  exact ⟨ts, hr.keep g hf, hl, he⟩
theorem RowM.weak {α : Type} {w : World} {Z Z' : Nat → Prop} {k : Nat} {E : List Value → α → Prop} {v : Value} {xs : List α} (h : RowM w Z k E v xs) (hz : ∀ k, Z k → Z' k) : RowM w Z' k E v xs := by
  obtain ⟨ts, hr, hl, he⟩ := h
  exact ⟨ts, hr.weak hz, hl, he⟩
theorem RowM.nil {α : Type} (w : World) (Z : Nat → Prop) (k : Nat) (E : List Value → α → Prop) : RowM w Z k E (.slice none 0 0) [] := ⟨[], rowS_nil w Z k, rfl, by simp, fun i t x ht => by simp at ht⟩
/-- Bytes. -/
def ByE (w : World) (Z : Nat → Prop) (v : Value) (b : List Int) : Prop := RowS w Z 1 v b.length (b.map (Value.int .u8)) ∧ (∀ x ∈ b, 0 ≤ x ∧ x ≤ 255) ∧ b.length ≤ 4000000
theorem ByE.keep {w w' : World} {Z f : Nat → Prop} {v : Value} {b : List Int} (h : ByE w Z v b) (g : Keep f w w') (hf : ∀ k, Z k → f k) : ByE w' Z v b := ⟨h.1.keep g hf, h.2⟩
theorem ByE.weak {w : World} {Z Z' : Nat → Prop} {v : Value} {b : List Int} (h : ByE w Z v b) (hz : ∀ k, Z k → Z' k) : ByE w Z' v b := ⟨h.1.weak hz, h.2⟩
theorem ByE.sl {w : World} {Z : Nat → Prop} {v : Value} {b : List Int} (h : ByE w Z v b) : ∃ a c, v = .slice a b.length c ∧ b.length ≤ 4000000 := by
  obtain ⟨a, c, e, _⟩ := rowS_sl h.1
  exact ⟨a, c, e, h.2.2⟩
/-- An entry's cells. -/
def EntE (w : World) (Z : Nat → Prop) (cs : List Value) (x : CE) : Prop := ∃ bv, cs = [.int .i64 x.num, .int .i64 x.kind, .int .u64 x.n, bv] ∧ ByE w Z bv x.b ∧ I64 x.num ∧ I64 x.kind ∧ U64 x.n
/-- A value's cells, where messages lie as R says. -/
def ValE (w : World) (Z : Nat → Prop) (R : List Value → CM → Prop) (cs : List Value) (x : CV CM) : Prop := ∃ bv mv, cs = [.int .u64 x.n, bv, mv] ∧ ByE w Z bv x.b ∧ RowM w Z 2 R mv x.ms ∧ U64 x.n
def FldE (w : World) (Z : Nat → Prop) (R : List Value → CM → Prop) (cs : List Value) (x : CF CM) : Prop := ∃ kv vv, cs = [.int .i64 x.num, kv, vv] ∧ RowM w Z 3 (ValE w Z R) kv x.ks ∧ RowM w Z 3 (ValE w Z R) vv x.vs ∧ I64 x.num
/-- A message's cells, so deep. -/
def MsgE (w : World) (Z : Nat → Prop) : Nat → List Value → CM → Prop
  | 0, _, _ => False
  | d + 1, cs, m => ∃ fv uv, cs = [fv, uv] ∧ RowM w Z 3 (FldE w Z (MsgE w Z d)) fv m.fs ∧ RowM w Z 4 (EntE w Z) uv m.us
theorem EntE.keep {w w' : World} {Z f : Nat → Prop} {cs : List Value} {x : CE} (h : EntE w Z cs x) (g : Keep f w w') (hf : ∀ k, Z k → f k) : EntE w' Z cs x := by
  obtain ⟨bv, e, h1, h2⟩ := h
  exact ⟨bv, e, h1.keep g hf, h2⟩
theorem EntE.weak {w : World} {Z Z' : Nat → Prop} {cs : List Value} {x : CE} (h : EntE w Z cs x) (hz : ∀ k, Z k → Z' k) : EntE w Z' cs x := by
  obtain ⟨bv, e, h1, h2⟩ := h
  exact ⟨bv, e, h1.weak hz, h2⟩
theorem ValE.go {w w' : World} {Z Z' f : Nat → Prop} {R R' : List Value → CM → Prop} {cs : List Value} {x : CV CM} (h : ValE w Z R cs x) (g : Keep f w w') (hf : ∀ k, Z k → f k) (hz : ∀ k, Z k → Z' k) (hR : ∀ cs m, m ∈ x.ms → R cs m → R' cs m) : ValE w' Z' R' cs x := by
  obtain ⟨bv, mv, e, h1, h2, h3⟩ := h
  exact ⟨bv, mv, e, (h1.keep g hf).weak hz, ((h2.keep g hf).weak hz).imp hR, h3⟩
theorem FldE.go {w w' : World} {Z Z' f : Nat → Prop} {R R' : List Value → CM → Prop} {cs : List Value} {x : CF CM} (h : FldE w Z R cs x) (g : Keep f w w') (hf : ∀ k, Z k → f k) (hz : ∀ k, Z k → Z' k) (hR : ∀ cs m, R cs m → R' cs m) : FldE w' Z' R' cs x := by
  obtain ⟨kv, vv, e, h1, h2, h3⟩ := h
  exact ⟨kv, vv, e, ((h1.keep g hf).weak hz).imp (fun cs v _ hv => hv.go g hf hz (fun cs m _ => hR cs m)), ((h2.keep g hf).weak hz).imp (fun cs v _ hv => hv.go g hf hz (fun cs m _ => hR cs m)), h3⟩
theorem MsgE.go {w w' : World} {Z Z' f : Nat → Prop} (g : Keep f w w') (hf : ∀ k, Z k → f k) (hz : ∀ k, Z k → Z' k) : ∀ (d : Nat) (cs : List Value) (m : CM), MsgE w Z d cs m → MsgE w' Z' d cs m
  | 0, _, _, h => h.elim
  | d + 1, cs, m, ⟨fv, uv, e, h1, h2⟩ => ⟨fv, uv, e, ((h1.keep g hf).weak hz).imp (fun cs x _ hx => hx.go g hf hz (MsgE.go g hf hz d)), ((h2.keep g hf).weak hz).imp (fun cs x _ hx => (hx.keep g hf).weak hz)⟩
theorem MsgE.more {w : World} {Z : Nat → Prop} : ∀ (d : Nat) (cs : List Value) (m : CM), MsgE w Z d cs m → MsgE w Z (d + 1) cs m
  | 0, _, _, h => h.elim
  | d + 1, cs, m, ⟨fv, uv, e, h1, h2⟩ => ⟨fv, uv, e, h1.imp (fun cs x _ hx => hx.go (Keep.refl Z w) (fun _ h => h) (fun _ h => h) (MsgE.more d)), h2⟩
theorem MsgE.le {w : World} {Z : Nat → Prop} {d e : Nat} (h : d ≤ e) {cs : List Value} {m : CM} (hm : MsgE w Z d cs m) : MsgE w Z e cs m := by
  induction e with
  | zero => rw [Nat.le_zero.1 h] at hm; exact hm
  | succ e ih =>
    by_cases q : d = e + 1
    · subst q; exact hm
    · exact MsgE.more e cs m (ih (by omega))
theorem keepT {w w' : World} (hb : Below w.heap.size w w') : Keep (fun _ => True) w w' := Keep.ofBelow hb
theorem MsgE.kept {w w' : World} {Z : Nat → Prop} {d : Nat} {cs : List Value} {m : CM} (h : MsgE w Z d cs m) (hb : Below w.heap.size w w') : MsgE w' Z d cs m := MsgE.go (keepT hb) (fun _ _ => trivial) (fun _ h => h) d cs m h
theorem FldE.kept {w w' : World} {Z : Nat → Prop} {d : Nat} {cs : List Value} {x : CF CM} (h : FldE w Z (MsgE w Z d) cs x) (hb : Below w.heap.size w w') : FldE w' Z (MsgE w' Z d) cs x := h.go (keepT hb) (fun _ _ => trivial) (fun _ h => h) (fun _ _ h => h.kept hb)
theorem ValE.kept {w w' : World} {Z : Nat → Prop} {d : Nat} {cs : List Value} {x : CV CM} (h : ValE w Z (MsgE w Z d) cs x) (hb : Below w.heap.size w w') : ValE w' Z (MsgE w' Z d) cs x := h.go (keepT hb) (fun _ _ => trivial) (fun _ h => h) (fun _ _ _ h => h.kept hb)
theorem EntE.kept {w w' : World} {Z : Nat → Prop} {cs : List Value} {x : CE} (h : EntE w Z cs x) (hb : Below w.heap.size w w') : EntE w' Z cs x := h.keep (keepT hb) (fun _ _ => trivial)
theorem ByE.kept {w w' : World} {Z : Nat → Prop} {v : Value} {b : List Int} (h : ByE w Z v b) (hb : Below w.heap.size w w') : ByE w' Z v b := h.keep (keepT hb) (fun _ _ => trivial)
/-- Rows of fields, values, messages, entries. -/
def FlsR (w : World) (Z : Nat → Prop) (d : Nat) (v : Value) (xs : List (CF CM)) : Prop := RowM w Z 3 (FldE w Z (MsgE w Z d)) v xs
def VlsR (w : World) (Z : Nat → Prop) (d : Nat) (v : Value) (xs : List (CV CM)) : Prop := RowM w Z 3 (ValE w Z (MsgE w Z d)) v xs
def MgsR (w : World) (Z : Nat → Prop) (d : Nat) (v : Value) (xs : List CM) : Prop := RowM w Z 2 (MsgE w Z d) v xs
def EnsR (w : World) (Z : Nat → Prop) (v : Value) (xs : List CE) : Prop := RowM w Z 4 (EntE w Z) v xs
theorem FlsR.kept {w w' : World} {Z : Nat → Prop} {d : Nat} {v : Value} {xs : List (CF CM)} (h : FlsR w Z d v xs) (hb : Below w.heap.size w w') : FlsR w' Z d v xs := (RowM.keep h (keepT hb) (fun _ _ => trivial)).imp (fun _ _ _ h => h.kept hb)
theorem VlsR.kept {w w' : World} {Z : Nat → Prop} {d : Nat} {v : Value} {xs : List (CV CM)} (h : VlsR w Z d v xs) (hb : Below w.heap.size w w') : VlsR w' Z d v xs := (RowM.keep h (keepT hb) (fun _ _ => trivial)).imp (fun _ _ _ h => h.kept hb)
theorem MgsR.kept {w w' : World} {Z : Nat → Prop} {d : Nat} {v : Value} {xs : List CM} (h : MgsR w Z d v xs) (hb : Below w.heap.size w w') : MgsR w' Z d v xs := (RowM.keep h (keepT hb) (fun _ _ => trivial)).imp (fun _ _ _ h => h.kept hb)
theorem EnsR.kept {w w' : World} {Z : Nat → Prop} {v : Value} {xs : List CE} (h : EnsR w Z v xs) (hb : Below w.heap.size w w') : EnsR w' Z v xs := (RowM.keep h (keepT hb) (fun _ _ => trivial)).imp (fun _ _ _ h => h.kept hb)
theorem msg_open {w : World} {Z : Nat → Prop} {d : Nat} {cs : List Value} {m : CM} (h : MsgE w Z (d + 1) cs m) : ∃ fa fc ua uc, cs = [.slice fa m.fs.length fc, .slice ua m.us.length uc] ∧ FlsR w Z d (.slice fa m.fs.length fc) m.fs ∧ EnsR w Z (.slice ua m.us.length uc) m.us ∧ m.fs.length ≤ 4000000 ∧ m.us.length ≤ 4000000 := by
  obtain ⟨fv, uv, e, h1, h2⟩ := h
  obtain ⟨fa, fc, rfl, l1⟩ := h1.sl
  obtain ⟨ua, uc, rfl, l2⟩ := h2.sl
  exact ⟨fa, fc, ua, uc, e, h1, h2, l1, l2⟩
theorem fld_open {w : World} {Z : Nat → Prop} {d : Nat} {cs : List Value} {x : CF CM} (h : FldE w Z (MsgE w Z d) cs x) : ∃ ka kc va vc, cs = [.int .i64 x.num, .slice ka x.ks.length kc, .slice va x.vs.length vc] ∧ VlsR w Z d (.slice ka x.ks.length kc) x.ks ∧ VlsR w Z d (.slice va x.vs.length vc) x.vs ∧ x.ks.length ≤ 4000000 ∧ x.vs.length ≤ 4000000 ∧ I64 x.num := by
  obtain ⟨kv, vv, e, h1, h2, h3⟩ := h
  obtain ⟨ka, kc, rfl, l1⟩ := h1.sl
  obtain ⟨va, vc, rfl, l2⟩ := h2.sl
  exact ⟨ka, kc, va, vc, e, h1, h2, l1, l2, h3⟩
theorem val_open {w : World} {Z : Nat → Prop} {d : Nat} {cs : List Value} {x : CV CM} (h : ValE w Z (MsgE w Z d) cs x) : ∃ ba bc ma mc, cs = [.int .u64 x.n, .slice ba x.b.length bc, .slice ma x.ms.length mc] ∧ ByE w Z (.slice ba x.b.length bc) x.b ∧ MgsR w Z d (.slice ma x.ms.length mc) x.ms ∧ x.b.length ≤ 4000000 ∧ x.ms.length ≤ 4000000 ∧ U64 x.n := by
  obtain ⟨bv, mv, e, h1, h2, h3⟩ := h
  obtain ⟨ba, bc, rfl, l1⟩ := h1.sl
  obtain ⟨ma, mc, rfl, l2⟩ := h2.sl
  exact ⟨ba, bc, ma, mc, e, h1, h2, l1, l2, h3⟩
theorem ent_open {w : World} {Z : Nat → Prop} {cs : List Value} {x : CE} (h : EntE w Z cs x) : ∃ ba bc, cs = [.int .i64 x.num, .int .i64 x.kind, .int .u64 x.n, .slice ba x.b.length bc] ∧ ByE w Z (.slice ba x.b.length bc) x.b ∧ x.b.length ≤ 4000000 ∧ I64 x.num ∧ I64 x.kind ∧ U64 x.n := by
  obtain ⟨bv, e, h1, h2⟩ := h
  obtain ⟨ba, bc, rfl, l1⟩ := h1.sl
  exact ⟨ba, bc, e, h1, l1, h2⟩
theorem fls_at {w : World} {Z : Nat → Prop} {d : Nat} {a : Option Addr} {n c : Nat} {xs : List (CF CM)} (h : FlsR w Z d (.slice a n c) xs) {i : Nat} (hi : i < xs.length) : ∃ b o ka kc va vc, a = some ⟨b, o, none⟩ ∧ Z b ∧ b < w.heap.size ∧ w.cell? ⟨b, o + i * 3, none⟩ = some (.int .i64 xs[i].num) ∧ w.cell? ⟨b, o + i * 3 + 1, none⟩ = some (.slice ka xs[i].ks.length kc) ∧ w.cell? ⟨b, o + i * 3 + 2, none⟩ = some (.slice va xs[i].vs.length vc) ∧ FldE w Z (MsgE w Z d) [.int .i64 xs[i].num, .slice ka xs[i].ks.length kc, .slice va xs[i].vs.length vc] xs[i] := by
  obtain ⟨b, o, cs, e, hz, hb, hl, he, hc⟩ := RowM.at h (by decide) hi
  obtain ⟨ka, kc, va, vc, rfl, _⟩ := fld_open he
  exact ⟨b, o, ka, kc, va, vc, e, hz, hb, hc 0 _ rfl, hc 1 _ rfl, hc 2 _ rfl, he⟩
theorem vls_at {w : World} {Z : Nat → Prop} {d : Nat} {a : Option Addr} {n c : Nat} {xs : List (CV CM)} (h : VlsR w Z d (.slice a n c) xs) {i : Nat} (hi : i < xs.length) : ∃ b o ba bc ma mc, a = some ⟨b, o, none⟩ ∧ Z b ∧ b < w.heap.size ∧ w.cell? ⟨b, o + i * 3, none⟩ = some (.int .u64 xs[i].n) ∧ w.cell? ⟨b, o + i * 3 + 1, none⟩ = some (.slice ba xs[i].b.length bc) ∧ w.cell? ⟨b, o + i * 3 + 2, none⟩ = some (.slice ma xs[i].ms.length mc) ∧ ValE w Z (MsgE w Z d) [.int .u64 xs[i].n, .slice ba xs[i].b.length bc, .slice ma xs[i].ms.length mc] xs[i] := by
  obtain ⟨b, o, cs, e, hz, hb, hl, he, hc⟩ := RowM.at h (by decide) hi
  obtain ⟨ka, kc, va, vc, rfl, _⟩ := val_open he
  exact ⟨b, o, ka, kc, va, vc, e, hz, hb, hc 0 _ rfl, hc 1 _ rfl, hc 2 _ rfl, he⟩
theorem mgs_at {w : World} {Z : Nat → Prop} {d : Nat} {a : Option Addr} {n c : Nat} {xs : List CM} (h : MgsR w Z (d + 1) (.slice a n c) xs) {i : Nat} (hi : i < xs.length) : ∃ b o fa fc ua uc, a = some ⟨b, o, none⟩ ∧ Z b ∧ b < w.heap.size ∧ w.cell? ⟨b, o + i * 2, none⟩ = some (.slice fa xs[i].fs.length fc) ∧ w.cell? ⟨b, o + i * 2 + 1, none⟩ = some (.slice ua xs[i].us.length uc) ∧ MsgE w Z (d + 1) [.slice fa xs[i].fs.length fc, .slice ua xs[i].us.length uc] xs[i] := by
  obtain ⟨b, o, cs, e, hz, hb, hl, he, hc⟩ := RowM.at h (by decide) hi
  obtain ⟨ka, kc, va, vc, rfl, _⟩ := msg_open he
  exact ⟨b, o, ka, kc, va, vc, e, hz, hb, hc 0 _ rfl, hc 1 _ rfl, he⟩
theorem mgs_zero {w : World} {Z : Nat → Prop} {v : Value} {xs : List CM} (h : MgsR w Z 0 v xs) : xs = [] := by
  cases xs with
  | nil => rfl
  | cons x r =>
    obtain ⟨a, c, rfl, _⟩ := RowM.sl h
    obtain ⟨b, o, cs, e, hz, hb, hl, he, hc⟩ := RowM.at h (by decide) (i := 0) (by simp)
    exact he.elim
theorem ens_at {w : World} {Z : Nat → Prop} {a : Option Addr} {n c : Nat} {xs : List CE} (h : EnsR w Z (.slice a n c) xs) {i : Nat} (hi : i < xs.length) : ∃ b o ba bc, a = some ⟨b, o, none⟩ ∧ Z b ∧ b < w.heap.size ∧ w.cell? ⟨b, o + i * 4, none⟩ = some (.int .i64 xs[i].num) ∧ w.cell? ⟨b, o + i * 4 + 1, none⟩ = some (.int .i64 xs[i].kind) ∧ w.cell? ⟨b, o + i * 4 + 2, none⟩ = some (.int .u64 xs[i].n) ∧ w.cell? ⟨b, o + i * 4 + 3, none⟩ = some (.slice ba xs[i].b.length bc) ∧ EntE w Z [.int .i64 xs[i].num, .int .i64 xs[i].kind, .int .u64 xs[i].n, .slice ba xs[i].b.length bc] xs[i] := by
  obtain ⟨b, o, cs, e, hz, hb, hl, he, hc⟩ := RowM.at h (by decide) hi
  obtain ⟨ba, bc, rfl, _⟩ := ent_open he
  exact ⟨b, o, ba, bc, e, hz, hb, hc 0 _ rfl, hc 1 _ rfl, hc 2 _ rfl, hc 3 _ rfl, he⟩
theorem grow_blk {w w' : World} {v v' : Value} {base e size n : Nat} {fl : List Value} (g : Grow w w' v v') (ho : w.ownsRow base e size v n fl) {p : Nat} {t : TypeId} {cs : Array Value} (h : Blk w p t cs) (hne : t ≠ e) : Blk w' p t cs := by
  refine h.keep (Keep.ofGrow (f := fun k => v.ownBlock ≠ some k) g (fun _ hk => hk)) ?_
  intro hk
  obtain ⟨_, _, cur, hc⟩ := own_type ho hk
  rw [show w.heap[p]? = _ from h] at hc
  cases hc
  exact hne rfl
theorem grow_own {w w' : World} {v v' u : Value} {base e e2 size s2 n m : Nat} {fl gl : List Value} (g : Grow w w' v v') (ho : w.ownsRow base e size v n fl) (h : w.ownsRow base e2 s2 u m gl) (hne : e ≠ e2) : w'.ownsRow base e2 s2 u m gl :=
  own_keep (f := fun k => v.ownBlock ≠ some k) h (fun k hk e2 => own_apart ho h hne e2 hk) (Keep.ofGrow g (fun _ hk => hk))
theorem grow_bel {w w' : World} {v v' : Value} {base e size n B : Nat} {fl : List Value} (g : Grow w w' v v') (ho : w.ownsRow base e size v n fl) (hB : B ≤ base) (hs : B ≤ w.heap.size) : Below B w w' := g.below hs (fun k hk => Nat.le_trans hB (own_type ho hk).1)
def symB (ss : List SY) : Bool := match ss with
  | [] => false
  | s :: r => decide ((s :: r).length ≤ 128) && (decide (s.num = 0) && ((s :: r).all (fun x => decide (0 ≤ x.num ∧ x.num ≤ 2147483647)) && (((s :: r).map SY.name).all nmB && (dfB (((s :: r).map SY.name).map litS) && dfB (((s :: r).map SY.num).map litI)))))
theorem symB_is {ss : List SY} (h : 0 < ss.length) : symB ss = (decide (ss.length ≤ 128) && (decide (ss[0].num = 0) && (ss.all (fun x => decide (0 ≤ x.num ∧ x.num ≤ 2147483647)) && ((ss.map SY.name).all nmB && (dfB ((ss.map SY.name).map litS) && dfB ((ss.map SY.num).map litI)))))) := by
  cases ss with
  | nil => simp at h
  | cons s r => rfl
theorem hasGoodSymbolsT (ss : List SY) (w : World) (a : Option Addr) (c : Nat) (h : RowS w AnyZ 2 (.slice a ss.length c) ss.length (ss.flatMap cSY)) (ht : ∀ x ∈ ss, TxA x.name ∧ I64 x.num) : Calls Tryz.prog 139 #[.slice a ss.length c] w fun e w' => e = .returned (.bool (symB ss)) ∧ Below w.heap.size w w' := by
  obtain ⟨_, _, e, hn⟩ := rowS_sl h
  clear e
  have h1 : (ss.length : Int) ≤ 9223372036854775807 := by omega
  have HR := hid h
  have HT := hid ht
  clear h ht
  by_cases hz : ss.length = 0
  case pos =>
    have e : ss = [] := List.eq_nil_of_length_eq_zero hz
    subst e
    clear HR HT
    go_enter Tryz.func139, Tryz.ntmps139
    go_wp2
    go_ret
    exact ⟨rfl, Below.refl _ _⟩
  have HX := hid (symB_is (ss := ss) (by omega))
  have kz : ((ss.length : Int) == 0) = false := by rw [beq_eq_false_iff_ne]; omega
  by_cases hbig : 128 < ss.length
  case pos =>
    have h2 : (128 : Int) < (ss.length : Int) := by omega
    replace HX := hid (show symB ss = false by rw [HX.out, show decide (ss.length ≤ 128) = false by simp; omega]; rfl)
    go_enter Tryz.func139, Tryz.ntmps139
    go_wp2
    go_ret
    exact ⟨ret_bool HX.out.symm, Below.refl _ _⟩
  have h2 : ¬ (128 : Int) < (ss.length : Int) := by omega
  have h3 : (0 : Int) < (ss.length : Int) := by omega
  obtain ⟨b, o, rfl, hbl, c0, c1⟩ := rowY HR.out (j := 0) (by omega)
  simp only [Nat.zero_mul, Nat.add_zero] at c0 c1
  by_cases h0 : ss[0].num = 0
  case neg =>
    have k0 : (ss[0].num != 0) = true := by simpa using h0
    replace HX := hid (show symB ss = false by rw [HX.out]; simp [h0])
    generalize ss[0] = x at *
    go_enter Tryz.func139, Tryz.ntmps139
    go_wp2
    go_ret
    exact ⟨ret_bool HX.out.symm, Below.refl _ _⟩
  have k0 : (ss[0].num != 0) = false := by simpa using h0
  have HD : Hid (decide (ss[0].num = 0) = true) := hid (by simpa using h0)
  have HL : Hid (decide (ss.length ≤ 128) = true) := hid (by simp; omega)
  replace h0 := hid h0
  replace HX := hid (show symB ss = (ss.all (fun x => decide (0 ≤ x.num ∧ x.num ≤ 2147483647)) && ((ss.map SY.name).all nmB && (dfB ((ss.map SY.name).map litS) && dfB ((ss.map SY.num).map litI)))) by rw [HX.out, HL.out, HD.out]; rfl)
  generalize ss[0] = x0 at *
  go_enter Tryz.func139, Tryz.ntmps139
  go_wp2
  clear c0 c1
  go_loopw [3, 4, 24] (fun v u r wr => ∃ (j : Nat) (va ua : Option Addr) (vc uc : Nat), v = .slice va j vc ∧ u = .slice ua j uc ∧ r = .int .i64 j ∧ j ≤ ss.length ∧ Hid ((ss.take j).all (fun x => decide (0 ≤ x.num ∧ x.num ≤ 2147483647)) = true) ∧ Hid (wr.ownsRow w.heap.size 9 1 (.slice va j vc) ((ss.take j).map SY.name).length (((ss.take j).map SY.name).flatMap cN)) ∧ Hid (wr.ownsRow w.heap.size 3 1 (.slice ua j uc) ((ss.take j).map SY.num).length (((ss.take j).map SY.num).flatMap cI64)) ∧ Hid (Below w.heap.size w wr)) (fun _ _ r wr => ss.length - numAt wr r)
  case atStart => exact ⟨0, none, none, 0, 0, rfl, rfl, rfl, by omega, hid rfl, hid (World.ownsRow_nil _ _ _ _), hid (World.ownsRow_nil _ _ _ _), hid (Below.refl _ _)⟩
  case round =>
    obtain ⟨j, va, ua, vc, uc, rfl, rfl, rfl, hj, hall, HV, HU, hb⟩ := hrel
    by_cases hlt : j < ss.length
    · have h4 : (j : Int) < (ss.length : Int) := by omega
      obtain ⟨b', o', e, hbl', c0, c1⟩ := rowY (HR.out.kept hb.out) hlt
      cases e
      have HTK : Hid (ss.take (j + 1) = ss.take j ++ [ss[j]]) := hid (List.take_succ_eq_append_getElem hlt)
      have HLN : Hid (((ss.take j).map SY.name).length = j ∧ ((ss.take j).map SY.num).length = j) := hid (by simp; omega)
      have HAL : Hid (ss.all (fun x => decide (0 ≤ x.num ∧ x.num ≤ 2147483647)) = true → (0 ≤ ss[j].num ∧ ss[j].num ≤ 2147483647)) := hid (fun q => by have := List.all_eq_true.1 q _ (List.getElem_mem hlt); simpa using this)
      generalize ss[j] = x at *
      by_cases q1 : x.num < 0
      · replace HX := hid (show symB ss = false by rw [HX.out, show ss.all _ = false from by cases q : ss.all (fun x => decide (0 ≤ x.num ∧ x.num ≤ 2147483647)); rfl; have := HAL.out q; omega]; rfl)
        go_wp2
        go_ret
        exact ⟨ret_bool HX.out.symm, by have := hb.out; exact blBy⟩
      · by_cases q2 : 2147483647 < x.num
        · replace HX := hid (show symB ss = false by rw [HX.out, show ss.all _ = false from by cases q : ss.all (fun x => decide (0 ≤ x.num ∧ x.num ≤ 2147483647)); rfl; have := HAL.out q; omega]; rfl)
          go_wp2
          go_ret
          exact ⟨ret_bool HX.out.symm, by have := hb.out; exact blBy⟩
        · have HAJ : Hid ((ss.take (j + 1)).all (fun x => decide (0 ≤ x.num ∧ x.num ≤ 2147483647)) = true) := hid (by rw [HTK.out, List.all_append, hall.out]; simp; omega)
          go_upto_region 10 with fail
          have BS : Blk (wr.alloc (.cells #[.string (strOfNums x.name), .int .i64 x.num] 75)) wr.heap.size 75 #[.string (strOfNums x.name), .int .i64 x.num] := Blk.newAt rfl
          have HV1 := hid (own_kept HV.out (below_alloc (.cells #[.string (strOfNums x.name), .int .i64 x.num] 75)))
          have HU1 := hid (own_kept HU.out (below_alloc (.cells #[.string (strOfNums x.name), .int .i64 x.num] 75)))
          have hb1 : Hid (Below w.heap.size w (wr.alloc (.cells #[.string (strOfNums x.name), .int .i64 x.num] 75))) := hid (by have := hb.out; exact blBy)
          clear c0 c1
          generalize (wr.alloc (.cells #[.string (strOfNums x.name), .int .i64 x.num] 75)) = w1 at *
          have xs := BS.cellF
          have zs := BS.lt
          obtain ⟨la, lc, x1, HRUN, HV2, HG1⟩ := appendSt w.heap.size (.slice va j vc) ((ss.take j).map SY.name) x.name w1 HV1.out hb1.out.size (by have := HLN.out.1; omega)
          rw [HLN.out.1] at HRUN HV2 HG1
          have BS2 := grow_blk HG1.out HV1.out BS (by decide)
          have HU2 := hid (grow_own HG1.out HV1.out HU1.out (by decide))
          have hb2 : Hid (Below w.heap.size w x1) := hid (hb1.out.trans (grow_bel HG1.out HV1.out (Nat.le_refl _) hb1.out.size))
          go_upto_region 11 with (first | (at_builtin; refine wpList_append_ran rfl _ _ 62 62 rfl rfl _ _ (.slice la (j + 1) lc) x1 rfl rfl HRUN.out ?_))
          clear xs zs HRUN HV1 HU1 BS
          have xs := BS2.cellF
          have zs := BS2.lt
          obtain ⟨ka, kc, x2, HRUN, HU3, HG2⟩ := appendIn w.heap.size (.slice ua j uc) ((ss.take j).map SY.num) x.num x1 HU2.out hb2.out.size (by have := HLN.out.2; omega)
          rw [HLN.out.2] at HRUN HU3 HG2
          have HV3 := hid (grow_own HG2.out HU2.out HV2.out (by decide))
          have hb3 : Hid (Below w.heap.size w x2) := hid (hb2.out.trans (grow_bel HG2.out HU2.out (Nat.le_refl _) hb2.out.size))
          go_wp2_with (first | (at_builtin; refine wpList_append_ran rfl _ _ 186 186 rfl rfl _ _ (.slice ka (j + 1) kc) x2 rfl rfl HRUN.out ?_))
          exact ⟨⟨j + 1, la, ka, lc, kc, rfl, rfl, by simp, by omega, HAJ, hid (by rw [HTK.out, List.map_append]; exact HV3.out), hid (by rw [HTK.out, List.map_append]; exact HU3.out), hb3⟩, by simp [numAt]; omega⟩
    · have h4 : ¬ (j : Int) < (ss.length : Int) := by omega
      have e1 : ss.take j = ss := List.take_of_length_le (by omega)
      have ej : j = ss.length := by omega
      subst ej
      rw [e1] at hall HV HU
      have HTN : Hid (∀ x ∈ ss.map SY.name, TxA x) := hid (fun x hx => by obtain ⟨y, hy, rfl⟩ := List.mem_map.1 hx; exact (HT.out y hy).1)
      have HTI : Hid (∀ x ∈ ss.map SY.num, I64 x) := hid (fun x hx => by obtain ⟨y, hy, rfl⟩ := List.mem_map.1 hx; exact (HT.out y hy).2)
      have HLM : Hid ((ss.map SY.name).length = ss.length ∧ (ss.map SY.num).length = ss.length) := hid (by simp)
      have HRV : Hid (RowS wr AnyZ 1 (.slice va ss.length vc) (ss.map SY.name).length ((ss.map SY.name).flatMap cN)) := hid (own_row HV.out (fun _ _ => trivial))
      have HRU : Hid (RowS wr AnyZ 1 (.slice ua ss.length uc) (ss.map SY.num).length ((ss.map SY.num).flatMap cI64)) := hid (own_row HU.out (fun _ _ => trivial))
      replace HX := hid (show symB ss = ((ss.map SY.name).all nmB && (dfB ((ss.map SY.name).map litS) && dfB ((ss.map SY.num).map litI))) by rw [HX.out, hall.out]; rfl)
      clear HV HU HR HT
      go_wp2_with fail
      refine (areNamesT (ss.map SY.name) _ va ss.length vc HRV.out HTN.out).mono ?_
      rintro e w1 ⟨rfl, rfl⟩
      cases hq : (ss.map SY.name).all nmB with
      | false =>
        go_wp2
        go_ret
        exact ⟨ret_bool (by rw [HX.out, hq]; rfl), hb.out⟩
      | true =>
        go_wp2_with fail
        have HA := areDiffS (ss.map SY.name) wr va vc (by rw [HLM.out.1]; have := HRV.out; rw [HLM.out.1] at this; exact this) HTN.out
        rw [HLM.out.1] at HA
        refine HA.mono ?_
        rintro e w2 ⟨rfl, hb2⟩
        have HB2 := hid (bl_then hb.out hb2)
        have HRU2 := hid (HRU.out.kept hb2)
        clear hb2
        cases hq2 : dfB ((ss.map SY.name).map litS) with
        | false =>
          go_wp2
          go_ret
          exact ⟨ret_bool (by rw [HX.out, hq, hq2]; rfl), HB2.out⟩
        | true =>
          go_wp2_with fail
          have HA := areDiffI (ss.map SY.num) w2 ua uc (by rw [HLM.out.2]; have := HRU2.out; rw [HLM.out.2] at this; exact this) HTI.out
          rw [HLM.out.2] at HA
          refine HA.mono ?_
          rintro e w3 ⟨rfl, hb3⟩
          have HB3 := hid (bl_then HB2.out hb3)
          clear hb3
          go_wp2
          go_ret
          exact ⟨ret_bool (by rw [HX.out, hq, hq2]; simp), HB3.out⟩
end Go.Proofs.YtnfdlnelfnigdaaGreatDoor
