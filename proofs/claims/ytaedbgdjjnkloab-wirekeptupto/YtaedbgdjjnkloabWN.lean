/-
  Appending with a frame that is told block by block: all old blocks but the slice's own stay.
-/
import Derived.Test.YtaedbgdjjnkloabWM
namespace Go.Proofs.Ytaedbgdjjnkloab
open Go.RowKit

/-- From w to w' the slice v became v': every old block but v's own is as it was, and v' lies in v's block or in a new one. -/
structure Grow (w w' : World) (v v' : Value) : Prop where
  os : w'.os = w.os
  tape : w'.tape = w.tape
  output : w'.output = w.output
  size : w.heap.size ≤ w'.heap.size
  block : ∀ k, k < w.heap.size → v.ownBlock ≠ some k → w'.heap[k]? = w.heap[k]?
  own : v'.ownBlock = v.ownBlock ∨ ∀ k, v'.ownBlock = some k → w.heap.size ≤ k

theorem Grow.refl (w : World) (v : Value) : Grow w w v v := ⟨rfl, rfl, rfl, Nat.le_refl _, fun _ _ _ => rfl, .inl rfl⟩
theorem Grow.trans {w w1 w2 : World} {v v1 v2 : Value} (h : Grow w w1 v v1) (g : Grow w1 w2 v1 v2) : Grow w w2 v v2 := by
  refine ⟨g.os.trans h.os, g.tape.trans h.tape, g.output.trans h.output, Nat.le_trans h.size g.size, fun k hk hv => ?_, ?_⟩
  · rw [g.block k (Nat.lt_of_lt_of_le hk h.size) ?_, h.block k hk hv]
    intro e
    rcases h.own with h1 | h1
    · exact hv (h1.symm.trans e)
    · have := h1 k e; omega
  · rcases g.own with g1 | g1
    · rcases h.own with h1 | h1
      · exact .inl (g1.trans h1)
      · exact .inr fun k hk => h1 k (g1.symm.trans hk)
    · exact .inr fun k hk => Nat.le_trans h.size (g1 k hk)
theorem Grow.ofBelow {w w' : World} {v : Value} (h : Below w.heap.size w w') : Grow w w' v v :=
  ⟨h.os, h.tape, h.output, h.size, fun k hk _ => h.block k hk, .inl rfl⟩
theorem Grow.alloc {w w' : World} {v v' : Value} (h : Grow w w' v v') (o : Obj) : Grow w (w'.alloc o) v v' := h.trans (Grow.ofBelow (below_alloc o))
/-- What lies below B stays, where v lies from B on. -/
theorem Grow.below {w w' : World} {v v' : Value} {B : Nat} (h : Grow w w' v v') (hB : B ≤ w.heap.size) (hv : ∀ k, v.ownBlock = some k → B ≤ k) : Below B w w' :=
  ⟨h.os, h.tape, h.output, h.size, fun k hk => h.block k (by omega) (fun e => by have := hv k e; omega)⟩

theorem run_append_mine {P : Program} (w : World) (base : Nat) (t ty e : TypeId) (i : TypeInfo) (z : Value) (size bytes : Nat) (ht : P.underlying t = some (.slice e)) (hi : P.info? e = some i) (hz : i.zero = some z)
    (hsize : i.size = size) (hby : i.bytes = bytes) (hzs : z.cells.size = size) (hsz : 0 < size)
    (v : Value) (n : Nat) (xs : List Value) (hown : w.ownsRow base e size v n xs)
    (a : Addr) (m c : Nat) (news : List Value) (hl : news.length = m * size) (hnews : ∀ j u, news[j]? = some u → w.cell? (a.add j) = some u) (h1 : ∀ u ∈ news, u.oneCell' = true)
    (h63 : n + m ≤ maxLen) (hbytes : (n + m) * bytes ≤ 140737488355328) (hbase : base ≤ w.heap.size) :
    ∃ v' w', (Builtin.append_ #[t, t] ty #[v, .slice (some a) m c]).run P w = .ok v' w' ∧ w'.ownsRow base e size v' (n + m) (xs ++ news) ∧ Grow w w' v v' := by
  obtain ⟨v', w', hr, ho, hg, hn⟩ := run_append_own (P := P) w base t ty e i z size bytes ht hi hz hsize hby hzs hsz v n xs hown a m c news hl hnews h1 h63 hbytes hbase
  refine ⟨v', w', hr, ho, hg.os, hg.tape, hg.output, hg.size, fun k hk hv => hg.block k hk (fun e => hv e.symm), ?_⟩
  have hown0 := hown
  rcases hown.2 with ⟨rfl, rfl⟩ | ⟨g, cap, cur, rfl, hbg, hgg, hnc, hcm, hcs, htake⟩
  · have hx : xs = [] := List.eq_nil_of_length_eq_zero (by simpa using hown.1)
    subst hx
    obtain ⟨v2, w2, hr2, ho2, _, _⟩ := run_append_own (P := P) w w.heap.size t ty e i z size bytes ht hi hz hsize hby hzs hsz _ 0 [] (World.ownsRow_nil _ _ _ _) a m c news hl hnews h1 h63 hbytes (Nat.le_refl _)
    rw [hr] at hr2
    cases hr2
    exact .inr fun k hk => (ho2.lt k hk).1
  · subst hsize
    subst hby
    by_cases hroom : n + m ≤ cap
    · have hfit : n * i.size + news.length ≤ cur.size := by rw [hl, hcs, ← Nat.add_mul]; exact Nat.mul_le_mul_right _ hroom
      have hr2 := run_append_room (P := P) w t ty e i ht hi g n cap cur hgg a m c news hl hnews h1 hroom hfit
      rw [hr] at hr2
      cases hr2
      exact .inl rfl
    · have holds : ∀ j u, xs[j]? = some u → w.cell? ((⟨g, 0, none⟩ : Addr).add j) = some u := hown.cells (g := g) rfl
      have hsmall : n + m ≤ 9223372036854775807 := by simp only [maxLen] at h63; omega
      have hr2 := run_append_grow (P := P) w t ty e i z ht hi hz ⟨g, 0, none⟩ n cap xs hown.1 holds a m c news hl hnews (by omega) (by omega) (growslice_fits (by omega) hbytes)
      rw [hr] at hr2
      cases hr2
      refine .inr fun k hk => ?_
      simp [Value.ownBlock] at hk
      omega

theorem wpList_append_ran {P : Program} {w : World} {ops : Array Oper} {rest : List Oper} {o : Oper} {a : Act} {Q : Exit → Act → World → Prop} (hgd : o.guard = none) (s x : Operand) (t ty : TypeId)
    (ho : o.op = .call { callee := .builtin .append, args := #[s, x], argTypes := #[t, t] }) (hty : o.type = ty) (v xv v' : Value) (w' : World) (hs : a.eval s = v) (hx : a.eval x = xv)
    (hr : (Builtin.append_ #[t, t] ty #[v, xv]).run P w = .ok v' w') (h : wpList P ops Q rest (a.put o.dst v') w') : wpList P ops Q (o :: rest) a w := by
  subst hty
  refine wpList_plain hgd fun K hK => ?_
  unfold Oper.wp
  simp [execOp, ho, resolve, invoke, builtin, hs, hx, hr, Result.andThen]
  exact hK _ _ h

/-- One byte more, laid in a block of its own first. -/
theorem append_byte (base : Nat) (v : Value) (n : Nat) (xs : List Value) (w : World) (x : Int) (hown : w.ownsRow base 5 1 v n xs) (hb : base ≤ w.heap.size) (hn : n + 1 ≤ 140737488355328) :
    ∃ v' w', (Builtin.append_ #[23, 23] 23 #[v, .slice (some ⟨w.heap.size, 0, none⟩) 1 1]).run Try.prog (w.alloc (.cells #[.int .u8 x] 5)) = .ok v' w' ∧ w'.ownsRow base 5 1 v' (n + 1) (xs ++ [.int .u8 x]) ∧ Grow w w' v v' := by
  obtain ⟨i0, hi, hz0, hz1, hz2⟩ := info_parts Try.info5
  obtain ⟨v', w', hr, ho, hg⟩ := run_append_mine (P := Try.prog) (w.alloc (.cells #[.int .u8 x] 5)) base 23 23 5 i0 (.int .u8 0) 1 1 Try.underlying23 hi hz0 hz1 hz2 rfl (by decide) v n xs (hown.alloc _) ⟨w.heap.size, 0, none⟩ 1 1 [.int .u8 x] rfl (cell_one_new _ _ _) (fun u hu => by simp at hu; subst hu; rfl) (by unfold maxLen; omega) (by omega) (by simp; omega)
  exact ⟨v', w', hr, ho, ((Grow.refl w v).alloc _).trans hg⟩
/-- A slice's bytes, from wherever they lie. -/
theorem append_bytes (base : Nat) (v : Value) (n : Nat) (xs : List Value) (w : World) (a : Option Addr) (len cap : Nat) (ys : List Int) (hown : w.ownsRow base 5 1 v n xs) (hb : base ≤ w.heap.size) (hr : Reads w a len cap ys) (hn : n + len ≤ 140737488355328) :
    ∃ v' w', (Builtin.append_ #[23, 23] 23 #[v, .slice a len cap]).run Try.prog w = .ok v' w' ∧ w'.ownsRow base 5 1 v' (n + len) (xs ++ ys.map (Value.int .u8)) ∧ Grow w w' v v' := by
  obtain ⟨i0, hi, hz0, hz1, hz2⟩ := info_parts Try.info5
  cases a with
  | none =>
    obtain ⟨rfl, rfl, rfl⟩ := reads_none hr
    exact ⟨v, w, run_append_owned_none (P := Try.prog) (w := w) base 23 23 5 i0 1 Try.underlying23 hi v n xs hown, by simpa using hown, Grow.refl w v⟩
  | some x => exact run_append_mine (P := Try.prog) w base 23 23 5 i0 (.int .u8 0) 1 1 Try.underlying23 hi hz0 hz1 hz2 rfl (by decide) v n xs hown x len cap (ys.map (Value.int .u8)) (by rw [List.length_map, hr.length, Nat.mul_one]) (reads_src hr) (one_u8 ys) (by unfold maxLen; omega) (by omega) hb

set_option maxHeartbeats 400000 in
theorem addvG (base : Nat) (v : Value) (m : Nat) (xs : List Value) (n : Int) (w : World) (hown : w.ownsRow base 5 1 v m xs) (hb : base ≤ w.heap.size) (h0 : 0 ≤ n) (h1 : n < 18446744073709551616) (hm : m + 10 ≤ 140737488355328) :
    Calls Try.prog 21 #[v, .int .u64 n] w fun e w' => ∃ v', e = .returned v' ∧ w'.ownsRow base 5 1 v' (m + (pv n).length) (xs ++ (pv n).map (Value.int .u8)) ∧ Grow w w' v v' := by
  have H9 : Hid (n < 128 ^ (9 + 1)) := lt_ten h1
  go_enter Try.func21, Try.ntmps21
  go_wp2
  go_loopw [0, 1] (fun o nn wr => ∃ (f j : Nat) (N : Int) (pre : List Int), 0 ≤ N ∧ N < 18446744073709551616 ∧ Hid (N < 128 ^ (f + 1)) ∧ pre.length = j ∧ j + f ≤ 9 ∧ nn = .int .u64 N ∧ wr.ownsRow base 5 1 o (m + j) (xs ++ pre.map (Value.int .u8)) ∧ Grow w wr v o ∧ Hid (pv n = pre ++ pvF f N)) (fun _ nn _ => (intOf nn).toNat)
  case atStart => exact ⟨9, 0, n, [], h0, h1, H9, rfl, by omega, rfl, by simpa using hown, Grow.refl _ _, rfl⟩
  case round =>
    obtain ⟨f, j, N, pre, hN0, hN, HN, hj, hjf, rfl, ho, hgw, HP⟩ := hrel
    have hsz := hgw.size
    have hd := digit N hN0 hN
    clear hown
    by_cases hlt : N < 128
    · obtain ⟨v', w3, hr, hown', hg'⟩ := append_byte base _ _ _ wr N ho (by omega) (by omega)
      have HR := hid hr
      clear hr
      go_wp2_with (first | (at_builtin; refine wpList_append_ran rfl _ _ 23 23 rfl rfl _ _ v' w3 rfl rfl HR.out ?_))
      go_ret
      exact ⟨v', rfl, own_last hown' hj (by rw [HP.out, pvF_small _ hlt]), hgw.trans hg'⟩
    · obtain ⟨v', w3, hr, hown', hg'⟩ := append_byte base _ _ _ wr (N % 128 + 128) ho (by omega) (by omega)
      have HR := hid hr
      clear hr
      go_wp2_with (first | (at_builtin; refine wpList_append_ran rfl _ _ 23 23 rfl rfl _ _ v' w3 rfl rfl HR.out ?_))
      obtain ⟨g, rfl, hg, e⟩ := pv_more HN.out hlt
      exact ⟨⟨g, j + 1, N / 128, pre ++ [N % 128 + 128], by omega, by omega, hg, by simp [hj], by omega, rfl, own_more hown', hgw.trans hg', by show _ = _; rw [HP.out, e]; simp⟩, by simp [intOf]; omega⟩

set_option maxHeartbeats 400000 in
theorem addWordG (base : Nat) (v : Value) (m : Nat) (xs : List Value) (n : Int) (size : Nat) (w : World) (hown : w.ownsRow base 5 1 v m xs) (hb : base ≤ w.heap.size) (h8 : size ≤ 8) (hm : m + 8 ≤ 140737488355328) :
    Calls Try.prog 24 #[v, .int .u64 n, .int .i64 size] w fun e w' => ∃ v', e = .returned v' ∧ w'.ownsRow base 5 1 v' (m + (pw size n).length) (xs ++ (pw size n).map (Value.int .u8)) ∧ Grow w w' v v' := by
  go_enter Try.func24, Try.ntmps24
  go_wp2
  go_loopw [0, 9] (fun o r wr => ∃ k : Nat, k ≤ size ∧ r = .int .i64 k ∧ wr.ownsRow base 5 1 o (m + k) (xs ++ (pw k n).map (Value.int .u8)) ∧ Grow w wr v o) (fun _ r _ => size - (intOf r).toNat)
  case atStart => exact ⟨0, by omega, rfl, by simpa [pw] using hown, Grow.refl _ _⟩
  case round =>
    obtain ⟨k, hk, rfl, ho, hgw⟩ := hrel
    have hsz := hgw.size
    clear hown
    by_cases hlt : k < size
    · obtain ⟨v', w3, hr, hown', hg'⟩ := append_byte base _ _ _ wr (IntKind.u8.wrap (n / 2 ^ (8 * k))) ho (by omega) (by omega)
      have HR := hid hr
      clear hr
      go_wp2_with (first | (at_builtin; refine wpList_append_ran rfl _ _ 23 23 rfl rfl _ _ v' w3 rfl rfl HR.out ?_))
      refine ⟨⟨k + 1, by omega, by go_num, ?_, hgw.trans hg'⟩, by simp [intOf]; omega⟩
      rw [pw_succ, ← byte_of]
      exact own_more hown'
    · obtain rfl : k = size := by omega
      go_wp2
      go_ret
      exact ⟨_, rfl, by rw [pw_length]; exact ho, hgw⟩

set_option maxHeartbeats 400000 in
theorem addChunkG (base : Nat) (v : Value) (m : Nat) (xs : List Value) (a : Option Addr) (len cap : Nat) (ys : List Int) (w : World) (hown : w.ownsRow base 5 1 v m xs) (hb : base ≤ w.heap.size) (hsrc : ∀ w', Below base w w' → Reads w' a len cap ys) (hm : m + 10 + len ≤ 140737488355328) :
    Calls Try.prog 18 #[v, .slice a len cap] w fun e w' => ∃ v', e = .returned v' ∧ w'.ownsRow base 5 1 v' (m + (pc ys).length) (xs ++ (pc ys).map (Value.int .u8)) ∧ Grow w w' v v' := by
  have hlen := (hsrc w (Below.refl _ _)).length
  have hpl := (pv_len (len : Int)).2
  have HP : Hid (pc ys = pv (len : Int) ++ ys) := by show _ = _; rw [pc, hlen]
  have HL := hid hlen
  have HS := hid hsrc
  have HO := hid hown
  clear hsrc hown hlen
  go_enter Try.func18, Try.ntmps18
  go_wp2_with fail
  refine (addvG base v m xs (len : Int) _ HO.out hb (by omega) (by omega) (by omega)).mono ?_
  rintro e w1 ⟨v1, rfl, ho1, hg1⟩
  have hb1 := hg1.below hb (fun k hk => (HO.out.lt k hk).1)
  obtain ⟨v', w3, hr, hown', hg'⟩ := append_bytes base v1 _ _ w1 a len cap ys ho1 (Nat.le_trans hb hg1.size) (HS.out w1 hb1) (by omega)
  have HR := hid hr
  clear hr
  go_wp2_with (first | (at_builtin; refine wpList_append_ran rfl _ _ 23 23 rfl rfl _ _ v' w3 rfl rfl HR.out ?_))
  go_ret
  exact ⟨v', rfl, by rw [HP.out]; exact own_cat hown' rfl HL.out, hg1.trans hg'⟩
end Go.Proofs.Ytaedbgdjjnkloab
