/-
  An Ipc that a law made, beside blocks of others: package ipc's calls by what they say. No statement is proved here.
-/
import Derived.Test.YtjobdfkfongjaaaIpInb
import Derived.ChangeKeysEq
namespace Go.Proofs.Ytjobdfkfongjaaa
open Go.RowKit Go.Maps Go.WideMaps

/-- b is an Ipc newer than w0, of whose blocks none is O's; O's are there. -/
def Ix (w0 w : World) (b : Nat) (S : Ip) (O : Nat → Prop) : Prop := ∃ p : Pb, p.b = b ∧ IsI w p S ∧ (∀ k, p.s S k → w0.heap.size ≤ k ∧ ¬ O k) ∧ (∀ k, O k → k < w.heap.size) ∧ Fr none' w0 w ∧ Ok S
/-- Nothing old has turned, and nothing of O's. -/
def FrO (w0 : World) (O : Nat → Prop) (w w' : World) : Prop := Fr (fun k => w0.heap.size ≤ k ∧ ¬ O k) w w'

section
variable {w0 w w' : World} {b : Nat} {S S' : Ip} {O : Nat → Prop}
theorem Ix.ok (h : Ix w0 w b S O) : Ok S := by obtain ⟨p, _, _, _, _, _, h⟩ := h; exact h
theorem Ix.old (h : Ix w0 w b S O) : Fr none' w0 w := by obtain ⟨p, _, _, _, _, f, _⟩ := h; exact f
theorem fr_new {T : Nat → Prop} (h : Fr none' w0 w) (f : Fr T w w') (hs : ∀ k, T k → w0.heap.size ≤ k) : Fr none' w0 w' := fr_high h f hs
theorem ix_in {p p' : Pb} (hs : ∀ k, p.s S k → w0.heap.size ≤ k ∧ ¬ O k) (hO : ∀ k, O k → k < w.heap.size) (hf : Fr none' w0 w) (c : In w p S p.b w' p' S') : Ix w0 w' p.b S' O ∧ FrO w0 O w w' := by
  refine ⟨⟨p', c.eb, c.chg.is, fun k hk => ?_, fun k hk => Nat.lt_of_lt_of_le (hO k hk) c.chg.fr.size, fr_new hf c.chg.fr (fun k hk => (hs k hk).1), c.ok⟩, c.chg.fr.mono (fun k _ hk => hs k hk)⟩
  rcases c.chg.new k hk with h | h
  · exact hs k h
  · have := hf.size
    exact ⟨by omega, fun ho => by have := hO k ho; omega⟩
theorem Ix.keep {T : Nat → Prop} (h : Ix w0 w b S O) (f : Fr T w w') (hs : ∀ k, T k → w0.heap.size ≤ k ∧ O k) : Ix w0 w' b S O := by
  obtain ⟨p, e, q1, q2, q3, q4, q5⟩ := h
  exact ⟨p, e, q1.keep f (fun k hk hS => (q2 k hk).2 (hs k hS).2), q2, fun k hk => Nat.lt_of_lt_of_le (q3 k hk) f.size, fr_new q4 f (fun k hk => (hs k hk).1), q5⟩
theorem Ix.keep0 (h : Ix w0 w b S O) (f : Fr none' w w') : Ix w0 w' b S O := h.keep f (fun _ h => h.elim)
theorem Ix.more {O' : Nat → Prop} (h : Ix w0 w b S O) (f : Fr none' w w') (ho : ∀ k, O' k → (O k ∨ w.heap.size ≤ k) ∧ k < w'.heap.size) : Ix w0 w' b S O' := by
  obtain ⟨p, e, q1, q2, q3, q4, q5⟩ := h
  refine ⟨p, e, q1.keep0 f, fun k hk => ⟨(q2 k hk).1, fun h' => ?_⟩, fun k hk => (ho k hk).2, q4.trans f, q5⟩
  rcases (ho k h').1 with h1 | h1
  · exact (q2 k hk).2 h1
  · have := q1.lt k hk; omega
theorem Ix.less {O' : Nat → Prop} (h : Ix w0 w b S O) (ho : ∀ k, O' k → O k) : Ix w0 w b S O' := by
  obtain ⟨p, e, q1, q2, q3, q4, q5⟩ := h
  exact ⟨p, e, q1, fun k hk => ⟨(q2 k hk).1, fun h' => (q2 k hk).2 (ho k h')⟩, fun k hk => q3 k (ho k hk), q4, q5⟩

theorem xsend (h : Ix w0 w b S O) (ep t : Int) (m : Ms) (call block : Bool) (he : I64 ep) (ht : I64 t) : Calls Try.prog 19 #[pv b, .int .i64 ep, .int .i64 t, msV m, .bool call, .bool block] w fun e w' => e = .returned (.tuple #[.int .i64 (senN S ep t m), .int .i64 (senE S ep t m)]) ∧ Ix w0 w' b (senS S ep t m call block) O ∧ FrO w0 O w w' := by
  obtain ⟨p, rfl, q1, q2, q3, q4, q5⟩ := h
  exact ((In.start q1 q5).send ep t m call block he ht).mono fun _ _ ⟨p', h1, h2, _⟩ => ⟨h1, ix_in q2 q3 q4 h2⟩

theorem xrecv (h : Ix w0 w b S O) (ep t : Int) (block : Bool) (he : I64 ep) (ht : I64 t) : Calls Try.prog 22 #[pv b, .int .i64 ep, .int .i64 t, .bool block] w fun e w' => e = .returned (.tuple #[.int .i64 (recN S ep t), .bool (recG S ep t), .int .i64 (recE S ep t)]) ∧ Ix w0 w' b (recS S ep t block) O ∧ FrO w0 O w w' := by
  obtain ⟨p, rfl, q1, q2, q3, q4, q5⟩ := h
  exact ((In.start q1 q5).recv ep t block he ht).mono fun _ _ ⟨p', h1, h2, _⟩ => ⟨h1, ix_in q2 q3 q4 h2⟩

theorem xreply (h : Ix w0 w b S O) (t : Int) (m : Ms) : Calls Try.prog 23 #[pv b, .int .i64 t, msV m] w fun e w' => e = .returned (.tuple #[.int .i64 (repN S t m), .int .i64 (repE S t m)]) ∧ Ix w0 w' b (repS S t m) O ∧ FrO w0 O w w' := by
  obtain ⟨p, rfl, q1, q2, q3, q4, q5⟩ := h
  exact ((In.start q1 q5).reply t m).mono fun _ _ ⟨p', h1, h2, _⟩ => ⟨h1, ix_in q2 q3 q4 h2⟩

theorem xforget (h : Ix w0 w b S O) (t : Int) : Calls Try.prog 26 #[pv b, .int .i64 t] w fun e w' => e = .returned (.int .i64 (forN S t)) ∧ Ix w0 w' b (forS S t) O ∧ FrO w0 O w w' := by
  obtain ⟨p, rfl, q1, q2, q3, q4, q5⟩ := h
  exact ((In.start q1 q5).forget t).mono fun _ _ ⟨p', h1, h2, _⟩ => ⟨h1, ix_in q2 q3 q4 h2⟩

theorem xsignal (h : Ix w0 w b S O) (n x : Int) : Calls Try.prog 24 #[pv b, .int .i64 n, .int .i64 x] w fun e w' => e = .returned (.tuple #[.int .i64 (sigN S n x), .int .i64 (sigE n x)]) ∧ Ix w0 w' b (sigS S n x) O ∧ FrO w0 O w w' := by
  obtain ⟨p, rfl, q1, q2, q3, q4, q5⟩ := h
  exact ((In.start q1 q5).signal n x).mono fun _ _ ⟨p', h1, h2, _⟩ => ⟨h1, ix_in q2 q3 q4 h2⟩

theorem xwait (h : Ix w0 w b S O) (n t : Int) (block : Bool) (ht : I64 t) : Calls Try.prog 25 #[pv b, .int .i64 n, .int .i64 t, .bool block] w fun e w' => e = .returned (.tuple #[.bool (watG S n t), .int .i64 (watE S n t)]) ∧ Ix w0 w' b (watS S n t block) O ∧ FrO w0 O w w' := by
  obtain ⟨p, rfl, q1, q2, q3, q4, q5⟩ := h
  exact ((In.start q1 q5).wait n t block ht).mono fun _ _ ⟨p', h1, h2, _⟩ => ⟨h1, ix_in q2 q3 q4 h2⟩

theorem xbind (h : Ix w0 w b S O) (n t : Int) : Calls Try.prog 27 #[pv b, .int .i64 n, .int .i64 t] w fun e w' => e = .returned (.int .i64 (binE S n t)) ∧ Ix w0 w' b (binS S n t) O ∧ FrO w0 O w w' := by
  obtain ⟨p, rfl, q1, q2, q3, q4, q5⟩ := h
  exact ((In.start q1 q5).bind n t).mono fun _ _ ⟨p', h1, h2, _⟩ => ⟨h1, ix_in q2 q3 q4 h2⟩

theorem xunbind (h : Ix w0 w b S O) (t : Int) : Calls Try.prog 28 #[pv b, .int .i64 t] w fun e w' => e = .returned (.int .i64 (unbE S t)) ∧ Ix w0 w' b (unbS S t) O ∧ FrO w0 O w w' := by
  obtain ⟨p, rfl, q1, q2, q3, q4, q5⟩ := h
  exact ((In.start q1 q5).unbind t).mono fun _ _ ⟨p', h1, h2, _⟩ => ⟨h1, ix_in q2 q3 q4 h2⟩

theorem xcancel (h : Ix w0 w b S O) (t : Int) (ht : I64 t) : Calls Try.prog 18 #[pv b, .int .i64 t] w fun e w' => e = .returned (.bool (waiB S t)) ∧ Ix w0 w' b (canS S t) O ∧ FrO w0 O w w' := by
  obtain ⟨p, rfl, q1, q2, q3, q4, q5⟩ := h
  exact ((In.start q1 q5).cancel t ht).mono fun _ _ ⟨p', h1, h2, _⟩ => ⟨h1, ix_in q2 q3 q4 h2⟩

theorem xinbox (h : Ix w0 w b S O) (t : Int) (ht : I64 t) : Calls Try.prog 21 #[pv b, .int .i64 t] w fun e w' => e = .returned (.tuple #[msV (inbM S t), .bool (inbG S t)]) ∧ Ix w0 w' b (inbS S t) O ∧ FrO w0 O w w' := by
  obtain ⟨p, rfl, q1, q2, q3, q4, q5⟩ := h
  exact ((In.start q1 q5).inbox t ht).mono fun _ _ ⟨h1, h2, _⟩ => ⟨h1, ix_in q2 q3 q4 h2⟩

theorem xstate (h : Ix w0 w b S O) (t : Int) (ht : I64 t) : Calls Try.prog 16 #[pv b, .int .i64 t] w fun e w' => e = .returned (.tuple #[.int .i64 (plcS S t), .int .i64 (plcO S t)]) ∧ Fr none' w w' := by
  obtain ⟨p, rfl, q1, q2, q3, q4, q5⟩ := h
  exact (In.start q1 q5).state t ht

theorem xcaller (h : Ix w0 w b S O) (t : Int) : Calls Try.prog 15 #[pv b, .int .i64 t] w fun e w' => e = .returned (.int .i64 (forN S t)) ∧ Fr none' w w' := by
  obtain ⟨p, rfl, q1, q2, q3, q4, q5⟩ := h
  exact (In.start q1 q5).callr t

theorem xlit (h : Ix w0 w b S O) (n : Int) (hn : I64 n) : Calls Try.prog 46 #[pv b, .int .i64 n] w fun e w' => e = .returned (.tuple #[.int .i64 ((S.lt n).getD 0), .bool (S.lt n).isSome]) ∧ w' = w := by
  obtain ⟨p, rfl, q1, q2, q3, q4, q5⟩ := h
  exact (In.start q1 q5).litQ n hn

theorem xnew (w : World) : Calls Try.prog 9 #[] w fun e w' => ∃ b, e = .returned (pv b) ∧ Ix w w' b ip0 (fun _ => False) := by
  refine (new_any w).mono ?_
  rintro e w' ⟨p, rfl, h1, h2, h3⟩
  exact ⟨p.b, rfl, p, rfl, h1, fun k hk => ⟨h3 k hk, fun h => h⟩, fun _ h => h.elim, h2, ok_0⟩

end
theorem i64_of {x : Int} (h0 : -1000000 ≤ x) (h1 : x ≤ 1000000) : I64 x := by unfold I64; omega

/-! ### messages compared -/
theorem info_u32 : ∃ i, Try.prog.info? 33 = some i := by
  have h : (Try.prog.info? 33).isSome = true := by kernel_rfl
  exact Option.isSome_iff_exists.1 h
theorem cells_u32 : Try.prog.cellsOf 33 = 1 := by kernel_rfl
theorem eq_words (a0 a1 a2 a3 b0 b1 b2 b3 : Int) (w : World) : (Op.equalIn 9999 34 (.agg #[.int .u32 a0, .int .u32 a1, .int .u32 a2, .int .u32 a3]) (.agg #[.int .u32 b0, .int .u32 b1, .int .u32 b2, .int .u32 b3])).run Try.prog w = .ok (a0 == b0 && (a1 == b1 && (a2 == b2 && a3 == b3))) w := by
  obtain ⟨i, hi⟩ := info_u32
  rw [show (9999 : Nat) = 9998 + 1 by rfl, run_equalIn_array w 9998 _ _ Try.underlying34 hi, cells_u32]
  simp only [show List.range 4 = [0, 1, 2, 3] by rfl, Op.eqItems]
  simp [go_sem]
  repeat' split
  all_goals simp_all
def eqM (a b : Ms) : Bool := a.l == b.l && (a.b == b.b && (a.n == b.n && (a.w0 == b.w0 && (a.w1 == b.w1 && (a.w2 == b.w2 && a.w3 == b.w3)))))
theorem eqM_iff {a b : Ms} : eqM a b = true ↔ a = b := by
  cases a
  cases b
  simp [eqM]
theorem eql_ms (a b : Ms) (w : World) : (binOp .eql 36 (msV a) (msV b)).run Try.prog w = .ok (.bool (eqM a b)) w := by
  have h := eq_words a.w0 a.w1 a.w2 a.w3 b.w0 b.w1 b.w2 b.w3
  unfold eqM
  generalize (a.w0 == b.w0 && (a.w1 == b.w1 && (a.w2 == b.w2 && a.w3 == b.w3))) = x at *
  by_cases h1 : a.l = b.l <;> by_cases h2 : a.b = b.b <;> by_cases h3 : a.n = b.n <;> cases x <;> simp [go_sem, h, h1, h2, h3, Result.andThen]
theorem neq_ms (a b : Ms) (w : World) : (binOp .neq 36 (msV a) (msV b)).run Try.prog w = .ok (.bool (!eqM a b)) w := by
  have h := eq_words a.w0 a.w1 a.w2 a.w3 b.w0 b.w1 b.w2 b.w3
  unfold eqM
  generalize (a.w0 == b.w0 && (a.w1 == b.w1 && (a.w2 == b.w2 && a.w3 == b.w3))) = x at *
  by_cases h1 : a.l = b.l <;> by_cases h2 : a.b = b.b <;> by_cases h3 : a.n = b.n <;> cases x <;> simp [go_sem, h, h1, h2, h3, Result.andThen]

end Go.Proofs.Ytjobdfkfongjaaa
