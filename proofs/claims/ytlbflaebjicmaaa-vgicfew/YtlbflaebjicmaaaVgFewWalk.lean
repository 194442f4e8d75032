/-
  VgicFew over the translation: whatever acts came in, the law returns true, and nothing old turns. No statement is proved here.
-/
import Derived.Test.YtlbflaebjicmaaaVgAwake
namespace Go.Proofs.Ytlbflaebjicmaaa
open Go.RowKit

/-- Two states that differ in how many list registers there are, at most. -/
def Like (S T : Vg) : Prop := T = { S with lrs := T.lrs }

theorem like_run {S T : Vg} (h : Like S T) : run T = run S := by
  have e : ∀ n, runN T n = runN S n := fun n => by
    induction n with
    | zero => rfl
    | succ k ih => simp only [runN, ih]; rw [h]
  exact e 64
theorem like_cand {S T : Vg} (h : Like S T) (k : Nat) : cand T k = cand S k := by unfold cand; rw [h]
theorem like_next {S T : Vg} (h : Like S T) : nextO T = nextO S := by
  have e : ∀ bd n, best T bd n = best S bd n := fun bd n => by
    induction n with
    | zero => rfl
    | succ k ih => simp only [best, like_cand h, ih]
  unfold nextO
  rw [e, like_run h]
  rw [h]
theorem like_ans {S T : Vg} (h : Like S T) (d n p : Int) : ansN d T = ansN d S ∧ ansF d n T = ansF d n S ∧ ansE d n p T = ansE d n p S := by
  refine ⟨?_, ?_, ?_⟩
  · unfold ansN ackA; rw [like_next h]
  · unfold ansF endF; rw [h]
  · unfold ansE injE endE; rw [h]
theorem like_step {S T : Vg} (h : Like S T) (d n p : Int) (on : Bool) : Like (stepS d n p on S) (stepS d n p on T) := by
  unfold Like
  rw [lrs_step]
  have hn := like_next h
  unfold stepS injS enaS masS ackS endS
  rw [hn]
  rw [h]
  repeat' split
  all_goals first
    | rfl
    | (cases isI n <;> cases isP p <;> cases (S.pe n.toNat).isSome <;> rfl)
    | (cases isI n <;> cases (S.ac n.toNat).isSome <;> rfl)
    | (cases isI n <;> rfl)
    | (cases isM p <;> rfl)
theorem like_reg {S T : Vg} (h : Like S T) (k : Nat) : reg T k = reg S k := by unfold reg; rw [h]
theorem like_all {S T : Vg} (h : Like S T) : allL T = allL S := by
  have a : ∀ p n, inA T p n = inA S p n := fun p n => by
    induction n with
    | zero => rfl
    | succ k ih => simp only [inA, ih, like_reg h]; rw [h]
  have b : ∀ p n, inP T p n = inP S p n := fun p n => by
    induction n with
    | zero => rfl
    | succ k ih => simp only [inP, ih, like_reg h]; rw [h]
  have c : ∀ n, outA T n = outA S n := fun n => by
    induction n with
    | zero => rfl
    | succ k ih => simp only [outA, ih, a]
  have d : ∀ n, outP T n = outP S n := fun n => by
    induction n with
    | zero => rfl
    | succ k ih => simp only [outP, ih, b]
  unfold allL
  rw [c, d]

theorem neq_ans (i j : Int) (b : Bool) (w : World) : (binOp .neq 32 (.agg #[.int .i64 i, .bool b, .int .i64 j]) (.agg #[.int .i64 i, .bool b, .int .i64 j])).run Try.prog w = .ok (.bool false) w := by
  simp [go_sem]

set_option maxRecDepth 100000 in
set_option maxHeartbeats 4000000 in
theorem few_row (a b : Int) (a0 : Option Addr) (len cap : Nat) (w : World) (hl : len ≤ 9223372036854775807) (ha : Acts w a0 len) :
    Calls Try.prog 4 #[.int .i64 a, .int .i64 b, .slice a0 len cap] w fun e w' => e = .returned (.bool true) ∧ Fr none' w w' := by
  have HA : Hid (Acts w a0 len) := ha
  have hne := neq_ans
  clear ha
  go_enter Try.func4, Try.ntmps4
  go_wp2_with fail
  refine (awake_any _).mono ?_
  rintro e w1 ⟨rfl, f1⟩
  go_wp2_with fail
  refine (new_any _ a).mono ?_
  rintro e w2 (⟨_, rfl, rfl⟩ | ⟨_, B, rfl, hb, f2, t2⟩)
  · go_wp2_with fail
    refine (new_any _ b).mono ?_
    rintro e w3 (⟨_, rfl, rfl⟩ | ⟨_, C, rfl, hc, f3, t3⟩)
    · go_wp2_with fail
      go_ret
      exact ⟨rfl, f1⟩
    · go_wp2_with fail
      go_ret
      exact ⟨rfl, f1.trans f3⟩
  · replace f2 := f1.trans f2
    have hb0 : ∀ k, B.s k → w.heap.size ≤ k := fun k hk => Nat.le_trans f1.size (hb k hk)
    go_wp2_with fail
    refine (new_any _ b).mono ?_
    rintro e w3 (⟨_, rfl, rfl⟩ | ⟨_, C, rfl, hc, f3, t3⟩)
    · go_wp2_with fail
      go_ret
      exact ⟨rfl, f2⟩
    · have hc0 : ∀ k, C.s k → w.heap.size ≤ k := fun k hk => Nat.le_trans f2.size (hc k hk)
      have HD : Hid (∀ k, B.s k → ¬ C.s k) := fun k hk hk' => by have := t2.lt k hk; have := hc k hk'; omega
      have HB : Hid ((∀ k, B.s k → w.heap.size ≤ k) ∧ (∀ k, C.s k → w.heap.size ≤ k)) := ⟨hb0, hc0⟩
      have t2' := t2.keep0 f3
      replace f3 := f2.trans f3
      clear f1 f2 t2 hb hc hb0 hc0
      go_wp2_with fail
      go_loopw [12] (fun i wr => ∃ (k : Nat) (S T : Vg), k ≤ len ∧ k ≤ 150 ∧ i = .int .i64 k ∧ Fr none' w wr ∧ IsVg wr B S ∧ IsVg wr C T ∧ Like S T) (fun i _ => 150 - (intOf i).toNat)
      case atStart => exact ⟨0, zeroV a, zeroV b, by omega, by omega, rfl, f3, t2', t3, rfl⟩
      case round =>
        clear f3 t2' t3
        obtain ⟨k, S, T, hk1, hk2, rfl, fk, hS, hT, hLk⟩ := hrel
        have HLk : Hid (Like S T) := hLk
        clear hLk
        by_cases hkl : k < len
        · by_cases hk3 : k < 150
          · obtain ⟨b0, o, d, n, x, on, rfl, hact⟩ := HA.out k hkl
            obtain ⟨c0, c1, c2, c3⟩ := hact.keep fk (fun h => h)
            have HAct : Hid (ActIs w b0 (o + k * 4) d n x on) := hact
            have i1 : 0 ≤ (k : Int) ∧ (k : Int) < (len : Int) := by omega
            have u1 : decide ((k : Int) < (len : Int)) = true := decide_eq_true (by omega)
            have u2 : decide ((k : Int) < 150) = true := decide_eq_true (by omega)
            clear hact
            obtain ⟨q1, q2, q3⟩ := like_ans HLk.out d n x
            have hA := does_any wr B S hS d n x on
            have hB : ∀ W, IsVg W C T → Calls Try.prog 12 #[.pointer (some ⟨C.b, 0, none⟩), .agg #[.int .i64 d, .int .i64 n, .int .i64 x, .bool on]] W fun e w' => e = .returned (.agg #[.int .i64 (ansN d S), .bool (ansF d n S), .int .i64 (ansE d n x S)]) ∧ Chg W C (stepS d n x on T) w' := fun W h => by
              have := does_any W C T h d n x on
              rwa [q1, q2, q3] at this
            have HL2 : Hid (Like (stepS d n x on S) (stepS d n x on T)) := like_step HLk.out d n x on
            have HE : Hid (allL (stepS d n x on T) = allL (stepS d n x on S)) := like_all HL2.out
            have hlt : ∀ k, C.s k → k < wr.heap.size := fun k hk => hT.lt k hk
            generalize ansN d S = vN at *
            generalize ansF d n S = vF at *
            generalize ansE d n x S = vE at *
            generalize stepS d n x on S = S' at *
            generalize stepS d n x on T = T' at *
            clear q1 q2 q3
            go_wp2_with fail
            refine hA.mono ?_
            rintro e w5 ⟨rfl, f5, s5⟩
            have fa := (Fr.refl none' w5).alloc (.cells #[.int .i64 vN, .bool vF, .int .i64 vE] 32)
            have T5 := (hT.keep f5 (fun k hk hk' => HD.out k hk' hk)).keep0 fa
            have F5 := (fk.lone f5 HB.out.1).trans fa
            have S5 := s5.keep0 fa
            have r5 := row_alloc w5 #[.int .i64 vN, .bool vF, .int .i64 vE] 32
            have n5 : ¬ C.s w5.heap.size := fun e => by have := hlt _ e; have := f5.size; omega
            clear c0 c1 c2 c3 hA
            obtain ⟨c0, c1, c2, c3⟩ := HAct.out.keep F5 (fun h => h)
            clear fk hS hT f5 fa s5 hlt
            go_wp2_with fail
            refine (hB _ T5).mono ?_
            rintro e w6 ⟨rfl, f6, t6⟩
            have fb := (Fr.refl none' w6).alloc (.cells #[.int .i64 vN, .bool vF, .int .i64 vE] 32)
            have r6 := row_alloc w6 #[.int .i64 vN, .bool vF, .int .i64 vE] 32
            have q5 := (r5.keep f6 n5).keep fb (fun h => h)
            have S6 := (S5.keep f6 HD.out).keep0 fb
            have T6 := t6.keep0 fb
            have F6 := (F5.lone f6 HB.out.2).trans fb
            clear c0 c1 c2 c3 f6 S5 T5 F5 t6 r5 n5 fb hB
            go_wp2_with fail
            refine (all_any _ B S' S6).mono ?_
            rintro e w7 ⟨v7, rfl, l7, f7⟩
            have T7 := T6.keep0 f7
            have S7 := S6.keep0 f7
            have F7 := F6.trans f7
            have x5 := q5.keep f7 (fun h => h)
            have x6 := r6.keep f7 (fun h => h)
            clear T6 S6 F6 f7 q5 r6
            go_wp2_with fail
            refine (all_any _ C T' T7).mono ?_
            rintro e w8 ⟨v8, rfl, l8, f8⟩
            have T8 := T7.keep0 f8
            have S8 := S7.keep0 f8
            have F8 := F7.trans f8
            have y5 := x5.keep f8 (fun h => h)
            have y6 := x6.keep f8 (fun h => h)
            have l7' := l7.keep0 f8
            have hle := len_all S8.good
            rw [HE.out] at l8
            obtain ⟨a7, c7, rfl, _, _, h7, _⟩ := l7'.open
            obtain ⟨a8, c8, rfl, _, _, h8, _⟩ := l8.open
            have HL := lists_any _ a7 a8 c7 c8 _ _ h7 h8 (by omega)
            rw [decide_eq_true rfl] at HL
            clear T7 S7 F7 f8 l7 l7' l8 h7 h8 hle x5 x6
            go_wp2_with fail
            refine HL.mono ?_
            rintro e w9 ⟨rfl, f9⟩
            have T9 := T8.keep0 f9
            have S9 := S8.keep0 f9
            have F9 := F8.trans f9
            have z5 := y5.keep f9 (fun h => h)
            have z6 := y6.keep f9 (fun h => h)
            have d0 := z5.cell 0
            have d1 := z5.cell 1
            have d2 := z5.cell 2
            have e0 := z6.cell 0
            have e1 := z6.cell 1
            have e2 := z6.cell 2
            clear T8 S8 F8 f9 HL y5 y6 z5 z6
            go_wp2_with fail
            go_roundw
            case rel => exact ⟨k + 1, S', T', by omega, by omega, by go_num, F9, S9, T9, HL2.out⟩
            case measure => simp [intOf]; omega
          · have u1 : decide ((k : Int) < (len : Int)) = true := decide_eq_true (by omega)
            have u2 : decide ((k : Int) < 150) = false := decide_eq_false (by omega)
            go_wp2_with fail
            go_ret
            exact ⟨rfl, fk⟩
        · have u1 : decide ((k : Int) < (len : Int)) = false := decide_eq_false (by omega)
          go_wp2_with fail
          go_ret
          exact ⟨rfl, fk⟩

theorem few_any (a b : Int) (a0 : Option Addr) (len cap : Nat) (w : World) (hl : len ≤ 9223372036854775807) (ha : Acts w a0 len) :
    Calls Try.prog 4 #[.int .i64 a, .int .i64 b, .slice a0 len cap] w fun e w' => e = .returned (.bool true) ∧ Below w.heap.size w w' :=
  (few_row a b a0 len cap w hl ha).mono fun _ _ ⟨he, hf⟩ => ⟨he, hf.below (Nat.le_refl _) (fun _ h => h.elim)⟩

end Go.Proofs.Ytlbflaebjicmaaa
