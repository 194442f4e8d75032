/-
  The contract of 'means' (an act by the document's answer) over the translation. No statement is proved here.
-/
import Derived.Test.YtlbflaebjicmaaaVgRefK
import Derived.Test.YtlbflaebjicmaaaVgRefAll
namespace Go.Proofs.Ytlbflaebjicmaaa
open Go.RowKit

set_option maxRecDepth 100000 in
set_option maxHeartbeats 2000000 in
theorem means_1 (w : World) (b : Nat) (S : Vg) (h : IsRv w b S) (n p : Int) (on : Bool) :
    Calls Try.prog 13 #[.pointer (some ⟨b, 0, none⟩), .agg #[.int .i64 1, .int .i64 n, .int .i64 p, .bool on]] w fun e w' => e = .returned (.agg #[.int .i64 0, .bool false, .int .i64 (injE S n p)]) ∧ Rch w b (injS S n p on) w' := by
  have f0 := ((Fr.refl none' w).alloc (.cells #[.int .i64 1, .int .i64 n, .int .i64 p, .bool on] 35)).alloc (.cells #[.int .i64 0, .bool false, .int .i64 0] 32)
  have h0 := h.keep0 f0
  have rz := row_two w (.cells #[.int .i64 1, .int .i64 n, .int .i64 p, .bool on] 35) #[.int .i64 0, .bool false, .int .i64 0] 32
  have hb : ∀ k, (at' b) k → k < w.heap.size := fun k hk => h.lt k hk
  have n1 : ¬ (at' b) (w.heap.size + 1) := fun e => by have := hb _ e; omega
  have H := rinject_any _ b S h0 n p on
  generalize injE S n p = rv at *
  go_enter Try.func13, Try.ntmps13
  go_wp2_with fail
  refine H.mono ?_
  rintro e w1 ⟨rfl, f1, t1⟩
  have r1 := rz.keep f1 n1
  have c0 := r1.cell 0
  have c1 := r1.cell 1
  have c2 := r1.cell 2
  have g0 := r1.frozen 0
  have g1 := r1.frozen 1
  have g2 := r1.frozen 2
  have HC : Hid (Rch w b (injS S n p on) w1) := ⟨(f0.mono (fun _ _ h => h.elim)).trans f1, t1⟩
  clear f1 t1 H rz h h0 f0
  go_wp2_with fail
  refine bodyPost_ret (ret_ans rfl rfl (row_set3 r1 _ _ _) rfl) rfl ?_
  exact ⟨rfl, HC.out.ans hb _ _ _⟩

set_option maxRecDepth 100000 in
set_option maxHeartbeats 2000000 in
theorem means_2 (w : World) (b : Nat) (S : Vg) (h : IsRv w b S) (n p : Int) (on : Bool) :
    Calls Try.prog 13 #[.pointer (some ⟨b, 0, none⟩), .agg #[.int .i64 2, .int .i64 n, .int .i64 p, .bool on]] w fun e w' => e = .returned (.agg #[.int .i64 0, .bool false, .int .i64 (enaE n)]) ∧ Rch w b (enaS S n on) w' := by
  have f0 := ((Fr.refl none' w).alloc (.cells #[.int .i64 2, .int .i64 n, .int .i64 p, .bool on] 35)).alloc (.cells #[.int .i64 0, .bool false, .int .i64 0] 32)
  have h0 := h.keep0 f0
  have rz := row_two w (.cells #[.int .i64 2, .int .i64 n, .int .i64 p, .bool on] 35) #[.int .i64 0, .bool false, .int .i64 0] 32
  have hb : ∀ k, (at' b) k → k < w.heap.size := fun k hk => h.lt k hk
  have n1 : ¬ (at' b) (w.heap.size + 1) := fun e => by have := hb _ e; omega
  have H := renable_any _ b S h0 n on
  generalize enaE n = rv at *
  go_enter Try.func13, Try.ntmps13
  go_wp2_with fail
  refine H.mono ?_
  rintro e w1 ⟨rfl, f1, t1⟩
  have r1 := rz.keep f1 n1
  have c0 := r1.cell 0
  have c1 := r1.cell 1
  have c2 := r1.cell 2
  have g0 := r1.frozen 0
  have g1 := r1.frozen 1
  have g2 := r1.frozen 2
  have HC : Hid (Rch w b (enaS S n on) w1) := ⟨(f0.mono (fun _ _ h => h.elim)).trans f1, t1⟩
  clear f1 t1 H rz h h0 f0
  go_wp2_with fail
  refine bodyPost_ret (ret_ans rfl rfl (row_set3 r1 _ _ _) rfl) rfl ?_
  exact ⟨rfl, HC.out.ans hb _ _ _⟩

set_option maxRecDepth 100000 in
set_option maxHeartbeats 2000000 in
theorem means_3 (w : World) (b : Nat) (S : Vg) (h : IsRv w b S) (n p : Int) (on : Bool) :
    Calls Try.prog 13 #[.pointer (some ⟨b, 0, none⟩), .agg #[.int .i64 3, .int .i64 n, .int .i64 p, .bool on]] w fun e w' => e = .returned (.agg #[.int .i64 0, .bool false, .int .i64 (masE p)]) ∧ Rch w b (masS S p) w' := by
  have f0 := ((Fr.refl none' w).alloc (.cells #[.int .i64 3, .int .i64 n, .int .i64 p, .bool on] 35)).alloc (.cells #[.int .i64 0, .bool false, .int .i64 0] 32)
  have h0 := h.keep0 f0
  have rz := row_two w (.cells #[.int .i64 3, .int .i64 n, .int .i64 p, .bool on] 35) #[.int .i64 0, .bool false, .int .i64 0] 32
  have hb : ∀ k, (at' b) k → k < w.heap.size := fun k hk => h.lt k hk
  have n1 : ¬ (at' b) (w.heap.size + 1) := fun e => by have := hb _ e; omega
  have H := rmask_any _ b S h0 p
  generalize masE p = rv at *
  go_enter Try.func13, Try.ntmps13
  go_wp2_with fail
  refine H.mono ?_
  rintro e w1 ⟨rfl, f1, t1⟩
  have r1 := rz.keep f1 n1
  have c0 := r1.cell 0
  have c1 := r1.cell 1
  have c2 := r1.cell 2
  have g0 := r1.frozen 0
  have g1 := r1.frozen 1
  have g2 := r1.frozen 2
  have HC : Hid (Rch w b (masS S p) w1) := ⟨(f0.mono (fun _ _ h => h.elim)).trans f1, t1⟩
  clear f1 t1 H rz h h0 f0
  go_wp2_with fail
  refine bodyPost_ret (ret_ans rfl rfl (row_set3 r1 _ _ _) rfl) rfl ?_
  exact ⟨rfl, HC.out.ans hb _ _ _⟩

set_option maxRecDepth 100000 in
set_option maxHeartbeats 2000000 in
theorem means_4 (w : World) (b : Nat) (S : Vg) (h : IsRv w b S) (n p : Int) (on : Bool) :
    Calls Try.prog 13 #[.pointer (some ⟨b, 0, none⟩), .agg #[.int .i64 4, .int .i64 n, .int .i64 p, .bool on]] w fun e w' => e = .returned (.agg #[.int .i64 (ackA S), .bool false, .int .i64 0]) ∧ Rch w b (ackS S) w' := by
  have f0 := ((Fr.refl none' w).alloc (.cells #[.int .i64 4, .int .i64 n, .int .i64 p, .bool on] 35)).alloc (.cells #[.int .i64 0, .bool false, .int .i64 0] 32)
  have h0 := h.keep0 f0
  have rz := row_two w (.cells #[.int .i64 4, .int .i64 n, .int .i64 p, .bool on] 35) #[.int .i64 0, .bool false, .int .i64 0] 32
  have hb : ∀ k, (at' b) k → k < w.heap.size := fun k hk => h.lt k hk
  have n1 : ¬ (at' b) (w.heap.size + 1) := fun e => by have := hb _ e; omega
  have H := rack_any _ b S h0 
  generalize ackA S = rv at *
  go_enter Try.func13, Try.ntmps13
  go_wp2_with fail
  refine H.mono ?_
  rintro e w1 ⟨rfl, f1, t1⟩
  have r1 := rz.keep f1 n1
  have c0 := r1.cell 0
  have c1 := r1.cell 1
  have c2 := r1.cell 2
  have g0 := r1.frozen 0
  have g1 := r1.frozen 1
  have g2 := r1.frozen 2
  have HC : Hid (Rch w b (ackS S) w1) := ⟨(f0.mono (fun _ _ h => h.elim)).trans f1, t1⟩
  clear f1 t1 H rz h h0 f0
  go_wp2_with fail
  refine bodyPost_ret (ret_ans rfl rfl (row_set3 r1 _ _ _) rfl) rfl ?_
  exact ⟨rfl, HC.out.ans hb _ _ _⟩

set_option maxRecDepth 100000 in
set_option maxHeartbeats 2000000 in
theorem means_5 (w : World) (b : Nat) (S : Vg) (h : IsRv w b S) (n p : Int) (on : Bool) :
    Calls Try.prog 13 #[.pointer (some ⟨b, 0, none⟩), .agg #[.int .i64 5, .int .i64 n, .int .i64 p, .bool on]] w fun e w' => e = .returned (.agg #[.int .i64 0, .bool (endF S n), .int .i64 (endE S n)]) ∧ Rch w b (endS S n) w' := by
  have f0 := ((Fr.refl none' w).alloc (.cells #[.int .i64 5, .int .i64 n, .int .i64 p, .bool on] 35)).alloc (.cells #[.int .i64 0, .bool false, .int .i64 0] 32)
  have h0 := h.keep0 f0
  have rz := row_two w (.cells #[.int .i64 5, .int .i64 n, .int .i64 p, .bool on] 35) #[.int .i64 0, .bool false, .int .i64 0] 32
  have hb : ∀ k, (at' b) k → k < w.heap.size := fun k hk => h.lt k hk
  have n1 : ¬ (at' b) (w.heap.size + 1) := fun e => by have := hb _ e; omega
  have H := rend_any _ b S h0 n
  generalize endF S n = rf at *
  generalize endE S n = rv at *
  go_enter Try.func13, Try.ntmps13
  go_wp2_with fail
  refine H.mono ?_
  rintro e w1 ⟨rfl, f1, t1⟩
  have r1 := rz.keep f1 n1
  have c0 := r1.cell 0
  have c1 := r1.cell 1
  have c2 := r1.cell 2
  have g0 := r1.frozen 0
  have g1 := r1.frozen 1
  have g2 := r1.frozen 2
  have HC : Hid (Rch w b (endS S n) w1) := ⟨(f0.mono (fun _ _ h => h.elim)).trans f1, t1⟩
  clear f1 t1 H rz h h0 f0
  go_wp2_with fail
  refine bodyPost_ret (ret_ans rfl rfl (row_set3 r1 _ _ _) rfl) rfl ?_
  exact ⟨rfl, HC.out.ans hb _ _ _⟩

set_option maxRecDepth 100000 in
set_option maxHeartbeats 2000000 in
theorem means_0 (w : World) (b : Nat) (S : Vg) (h : IsRv w b S) (d n p : Int) (on : Bool) (h1 : d ≠ 1) (h2 : d ≠ 2) (h3 : d ≠ 3) (h4 : d ≠ 4) (h5 : d ≠ 5) :
    Calls Try.prog 13 #[.pointer (some ⟨b, 0, none⟩), .agg #[.int .i64 d, .int .i64 n, .int .i64 p, .bool on]] w fun e w' => e = .returned (.agg #[.int .i64 0, .bool false, .int .i64 0]) ∧ Rch w b S w' := by
  have f0 := ((Fr.refl none' w).alloc (.cells #[.int .i64 d, .int .i64 n, .int .i64 p, .bool on] 35)).alloc (.cells #[.int .i64 0, .bool false, .int .i64 0] 32)
  have rz := row_two w (.cells #[.int .i64 d, .int .i64 n, .int .i64 p, .bool on] 35) #[.int .i64 0, .bool false, .int .i64 0] 32
  have u1 : (d == 1) = false := by simpa using h1
  have u2 : (d == 2) = false := by simpa using h2
  have u3 : (d == 3) = false := by simpa using h3
  have u4 : (d == 4) = false := by simpa using h4
  have u5 : (d == 5) = false := by simpa using h5
  have HC : Hid (Rch w b S ((w.alloc (.cells #[.int .i64 d, .int .i64 n, .int .i64 p, .bool on] 35)).alloc (.cells #[.int .i64 0, .bool false, .int .i64 0] 32))) := Rch.same h f0
  have HR : Hid (Row ((w.alloc (.cells #[.int .i64 d, .int .i64 n, .int .i64 p, .bool on] 35)).alloc (.cells #[.int .i64 0, .bool false, .int .i64 0] 32)) (w.heap.size + 1) #[.int .i64 0, .bool false, .int .i64 0] 32) := rz
  clear h f0 rz h1 h2 h3 h4 h5
  go_enter Try.func13, Try.ntmps13
  go_wp2_with fail
  refine bodyPost_ret (ret_ans rfl rfl HR.out rfl) rfl ?_
  exact ⟨rfl, HC.out⟩

theorem means_any (w : World) (b : Nat) (S : Vg) (h : IsRv w b S) (d n p : Int) (on : Bool) :
    Calls Try.prog 13 #[.pointer (some ⟨b, 0, none⟩), .agg #[.int .i64 d, .int .i64 n, .int .i64 p, .bool on]] w fun e w' => e = .returned (.agg #[.int .i64 (ansN d S), .bool (ansF d n S), .int .i64 (ansE d n p S)]) ∧ Rch w b (stepS d n p on S) w' := by
  by_cases h1 : d = 1
  · subst h1; exact means_1 w b S h n p on
  by_cases h2 : d = 2
  · subst h2; exact means_2 w b S h n p on
  by_cases h3 : d = 3
  · subst h3; exact means_3 w b S h n p on
  by_cases h4 : d = 4
  · subst h4; exact means_4 w b S h n p on
  by_cases h5 : d = 5
  · subst h5; exact means_5 w b S h n p on
  have e1 : ansN d S = 0 := by simp [ansN, h4]
  have e2 : ansF d n S = false := by simp [ansF, h5]
  have e3 : ansE d n p S = 0 := by simp [ansE, h1, h2, h3, h5]
  have e4 : stepS d n p on S = S := by simp [stepS, h1, h2, h3, h4, h5]
  rw [e1, e2, e3, e4]
  exact means_0 w b S h d n p on h1 h2 h3 h4 h5

end Go.Proofs.Ytlbflaebjicmaaa
