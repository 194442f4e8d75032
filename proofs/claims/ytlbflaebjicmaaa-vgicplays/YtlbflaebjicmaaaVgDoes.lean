/-
  The contract of 'does' (an act by the program) over the translation. No statement is proved here.
-/
import Derived.Test.YtlbflaebjicmaaaVgLists
namespace Go.Proofs.Ytlbflaebjicmaaa
open Go.RowKit

theorem size_ans : (Try.prog.info? 32).map (·.size) = some 3 := by kernel_rfl

/-- An answer that is told through a cell. -/
theorem ret_ans {fn : Func} {p : Tmp} {tmps : Array Value} {g : Nat} {cs : Array Value} {w : World} (h : fn.results = #[.cell p 32]) (hp : tmps.getD p undef = .pointer (some ⟨g, 0, none⟩)) (hr : Row w g cs 32) (hs : cs.size = 3) :
    (results fn tmps).run Try.prog w = .ok (.agg cs) w :=
  results_cell_row h tmps w g _ cs (0, 0) _ hp hr Try.underlying32 rfl (by rw [hs]; exact size_ans)

theorem row_set3 {w : World} {g : Nat} {c0 c1 c2 : Value} {t : TypeId} (h : Row w g #[c0, c1, c2] t) (v0 v1 v2 : Value) :
    Row (((w.setCell ⟨g, 0, none⟩ v0).setCell ⟨g, 1, none⟩ v1).setCell ⟨g, 2, none⟩ v2) g #[v0, v1, v2] t := by
  simpa using ((h.setCell 0 v0).setCell 1 v1).setCell 2 v2

theorem fr_three {S : Nat → Prop} {w w1 : World} {g : Nat} (h : Fr S w w1) (hg : w.heap.size ≤ g ∨ S g) (v0 v1 v2 : Value) : Fr S w (((w1.setCell ⟨g, 0, none⟩ v0).setCell ⟨g, 1, none⟩ v1).setCell ⟨g, 2, none⟩ v2) :=
  ((h.setCell (p := ⟨g, 0, none⟩) hg v0).setCell (p := ⟨g, 1, none⟩) hg v1).setCell (p := ⟨g, 2, none⟩) hg v2

theorem row4 {w : World} {b : Nat} {c0 c1 c2 c3 : Value} {t : TypeId} (h : Row w b #[c0, c1, c2, c3] t) :
    w.cell? ⟨b, 0, none⟩ = some c0 ∧ w.cell? ⟨b, 1, none⟩ = some c1 ∧ w.cell? ⟨b, 2, none⟩ = some c2 ∧ w.cell? ⟨b, 3, none⟩ = some c3 := ⟨h.cell 0, h.cell 1, h.cell 2, h.cell 3⟩

theorem Chg.ans {w w1 : World} {B : Bk} {S : Vg} (h : Chg w B S w1) (hb : ∀ k, B.s k → k < w.heap.size) (v0 v1 v2 : Value) :
    Chg w B S (((w1.setCell ⟨w.heap.size + 1, 0, none⟩ v0).setCell ⟨w.heap.size + 1, 1, none⟩ v1).setCell ⟨w.heap.size + 1, 2, none⟩ v2) :=
  ⟨fr_three h.1 (Or.inl (Nat.le_succ _)) v0 v1 v2, h.2.keep (fr_three (Fr.refl (at' (w.heap.size + 1)) w1) (Or.inr rfl) v0 v1 v2) (fun k hk e => by have := hb k hk; have e' : k = w.heap.size + 1 := e; omega)⟩

set_option maxRecDepth 100000 in
set_option maxHeartbeats 2000000 in
theorem does_1 (w : World) (B : Bk) (S : Vg) (h : IsVg w B S) (n p : Int) (on : Bool) :
    Calls Try.prog 12 #[.pointer (some ⟨B.b, 0, none⟩), .agg #[.int .i64 1, .int .i64 n, .int .i64 p, .bool on]] w fun e w' => e = .returned (.agg #[.int .i64 0, .bool false, .int .i64 (injE S n p)]) ∧ Chg w B (injS S n p on) w' := by
  have f0 := ((Fr.refl none' w).alloc (.cells #[.int .i64 1, .int .i64 n, .int .i64 p, .bool on] 35)).alloc (.cells #[.int .i64 0, .bool false, .int .i64 0] 32)
  have h0 := h.keep0 f0
  have rz := row_two w (.cells #[.int .i64 1, .int .i64 n, .int .i64 p, .bool on] 35) #[.int .i64 0, .bool false, .int .i64 0] 32
  have hb : ∀ k, B.s k → k < w.heap.size := fun k hk => h.lt k hk
  have n1 : ¬ B.s (w.heap.size + 1) := fun e => by have := hb _ e; omega
  have H := inject_any _ B S h0 n p on
  generalize injE S n p = rv at *
  go_enter Try.func12, Try.ntmps12
  go_wp2_with fail
  refine H.mono ?_
  rintro e w1 ⟨rfl, f1, t1⟩
  have r1 := rz.keep f1 n1
  have c0 := r1.cell 0
  have c1 := r1.cell 1
  have c2 := r1.cell 2
  have g0 := r1.frozen 0
  have g1 := r1.frozen 1
  have g2 := r1.frozen 2
  have HC : Hid (Chg w B (injS S n p on) w1) := ⟨(f0.mono (fun _ _ h => h.elim)).trans f1, t1⟩
  clear f1 t1 H rz h h0 f0
  go_wp2_with fail
  refine bodyPost_ret (ret_ans rfl rfl (row_set3 r1 _ _ _) rfl) rfl ?_
  exact ⟨rfl, HC.out.ans hb _ _ _⟩

set_option maxRecDepth 100000 in
set_option maxHeartbeats 2000000 in
theorem does_2 (w : World) (B : Bk) (S : Vg) (h : IsVg w B S) (n p : Int) (on : Bool) :
    Calls Try.prog 12 #[.pointer (some ⟨B.b, 0, none⟩), .agg #[.int .i64 2, .int .i64 n, .int .i64 p, .bool on]] w fun e w' => e = .returned (.agg #[.int .i64 0, .bool false, .int .i64 (enaE n)]) ∧ Chg w B (enaS S n on) w' := by
  have f0 := ((Fr.refl none' w).alloc (.cells #[.int .i64 2, .int .i64 n, .int .i64 p, .bool on] 35)).alloc (.cells #[.int .i64 0, .bool false, .int .i64 0] 32)
  have h0 := h.keep0 f0
  have rz := row_two w (.cells #[.int .i64 2, .int .i64 n, .int .i64 p, .bool on] 35) #[.int .i64 0, .bool false, .int .i64 0] 32
  have hb : ∀ k, B.s k → k < w.heap.size := fun k hk => h.lt k hk
  have n1 : ¬ B.s (w.heap.size + 1) := fun e => by have := hb _ e; omega
  have H := enable_any _ B S h0 n on
  generalize enaE n = rv at *
  go_enter Try.func12, Try.ntmps12
  go_wp2_with fail
  refine H.mono ?_
  rintro e w1 ⟨rfl, f1, t1⟩
  have r1 := rz.keep f1 n1
  have c0 := r1.cell 0
  have c1 := r1.cell 1
  have c2 := r1.cell 2
  have g0 := r1.frozen 0
  have g1 := r1.frozen 1
  have g2 := r1.frozen 2
  have HC : Hid (Chg w B (enaS S n on) w1) := ⟨(f0.mono (fun _ _ h => h.elim)).trans f1, t1⟩
  clear f1 t1 H rz h h0 f0
  go_wp2_with fail
  refine bodyPost_ret (ret_ans rfl rfl (row_set3 r1 _ _ _) rfl) rfl ?_
  exact ⟨rfl, HC.out.ans hb _ _ _⟩

set_option maxRecDepth 100000 in
set_option maxHeartbeats 2000000 in
theorem does_3 (w : World) (B : Bk) (S : Vg) (h : IsVg w B S) (n p : Int) (on : Bool) :
    Calls Try.prog 12 #[.pointer (some ⟨B.b, 0, none⟩), .agg #[.int .i64 3, .int .i64 n, .int .i64 p, .bool on]] w fun e w' => e = .returned (.agg #[.int .i64 0, .bool false, .int .i64 (masE p)]) ∧ Chg w B (masS S p) w' := by
  have f0 := ((Fr.refl none' w).alloc (.cells #[.int .i64 3, .int .i64 n, .int .i64 p, .bool on] 35)).alloc (.cells #[.int .i64 0, .bool false, .int .i64 0] 32)
  have h0 := h.keep0 f0
  have rz := row_two w (.cells #[.int .i64 3, .int .i64 n, .int .i64 p, .bool on] 35) #[.int .i64 0, .bool false, .int .i64 0] 32
  have hb : ∀ k, B.s k → k < w.heap.size := fun k hk => h.lt k hk
  have n1 : ¬ B.s (w.heap.size + 1) := fun e => by have := hb _ e; omega
  have H := mask_any _ B S h0 p
  generalize masE p = rv at *
  go_enter Try.func12, Try.ntmps12
  go_wp2_with fail
  refine H.mono ?_
  rintro e w1 ⟨rfl, f1, t1⟩
  have r1 := rz.keep f1 n1
  have c0 := r1.cell 0
  have c1 := r1.cell 1
  have c2 := r1.cell 2
  have g0 := r1.frozen 0
  have g1 := r1.frozen 1
  have g2 := r1.frozen 2
  have HC : Hid (Chg w B (masS S p) w1) := ⟨(f0.mono (fun _ _ h => h.elim)).trans f1, t1⟩
  clear f1 t1 H rz h h0 f0
  go_wp2_with fail
  refine bodyPost_ret (ret_ans rfl rfl (row_set3 r1 _ _ _) rfl) rfl ?_
  exact ⟨rfl, HC.out.ans hb _ _ _⟩

set_option maxRecDepth 100000 in
set_option maxHeartbeats 2000000 in
theorem does_4 (w : World) (B : Bk) (S : Vg) (h : IsVg w B S) (n p : Int) (on : Bool) :
    Calls Try.prog 12 #[.pointer (some ⟨B.b, 0, none⟩), .agg #[.int .i64 4, .int .i64 n, .int .i64 p, .bool on]] w fun e w' => e = .returned (.agg #[.int .i64 (ackA S), .bool false, .int .i64 0]) ∧ Chg w B (ackS S) w' := by
  have f0 := ((Fr.refl none' w).alloc (.cells #[.int .i64 4, .int .i64 n, .int .i64 p, .bool on] 35)).alloc (.cells #[.int .i64 0, .bool false, .int .i64 0] 32)
  have h0 := h.keep0 f0
  have rz := row_two w (.cells #[.int .i64 4, .int .i64 n, .int .i64 p, .bool on] 35) #[.int .i64 0, .bool false, .int .i64 0] 32
  have hb : ∀ k, B.s k → k < w.heap.size := fun k hk => h.lt k hk
  have n1 : ¬ B.s (w.heap.size + 1) := fun e => by have := hb _ e; omega
  have H := ack_any _ B S h0 
  generalize ackA S = rv at *
  go_enter Try.func12, Try.ntmps12
  go_wp2_with fail
  refine H.mono ?_
  rintro e w1 ⟨rfl, f1, t1⟩
  have r1 := rz.keep f1 n1
  have c0 := r1.cell 0
  have c1 := r1.cell 1
  have c2 := r1.cell 2
  have g0 := r1.frozen 0
  have g1 := r1.frozen 1
  have g2 := r1.frozen 2
  have HC : Hid (Chg w B (ackS S) w1) := ⟨(f0.mono (fun _ _ h => h.elim)).trans f1, t1⟩
  clear f1 t1 H rz h h0 f0
  go_wp2_with fail
  refine bodyPost_ret (ret_ans rfl rfl (row_set3 r1 _ _ _) rfl) rfl ?_
  exact ⟨rfl, HC.out.ans hb _ _ _⟩

set_option maxRecDepth 100000 in
set_option maxHeartbeats 2000000 in
theorem does_5 (w : World) (B : Bk) (S : Vg) (h : IsVg w B S) (n p : Int) (on : Bool) :
    Calls Try.prog 12 #[.pointer (some ⟨B.b, 0, none⟩), .agg #[.int .i64 5, .int .i64 n, .int .i64 p, .bool on]] w fun e w' => e = .returned (.agg #[.int .i64 0, .bool (endF S n), .int .i64 (endE S n)]) ∧ Chg w B (endS S n) w' := by
  have f0 := ((Fr.refl none' w).alloc (.cells #[.int .i64 5, .int .i64 n, .int .i64 p, .bool on] 35)).alloc (.cells #[.int .i64 0, .bool false, .int .i64 0] 32)
  have h0 := h.keep0 f0
  have rz := row_two w (.cells #[.int .i64 5, .int .i64 n, .int .i64 p, .bool on] 35) #[.int .i64 0, .bool false, .int .i64 0] 32
  have hb : ∀ k, B.s k → k < w.heap.size := fun k hk => h.lt k hk
  have n1 : ¬ B.s (w.heap.size + 1) := fun e => by have := hb _ e; omega
  have H := end_any _ B S h0 n
  generalize endF S n = rf at *
  generalize endE S n = rv at *
  go_enter Try.func12, Try.ntmps12
  go_wp2_with fail
  refine H.mono ?_
  rintro e w1 ⟨rfl, f1, t1⟩
  have r1 := rz.keep f1 n1
  have c0 := r1.cell 0
  have c1 := r1.cell 1
  have c2 := r1.cell 2
  have g0 := r1.frozen 0
  have g1 := r1.frozen 1
  have g2 := r1.frozen 2
  have HC : Hid (Chg w B (endS S n) w1) := ⟨(f0.mono (fun _ _ h => h.elim)).trans f1, t1⟩
  clear f1 t1 H rz h h0 f0
  go_wp2_with fail
  refine bodyPost_ret (ret_ans rfl rfl (row_set3 r1 _ _ _) rfl) rfl ?_
  exact ⟨rfl, HC.out.ans hb _ _ _⟩

set_option maxRecDepth 100000 in
set_option maxHeartbeats 2000000 in
theorem does_0 (w : World) (B : Bk) (S : Vg) (h : IsVg w B S) (d n p : Int) (on : Bool) (h1 : d ≠ 1) (h2 : d ≠ 2) (h3 : d ≠ 3) (h4 : d ≠ 4) (h5 : d ≠ 5) :
    Calls Try.prog 12 #[.pointer (some ⟨B.b, 0, none⟩), .agg #[.int .i64 d, .int .i64 n, .int .i64 p, .bool on]] w fun e w' => e = .returned (.agg #[.int .i64 0, .bool false, .int .i64 0]) ∧ Chg w B S w' := by
  have f0 := ((Fr.refl none' w).alloc (.cells #[.int .i64 d, .int .i64 n, .int .i64 p, .bool on] 35)).alloc (.cells #[.int .i64 0, .bool false, .int .i64 0] 32)
  have rz := row_two w (.cells #[.int .i64 d, .int .i64 n, .int .i64 p, .bool on] 35) #[.int .i64 0, .bool false, .int .i64 0] 32
  have u1 : (d == 1) = false := by simpa using h1
  have u2 : (d == 2) = false := by simpa using h2
  have u3 : (d == 3) = false := by simpa using h3
  have u4 : (d == 4) = false := by simpa using h4
  have u5 : (d == 5) = false := by simpa using h5
  have HC : Hid (Chg w B S ((w.alloc (.cells #[.int .i64 d, .int .i64 n, .int .i64 p, .bool on] 35)).alloc (.cells #[.int .i64 0, .bool false, .int .i64 0] 32))) := Chg.same h f0
  have HR : Hid (Row ((w.alloc (.cells #[.int .i64 d, .int .i64 n, .int .i64 p, .bool on] 35)).alloc (.cells #[.int .i64 0, .bool false, .int .i64 0] 32)) (w.heap.size + 1) #[.int .i64 0, .bool false, .int .i64 0] 32) := rz
  clear h f0 rz h1 h2 h3 h4 h5
  go_enter Try.func12, Try.ntmps12
  go_wp2_with fail
  refine bodyPost_ret (ret_ans rfl rfl HR.out rfl) rfl ?_
  exact ⟨rfl, HC.out⟩

theorem does_any (w : World) (B : Bk) (S : Vg) (h : IsVg w B S) (d n p : Int) (on : Bool) :
    Calls Try.prog 12 #[.pointer (some ⟨B.b, 0, none⟩), .agg #[.int .i64 d, .int .i64 n, .int .i64 p, .bool on]] w fun e w' => e = .returned (.agg #[.int .i64 (ansN d S), .bool (ansF d n S), .int .i64 (ansE d n p S)]) ∧ Chg w B (stepS d n p on S) w' := by
  by_cases h1 : d = 1
  · subst h1; exact does_1 w B S h n p on
  by_cases h2 : d = 2
  · subst h2; exact does_2 w B S h n p on
  by_cases h3 : d = 3
  · subst h3; exact does_3 w B S h n p on
  by_cases h4 : d = 4
  · subst h4; exact does_4 w B S h n p on
  by_cases h5 : d = 5
  · subst h5; exact does_5 w B S h n p on
  have e1 : ansN d S = 0 := by simp [ansN, h4]
  have e2 : ansF d n S = false := by simp [ansF, h5]
  have e3 : ansE d n p S = 0 := by simp [ansE, h1, h2, h3, h5]
  have e4 : stepS d n p on S = S := by simp [stepS, h1, h2, h3, h4, h5]
  rw [e1, e2, e3, e4]
  exact does_0 w B S h d n p on h1 h2 h3 h4 h5

end Go.Proofs.Ytlbflaebjicmaaa
