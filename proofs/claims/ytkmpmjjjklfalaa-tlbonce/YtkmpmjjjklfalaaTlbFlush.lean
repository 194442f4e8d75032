/-
  Contracts of package tlb's FlushPage, FlushAsid, FlushVmid, FlushAll, Fill over the translation, said of what the entries hold. No statement is proved here.
-/
import Derived.Test.YtkmpmjjjklfalaaTlbForget
import Derived.Shelf.Abstract
namespace Go.Proofs.Ytkmpmjjjklfalaa
open Go.RowKit

/-- A captured number's own block. -/
theorem cell_of_alloc (w : World) (v : Value) (t : TypeId) : (w.alloc (.cells #[v] t)).cell? ⟨w.heap.size, 0, none⟩ = some v := (row_alloc w #[v] t).cell 0

set_option maxHeartbeats 400000 in
theorem test_page (w : World) (b g1 g2 : Nat) (vm x : Int) (h1 : w.cell? ⟨g1, 0, none⟩ = some (.int .i64 vm)) (h2 : w.cell? ⟨g2, 0, none⟩ = some (.int .i64 x)) (n1 : g1 ≠ b) (n2 : g2 ≠ b) :
    Tests 35 #[.pointer (some ⟨g1, 0, none⟩), .pointer (some ⟨g2, 0, none⟩)] (fun l => l.v == vm && l.p == x) b w := by
  refine ⟨enters_of Try.func35 (by kernel_rfl) rfl, fun w1 l f1 => ?_⟩
  have e1 := cell_keep f1 h1 n1
  have e2 := cell_keep f1 h2 n2
  have l1 := cell_lt e1
  have l2 := cell_lt e2
  have k1 : g1 ≠ w1.heap.size := Nat.ne_of_lt l1
  have k2 : g2 ≠ w1.heap.size := Nat.ne_of_lt l2
  have a1 := cell_keep ((Fr.refl none' w1).alloc (.cells #[.int .i64 l.v, .int .i64 l.a, .int .i64 l.p, .int .i64 l.f, .int .i64 l.r] 28)) e1 (fun h => h)
  have a2 := cell_keep ((Fr.refl none' w1).alloc (.cells #[.int .i64 l.v, .int .i64 l.a, .int .i64 l.p, .int .i64 l.f, .int .i64 l.r] 28)) e2 (fun h => h)
  clear h1 h2 f1 e1 e2 l1 l2
  show Calls Try.prog 35 #[.agg #[.int .i64 l.v, .int .i64 l.a, .int .i64 l.p, .int .i64 l.f, .int .i64 l.r], .pointer (some ⟨g1, 0, none⟩), .pointer (some ⟨g2, 0, none⟩)] w1 _
  cases t1 : (l.v == vm) with
  | true =>
    go_enter Try.func35, Try.ntmps35
    go_wp2_with fail
    go_ret
    exact ⟨by simp [t1], (Fr.refl _ _).alloc _⟩
  | false =>
    go_enter Try.func35, Try.ntmps35
    go_wp2_with fail
    go_ret
    exact ⟨by simp [t1], (Fr.refl _ _).alloc _⟩

set_option maxHeartbeats 400000 in
theorem test_asid (w : World) (b g1 g2 : Nat) (vm x : Int) (h1 : w.cell? ⟨g1, 0, none⟩ = some (.int .i64 vm)) (h2 : w.cell? ⟨g2, 0, none⟩ = some (.int .i64 x)) (n1 : g1 ≠ b) (n2 : g2 ≠ b) :
    Tests 36 #[.pointer (some ⟨g1, 0, none⟩), .pointer (some ⟨g2, 0, none⟩)] (fun l => l.v == vm && l.a == x) b w := by
  refine ⟨enters_of Try.func36 (by kernel_rfl) rfl, fun w1 l f1 => ?_⟩
  have e1 := cell_keep f1 h1 n1
  have e2 := cell_keep f1 h2 n2
  have l1 := cell_lt e1
  have l2 := cell_lt e2
  have k1 : g1 ≠ w1.heap.size := Nat.ne_of_lt l1
  have k2 : g2 ≠ w1.heap.size := Nat.ne_of_lt l2
  have a1 := cell_keep ((Fr.refl none' w1).alloc (.cells #[.int .i64 l.v, .int .i64 l.a, .int .i64 l.p, .int .i64 l.f, .int .i64 l.r] 28)) e1 (fun h => h)
  have a2 := cell_keep ((Fr.refl none' w1).alloc (.cells #[.int .i64 l.v, .int .i64 l.a, .int .i64 l.p, .int .i64 l.f, .int .i64 l.r] 28)) e2 (fun h => h)
  clear h1 h2 f1 e1 e2 l1 l2
  show Calls Try.prog 36 #[.agg #[.int .i64 l.v, .int .i64 l.a, .int .i64 l.p, .int .i64 l.f, .int .i64 l.r], .pointer (some ⟨g1, 0, none⟩), .pointer (some ⟨g2, 0, none⟩)] w1 _
  cases t1 : (l.v == vm) with
  | true =>
    go_enter Try.func36, Try.ntmps36
    go_wp2_with fail
    go_ret
    exact ⟨by simp [t1], (Fr.refl _ _).alloc _⟩
  | false =>
    go_enter Try.func36, Try.ntmps36
    go_wp2_with fail
    go_ret
    exact ⟨by simp [t1], (Fr.refl _ _).alloc _⟩

set_option maxHeartbeats 400000 in
theorem test_vmid (w : World) (b g1 : Nat) (vm : Int) (h1 : w.cell? ⟨g1, 0, none⟩ = some (.int .i64 vm)) (n1 : g1 ≠ b) :
    Tests 37 #[.pointer (some ⟨g1, 0, none⟩)] (fun l => l.v == vm) b w := by
  refine ⟨enters_of Try.func37 (by kernel_rfl) rfl, fun w1 l f1 => ?_⟩
  have e1 := cell_keep f1 h1 n1
  have l1 := cell_lt e1
  have k1 : g1 ≠ w1.heap.size := Nat.ne_of_lt l1
  have a1 := cell_keep ((Fr.refl none' w1).alloc (.cells #[.int .i64 l.v, .int .i64 l.a, .int .i64 l.p, .int .i64 l.f, .int .i64 l.r] 28)) e1 (fun h => h)
  clear h1 f1 e1 l1
  show Calls Try.prog 37 #[.agg #[.int .i64 l.v, .int .i64 l.a, .int .i64 l.p, .int .i64 l.f, .int .i64 l.r], .pointer (some ⟨g1, 0, none⟩)] w1 _
  go_enter Try.func37, Try.ntmps37
  go_wp2_with fail
  go_ret
  exact ⟨rfl, (Fr.refl _ _).alloc _⟩

set_option maxHeartbeats 400000 in
theorem test_all (w : World) (b : Nat) : Tests 38 #[] (fun _ => true) b w := by
  refine ⟨enters_of Try.func38 (by kernel_rfl) rfl, fun w1 l _ => ?_⟩
  show Calls Try.prog 38 #[.agg #[.int .i64 l.v, .int .i64 l.a, .int .i64 l.p, .int .i64 l.f, .int .i64 l.r]] w1 _
  go_enter Try.func38, Try.ntmps38
  go_wp2_with fail
  go_ret
  exact ⟨rfl, (Fr.refl _ _).alloc _⟩

set_option maxHeartbeats 400000 in
theorem flush_page (w : World) (b : Nat) (T : Nat → Ln) (fo mi vm x : Int) (h : IsTlb w b T fo mi) :
    Calls Try.prog 19 #[.pointer (some ⟨b, 0, none⟩), .int .i64 vm, .int .i64 x] w fun e w' =>
      e = .returned (.int .i64 (cnt (fun l => l.v == vm && l.p == x) T 8)) ∧ Fr (at' b) w w' ∧ IsTlb w' b (wipe (fun l => l.v == vm && l.p == x) T) fo mi := by
  have hb := h.lt
  have c1 := cell_of_alloc w (.int .i64 vm) 3
  have h1 := h.alloc (.cells #[.int .i64 vm] 3)
  have f1 := (Fr.refl (at' b) w).alloc (.cells #[.int .i64 vm] 3)
  have hs : (w.alloc (.cells #[.int .i64 vm] 3)).heap.size = w.heap.size + 1 := by simp
  have c2 := cell_of_alloc (w.alloc (.cells #[.int .i64 vm] 3)) (.int .i64 x) 3
  rw [hs] at c2
  have c3 := cell_keep ((Fr.refl none' (w.alloc (.cells #[.int .i64 vm] 3))).alloc (.cells #[.int .i64 x] 3)) c1 (fun h => h)
  have h2 := h1.alloc (.cells #[.int .i64 x] 3)
  have f2 := f1.alloc (.cells #[.int .i64 x] 3)
  have ht := test_page _ b _ _ vm x c3 c2 (by omega) (by omega)
  clear hs c1 c2 c3 h1 f1
  go_enter Try.func19, Try.ntmps19
  go_wp2_with fail
  refine (forget_any _ _ _ _ _ h2 _ _ _ ht).mono ?_
  rintro e w1 ⟨rfl, f3, h3⟩
  go_wp2_with fail
  go_ret
  exact ⟨rfl, f2.trans f3, h3⟩

set_option maxHeartbeats 400000 in
theorem flush_asid (w : World) (b : Nat) (T : Nat → Ln) (fo mi vm x : Int) (h : IsTlb w b T fo mi) :
    Calls Try.prog 20 #[.pointer (some ⟨b, 0, none⟩), .int .i64 vm, .int .i64 x] w fun e w' =>
      e = .returned (.int .i64 (cnt (fun l => l.v == vm && l.a == x) T 8)) ∧ Fr (at' b) w w' ∧ IsTlb w' b (wipe (fun l => l.v == vm && l.a == x) T) fo mi := by
  have hb := h.lt
  have c1 := cell_of_alloc w (.int .i64 vm) 3
  have h1 := h.alloc (.cells #[.int .i64 vm] 3)
  have f1 := (Fr.refl (at' b) w).alloc (.cells #[.int .i64 vm] 3)
  have hs : (w.alloc (.cells #[.int .i64 vm] 3)).heap.size = w.heap.size + 1 := by simp
  have c2 := cell_of_alloc (w.alloc (.cells #[.int .i64 vm] 3)) (.int .i64 x) 3
  rw [hs] at c2
  have c3 := cell_keep ((Fr.refl none' (w.alloc (.cells #[.int .i64 vm] 3))).alloc (.cells #[.int .i64 x] 3)) c1 (fun h => h)
  have h2 := h1.alloc (.cells #[.int .i64 x] 3)
  have f2 := f1.alloc (.cells #[.int .i64 x] 3)
  have ht := test_asid _ b _ _ vm x c3 c2 (by omega) (by omega)
  clear hs c1 c2 c3 h1 f1
  go_enter Try.func20, Try.ntmps20
  go_wp2_with fail
  refine (forget_any _ _ _ _ _ h2 _ _ _ ht).mono ?_
  rintro e w1 ⟨rfl, f3, h3⟩
  go_wp2_with fail
  go_ret
  exact ⟨rfl, f2.trans f3, h3⟩

set_option maxHeartbeats 400000 in
theorem flush_vmid (w : World) (b : Nat) (T : Nat → Ln) (fo mi vm : Int) (h : IsTlb w b T fo mi) :
    Calls Try.prog 21 #[.pointer (some ⟨b, 0, none⟩), .int .i64 vm] w fun e w' =>
      e = .returned (.int .i64 (cnt (fun l => l.v == vm) T 8)) ∧ Fr (at' b) w w' ∧ IsTlb w' b (wipe (fun l => l.v == vm) T) fo mi := by
  have hb := h.lt
  have c1 := cell_of_alloc w (.int .i64 vm) 3
  have h1 := h.alloc (.cells #[.int .i64 vm] 3)
  have f1 := (Fr.refl (at' b) w).alloc (.cells #[.int .i64 vm] 3)
  have ht := test_vmid _ b _ vm c1 (by omega)
  clear c1
  go_enter Try.func21, Try.ntmps21
  go_wp2_with fail
  refine (forget_any _ _ _ _ _ h1 _ _ _ ht).mono ?_
  rintro e w1 ⟨rfl, f3, h3⟩
  go_wp2_with fail
  go_ret
  exact ⟨rfl, f1.trans f3, h3⟩

set_option maxHeartbeats 400000 in
theorem flush_all (w : World) (b : Nat) (T : Nat → Ln) (fo mi : Int) (h : IsTlb w b T fo mi) :
    Calls Try.prog 23 #[.pointer (some ⟨b, 0, none⟩)] w fun e w' =>
      e = .returned (.int .i64 (cnt (fun _ => true) T 8)) ∧ Fr (at' b) w w' ∧ IsTlb w' b (wipe (fun _ => true) T) fo mi := by
  have ht := test_all w b
  go_enter Try.func23, Try.ntmps23
  go_wp2_with fail
  refine (forget_any _ _ _ _ _ h _ _ _ ht).mono ?_
  rintro e w1 ⟨rfl, f3, h3⟩
  go_wp2_with fail
  go_ret
  exact ⟨rfl, f3, h3⟩

set_option maxHeartbeats 2000000 in
theorem test_fill (w : World) (b g1 : Nat) (x : Ln) (h1 : Row w g1 #[.int .i64 x.v, .int .i64 x.a, .int .i64 x.p, .int .i64 x.f, .int .i64 x.r] 28) (n1 : g1 ≠ b) :
    Tests 32 #[.pointer (some ⟨g1, 0, none⟩)] (fun l => key l x) b w := by
  refine ⟨enters_of Try.func32 (by kernel_rfl) rfl, fun w1 l f1 => ?_⟩
  have rx := (h1.keep f1 n1).alloc (.cells #[.int .i64 l.v, .int .i64 l.a, .int .i64 l.p, .int .i64 l.f, .int .i64 l.r] 28)
  have rl := row_alloc w1 #[.int .i64 l.v, .int .i64 l.a, .int .i64 l.p, .int .i64 l.f, .int .i64 l.r] 28
  have hk1 := (h1.keep f1 n1).lt
  have k1 : g1 ≠ w1.heap.size := Nat.ne_of_lt hk1
  clear h1 f1 hk1
  have f1 := (Fr.refl none' w1).alloc (.cells #[.int .i64 l.v, .int .i64 l.a, .int .i64 l.p, .int .i64 l.f, .int .i64 l.r] 28)
  obtain ⟨c0, c1, c2, c3, c4⟩ := row5 rx
  obtain ⟨d0, d1, d2, d3, d4⟩ := row5 rl
  have heq := eq_line
  show Calls Try.prog 32 #[.agg #[.int .i64 l.v, .int .i64 l.a, .int .i64 l.p, .int .i64 l.f, .int .i64 l.r], .pointer (some ⟨g1, 0, none⟩)] w1 _
  go_enter Try.func32, Try.ntmps32
  go_wp2_with fail
  go_region_with (first
    | (go_at_call_of 33 (Ln.v l); refine (about_any l _).mono ?_; rintro e w2 ⟨rfl, f2⟩; (try replace f2 := f2.undrew); (replace f1 := f1.trans f2); (replace rx := rx.keep f2 (fun h => h)); (replace rl := rl.keep f2 (fun h => h)); clear f2; (try clear c0 c1 c2 c3 c4 d0 d1 d2 d3 d4); obtain ⟨c0, c1, c2, c3, c4⟩ := row5 rx; obtain ⟨d0, d1, d2, d3, d4⟩ := row5 rl)
    | (go_at_call_of 33 (Ln.v x); refine (about_any x _).mono ?_; rintro e w2 ⟨rfl, f2⟩; (try replace f2 := f2.undrew); (replace f1 := f1.trans f2); (replace rx := rx.keep f2 (fun h => h)); (replace rl := rl.keep f2 (fun h => h)); clear f2; (try clear c0 c1 c2 c3 c4 d0 d1 d2 d3 d4); obtain ⟨c0, c1, c2, c3, c4⟩ := row5 rx; obtain ⟨d0, d1, d2, d3, d4⟩ := row5 rl))
  all_goals (go_wp2_with fail)
  all_goals go_ret
  all_goals exact ⟨rfl, f1⟩

set_option maxHeartbeats 400000 in
theorem fill_out (w : World) (p : Value) (i : Int) (x : Ln) (hi : inB i 0 7 = false) :
    Calls Try.prog 15 #[p, .int .i64 i, .agg #[.int .i64 x.v, .int .i64 x.a, .int .i64 x.p, .int .i64 x.f, .int .i64 x.r]] w fun e w' => e = .returned (.int .i64 1) ∧ Fr none' w w' := by
  go_enter Try.func15, Try.ntmps15
  go_wp2_with fail
  refine (has_any _ _).mono ?_
  rintro e w1 ⟨rfl, rfl⟩
  rw [hi]
  go_wp2_with fail
  go_ret
  exact ⟨rfl, (Fr.refl _ _).alloc _⟩

set_option maxHeartbeats 400000 in
theorem fill_bad (w : World) (p : Value) (i : Int) (x : Ln) (hi : inB i 0 7 = true) (hx : rightL x = false) :
    Calls Try.prog 15 #[p, .int .i64 i, .agg #[.int .i64 x.v, .int .i64 x.a, .int .i64 x.p, .int .i64 x.f, .int .i64 x.r]] w fun e w' => e = .returned (.int .i64 30) ∧ Fr none' w w' := by
  have f0 := (Fr.refl none' w).alloc (.cells #[.int .i64 x.v, .int .i64 x.a, .int .i64 x.p, .int .i64 x.f, .int .i64 x.r] 28)
  go_enter Try.func15, Try.ntmps15
  go_wp2_with fail
  refine (has_any _ _).mono ?_
  rintro e w1 ⟨rfl, rfl⟩
  rw [hi]
  go_wp2_with fail
  refine (right_any x _).mono ?_
  rintro e w2 ⟨rfl, f2⟩
  rw [hx]
  go_wp2_with fail
  go_ret
  exact ⟨rfl, f0.trans f2⟩

set_option maxHeartbeats 2000000 in
theorem fill_ok (w : World) (b : Nat) (T : Nat → Ln) (fo mi : Int) (h : IsTlb w b T fo mi) (k : Nat) (hk : k < 8) (x : Ln) (hx : rightL x = true) :
    Calls Try.prog 15 #[.pointer (some ⟨b, 0, none⟩), .int .i64 (k : Int), .agg #[.int .i64 x.v, .int .i64 x.a, .int .i64 x.p, .int .i64 x.f, .int .i64 x.r]] w fun e w' =>
      e = .returned (.int .i64 0) ∧ Fr (at' b) w w' ∧ IsTlb w' b (filled T k x) fo mi := by
  have hi : inB (k : Int) 0 7 = true := inB_iff.mpr (by omega)
  have hb := h.lt
  have f0 := (Fr.refl (at' b) w).alloc (.cells #[.int .i64 x.v, .int .i64 x.a, .int .i64 x.p, .int .i64 x.f, .int .i64 x.r] 28)
  have r0 := row_alloc w #[.int .i64 x.v, .int .i64 x.a, .int .i64 x.p, .int .i64 x.f, .int .i64 x.r] 28
  have h0 := h.alloc (.cells #[.int .i64 x.v, .int .i64 x.a, .int .i64 x.p, .int .i64 x.f, .int .i64 x.r] 28)
  have i1 : 0 ≤ (k : Int) ∧ (k : Int) < 8 := by omega
  clear h
  go_enter Try.func15, Try.ntmps15
  go_wp2_with fail
  refine (has_any _ _).mono ?_
  rintro e w1 ⟨rfl, rfl⟩
  rw [hi]
  go_wp2_with fail
  refine (right_any x _).mono ?_
  rintro e w2 ⟨rfl, f2⟩
  rw [hx]
  replace r0 := r0.keep f2 (fun h => h)
  replace h0 := h0.keep f2 (fun h => h)
  replace f0 := f0.trans (f2.mono (T := at' b) (fun _ _ h => h.elim))
  clear f2
  go_wp2_with fail
  refine (forget_any _ _ _ _ _ h0 _ _ _ (test_fill _ b _ x r0 (by omega))).mono ?_
  rintro e w3 ⟨rfl, f3, h3⟩
  replace r0 := r0.keep f3 (show w.heap.size ≠ b by omega)
  replace f0 := f0.trans f3
  clear f3 h0
  obtain ⟨d0, d1, d2, d3, d4⟩ := row5 r0
  obtain ⟨c0, c1, c2, c3, c4⟩ := h3.cells k hk
  have g0 := h3.frozen (k * 5)
  have g1 := h3.frozen (k * 5 + 1)
  have g2 := h3.frozen (k * 5 + 2)
  have g3 := h3.frozen (k * 5 + 3)
  have g4 := h3.frozen (k * 5 + 4)
  go_wp2_with fail
  go_region
  all_goals (go_wp2_with fail)
  all_goals go_ret
  all_goals exact ⟨rfl, (set5_fr (l := x) f0 (Or.inr rfl)).drew, (h3.setLine hk x).keep ((Fr.refl none' _).drew) (fun h => h)⟩

end Go.Proofs.Ytkmpmjjjklfalaa
