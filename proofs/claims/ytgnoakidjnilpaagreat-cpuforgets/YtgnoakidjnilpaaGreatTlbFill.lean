/-
  Contracts of package tlb's Fill over the translation, said of what the entries hold. No statement is proved here.
-/
import Derived.Test.YtgnoakidjnilpaaGreatTlbForget
import Derived.Shelf.Abstract
namespace Go.Proofs.YtgnoakidjnilpaaGreat
open Go.RowKit

/-- A captured number's own block. -/
theorem cell_of_alloc (w : World) (v : Value) (t : TypeId) : (w.alloc (.cells #[v] t)).cell? ⟨w.heap.size, 0, none⟩ = some v := (row_alloc w #[v] t).cell 0

set_option maxHeartbeats 2000000 in
theorem test_fill (w : World) (b g1 : Nat) (x : Ln) (h1 : Row w g1 #[.int .i64 x.v, .int .i64 x.a, .int .i64 x.p, .int .i64 x.f, .int .i64 x.r] 101) (n1 : g1 ≠ b) :
    Tests 192 #[.pointer (some ⟨g1, 0, none⟩)] (fun l => key l x) b w := by
  refine ⟨enters_of Tryz.func192 (by kernel_rfl) rfl, fun w1 l f1 => ?_⟩
  have rx := (h1.keep f1 n1).alloc (.cells #[.int .i64 l.v, .int .i64 l.a, .int .i64 l.p, .int .i64 l.f, .int .i64 l.r] 101)
  have rl := row_alloc w1 #[.int .i64 l.v, .int .i64 l.a, .int .i64 l.p, .int .i64 l.f, .int .i64 l.r] 101
  have hk1 := (h1.keep f1 n1).lt
  have k1 : g1 ≠ w1.heap.size := Nat.ne_of_lt hk1
  clear h1 f1 hk1
  have f1 := (Fr.refl none' w1).alloc (.cells #[.int .i64 l.v, .int .i64 l.a, .int .i64 l.p, .int .i64 l.f, .int .i64 l.r] 101)
  obtain ⟨c0, c1, c2, c3, c4⟩ := row5 rx
  obtain ⟨d0, d1, d2, d3, d4⟩ := row5 rl
  have heq := eq_line
  show Calls Tryz.prog 192 #[.agg #[.int .i64 l.v, .int .i64 l.a, .int .i64 l.p, .int .i64 l.f, .int .i64 l.r], .pointer (some ⟨g1, 0, none⟩)] w1 _
  go_enter Tryz.func192, Tryz.ntmps192
  go_wp2_with fail
  go_region_with (first
    | (go_at_call_of 188 (Ln.v l); refine (about_any l _).mono ?_; rintro e w2 ⟨rfl, f2⟩; (try replace f2 := f2.undrew); (replace f1 := f1.trans f2); (replace rx := rx.keep f2 (fun h => h)); (replace rl := rl.keep f2 (fun h => h)); clear f2; (try clear c0 c1 c2 c3 c4 d0 d1 d2 d3 d4); obtain ⟨c0, c1, c2, c3, c4⟩ := row5 rx; obtain ⟨d0, d1, d2, d3, d4⟩ := row5 rl)
    | (go_at_call_of 188 (Ln.v x); refine (about_any x _).mono ?_; rintro e w2 ⟨rfl, f2⟩; (try replace f2 := f2.undrew); (replace f1 := f1.trans f2); (replace rx := rx.keep f2 (fun h => h)); (replace rl := rl.keep f2 (fun h => h)); clear f2; (try clear c0 c1 c2 c3 c4 d0 d1 d2 d3 d4); obtain ⟨c0, c1, c2, c3, c4⟩ := row5 rx; obtain ⟨d0, d1, d2, d3, d4⟩ := row5 rl))
  all_goals (go_wp2_with fail)
  all_goals go_ret
  all_goals exact ⟨rfl, f1⟩

set_option maxHeartbeats 400000 in
theorem fill_out (w : World) (p : Value) (i : Int) (x : Ln) (hi : inB i 0 7 = false) :
    Calls Tryz.prog 181 #[p, .int .i64 i, .agg #[.int .i64 x.v, .int .i64 x.a, .int .i64 x.p, .int .i64 x.f, .int .i64 x.r]] w fun e w' => e = .returned (.int .i64 1) ∧ Fr none' w w' := by
  go_enter Tryz.func181, Tryz.ntmps181
  go_wp2_with fail
  refine (has_any _ _).mono ?_
  rintro e w1 ⟨rfl, rfl⟩
  rw [hi]
  go_wp2_with fail
  go_ret
  exact ⟨rfl, (Fr.refl _ _).alloc _⟩

set_option maxHeartbeats 400000 in
theorem fill_bad (w : World) (p : Value) (i : Int) (x : Ln) (hi : inB i 0 7 = true) (hx : rightL x = false) :
    Calls Tryz.prog 181 #[p, .int .i64 i, .agg #[.int .i64 x.v, .int .i64 x.a, .int .i64 x.p, .int .i64 x.f, .int .i64 x.r]] w fun e w' => e = .returned (.int .i64 30) ∧ Fr none' w w' := by
  have f0 := (Fr.refl none' w).alloc (.cells #[.int .i64 x.v, .int .i64 x.a, .int .i64 x.p, .int .i64 x.f, .int .i64 x.r] 101)
  go_enter Tryz.func181, Tryz.ntmps181
  go_wp2_with fail
  refine (has_any _ _).mono ?_
  rintro e w1 ⟨rfl, rfl⟩
  rw [hi]
  go_wp2_with fail
  refine (tright_any x _).mono ?_
  rintro e w2 ⟨rfl, f2⟩
  rw [hx]
  go_wp2_with fail
  go_ret
  exact ⟨rfl, f0.trans f2⟩

set_option maxHeartbeats 2000000 in
theorem fill_ok (w : World) (b : Nat) (T : Nat → Ln) (fo mi : Int) (h : IsTlb w b T fo mi) (k : Nat) (hk : k < 8) (x : Ln) (hx : rightL x = true) :
    Calls Tryz.prog 181 #[.pointer (some ⟨b, 0, none⟩), .int .i64 (k : Int), .agg #[.int .i64 x.v, .int .i64 x.a, .int .i64 x.p, .int .i64 x.f, .int .i64 x.r]] w fun e w' =>
      e = .returned (.int .i64 0) ∧ Fr (at' b) w w' ∧ IsTlb w' b (filled T k x) fo mi := by
  have hi : inB (k : Int) 0 7 = true := inB_iff.mpr (by omega)
  have hb := h.lt
  have f0 := (Fr.refl (at' b) w).alloc (.cells #[.int .i64 x.v, .int .i64 x.a, .int .i64 x.p, .int .i64 x.f, .int .i64 x.r] 101)
  have r0 := row_alloc w #[.int .i64 x.v, .int .i64 x.a, .int .i64 x.p, .int .i64 x.f, .int .i64 x.r] 101
  have h0 := h.alloc (.cells #[.int .i64 x.v, .int .i64 x.a, .int .i64 x.p, .int .i64 x.f, .int .i64 x.r] 101)
  have i1 : 0 ≤ (k : Int) ∧ (k : Int) < 8 := by omega
  clear h
  go_enter Tryz.func181, Tryz.ntmps181
  go_wp2_with fail
  refine (has_any _ _).mono ?_
  rintro e w1 ⟨rfl, rfl⟩
  rw [hi]
  go_wp2_with fail
  refine (tright_any x _).mono ?_
  rintro e w2 ⟨rfl, f2⟩
  rw [hx]
  replace r0 := r0.keep f2 (fun h => h)
  replace h0 := h0.keep f2 (fun h => h)
  replace f0 := f0.trans (f2.mono (T := at' b) (fun _ _ h => h.elim))
  clear f2
  go_wp2_with fail
  refine (forget_any _ _ _ _ _ h0 _ _ _ (test_fill _ b _ x r0 (by omega))).mono ?_
  rintro e w3 ⟨rfl, f3, h3⟩
  replace r0 := r0.keep f3 (show w.heap.size ≠ b by omega)
  replace f0 := f0.trans f3
  clear f3 h0
  obtain ⟨d0, d1, d2, d3, d4⟩ := row5 r0
  obtain ⟨c0, c1, c2, c3, c4⟩ := h3.cells k hk
  have g0 := h3.frozen (k * 5)
  have g1 := h3.frozen (k * 5 + 1)
  have g2 := h3.frozen (k * 5 + 2)
  have g3 := h3.frozen (k * 5 + 3)
  have g4 := h3.frozen (k * 5 + 4)
  go_wp2_with fail
  go_region
  all_goals (go_wp2_with fail)
  all_goals go_ret
  all_goals exact ⟨rfl, (set5_fr (l := x) f0 (Or.inr rfl)).drew, (h3.setLine hk x).keep ((Fr.refl none' _).drew) (fun h => h)⟩

end Go.Proofs.YtgnoakidjnilpaaGreat
