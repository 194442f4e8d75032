/-
  The walk of IpcAnswers. No statement is proved here.
-/
import Derived.Test.YtcdckkhfkkjbmabIpAwake
import Derived.Test.YtcdckkhfkkjbmabIpAnsQ
import Derived.Test.YtcdckkhfkkjbmabIpRefR
import Derived.Test.YtcdckkhfkkjbmabIpOpen
namespace Go.Proofs.Ytcdckkhfkkjbmab
open Go.RowKit Go.Maps Go.WideMaps

theorem bel_of3 {w0 w w' : World} (f : Fr none' w0 w) (g : Fr none' w w') : Below w0.heap.size w0 w' := (f.trans g).below (Nat.le_refl _) (fun _ h => h.elim)
/-- One of three blocks. -/
def Thr (a b c : Nat) : Nat → Prop := fun k => k = a ∨ k = b ∨ k = c
def Sev (w : World) (k : Nat) (m : Ms) : Prop := w.cell? ⟨k, 0, none⟩ = some (.int .i64 m.l) ∧ w.cell? ⟨k, 1, none⟩ = some (.int .i64 m.b) ∧ w.cell? ⟨k, 2, none⟩ = some (.int .i64 m.n) ∧ w.cell? ⟨k, 3, none⟩ = some (.int .u32 m.w0) ∧ w.cell? ⟨k, 4, none⟩ = some (.int .u32 m.w1) ∧ w.cell? ⟨k, 5, none⟩ = some (.int .u32 m.w2) ∧ w.cell? ⟨k, 6, none⟩ = some (.int .u32 m.w3)

set_option maxRecDepth 100000 in
set_option maxHeartbeats 8000000 in
theorem answers_any (ep : Int) (m n : Ms) (fst : Bool) (W : World) (he64 : I64 ep) : Calls Try.prog 3 #[.int .i64 ep, msV m, msV n, .bool fst] W fun e W' => e = .returned (.bool true) ∧ Below W.heap.size W W' := by
  have f00 := ((Fr.refl none' W).alloc (.cells (msA m) 25)).alloc (.cells (msA n) 25)
  have rm0 := (row_alloc W (msA m) 25).alloc (.cells (msA n) 25)
  have rn0 := row_alloc1 W (.cells (msA m) 25) (msA n) 25
  have hE1 : ∀ w, (binOp .eql 25 (.agg #[.int .i64 m.l, .int .i64 m.b, .int .i64 m.n, .int .u32 m.w0, .int .u32 m.w1, .int .u32 m.w2, .int .u32 m.w3]) (.agg #[.int .i64 m.l, .int .i64 m.b, .int .i64 m.n, .int .u32 m.w0, .int .u32 m.w1, .int .u32 m.w2, .int .u32 m.w3])).run Try.prog w = .ok (.bool true) w := fun w => by
    have := eql_ms m m w
    rw [eqM_iff.2 rfl] at this
    exact this
  have hE2 : ∀ w, (binOp .eql 25 (.agg #[.int .i64 n.l, .int .i64 0, .int .i64 n.n, .int .u32 n.w0, .int .u32 n.w1, .int .u32 n.w2, .int .u32 n.w3]) (.agg #[.int .i64 n.l, .int .i64 0, .int .i64 n.n, .int .u32 n.w0, .int .u32 n.w1, .int .u32 n.w2, .int .u32 n.w3])).run Try.prog w = .ok (.bool true) w := fun w => by
    have := eql_ms { n with b := 0 } { n with b := 0 } w
    rw [eqM_iff.2 rfl] at this
    exact this
  obtain ⟨W2, hW2⟩ : ∃ W2, W2 = (W.alloc (.cells (msA m) 25)).alloc (.cells (msA n) 25) := ⟨_, rfl⟩
  have HW : Hid (Fr none' W W2) := by rw [hW2]; exact f00
  have HM : Hid (∀ w', Fr none' W2 w' → Sev w' W.heap.size m) := fun w' f => by
    have r := Row.keep (hW2 ▸ rm0) f (fun h => h)
    exact ⟨r.cell 0, r.cell 1, r.cell 2, r.cell 3, r.cell 4, r.cell 5, r.cell 6⟩
  have HN : Hid (∀ w', Fr none' W2 w' → Sev w' (W.heap.size + 1) n) := fun w' f => by
    have r := Row.keep (hW2 ▸ rn0) f (fun h => h)
    exact ⟨r.cell 0, r.cell 1, r.cell 2, r.cell 3, r.cell 4, r.cell 5, r.cell 6⟩
  clear f00 rm0 rn0
  dsimp only [msA] at hW2
  go_enter Try.func3, Try.ntmps3
  go_wp2_with fail
  rw [← hW2]
  clear hW2
  refine (awake_any W2).mono ?_
  rintro e w1 ⟨rfl, F0⟩
  go_wp2_with fail
  refine (xnew w1).mono ?_
  rintro e w2 ⟨b, rfl, P⟩
  have HF : Hid (Fr none' W2 w1) := F0
  clear F0
  obtain ⟨x0, x1, x2, x3, x4, x5, x6⟩ := HM.out w2 (HF.out.trans P.old)
  go_wp2_with fail
  refine (right_any m _).mono ?_
  rintro e w3 ⟨rfl, f3⟩
  replace P := P.keep0 f3
  clear f3 x0 x1 x2 x3 x4 x5 x6
  obtain ⟨x0, x1, x2, x3, x4, x5, x6⟩ := HN.out w3 (HF.out.trans P.old)
  go_wp2_with fail
  refine (right_any n _).mono ?_
  rintro e w4 ⟨rfl, f4⟩
  replace P := P.keep0 f4
  clear f4 x0 x1 x2 x3 x4 x5 x6
  cases hm : mayM m with
  | false =>
    go_wp2_with fail
    go_ret
    exact ⟨rfl, bel_of3 HW.out (HF.out.trans P.old)⟩
  | true =>
    cases hn : mayM n with
    | false =>
      go_wp2_with fail
      go_ret
      exact ⟨rfl, bel_of3 HW.out (HF.out.trans P.old)⟩
    | true =>
      by_cases h1 : ep < 0
      · have d1 : decide (ep < 0) = true := decide_eq_true h1
        go_wp2_with fail
        go_ret
        exact ⟨rfl, bel_of3 HW.out (HF.out.trans P.old)⟩
      · have d1 : decide (ep < 0) = false := decide_eq_false h1
        by_cases h2 : 1023 < ep
        · have d2 : decide (1023 < ep) = true := decide_eq_true h2
          go_wp2_with fail
          go_ret
          exact ⟨rfl, bel_of3 HW.out (HF.out.trans P.old)⟩
        · have d2 : decide (1023 < ep) = false := decide_eq_false h2
          have he : numB ep = true := num_iff.2 (by omega)
          have HA := asked (m := m) he hm fst
          obtain ⟨e1, e2, e3, e4, e5, e6, e7, e8, e9, e10, e11, e12, e13⟩ := answered HA hn
          have i5 : I64 5 := i64s (by omega) (by omega)
          have i6 : I64 6 := i64s (by omega) (by omega)
          have HT : Hid (∀ w', Ix w1 w' b (ansS ep m fst) (fun _ => False) → Ix w1 w' b (ansS ep m fst) (fun _ => False)) := fun _ h => h
          clear HA h1 h2
          cases fst with
          | true =>
            obtain ⟨x0, x1, x2, x3, x4, x5, x6⟩ := HM.out w4 (HF.out.trans P.old)
            have X1 := xsend P ep 5 m true true he64 i5
            generalize senN ip0 ep 5 m = a1 at X1
            generalize senE ip0 ep 5 m = a2 at X1
            go_wp2_with fail
            refine X1.mono ?_
            clear X1 P x0 x1 x2 x3 x4 x5 x6
            rintro e w5 ⟨rfl, P, _⟩
            have X1 := xrecv P ep 6 true he64 i6
            generalize recN (senS ip0 ep 5 m true true) ep 6 = a3 at X1
            generalize recG (senS ip0 ep 5 m true true) ep 6 = a4 at X1
            generalize recE (senS ip0 ep 5 m true true) ep 6 = a5 at X1
            go_wp2_with fail
            refine X1.mono ?_
            clear X1 P
            rintro e w6 ⟨rfl, P0, _⟩
            have P : Ix w1 w6 b (ansS ep m true) (fun _ => False) := P0
            clear P0 HT
            generalize ansS ep m true = S at *
            have X1 := xinbox P 6 i6
            rw [e1, e2] at X1
            go_wp2_with fail
            refine X1.mono ?_
            clear X1 P
            rintro e w7 ⟨rfl, P0, f⟩
            have rb := row_alloc w7 (msA m) 25
            have P : Ix w1 (w7.alloc (.cells (msA m) 25)) b _ (at' w7.heap.size) := P0.more ((Fr.refl none' _).alloc _) (fun j hj => by (have hj' := hj; simp only [at'] at hj'; rw [World.size_alloc]; exact ⟨Or.inr (by omega), by omega⟩))
            clear f P0
            dsimp only [msA] at P rb
            have r1 := rb
            clear rb
            have X1 := xstate P 5 i5
            rw [e3, e4] at X1
            go_wp2_with fail
            refine X1.mono ?_
            clear X1
            rintro e w8 ⟨rfl, f⟩
            replace r1 := Row.keep r1 f (fun h => h)
            replace P := P.keep0 f
            clear f
            have hg1 := r1.lt
            generalize w7.heap.size = g1 at *
            obtain ⟨x0, x1, x2, x3, x4, x5, x6⟩ := HN.out w8 (HF.out.trans P.old)
            have X1 := xreply P 6 n
            rw [e5, e6] at X1
            go_wp2_with fail
            refine X1.mono ?_
            clear X1 P
            rintro e w9 ⟨rfl, P, f⟩
            replace r1 := Row.keep r1 f (fun h => h.2 (by simp [at']))
            clear f
            clear x0 x1 x2 x3 x4 x5 x6
            obtain ⟨x0, x1, x2, x3, x4, x5, x6⟩ := HN.out w9 (HF.out.trans P.old)
            have X1 := xreply P 6 n
            rw [e7, e8] at X1
            go_wp2_with fail
            refine X1.mono ?_
            clear X1 P
            rintro e w10 ⟨rfl, P, f⟩
            replace r1 := Row.keep r1 f (fun h => h.2 (by simp [at']))
            clear f
            clear x0 x1 x2 x3 x4 x5 x6 hg1
            have X1 := xinbox P 5 i5
            rw [e9, e10] at X1
            go_wp2_with fail
            refine X1.mono ?_
            clear X1 P
            rintro e w11 ⟨rfl, P0, f⟩
            replace r1 := Row.keep r1 f (fun h => h.2 (by simp [at']))
            have rb := row_alloc w11 (msA { n with b := 0 }) 25
            have P : Ix w1 (w11.alloc (.cells (msA { n with b := 0 }) 25)) b _ (two g1 w11.heap.size) := P0.more ((Fr.refl none' _).alloc _) (fun j hj => by (have hj' := hj; simp only [two] at hj'; rw [World.size_alloc]; rcases hj' with rfl | rfl; exact ⟨Or.inl rfl, by have := r1.lt; omega⟩; exact ⟨Or.inr (by omega), by omega⟩))
            replace r1 := r1.alloc (.cells (msA { n with b := 0 }) 25)
            clear f P0
            dsimp only [msA] at P rb r1
            have r2 := rb
            clear rb
            go_wp2_with fail
            generalize hgen : w11.alloc (.cells _ _) = w11b at *
            clear hgen
            generalize w11.heap.size = g2 at *
            have X1 := xinbox P 6 i6
            rw [e12, e11] at X1
            go_wp2_with fail
            refine X1.mono ?_
            clear X1 P
            rintro e w12 ⟨rfl, P0, f⟩
            replace r1 := Row.keep r1 f (fun h => h.2 (by simp [two]))
            replace r2 := Row.keep r2 f (fun h => h.2 (by simp [two]))
            have rb := row_alloc w12 (msA M0) 25
            have P : Ix w1 (w12.alloc (.cells (msA M0) 25)) b _ (Thr g1 g2 w12.heap.size) := P0.more ((Fr.refl none' _).alloc _) (fun j hj => by (have hj' := hj; simp only [Thr] at hj'; rw [World.size_alloc]; rcases hj' with rfl | rfl | rfl; exact ⟨Or.inl (Or.inl rfl), by have := r1.lt; omega⟩; exact ⟨Or.inl (Or.inr rfl), by have := r2.lt; omega⟩; exact ⟨Or.inr (by omega), by omega⟩))
            replace r1 := r1.alloc (.cells (msA M0) 25)
            replace r2 := r2.alloc (.cells (msA M0) 25)
            clear f P0
            dsimp only [msA] at P rb r1 r2
            clear rb
            go_wp2_with fail
            generalize hgen : w12.alloc (.cells _ _) = w12b at *
            clear hgen
            generalize w12.heap.size = g3 at *
            have X1 := xstate P 5 i5
            rw [e13] at X1
            go_wp2_with fail
            refine X1.mono ?_
            clear X1
            rintro e w13 ⟨rfl, f⟩
            replace r1 := Row.keep r1 f (fun h => h)
            replace r2 := Row.keep r2 f (fun h => h)
            replace P := P.keep0 f
            clear f
            obtain ⟨x0, x1, x2, x3, x4, x5, x6⟩ := HN.out w13 (HF.out.trans P.old)
            have fz := (Fr.refl none' w13).alloc (.cells (msA { n with b := 0 }) 25)
            obtain ⟨y0, y1, y2, y3, y4, y5, y6⟩ := HM.out _ ((HF.out.trans P.old).trans fz)
            have s1 := r1.alloc (.cells (msA { n with b := 0 }) 25)
            have s2 := r2.alloc (.cells (msA { n with b := 0 }) 25)
            dsimp only [msA] at y0 y1 y2 y3 y4 y5 y6 s1 s2
            have u0 := s1.cell 0
            have u1 := s1.cell 1
            have u2 := s1.cell 2
            have u3 := s1.cell 3
            have u4 := s1.cell 4
            have u5 := s1.cell 5
            have u6 := s1.cell 6
            have v0 := s2.cell 0
            have v1 := s2.cell 1
            have v2 := s2.cell 2
            have v3 := s2.cell 3
            have v4 := s2.cell 4
            have v5 := s2.cell 5
            have v6 := s2.cell 6
            dsimp at u0 u1 u2 u3 u4 u5 u6 v0 v1 v2 v3 v4 v5 v6
            have HZ : Hid (Below W.heap.size W _) := bel_of3 HW.out ((HF.out.trans P.old).trans fz)
            clear r1 r2 s1 s2 P fz e1 e2 e3 e4 e5 e6 e7 e8 e9 e10 e11 e12 e13
            go_wp2_with fail
            go_ret
            exact ⟨rfl, HZ.out⟩
          | false =>
            obtain ⟨x0, x1, x2, x3, x4, x5, x6⟩ := HM.out w4 (HF.out.trans P.old)
            clear x0 x1 x2 x3 x4 x5 x6
            have X1 := xrecv P ep 6 true he64 i6
            generalize recN ip0 ep 6 = a3 at X1
            generalize recG ip0 ep 6 = a4 at X1
            generalize recE ip0 ep 6 = a5 at X1
            go_wp2_with fail
            refine X1.mono ?_
            clear X1 P
            rintro e w5 ⟨rfl, P, _⟩
            obtain ⟨x0, x1, x2, x3, x4, x5, x6⟩ := HM.out w5 (HF.out.trans P.old)
            have X1 := xsend P ep 5 m true true he64 i5
            generalize senN (recS ip0 ep 6 true) ep 5 m = a1 at X1
            generalize senE (recS ip0 ep 6 true) ep 5 m = a2 at X1
            go_wp2_with fail
            refine X1.mono ?_
            clear X1 P x0 x1 x2 x3 x4 x5 x6
            rintro e w6 ⟨rfl, P0, _⟩
            have P : Ix w1 w6 b (ansS ep m false) (fun _ => False) := P0
            clear P0 HT
            generalize ansS ep m false = S at *
            have X1 := xinbox P 6 i6
            rw [e1, e2] at X1
            go_wp2_with fail
            refine X1.mono ?_
            clear X1 P
            rintro e w7 ⟨rfl, P0, f⟩
            have rb := row_alloc w7 (msA m) 25
            have P : Ix w1 (w7.alloc (.cells (msA m) 25)) b _ (at' w7.heap.size) := P0.more ((Fr.refl none' _).alloc _) (fun j hj => by (have hj' := hj; simp only [at'] at hj'; rw [World.size_alloc]; exact ⟨Or.inr (by omega), by omega⟩))
            clear f P0
            dsimp only [msA] at P rb
            have r1 := rb
            clear rb
            have X1 := xstate P 5 i5
            rw [e3, e4] at X1
            go_wp2_with fail
            refine X1.mono ?_
            clear X1
            rintro e w8 ⟨rfl, f⟩
            replace r1 := Row.keep r1 f (fun h => h)
            replace P := P.keep0 f
            clear f
            have hg1 := r1.lt
            generalize w7.heap.size = g1 at *
            obtain ⟨x0, x1, x2, x3, x4, x5, x6⟩ := HN.out w8 (HF.out.trans P.old)
            have X1 := xreply P 6 n
            rw [e5, e6] at X1
            go_wp2_with fail
            refine X1.mono ?_
            clear X1 P
            rintro e w9 ⟨rfl, P, f⟩
            replace r1 := Row.keep r1 f (fun h => h.2 (by simp [at']))
            clear f
            clear x0 x1 x2 x3 x4 x5 x6
            obtain ⟨x0, x1, x2, x3, x4, x5, x6⟩ := HN.out w9 (HF.out.trans P.old)
            have X1 := xreply P 6 n
            rw [e7, e8] at X1
            go_wp2_with fail
            refine X1.mono ?_
            clear X1 P
            rintro e w10 ⟨rfl, P, f⟩
            replace r1 := Row.keep r1 f (fun h => h.2 (by simp [at']))
            clear f
            clear x0 x1 x2 x3 x4 x5 x6 hg1
            have X1 := xinbox P 5 i5
            rw [e9, e10] at X1
            go_wp2_with fail
            refine X1.mono ?_
            clear X1 P
            rintro e w11 ⟨rfl, P0, f⟩
            replace r1 := Row.keep r1 f (fun h => h.2 (by simp [at']))
            have rb := row_alloc w11 (msA { n with b := 0 }) 25
            have P : Ix w1 (w11.alloc (.cells (msA { n with b := 0 }) 25)) b _ (two g1 w11.heap.size) := P0.more ((Fr.refl none' _).alloc _) (fun j hj => by (have hj' := hj; simp only [two] at hj'; rw [World.size_alloc]; rcases hj' with rfl | rfl; exact ⟨Or.inl rfl, by have := r1.lt; omega⟩; exact ⟨Or.inr (by omega), by omega⟩))
            replace r1 := r1.alloc (.cells (msA { n with b := 0 }) 25)
            clear f P0
            dsimp only [msA] at P rb r1
            have r2 := rb
            clear rb
            go_wp2_with fail
            generalize hgen : w11.alloc (.cells _ _) = w11b at *
            clear hgen
            generalize w11.heap.size = g2 at *
            have X1 := xinbox P 6 i6
            rw [e12, e11] at X1
            go_wp2_with fail
            refine X1.mono ?_
            clear X1 P
            rintro e w12 ⟨rfl, P0, f⟩
            replace r1 := Row.keep r1 f (fun h => h.2 (by simp [two]))
            replace r2 := Row.keep r2 f (fun h => h.2 (by simp [two]))
            have rb := row_alloc w12 (msA M0) 25
            have P : Ix w1 (w12.alloc (.cells (msA M0) 25)) b _ (Thr g1 g2 w12.heap.size) := P0.more ((Fr.refl none' _).alloc _) (fun j hj => by (have hj' := hj; simp only [Thr] at hj'; rw [World.size_alloc]; rcases hj' with rfl | rfl | rfl; exact ⟨Or.inl (Or.inl rfl), by have := r1.lt; omega⟩; exact ⟨Or.inl (Or.inr rfl), by have := r2.lt; omega⟩; exact ⟨Or.inr (by omega), by omega⟩))
            replace r1 := r1.alloc (.cells (msA M0) 25)
            replace r2 := r2.alloc (.cells (msA M0) 25)
            clear f P0
            dsimp only [msA] at P rb r1 r2
            clear rb
            go_wp2_with fail
            generalize hgen : w12.alloc (.cells _ _) = w12b at *
            clear hgen
            generalize w12.heap.size = g3 at *
            have X1 := xstate P 5 i5
            rw [e13] at X1
            go_wp2_with fail
            refine X1.mono ?_
            clear X1
            rintro e w13 ⟨rfl, f⟩
            replace r1 := Row.keep r1 f (fun h => h)
            replace r2 := Row.keep r2 f (fun h => h)
            replace P := P.keep0 f
            clear f
            obtain ⟨x0, x1, x2, x3, x4, x5, x6⟩ := HN.out w13 (HF.out.trans P.old)
            have fz := (Fr.refl none' w13).alloc (.cells (msA { n with b := 0 }) 25)
            obtain ⟨y0, y1, y2, y3, y4, y5, y6⟩ := HM.out _ ((HF.out.trans P.old).trans fz)
            have s1 := r1.alloc (.cells (msA { n with b := 0 }) 25)
            have s2 := r2.alloc (.cells (msA { n with b := 0 }) 25)
            dsimp only [msA] at y0 y1 y2 y3 y4 y5 y6 s1 s2
            have u0 := s1.cell 0
            have u1 := s1.cell 1
            have u2 := s1.cell 2
            have u3 := s1.cell 3
            have u4 := s1.cell 4
            have u5 := s1.cell 5
            have u6 := s1.cell 6
            have v0 := s2.cell 0
            have v1 := s2.cell 1
            have v2 := s2.cell 2
            have v3 := s2.cell 3
            have v4 := s2.cell 4
            have v5 := s2.cell 5
            have v6 := s2.cell 6
            dsimp at u0 u1 u2 u3 u4 u5 u6 v0 v1 v2 v3 v4 v5 v6
            have HZ : Hid (Below W.heap.size W _) := bel_of3 HW.out ((HF.out.trans P.old).trans fz)
            clear r1 r2 s1 s2 P fz e1 e2 e3 e4 e5 e6 e7 e8 e9 e10 e11 e12 e13
            go_wp2_with fail
            go_ret
            exact ⟨rfl, HZ.out⟩

end Go.Proofs.Ytcdckkhfkkjbmab
