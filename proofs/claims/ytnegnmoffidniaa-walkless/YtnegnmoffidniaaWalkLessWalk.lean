/-
  The law WalkLess walked: whatever came in, it answers true and turns nothing old. No statement is proved here.
-/
import Derived.Test.YtnegnmoffidniaaWalkAwake
import Derived.Test.YtnegnmoffidniaaWalkPure
namespace Go.Proofs.Ytnegnmoffidniaa
open Go.RowKit

set_option maxHeartbeats 8000000 in
set_option maxRecDepth 100000 in
theorem less_any (w : World) (a0 : Option Addr) (len cap : Nat) (P : Nat → Pt) (hl : len ≤ 9223372036854775807) (hP : Puts w a0 len P) (vm sd first second page want table i' rights : Int) :
    Calls Try.prog 8 #[.slice a0 len cap, .agg #[.int .i64 vm, .int .i64 sd, .int .i64 first, .int .i64 second], .int .i64 page, .int .i64 want, .int .i64 table, .int .i64 i', .int .i64 rights] w fun e w' => e = .returned (.bool true) ∧ Below w.heap.size w w' := by
  have f1 := Fr.refl none' w
  have r8 := row_alloc w #[.int .i64 vm, .int .i64 sd, .int .i64 first, .int .i64 second] 24
  replace hP := hP.keep ((Fr.refl none' _).alloc (.cells #[.int .i64 vm, .int .i64 sd, .int .i64 first, .int .i64 second] 24))
  replace f1 := f1.alloc (.cells #[.int .i64 vm, .int .i64 sd, .int .i64 first, .int .i64 second] 24)
  go_enter Try.func8, Try.ntmps8
  go_wp2_with fail
  refine (awake_any _).mono ?_
  rintro e v1 ⟨rfl, g1⟩
  replace hP := hP.keep g1
  replace r8 := r8.keep g1 (fun h => h)
  replace f1 := f1.trans g1
  clear g1
  have l0 : Hid (w.heap.size < v1.heap.size) := r8.lt
  go_wp2_with fail
  refine (laid_any _ _ _ _ P hl hP).mono ?_
  rintro e vl ⟨pm, bm, pr, br, rfl, gl, TW⟩
  obtain ⟨bs, hbs⟩ : ∃ bs, laidB P (min len 200) = bs := ⟨_, rfl⟩
  rw [hbs] at TW
  have l1 : Hid (w.heap.size < bm ∧ bm < vl.heap.size ∧ w.heap.size < pm ∧ pm ≠ bm) := by have a := l0.out; have b := TW.lo; have c := TW.lt; have d := TW.ram.apart; exact ⟨by omega, by omega, by omega, d⟩
  have h := TW.ram
  clear hbs hP hl l0 TW
  replace r8 := r8.keep gl (fun h => h)
  replace f1 := f1.trans gl
  clear gl
  go_wp2_with fail
  by_cases hpl : placeE table i' 16 ≠ 0
  · have t1 : (placeE table i' 16 != 0) = true := by simp [hpl]
    refine (get_bad _ _ _ _ _ _ _ h hpl).mono ?_
    rintro e v2 ⟨rfl, g2⟩
    replace r8 := r8.keep g2 (fun h => h)
    replace h := h.keep g2 (fun h => h) (fun h => h)
    replace f1 := f1.trans g2
    clear g2
    have r18 := row_alloc v2 #[.bool false, .bool false, .int .i64 0, .int .i64 0] 56
    replace r8 := r8.alloc (.cells #[.bool false, .bool false, .int .i64 0, .int .i64 0] 56)
    replace h := h.alloc (.cells #[.bool false, .bool false, .int .i64 0, .int .i64 0] 56)
    replace f1 := f1.alloc (.cells #[.bool false, .bool false, .int .i64 0, .int .i64 0] 56)
    clear hpl
    go_wp2_with fail
    go_ret
    exact ⟨rfl, f1.below (Nat.le_refl _) (fun _ h => h.elim)⟩
  · replace hpl : placeE table i' 16 = 0 := by simpa using hpl
    obtain ⟨T, i, rfl, rfl, hT, hi⟩ := place_cases hpl
    cases hv : dv ((half bs T i : Nat) : Int) with
    | false =>
      cases hd : decOk ((half bs T i : Nat) : Int) with
      | false =>
      have he : de ((half bs T i : Nat) : Int) = 20 := by unfold de; rw [hd]; rfl
      clear hd
      refine (get_ok _ _ _ _ _ _ _ h hT hi).mono ?_
      rintro e v2 ⟨rfl, g2⟩
      rw [hv, he]
      replace r8 := r8.keep g2 (fun h => h)
      replace h := h.keep g2 (fun h => h) (fun h => h)
      replace f1 := f1.trans g2
      clear g2
      have l2 : Hid (bm < v2.heap.size) := h.row.lt
      have r18 := row_alloc v2 #[.bool false, .bool (dl ((half bs T i : Nat) : Int)), .int .i64 (dr ((half bs T i : Nat) : Int)), .int .i64 (df ((half bs T i : Nat) : Int))] 56
      replace r8 := r8.alloc (.cells #[.bool false, .bool (dl ((half bs T i : Nat) : Int)), .int .i64 (dr ((half bs T i : Nat) : Int)), .int .i64 (df ((half bs T i : Nat) : Int))] 56)
      replace h := h.alloc (.cells #[.bool false, .bool (dl ((half bs T i : Nat) : Int)), .int .i64 (dr ((half bs T i : Nat) : Int)), .int .i64 (df ((half bs T i : Nat) : Int))] 56)
      replace f1 := f1.alloc (.cells #[.bool false, .bool (dl ((half bs T i : Nat) : Int)), .int .i64 (dr ((half bs T i : Nat) : Int)), .int .i64 (df ((half bs T i : Nat) : Int))] 56)
      obtain ⟨c0x0, c0x1, c0x2, c0x3⟩ := row4 r18
      go_wp2_with fail
      go_ret
      exact ⟨rfl, f1.below (Nat.le_refl _) (fun _ h => h.elim)⟩
      | true =>
      have he : de ((half bs T i : Nat) : Int) = 0 := by unfold de; rw [hd]; rfl
      clear hd
      refine (get_ok _ _ _ _ _ _ _ h hT hi).mono ?_
      rintro e v2 ⟨rfl, g2⟩
      rw [hv, he]
      replace r8 := r8.keep g2 (fun h => h)
      replace h := h.keep g2 (fun h => h) (fun h => h)
      replace f1 := f1.trans g2
      clear g2
      have l2 : Hid (bm < v2.heap.size) := h.row.lt
      have r18 := row_alloc v2 #[.bool false, .bool (dl ((half bs T i : Nat) : Int)), .int .i64 (dr ((half bs T i : Nat) : Int)), .int .i64 (df ((half bs T i : Nat) : Int))] 56
      replace r8 := r8.alloc (.cells #[.bool false, .bool (dl ((half bs T i : Nat) : Int)), .int .i64 (dr ((half bs T i : Nat) : Int)), .int .i64 (df ((half bs T i : Nat) : Int))] 56)
      replace h := h.alloc (.cells #[.bool false, .bool (dl ((half bs T i : Nat) : Int)), .int .i64 (dr ((half bs T i : Nat) : Int)), .int .i64 (df ((half bs T i : Nat) : Int))] 56)
      replace f1 := f1.alloc (.cells #[.bool false, .bool (dl ((half bs T i : Nat) : Int)), .int .i64 (dr ((half bs T i : Nat) : Int)), .int .i64 (df ((half bs T i : Nat) : Int))] 56)
      obtain ⟨c0x0, c0x1, c0x2, c0x3⟩ := row4 r18
      go_wp2_with fail
      go_ret
      exact ⟨rfl, f1.below (Nat.le_refl _) (fun _ h => h.elim)⟩
    | true =>
      have he := de_ok hv
      cases hle : dl ((half bs T i : Nat) : Int) with
      | false =>
      refine (get_ok _ _ _ _ _ _ _ h hT hi).mono ?_
      rintro e v2 ⟨rfl, g2⟩
      rw [hv, he, hle]
      replace r8 := r8.keep g2 (fun h => h)
      replace h := h.keep g2 (fun h => h) (fun h => h)
      replace f1 := f1.trans g2
      clear g2
      have l2 : Hid (bm < v2.heap.size) := h.row.lt
      have r18 := row_alloc v2 #[.bool true, .bool false, .int .i64 (dr ((half bs T i : Nat) : Int)), .int .i64 (df ((half bs T i : Nat) : Int))] 56
      replace r8 := r8.alloc (.cells #[.bool true, .bool false, .int .i64 (dr ((half bs T i : Nat) : Int)), .int .i64 (df ((half bs T i : Nat) : Int))] 56)
      replace h := h.alloc (.cells #[.bool true, .bool false, .int .i64 (dr ((half bs T i : Nat) : Int)), .int .i64 (df ((half bs T i : Nat) : Int))] 56)
      replace f1 := f1.alloc (.cells #[.bool true, .bool false, .int .i64 (dr ((half bs T i : Nat) : Int)), .int .i64 (df ((half bs T i : Nat) : Int))] 56)
      obtain ⟨c0x0, c0x1, c0x2, c0x3⟩ := row4 r18
      go_wp2_with fail
      go_ret
      exact ⟨rfl, f1.below (Nat.le_refl _) (fun _ h => h.elim)⟩
      | true =>
        by_cases hf : 0 ≤ first
        · have t2 : decide (0 ≤ first) = true := decide_eq_true hf
          refine (get_ok _ _ _ _ _ _ _ h hT hi).mono ?_
          rintro e v2 ⟨rfl, g2⟩
          rw [hv, he, hle]
          replace r8 := r8.keep g2 (fun h => h)
          replace h := h.keep g2 (fun h => h) (fun h => h)
          replace f1 := f1.trans g2
          clear g2
          have l2 : Hid (bm < v2.heap.size) := h.row.lt
          have r18 := row_alloc v2 #[.bool true, .bool true, .int .i64 (dr ((half bs T i : Nat) : Int)), .int .i64 (df ((half bs T i : Nat) : Int))] 56
          replace r8 := r8.alloc (.cells #[.bool true, .bool true, .int .i64 (dr ((half bs T i : Nat) : Int)), .int .i64 (df ((half bs T i : Nat) : Int))] 56)
          replace h := h.alloc (.cells #[.bool true, .bool true, .int .i64 (dr ((half bs T i : Nat) : Int)), .int .i64 (df ((half bs T i : Nat) : Int))] 56)
          replace f1 := f1.alloc (.cells #[.bool true, .bool true, .int .i64 (dr ((half bs T i : Nat) : Int)), .int .i64 (df ((half bs T i : Nat) : Int))] 56)
          obtain ⟨c0x0, c0x1, c0x2, c0x3⟩ := row4 r18
          obtain ⟨c1x0, c1x1, c1x2, c1x3⟩ := row4 r8
          go_wp2_with fail
          go_ret
          exact ⟨rfl, f1.below (Nat.le_refl _) (fun _ h => h.elim)⟩
        · have t2 : decide (0 ≤ first) = false := decide_eq_false hf
          refine (get_ok _ _ _ _ _ _ _ h hT hi).mono ?_
          rintro e v2 ⟨rfl, g2⟩
          rw [hv, he, hle]
          replace r8 := r8.keep g2 (fun h => h)
          replace h := h.keep g2 (fun h => h) (fun h => h)
          replace f1 := f1.trans g2
          clear g2
          have l2 : Hid (bm < v2.heap.size) := h.row.lt
          have l2p : Hid (pm < v2.heap.size) := h.head.lt
          have r18 := row_alloc v2 #[.bool true, .bool true, .int .i64 (dr ((half bs T i : Nat) : Int)), .int .i64 (df ((half bs T i : Nat) : Int))] 56
          replace r8 := r8.alloc (.cells #[.bool true, .bool true, .int .i64 (dr ((half bs T i : Nat) : Int)), .int .i64 (df ((half bs T i : Nat) : Int))] 56)
          replace h := h.alloc (.cells #[.bool true, .bool true, .int .i64 (dr ((half bs T i : Nat) : Int)), .int .i64 (df ((half bs T i : Nat) : Int))] 56)
          replace f1 := f1.alloc (.cells #[.bool true, .bool true, .int .i64 (dr ((half bs T i : Nat) : Int)), .int .i64 (df ((half bs T i : Nat) : Int))] 56)
          obtain ⟨x, hx⟩ : ∃ x, nested bs 16 first second page want = x := ⟨_, rfl⟩
          obtain ⟨y, hy⟩ : ∃ y, nested (putB bs (T : Int) (i : Int) 16 true true (bits .and .i64 (dr ((half bs T i : Nat) : Int)) rights) (df ((half bs T i : Nat) : Int))) 16 first second page want = y := ⟨_, rfl⟩
          have hs1 := fun w0 h0 => nested_any w0 pm bm 16 bs vm sd first second page want h0
          have hs2 := fun w0 h0 => nested_any w0 pm bm 16 (putB bs (T : Int) (i : Int) 16 true true (bits .and .i64 (dr ((half bs T i : Nat) : Int)) rights) (df ((half bs T i : Nat) : Int))) vm sd first second page want h0
          have rr := and_range (dr ((half bs T i : Nat) : Int)) rights (dr_range _).1 (dr_range _).2
          have r7 := (dr_range ((half bs T i : Nat) : Int)).2
          have ff := df_range (x := ((half bs T i : Nat) : Int)) (by omega) (by have := half_lt bs T i; omega)
          have hri : rightE true true (bits .and .i64 (dr ((half bs T i : Nat) : Int)) rights) (df ((half bs T i : Nat) : Int)) = true := by simp [rightE]; omega
          have hpe : putE (T : Int) (i : Int) 16 true true (bits .and .i64 (dr ((half bs T i : Nat) : Int)) rights) (df ((half bs T i : Nat) : Int)) = 0 := putE_zero.2 ⟨hpl, hri⟩
          have hw0 : ((half (putB bs (T : Int) (i : Int) 16 true true (bits .and .i64 (dr ((half bs T i : Nat) : Int)) rights) (df ((half bs T i : Nat) : Int))) T i : Nat) : Int) = wordE true true (bits .and .i64 (dr ((half bs T i : Nat) : Int)) rights) (df ((half bs T i : Nat) : Int)) := half_own h.len hpe rfl rfl
          obtain ⟨w1, w2, w3, w4, _⟩ := dec_back hri
          rw [← hw0] at w1 w2 w3 w4
          have hless := fun hk => nested_less (bs := bs) (bs' := (putB bs (T : Int) (i : Int) 16 true true (bits .and .i64 (dr ((half bs T i : Nat) : Int)) rights) (df ((half bs T i : Nat) : Int)))) (nf := 16) (first := first) (second := second) (page := page) (want := want) (T := T) (i := i) (r' := rights) (by omega) hv hle w2 w4 w3 (fun a b hb hn => half_else h.len hb (fun hh => hn ⟨by omega, by omega⟩)) hk
          have hz := nested_zero (putB bs (T : Int) (i : Int) 16 true true (bits .and .i64 (dr ((half bs T i : Nat) : Int)) rights) (df ((half bs T i : Nat) : Int))) 16 first second page want
          rw [hx] at hs1 hless
          rw [hy] at hs2 hless hz
          have HL : Hid (y.ft.k = 0 → x.ft.k = 0 ∧ x.fr = y.fr ∧ bits .andNot .i64 y.ri x.ri = 0) := hless
          have HZ : Hid (y.ft.k ≠ 0 → y.fr = 0 ∧ y.ri = 0) := hz
          have t3 : (putE (T : Int) (i : Int) 16 true true (bits .and .i64 (dr ((half bs T i : Nat) : Int)) rights) (df ((half bs T i : Nat) : Int)) != 0) = false := by simp [hpe]
          clear hx hy rr r7 ff hri hpe hw0 w1 w2 w3 w4 hless hz hpl
          obtain ⟨c0x0, c0x1, c0x2, c0x3⟩ := row4 r18
          obtain ⟨c1x0, c1x1, c1x2, c1x3⟩ := row4 r8
          go_wp2_with fail
          refine (hs1 _ h).mono ?_
          rintro e v3 ⟨rfl, g3⟩
          clear c0x0 c0x1 c0x2 c0x3 c1x0 c1x1 c1x2 c1x3
          replace r8 := r8.keep g3 (fun h => h)
          replace r18 := r18.keep g3 (fun h => h)
          replace h := h.keep g3 (fun h => h) (fun h => h)
          replace f1 := f1.trans g3
          clear g3
          have l3 : Hid (bm < v3.heap.size) := h.row.lt
          have l5 : Hid (v2.heap.size < v3.heap.size) := r18.lt
          have l4 : Hid (w.heap.size < v2.heap.size) := by have a := l1.out; have b := l2.out; exact (by omega : w.heap.size < v2.heap.size)
          have r22 := row_alloc v3 #[.int .i64 x.ft.k, .int .i64 x.ft.s, .int .i64 x.ft.l, .bool x.ft.wk, .int .i64 x.ft.p] 31
          replace r8 := r8.alloc (.cells #[.int .i64 x.ft.k, .int .i64 x.ft.s, .int .i64 x.ft.l, .bool x.ft.wk, .int .i64 x.ft.p] 31)
          replace r18 := r18.alloc (.cells #[.int .i64 x.ft.k, .int .i64 x.ft.s, .int .i64 x.ft.l, .bool x.ft.wk, .int .i64 x.ft.p] 31)
          replace h := h.alloc (.cells #[.int .i64 x.ft.k, .int .i64 x.ft.s, .int .i64 x.ft.l, .bool x.ft.wk, .int .i64 x.ft.p] 31)
          replace f1 := f1.alloc (.cells #[.int .i64 x.ft.k, .int .i64 x.ft.s, .int .i64 x.ft.l, .bool x.ft.wk, .int .i64 x.ft.p] 31)
          obtain ⟨c2x0, c2x1, c2x2, c2x3⟩ := row4 r18
          obtain ⟨z3x0, z3x1, z3x2, z3x3⟩ := frozen4 r18
          go_wp2_with fail
          clear c2x0 c2x1 c2x2 c2x3 z3x0 z3x1 z3x2 z3x3
          have m3 := l3.out
          have m5 := l5.out
          replace r8 := r8.setCell_other (p := ⟨v2.heap.size, 2, none⟩) (show v2.heap.size ≠ _ by have := l4.out; omega) (.int .i64 (bits .and .i64 (dr ((half bs T i : Nat) : Int)) rights))
          replace r22 := r22.setCell_other (p := ⟨v2.heap.size, 2, none⟩) (show v2.heap.size ≠ v3.heap.size by omega) (.int .i64 (bits .and .i64 (dr ((half bs T i : Nat) : Int)) rights))
          replace h := h.keep ((Fr.refl (at' v2.heap.size) _).setCell (p := ⟨v2.heap.size, 2, none⟩) (Or.inr rfl) (.int .i64 (bits .and .i64 (dr ((half bs T i : Nat) : Int)) rights))) (show _ ≠ _ by have := l2p.out; omega) (show _ ≠ _ by have := l2.out; omega)
          replace f1 := f1.setCell (p := ⟨v2.heap.size, 2, none⟩) (Or.inl (by show w.heap.size ≤ v2.heap.size; have := l4.out; omega)) (.int .i64 (bits .and .i64 (dr ((half bs T i : Nat) : Int)) rights))
          refine (put_any _ _ _ _ _ _ _ _ _ _ _ h).mono ?_
          rintro e v4 ⟨rfl, g4, h4⟩
          have m1 := l1.out
          replace r8 := r8.keep g4 (show _ ≠ _ by omega)
          replace r22 := r22.keep g4 (show _ ≠ _ by omega)
          replace f1 := f1.newer g4 (by omega)
          replace h := h4
          clear g4 h4 r18 m1 m3 m5 l2 l2p l3 l4 l5 l1
          obtain ⟨c4x0, c4x1, c4x2, c4x3⟩ := row4 r8
          go_wp2_with fail
          refine (hs2 _ h).mono ?_
          rintro e v5 ⟨rfl, g5⟩
          clear c4x0 c4x1 c4x2 c4x3
          replace r8 := r8.keep g5 (fun h => h)
          replace r22 := r22.keep g5 (fun h => h)
          replace h := h.keep g5 (fun h => h) (fun h => h)
          replace f1 := f1.trans g5
          clear g5
          have r26 := row_alloc v5 #[.int .i64 y.ft.k, .int .i64 y.ft.s, .int .i64 y.ft.l, .bool y.ft.wk, .int .i64 y.ft.p] 31
          replace r8 := r8.alloc (.cells #[.int .i64 y.ft.k, .int .i64 y.ft.s, .int .i64 y.ft.l, .bool y.ft.wk, .int .i64 y.ft.p] 31)
          replace r22 := r22.alloc (.cells #[.int .i64 y.ft.k, .int .i64 y.ft.s, .int .i64 y.ft.l, .bool y.ft.wk, .int .i64 y.ft.p] 31)
          replace h := h.alloc (.cells #[.int .i64 y.ft.k, .int .i64 y.ft.s, .int .i64 y.ft.l, .bool y.ft.wk, .int .i64 y.ft.p] 31)
          replace f1 := f1.alloc (.cells #[.int .i64 y.ft.k, .int .i64 y.ft.s, .int .i64 y.ft.l, .bool y.ft.wk, .int .i64 y.ft.p] 31)
          obtain ⟨c5x0, c5x1, c5x2, c5x3, c5x4⟩ := cells5 r26
          obtain ⟨c6x0, c6x1, c6x2, c6x3, c6x4⟩ := cells5 r22
          clear hs1 hs2 t3
          by_cases hk : y.ft.k = 0
          · obtain ⟨q1, q2, q3⟩ := HL.out hk
            have t4 : (y.ft.k != 0) = false := by simp [hk]
            have t5 : (x.ft.k == 0) = true := by simp [q1]
            have t6 : (x.fr == y.fr) = true := by simp [q2]
            have t7 : (bits .andNot .i64 y.ri x.ri == 0) = true := by simp [q3]
            clear hk q1 q2 q3 HL HZ
            go_wp2_with fail
            go_ret
            exact ⟨rfl, f1.below (Nat.le_refl _) (fun _ h => h.elim)⟩
          · obtain ⟨q1, q2⟩ := HZ.out hk
            have t4 : (y.ft.k != 0) = true := by simp [hk]
            have t5 : (y.fr == 0) = true := by simp [q1]
            have t6 : (y.ri == 0) = true := by simp [q2]
            clear hk q1 q2 HL HZ
            go_wp2_with fail
            go_ret
            exact ⟨rfl, f1.below (Nat.le_refl _) (fun _ h => h.elim)⟩

end Go.Proofs.Ytnegnmoffidniaa
