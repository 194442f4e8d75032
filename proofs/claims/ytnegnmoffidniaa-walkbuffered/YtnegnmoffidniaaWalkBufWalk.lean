/-
  The law WalkBuffered walked: whatever came in, it answers true and turns nothing old. No statement is proved here.
-/
import Derived.Test.YtnegnmoffidniaaWalkAwake
import Derived.Test.YtnegnmoffidniaaWalkOpenAsk
namespace Go.Proofs.Ytnegnmoffidniaa
open Go.RowKit

set_option maxHeartbeats 8000000 in
set_option maxRecDepth 100000 in
theorem buffered_any (w : World) (a0 : Option Addr) (len cap : Nat) (P : Nat → Pt) (hl : len ≤ 9223372036854775807) (hP : Puts w a0 len P) (a1 : Option Addr) (len1 cap1 : Nat) (Q : Nat → Spc) (hl1 : len1 ≤ 9223372036854775807) (hQ : Spaces w a1 len1 Q) (a2 : Option Addr) (len2 cap2 : Nat) (A : Nat → Aq) (hl2 : len2 ≤ 9223372036854775807) (hA : Asks w a2 len2 A) :
    Calls Try.prog 5 #[.slice a0 len cap, .slice a1 len1 cap1, .slice a2 len2 cap2] w fun e w' => e = .returned (.bool true) ∧ Below w.heap.size w w' := by
  have hne := neq_fault
  have f1 := Fr.refl none' w
  go_enter Try.func5, Try.ntmps5
  go_wp2_with fail
  refine (awake_any _).mono ?_
  rintro e v1 ⟨rfl, g1⟩
  replace hP := hP.keep g1
  replace f1 := f1.trans g1
  clear g1
  go_wp2_with fail
  refine (laid_any _ _ _ _ P hl hP).mono ?_
  rintro e vl ⟨pm, bm, pr, br, rfl, gl, TW⟩
  obtain ⟨bs, hbs⟩ : ∃ bs, laidB P (min len 200) = bs := ⟨_, rfl⟩
  rw [hbs] at TW
  have hlo := TW.lo
  have hlt := TW.lt
  have fs := f1.size
  have h := TW.ram
  clear hbs hP hl TW
  replace f1 := f1.trans gl
  clear gl
  go_wp2_with fail
  refine (tnew_any _).mono ?_
  rintro e vt ⟨bt, rfl, hbt, gt, hT⟩
  replace h := h.keep gt (fun h => h) (fun h => h)
  replace f1 := f1.trans gt
  have L : Hid (w.heap.size ≤ pm ∧ w.heap.size ≤ bm ∧ w.heap.size ≤ bt ∧ pm ≠ bt ∧ bm ≠ bt) := ⟨by omega, by omega, by omega, by omega, by omega⟩
  clear gt hlo hlt fs hbt
  go_wp2_with fail
  go_loopw [11] (fun i wr => ∃ (k : Nat) (T : Nat → Ln) (fo mi : Int), k ≤ len2 ∧ k ≤ 100 ∧ i = .int .i64 k ∧ Fr none' w wr ∧ IsRam wr pm bm 16 bs ∧ IsTlb wr bt T fo mi ∧ Hid (BufOk bs Q T) ∧ 0 ≤ fo ∧ 0 ≤ mi ∧ fo + mi ≤ k) (fun i _ => 100 - (intOf i).toNat)
  case atStart => exact ⟨0, fun _ => zl, 0, 0, by omega, by omega, rfl, f1, h, hT, buf_zero' bs Q, by omega, by omega, by omega⟩
  case round =>
    clear f1 h hT
    obtain ⟨k, T, fo, mi, hk, hk2, rfl, f1, h, hT, HB, hfo, hmi, hfm⟩ := hrel
    by_cases hlt : k < len2
    · by_cases hlt2 : k < 100
      · obtain ⟨b, o, rfl, ak⟩ := hA k hlt
        have hbw : Hid (bt < wr.heap.size) := hT.lt
        replace ak := ak.keep f1
        have c0 := ak.c0
        have c1 := ak.c1
        have c2 := ak.c2
        have c3 := ak.c3
        have c4 := ak.c4
        have c5 := ak.c5
        have c6 := ak.c6
        have c7 := ak.c7
        have c8 := ak.c8
        have evb := ak.evb
        have i1 : 0 ≤ (k : Int) ∧ (k : Int) < (len2 : Int) := by omega
        have r12 := row_alloc wr #[.int .i64 (A k).v, .int .i64 (A k).a, .int .i64 (A k).f, .int .i64 (A k).s, .int .i64 (A k).pg, .int .i64 (A k).wt, .int .i64 (A k).ix, .int .i64 (A k).ev, .slice (A k).pa (A k).pl (A k).pc] 53
        replace h := h.alloc (.cells #[.int .i64 (A k).v, .int .i64 (A k).a, .int .i64 (A k).f, .int .i64 (A k).s, .int .i64 (A k).pg, .int .i64 (A k).wt, .int .i64 (A k).ix, .int .i64 (A k).ev, .slice (A k).pa (A k).pl (A k).pc] 53)
        replace hT := hT.alloc (.cells #[.int .i64 (A k).v, .int .i64 (A k).a, .int .i64 (A k).f, .int .i64 (A k).s, .int .i64 (A k).pg, .int .i64 (A k).wt, .int .i64 (A k).ix, .int .i64 (A k).ev, .slice (A k).pa (A k).pl (A k).pc] 53)
        replace f1 := f1.alloc (.cells #[.int .i64 (A k).v, .int .i64 (A k).a, .int .i64 (A k).f, .int .i64 (A k).s, .int .i64 (A k).pg, .int .i64 (A k).wt, .int .i64 (A k).ix, .int .i64 (A k).ev, .slice (A k).pa (A k).pl (A k).pc] 53)
        clear ak
        by_cases hz : len1 = 0
        · subst hz
          go_wp2_with fail
          go_ret
          exact ⟨rfl, f1.below (Nat.le_refl _) (fun _ h => h.elim)⟩
        · have tz : ((len1 : Int) == 0) = false := by simp; omega
          rcases (show len1 = 1 ∨ len1 = 2 ∨ len1 = 3 ∨ 4 ≤ len1 by omega) with hm | hm | hm | hm
          · by_cases hn : (A k).ev.tmod 1 < 0
            · exact absurd hn (by simp)
            · skip
              obtain rfl : len1 = 1 := by omega
              obtain ⟨K, hKe, hK⟩ : ∃ K : Nat, (A k).ev.tmod 1 = (K : Int) ∧ K < 1 := ⟨((A k).ev.tmod 1).toNat, by omega, by have := Int.tmod_lt_of_pos (A k).ev (b := 1) (by omega); omega⟩
              clear hn
              have tn : decide ((K : Int) < 0) = false := decide_eq_false (by omega)
              obtain ⟨b1, o1, rfl, sk⟩ := hQ K (by omega)
              replace sk := sk.keep f1 (fun h => h)
              have d0 := sk.c0
              have d1 := sk.c1
              have d2 := sk.c2
              have d3 := sk.c3
              have i2 : 0 ≤ (K : Int) ∧ (K : Int) < (1 : Int) := by omega
              have i3 : (K : Int) ≤ 2 := by omega
              replace r12 := r12.alloc (.cells #[.int .i64 (1 + (K : Int)), .int .i64 (Q K).a, .int .i64 (Q K).f, .int .i64 (Q K).s] 24)
              have r14 := row_alloc2 wr (.cells #[.int .i64 (A k).v, .int .i64 (A k).a, .int .i64 (A k).f, .int .i64 (A k).s, .int .i64 (A k).pg, .int .i64 (A k).wt, .int .i64 (A k).ix, .int .i64 (A k).ev, .slice (A k).pa (A k).pl (A k).pc] 53) #[.int .i64 (1 + (K : Int)), .int .i64 (Q K).a, .int .i64 (Q K).f, .int .i64 (Q K).s] 24
              replace h := h.alloc (.cells #[.int .i64 (1 + (K : Int)), .int .i64 (Q K).a, .int .i64 (Q K).f, .int .i64 (Q K).s] 24)
              replace hT := hT.alloc (.cells #[.int .i64 (1 + (K : Int)), .int .i64 (Q K).a, .int .i64 (Q K).f, .int .i64 (Q K).s] 24)
              replace f1 := f1.alloc (.cells #[.int .i64 (1 + (K : Int)), .int .i64 (Q K).a, .int .i64 (Q K).f, .int .i64 (Q K).s] 24)
              clear sk
              have e7 := r12.cell 7
              go_wp2_with fail
              refine (evict_any _ _ _ _ _ hT (A k).ev).mono ?_
              rintro e v1 ⟨rfl, g1, hT1⟩
              clear c0 c1 c2 c3 c4 c5 c6 c7 c8 d0 d1 d2 d3 e7 hT hKe tz
              have ll := L.out
              have lb : bt < wr.heap.size := hbw.out
              replace r12 := r12.keep g1 (show wr.heap.size ≠ bt by omega)
              replace r14 := r14.keep g1 (show wr.heap.size + 1 ≠ bt by omega)
              replace h := h.keep g1 ll.2.2.2.1 ll.2.2.2.2
              replace f1 := f1.newer g1 ll.2.2.1
              clear g1 lb ll
              have e4 := r12.cell 4
              have e5 := r12.cell 5
              have e6 := r12.cell 6
              obtain ⟨s0, s1, s2, s3⟩ := row4 r14
              go_wp2_with fail
              have ll := L.out
              refine (reach_any _ _ _ _ _ _ _ _ _ _ _ _ _ _ _ _ h hT1 (by omega) (by omega) ll.2.2.2.1 ll.2.2.2.2).mono ?_
              rintro e v2 ⟨rfl, g2, hT2⟩
              have HB1 := buf_ev HB.out (A k).ev
              rw [(reach_same HB1 K (A k).pg (A k).wt).1, (reach_same HB1 K (A k).pg (A k).wt).2]
              clear e4 e5 e6 s0 s1 s2 s3 hT1
              have HB2 : Hid (BufOk bs Q _) := buf_reach HB1 K (A k).pg (A k).wt (A k).ix
              clear HB HB1
              have lb : bt < wr.heap.size := hbw.out
              replace r12 := r12.keep g2 (show wr.heap.size ≠ bt by omega)
              replace r14 := r14.keep g2 (show wr.heap.size + 1 ≠ bt by omega)
              replace h := h.keep g2 ll.2.2.2.1 ll.2.2.2.2
              replace f1 := f1.newer g2 ll.2.2.1
              clear g2 lb ll
              obtain ⟨x, hx⟩ : ∃ x, nested bs 16 (Q K).f (Q K).s (A k).pg (A k).wt = x := ⟨_, rfl⟩
              have hs := fun w0 h0 => nested_any w0 pm bm 16 bs (1 + (K : Int)) (Q K).a (Q K).f (Q K).s (A k).pg (A k).wt h0
              rw [hx] at hs ⊢
              clear hx
              have r16 := row_alloc v2 #[.int .i64 x.ft.k, .int .i64 x.ft.s, .int .i64 x.ft.l, .bool x.ft.wk, .int .i64 x.ft.p] 31
              replace r12 := r12.alloc (.cells #[.int .i64 x.ft.k, .int .i64 x.ft.s, .int .i64 x.ft.l, .bool x.ft.wk, .int .i64 x.ft.p] 31)
              replace r14 := r14.alloc (.cells #[.int .i64 x.ft.k, .int .i64 x.ft.s, .int .i64 x.ft.l, .bool x.ft.wk, .int .i64 x.ft.p] 31)
              replace h := h.alloc (.cells #[.int .i64 x.ft.k, .int .i64 x.ft.s, .int .i64 x.ft.l, .bool x.ft.wk, .int .i64 x.ft.p] 31)
              replace hT2 := hT2.alloc (.cells #[.int .i64 x.ft.k, .int .i64 x.ft.s, .int .i64 x.ft.l, .bool x.ft.wk, .int .i64 x.ft.p] 31)
              replace f1 := f1.alloc (.cells #[.int .i64 x.ft.k, .int .i64 x.ft.s, .int .i64 x.ft.l, .bool x.ft.wk, .int .i64 x.ft.p] 31)
              have e4 := r12.cell 4
              have e5 := r12.cell 5
              obtain ⟨s0, s1, s2, s3⟩ := row4 r14
              go_wp2_with fail
              refine (hs _ h).mono ?_
              rintro e v3 ⟨rfl, g3⟩
              clear e4 e5 s0 s1 s2 s3 r12 r14 hs
              replace r16 := (r16.keep g3 (fun h => h)).alloc (.cells #[.int .i64 x.ft.k, .int .i64 x.ft.s, .int .i64 x.ft.l, .bool x.ft.wk, .int .i64 x.ft.p] 31)
              have r19 := row_alloc v3 #[.int .i64 x.ft.k, .int .i64 x.ft.s, .int .i64 x.ft.l, .bool x.ft.wk, .int .i64 x.ft.p] 31
              replace h := (h.keep g3 (fun h => h) (fun h => h)).alloc (.cells #[.int .i64 x.ft.k, .int .i64 x.ft.s, .int .i64 x.ft.l, .bool x.ft.wk, .int .i64 x.ft.p] 31)
              replace hT2 := (hT2.keep g3 (fun h => h)).alloc (.cells #[.int .i64 x.ft.k, .int .i64 x.ft.s, .int .i64 x.ft.l, .bool x.ft.wk, .int .i64 x.ft.p] 31)
              replace f1 := (f1.trans g3).alloc (.cells #[.int .i64 x.ft.k, .int .i64 x.ft.s, .int .i64 x.ft.l, .bool x.ft.wk, .int .i64 x.ft.p] 31)
              clear g3
              obtain ⟨y0, y1, y2, y3, y4⟩ := cells5 r16
              obtain ⟨z0, z1, z2, z3, z4⟩ := cells5 r19
              have q1 : (x.fr != x.fr) = false := by simp
              go_wp2_with fail
              go_roundw
              case rel => exact ⟨k + 1, _, _, _, by omega, by omega, by go_num, f1, h, hT2, HB2, by have := more_bounds (idx (evT T (A k).ev) (1 + (K : Int)) (Q K).a (A k).pg 8); omega, by have := more_bounds (idx (evT T (A k).ev) (1 + (K : Int)) (Q K).a (A k).pg 8); omega, by have := more_bounds (idx (evT T (A k).ev) (1 + (K : Int)) (Q K).a (A k).pg 8); omega⟩
              case measure => simp [intOf]; omega
          · by_cases hn : (A k).ev.tmod 2 < 0
            · skip
              obtain rfl : len1 = 2 := by omega
              obtain ⟨K, hKe, hK0, hK⟩ : ∃ K : Nat, (A k).ev.tmod 2 = -(K : Int) ∧ 0 < K ∧ K < 2 := ⟨((A k).ev.tmod 2).natAbs, by omega, by omega, by have := Int.tmod_lt_of_pos (A k).ev (b := 2) (by omega); have h9 := Int.tmod_lt_of_pos (-(A k).ev) (b := 2) (by omega); rw [Int.neg_tmod] at h9; omega⟩
              clear hn
              have tn : decide (-(K : Int) < 0) = true := decide_eq_true (by omega)
              have hw : wrap64 (K : Int) = (K : Int) := by unfold wrap64; omega
              obtain ⟨b1, o1, rfl, sk⟩ := hQ K (by omega)
              replace sk := sk.keep f1 (fun h => h)
              have d0 := sk.c0
              have d1 := sk.c1
              have d2 := sk.c2
              have d3 := sk.c3
              have i2 : 0 ≤ (K : Int) ∧ (K : Int) < (2 : Int) := by omega
              have i3 : (K : Int) ≤ 2 := by omega
              replace r12 := r12.alloc (.cells #[.int .i64 (1 + (K : Int)), .int .i64 (Q K).a, .int .i64 (Q K).f, .int .i64 (Q K).s] 24)
              have r14 := row_alloc2 wr (.cells #[.int .i64 (A k).v, .int .i64 (A k).a, .int .i64 (A k).f, .int .i64 (A k).s, .int .i64 (A k).pg, .int .i64 (A k).wt, .int .i64 (A k).ix, .int .i64 (A k).ev, .slice (A k).pa (A k).pl (A k).pc] 53) #[.int .i64 (1 + (K : Int)), .int .i64 (Q K).a, .int .i64 (Q K).f, .int .i64 (Q K).s] 24
              replace h := h.alloc (.cells #[.int .i64 (1 + (K : Int)), .int .i64 (Q K).a, .int .i64 (Q K).f, .int .i64 (Q K).s] 24)
              replace hT := hT.alloc (.cells #[.int .i64 (1 + (K : Int)), .int .i64 (Q K).a, .int .i64 (Q K).f, .int .i64 (Q K).s] 24)
              replace f1 := f1.alloc (.cells #[.int .i64 (1 + (K : Int)), .int .i64 (Q K).a, .int .i64 (Q K).f, .int .i64 (Q K).s] 24)
              clear sk
              have e7 := r12.cell 7
              go_wp2_with fail
              refine (evict_any _ _ _ _ _ hT (A k).ev).mono ?_
              rintro e v1 ⟨rfl, g1, hT1⟩
              clear c0 c1 c2 c3 c4 c5 c6 c7 c8 d0 d1 d2 d3 e7 hT hKe tz
              have ll := L.out
              have lb : bt < wr.heap.size := hbw.out
              replace r12 := r12.keep g1 (show wr.heap.size ≠ bt by omega)
              replace r14 := r14.keep g1 (show wr.heap.size + 1 ≠ bt by omega)
              replace h := h.keep g1 ll.2.2.2.1 ll.2.2.2.2
              replace f1 := f1.newer g1 ll.2.2.1
              clear g1 lb ll
              have e4 := r12.cell 4
              have e5 := r12.cell 5
              have e6 := r12.cell 6
              obtain ⟨s0, s1, s2, s3⟩ := row4 r14
              go_wp2_with fail
              have ll := L.out
              refine (reach_any _ _ _ _ _ _ _ _ _ _ _ _ _ _ _ _ h hT1 (by omega) (by omega) ll.2.2.2.1 ll.2.2.2.2).mono ?_
              rintro e v2 ⟨rfl, g2, hT2⟩
              have HB1 := buf_ev HB.out (A k).ev
              rw [(reach_same HB1 K (A k).pg (A k).wt).1, (reach_same HB1 K (A k).pg (A k).wt).2]
              clear e4 e5 e6 s0 s1 s2 s3 hT1
              have HB2 : Hid (BufOk bs Q _) := buf_reach HB1 K (A k).pg (A k).wt (A k).ix
              clear HB HB1
              have lb : bt < wr.heap.size := hbw.out
              replace r12 := r12.keep g2 (show wr.heap.size ≠ bt by omega)
              replace r14 := r14.keep g2 (show wr.heap.size + 1 ≠ bt by omega)
              replace h := h.keep g2 ll.2.2.2.1 ll.2.2.2.2
              replace f1 := f1.newer g2 ll.2.2.1
              clear g2 lb ll
              obtain ⟨x, hx⟩ : ∃ x, nested bs 16 (Q K).f (Q K).s (A k).pg (A k).wt = x := ⟨_, rfl⟩
              have hs := fun w0 h0 => nested_any w0 pm bm 16 bs (1 + (K : Int)) (Q K).a (Q K).f (Q K).s (A k).pg (A k).wt h0
              rw [hx] at hs ⊢
              clear hx
              have r16 := row_alloc v2 #[.int .i64 x.ft.k, .int .i64 x.ft.s, .int .i64 x.ft.l, .bool x.ft.wk, .int .i64 x.ft.p] 31
              replace r12 := r12.alloc (.cells #[.int .i64 x.ft.k, .int .i64 x.ft.s, .int .i64 x.ft.l, .bool x.ft.wk, .int .i64 x.ft.p] 31)
              replace r14 := r14.alloc (.cells #[.int .i64 x.ft.k, .int .i64 x.ft.s, .int .i64 x.ft.l, .bool x.ft.wk, .int .i64 x.ft.p] 31)
              replace h := h.alloc (.cells #[.int .i64 x.ft.k, .int .i64 x.ft.s, .int .i64 x.ft.l, .bool x.ft.wk, .int .i64 x.ft.p] 31)
              replace hT2 := hT2.alloc (.cells #[.int .i64 x.ft.k, .int .i64 x.ft.s, .int .i64 x.ft.l, .bool x.ft.wk, .int .i64 x.ft.p] 31)
              replace f1 := f1.alloc (.cells #[.int .i64 x.ft.k, .int .i64 x.ft.s, .int .i64 x.ft.l, .bool x.ft.wk, .int .i64 x.ft.p] 31)
              have e4 := r12.cell 4
              have e5 := r12.cell 5
              obtain ⟨s0, s1, s2, s3⟩ := row4 r14
              go_wp2_with fail
              refine (hs _ h).mono ?_
              rintro e v3 ⟨rfl, g3⟩
              clear e4 e5 s0 s1 s2 s3 r12 r14 hs
              replace r16 := (r16.keep g3 (fun h => h)).alloc (.cells #[.int .i64 x.ft.k, .int .i64 x.ft.s, .int .i64 x.ft.l, .bool x.ft.wk, .int .i64 x.ft.p] 31)
              have r19 := row_alloc v3 #[.int .i64 x.ft.k, .int .i64 x.ft.s, .int .i64 x.ft.l, .bool x.ft.wk, .int .i64 x.ft.p] 31
              replace h := (h.keep g3 (fun h => h) (fun h => h)).alloc (.cells #[.int .i64 x.ft.k, .int .i64 x.ft.s, .int .i64 x.ft.l, .bool x.ft.wk, .int .i64 x.ft.p] 31)
              replace hT2 := (hT2.keep g3 (fun h => h)).alloc (.cells #[.int .i64 x.ft.k, .int .i64 x.ft.s, .int .i64 x.ft.l, .bool x.ft.wk, .int .i64 x.ft.p] 31)
              replace f1 := (f1.trans g3).alloc (.cells #[.int .i64 x.ft.k, .int .i64 x.ft.s, .int .i64 x.ft.l, .bool x.ft.wk, .int .i64 x.ft.p] 31)
              clear g3
              obtain ⟨y0, y1, y2, y3, y4⟩ := cells5 r16
              obtain ⟨z0, z1, z2, z3, z4⟩ := cells5 r19
              have q1 : (x.fr != x.fr) = false := by simp
              go_wp2_with fail
              go_roundw
              case rel => exact ⟨k + 1, _, _, _, by omega, by omega, by go_num, f1, h, hT2, HB2, by have := more_bounds (idx (evT T (A k).ev) (1 + (K : Int)) (Q K).a (A k).pg 8); omega, by have := more_bounds (idx (evT T (A k).ev) (1 + (K : Int)) (Q K).a (A k).pg 8); omega, by have := more_bounds (idx (evT T (A k).ev) (1 + (K : Int)) (Q K).a (A k).pg 8); omega⟩
              case measure => simp [intOf]; omega
            · skip
              obtain rfl : len1 = 2 := by omega
              obtain ⟨K, hKe, hK⟩ : ∃ K : Nat, (A k).ev.tmod 2 = (K : Int) ∧ K < 2 := ⟨((A k).ev.tmod 2).toNat, by omega, by have := Int.tmod_lt_of_pos (A k).ev (b := 2) (by omega); omega⟩
              clear hn
              have tn : decide ((K : Int) < 0) = false := decide_eq_false (by omega)
              obtain ⟨b1, o1, rfl, sk⟩ := hQ K (by omega)
              replace sk := sk.keep f1 (fun h => h)
              have d0 := sk.c0
              have d1 := sk.c1
              have d2 := sk.c2
              have d3 := sk.c3
              have i2 : 0 ≤ (K : Int) ∧ (K : Int) < (2 : Int) := by omega
              have i3 : (K : Int) ≤ 2 := by omega
              replace r12 := r12.alloc (.cells #[.int .i64 (1 + (K : Int)), .int .i64 (Q K).a, .int .i64 (Q K).f, .int .i64 (Q K).s] 24)
              have r14 := row_alloc2 wr (.cells #[.int .i64 (A k).v, .int .i64 (A k).a, .int .i64 (A k).f, .int .i64 (A k).s, .int .i64 (A k).pg, .int .i64 (A k).wt, .int .i64 (A k).ix, .int .i64 (A k).ev, .slice (A k).pa (A k).pl (A k).pc] 53) #[.int .i64 (1 + (K : Int)), .int .i64 (Q K).a, .int .i64 (Q K).f, .int .i64 (Q K).s] 24
              replace h := h.alloc (.cells #[.int .i64 (1 + (K : Int)), .int .i64 (Q K).a, .int .i64 (Q K).f, .int .i64 (Q K).s] 24)
              replace hT := hT.alloc (.cells #[.int .i64 (1 + (K : Int)), .int .i64 (Q K).a, .int .i64 (Q K).f, .int .i64 (Q K).s] 24)
              replace f1 := f1.alloc (.cells #[.int .i64 (1 + (K : Int)), .int .i64 (Q K).a, .int .i64 (Q K).f, .int .i64 (Q K).s] 24)
              clear sk
              have e7 := r12.cell 7
              go_wp2_with fail
              refine (evict_any _ _ _ _ _ hT (A k).ev).mono ?_
              rintro e v1 ⟨rfl, g1, hT1⟩
              clear c0 c1 c2 c3 c4 c5 c6 c7 c8 d0 d1 d2 d3 e7 hT hKe tz
              have ll := L.out
              have lb : bt < wr.heap.size := hbw.out
              replace r12 := r12.keep g1 (show wr.heap.size ≠ bt by omega)
              replace r14 := r14.keep g1 (show wr.heap.size + 1 ≠ bt by omega)
              replace h := h.keep g1 ll.2.2.2.1 ll.2.2.2.2
              replace f1 := f1.newer g1 ll.2.2.1
              clear g1 lb ll
              have e4 := r12.cell 4
              have e5 := r12.cell 5
              have e6 := r12.cell 6
              obtain ⟨s0, s1, s2, s3⟩ := row4 r14
              go_wp2_with fail
              have ll := L.out
              refine (reach_any _ _ _ _ _ _ _ _ _ _ _ _ _ _ _ _ h hT1 (by omega) (by omega) ll.2.2.2.1 ll.2.2.2.2).mono ?_
              rintro e v2 ⟨rfl, g2, hT2⟩
              have HB1 := buf_ev HB.out (A k).ev
              rw [(reach_same HB1 K (A k).pg (A k).wt).1, (reach_same HB1 K (A k).pg (A k).wt).2]
              clear e4 e5 e6 s0 s1 s2 s3 hT1
              have HB2 : Hid (BufOk bs Q _) := buf_reach HB1 K (A k).pg (A k).wt (A k).ix
              clear HB HB1
              have lb : bt < wr.heap.size := hbw.out
              replace r12 := r12.keep g2 (show wr.heap.size ≠ bt by omega)
              replace r14 := r14.keep g2 (show wr.heap.size + 1 ≠ bt by omega)
              replace h := h.keep g2 ll.2.2.2.1 ll.2.2.2.2
              replace f1 := f1.newer g2 ll.2.2.1
              clear g2 lb ll
              obtain ⟨x, hx⟩ : ∃ x, nested bs 16 (Q K).f (Q K).s (A k).pg (A k).wt = x := ⟨_, rfl⟩
              have hs := fun w0 h0 => nested_any w0 pm bm 16 bs (1 + (K : Int)) (Q K).a (Q K).f (Q K).s (A k).pg (A k).wt h0
              rw [hx] at hs ⊢
              clear hx
              have r16 := row_alloc v2 #[.int .i64 x.ft.k, .int .i64 x.ft.s, .int .i64 x.ft.l, .bool x.ft.wk, .int .i64 x.ft.p] 31
              replace r12 := r12.alloc (.cells #[.int .i64 x.ft.k, .int .i64 x.ft.s, .int .i64 x.ft.l, .bool x.ft.wk, .int .i64 x.ft.p] 31)
              replace r14 := r14.alloc (.cells #[.int .i64 x.ft.k, .int .i64 x.ft.s, .int .i64 x.ft.l, .bool x.ft.wk, .int .i64 x.ft.p] 31)
              replace h := h.alloc (.cells #[.int .i64 x.ft.k, .int .i64 x.ft.s, .int .i64 x.ft.l, .bool x.ft.wk, .int .i64 x.ft.p] 31)
              replace hT2 := hT2.alloc (.cells #[.int .i64 x.ft.k, .int .i64 x.ft.s, .int .i64 x.ft.l, .bool x.ft.wk, .int .i64 x.ft.p] 31)
              replace f1 := f1.alloc (.cells #[.int .i64 x.ft.k, .int .i64 x.ft.s, .int .i64 x.ft.l, .bool x.ft.wk, .int .i64 x.ft.p] 31)
              have e4 := r12.cell 4
              have e5 := r12.cell 5
              obtain ⟨s0, s1, s2, s3⟩ := row4 r14
              go_wp2_with fail
              refine (hs _ h).mono ?_
              rintro e v3 ⟨rfl, g3⟩
              clear e4 e5 s0 s1 s2 s3 r12 r14 hs
              replace r16 := (r16.keep g3 (fun h => h)).alloc (.cells #[.int .i64 x.ft.k, .int .i64 x.ft.s, .int .i64 x.ft.l, .bool x.ft.wk, .int .i64 x.ft.p] 31)
              have r19 := row_alloc v3 #[.int .i64 x.ft.k, .int .i64 x.ft.s, .int .i64 x.ft.l, .bool x.ft.wk, .int .i64 x.ft.p] 31
              replace h := (h.keep g3 (fun h => h) (fun h => h)).alloc (.cells #[.int .i64 x.ft.k, .int .i64 x.ft.s, .int .i64 x.ft.l, .bool x.ft.wk, .int .i64 x.ft.p] 31)
              replace hT2 := (hT2.keep g3 (fun h => h)).alloc (.cells #[.int .i64 x.ft.k, .int .i64 x.ft.s, .int .i64 x.ft.l, .bool x.ft.wk, .int .i64 x.ft.p] 31)
              replace f1 := (f1.trans g3).alloc (.cells #[.int .i64 x.ft.k, .int .i64 x.ft.s, .int .i64 x.ft.l, .bool x.ft.wk, .int .i64 x.ft.p] 31)
              clear g3
              obtain ⟨y0, y1, y2, y3, y4⟩ := cells5 r16
              obtain ⟨z0, z1, z2, z3, z4⟩ := cells5 r19
              have q1 : (x.fr != x.fr) = false := by simp
              go_wp2_with fail
              go_roundw
              case rel => exact ⟨k + 1, _, _, _, by omega, by omega, by go_num, f1, h, hT2, HB2, by have := more_bounds (idx (evT T (A k).ev) (1 + (K : Int)) (Q K).a (A k).pg 8); omega, by have := more_bounds (idx (evT T (A k).ev) (1 + (K : Int)) (Q K).a (A k).pg 8); omega, by have := more_bounds (idx (evT T (A k).ev) (1 + (K : Int)) (Q K).a (A k).pg 8); omega⟩
              case measure => simp [intOf]; omega
          · by_cases hn : (A k).ev.tmod 3 < 0
            · skip
              obtain rfl : len1 = 3 := by omega
              obtain ⟨K, hKe, hK0, hK⟩ : ∃ K : Nat, (A k).ev.tmod 3 = -(K : Int) ∧ 0 < K ∧ K < 3 := ⟨((A k).ev.tmod 3).natAbs, by omega, by omega, by have := Int.tmod_lt_of_pos (A k).ev (b := 3) (by omega); have h9 := Int.tmod_lt_of_pos (-(A k).ev) (b := 3) (by omega); rw [Int.neg_tmod] at h9; omega⟩
              clear hn
              have tn : decide (-(K : Int) < 0) = true := decide_eq_true (by omega)
              have hw : wrap64 (K : Int) = (K : Int) := by unfold wrap64; omega
              obtain ⟨b1, o1, rfl, sk⟩ := hQ K (by omega)
              replace sk := sk.keep f1 (fun h => h)
              have d0 := sk.c0
              have d1 := sk.c1
              have d2 := sk.c2
              have d3 := sk.c3
              have i2 : 0 ≤ (K : Int) ∧ (K : Int) < (3 : Int) := by omega
              have i3 : (K : Int) ≤ 2 := by omega
              replace r12 := r12.alloc (.cells #[.int .i64 (1 + (K : Int)), .int .i64 (Q K).a, .int .i64 (Q K).f, .int .i64 (Q K).s] 24)
              have r14 := row_alloc2 wr (.cells #[.int .i64 (A k).v, .int .i64 (A k).a, .int .i64 (A k).f, .int .i64 (A k).s, .int .i64 (A k).pg, .int .i64 (A k).wt, .int .i64 (A k).ix, .int .i64 (A k).ev, .slice (A k).pa (A k).pl (A k).pc] 53) #[.int .i64 (1 + (K : Int)), .int .i64 (Q K).a, .int .i64 (Q K).f, .int .i64 (Q K).s] 24
              replace h := h.alloc (.cells #[.int .i64 (1 + (K : Int)), .int .i64 (Q K).a, .int .i64 (Q K).f, .int .i64 (Q K).s] 24)
              replace hT := hT.alloc (.cells #[.int .i64 (1 + (K : Int)), .int .i64 (Q K).a, .int .i64 (Q K).f, .int .i64 (Q K).s] 24)
              replace f1 := f1.alloc (.cells #[.int .i64 (1 + (K : Int)), .int .i64 (Q K).a, .int .i64 (Q K).f, .int .i64 (Q K).s] 24)
              clear sk
              have e7 := r12.cell 7
              go_wp2_with fail
              refine (evict_any _ _ _ _ _ hT (A k).ev).mono ?_
              rintro e v1 ⟨rfl, g1, hT1⟩
              clear c0 c1 c2 c3 c4 c5 c6 c7 c8 d0 d1 d2 d3 e7 hT hKe tz
              have ll := L.out
              have lb : bt < wr.heap.size := hbw.out
              replace r12 := r12.keep g1 (show wr.heap.size ≠ bt by omega)
              replace r14 := r14.keep g1 (show wr.heap.size + 1 ≠ bt by omega)
              replace h := h.keep g1 ll.2.2.2.1 ll.2.2.2.2
              replace f1 := f1.newer g1 ll.2.2.1
              clear g1 lb ll
              have e4 := r12.cell 4
              have e5 := r12.cell 5
              have e6 := r12.cell 6
              obtain ⟨s0, s1, s2, s3⟩ := row4 r14
              go_wp2_with fail
              have ll := L.out
              refine (reach_any _ _ _ _ _ _ _ _ _ _ _ _ _ _ _ _ h hT1 (by omega) (by omega) ll.2.2.2.1 ll.2.2.2.2).mono ?_
              rintro e v2 ⟨rfl, g2, hT2⟩
              have HB1 := buf_ev HB.out (A k).ev
              rw [(reach_same HB1 K (A k).pg (A k).wt).1, (reach_same HB1 K (A k).pg (A k).wt).2]
              clear e4 e5 e6 s0 s1 s2 s3 hT1
              have HB2 : Hid (BufOk bs Q _) := buf_reach HB1 K (A k).pg (A k).wt (A k).ix
              clear HB HB1
              have lb : bt < wr.heap.size := hbw.out
              replace r12 := r12.keep g2 (show wr.heap.size ≠ bt by omega)
              replace r14 := r14.keep g2 (show wr.heap.size + 1 ≠ bt by omega)
              replace h := h.keep g2 ll.2.2.2.1 ll.2.2.2.2
              replace f1 := f1.newer g2 ll.2.2.1
              clear g2 lb ll
              obtain ⟨x, hx⟩ : ∃ x, nested bs 16 (Q K).f (Q K).s (A k).pg (A k).wt = x := ⟨_, rfl⟩
              have hs := fun w0 h0 => nested_any w0 pm bm 16 bs (1 + (K : Int)) (Q K).a (Q K).f (Q K).s (A k).pg (A k).wt h0
              rw [hx] at hs ⊢
              clear hx
              have r16 := row_alloc v2 #[.int .i64 x.ft.k, .int .i64 x.ft.s, .int .i64 x.ft.l, .bool x.ft.wk, .int .i64 x.ft.p] 31
              replace r12 := r12.alloc (.cells #[.int .i64 x.ft.k, .int .i64 x.ft.s, .int .i64 x.ft.l, .bool x.ft.wk, .int .i64 x.ft.p] 31)
              replace r14 := r14.alloc (.cells #[.int .i64 x.ft.k, .int .i64 x.ft.s, .int .i64 x.ft.l, .bool x.ft.wk, .int .i64 x.ft.p] 31)
              replace h := h.alloc (.cells #[.int .i64 x.ft.k, .int .i64 x.ft.s, .int .i64 x.ft.l, .bool x.ft.wk, .int .i64 x.ft.p] 31)
              replace hT2 := hT2.alloc (.cells #[.int .i64 x.ft.k, .int .i64 x.ft.s, .int .i64 x.ft.l, .bool x.ft.wk, .int .i64 x.ft.p] 31)
              replace f1 := f1.alloc (.cells #[.int .i64 x.ft.k, .int .i64 x.ft.s, .int .i64 x.ft.l, .bool x.ft.wk, .int .i64 x.ft.p] 31)
              have e4 := r12.cell 4
              have e5 := r12.cell 5
              obtain ⟨s0, s1, s2, s3⟩ := row4 r14
              go_wp2_with fail
              refine (hs _ h).mono ?_
              rintro e v3 ⟨rfl, g3⟩
              clear e4 e5 s0 s1 s2 s3 r12 r14 hs
              replace r16 := (r16.keep g3 (fun h => h)).alloc (.cells #[.int .i64 x.ft.k, .int .i64 x.ft.s, .int .i64 x.ft.l, .bool x.ft.wk, .int .i64 x.ft.p] 31)
              have r19 := row_alloc v3 #[.int .i64 x.ft.k, .int .i64 x.ft.s, .int .i64 x.ft.l, .bool x.ft.wk, .int .i64 x.ft.p] 31
              replace h := (h.keep g3 (fun h => h) (fun h => h)).alloc (.cells #[.int .i64 x.ft.k, .int .i64 x.ft.s, .int .i64 x.ft.l, .bool x.ft.wk, .int .i64 x.ft.p] 31)
              replace hT2 := (hT2.keep g3 (fun h => h)).alloc (.cells #[.int .i64 x.ft.k, .int .i64 x.ft.s, .int .i64 x.ft.l, .bool x.ft.wk, .int .i64 x.ft.p] 31)
              replace f1 := (f1.trans g3).alloc (.cells #[.int .i64 x.ft.k, .int .i64 x.ft.s, .int .i64 x.ft.l, .bool x.ft.wk, .int .i64 x.ft.p] 31)
              clear g3
              obtain ⟨y0, y1, y2, y3, y4⟩ := cells5 r16
              obtain ⟨z0, z1, z2, z3, z4⟩ := cells5 r19
              have q1 : (x.fr != x.fr) = false := by simp
              go_wp2_with fail
              go_roundw
              case rel => exact ⟨k + 1, _, _, _, by omega, by omega, by go_num, f1, h, hT2, HB2, by have := more_bounds (idx (evT T (A k).ev) (1 + (K : Int)) (Q K).a (A k).pg 8); omega, by have := more_bounds (idx (evT T (A k).ev) (1 + (K : Int)) (Q K).a (A k).pg 8); omega, by have := more_bounds (idx (evT T (A k).ev) (1 + (K : Int)) (Q K).a (A k).pg 8); omega⟩
              case measure => simp [intOf]; omega
            · skip
              obtain rfl : len1 = 3 := by omega
              obtain ⟨K, hKe, hK⟩ : ∃ K : Nat, (A k).ev.tmod 3 = (K : Int) ∧ K < 3 := ⟨((A k).ev.tmod 3).toNat, by omega, by have := Int.tmod_lt_of_pos (A k).ev (b := 3) (by omega); omega⟩
              clear hn
              have tn : decide ((K : Int) < 0) = false := decide_eq_false (by omega)
              obtain ⟨b1, o1, rfl, sk⟩ := hQ K (by omega)
              replace sk := sk.keep f1 (fun h => h)
              have d0 := sk.c0
              have d1 := sk.c1
              have d2 := sk.c2
              have d3 := sk.c3
              have i2 : 0 ≤ (K : Int) ∧ (K : Int) < (3 : Int) := by omega
              have i3 : (K : Int) ≤ 2 := by omega
              replace r12 := r12.alloc (.cells #[.int .i64 (1 + (K : Int)), .int .i64 (Q K).a, .int .i64 (Q K).f, .int .i64 (Q K).s] 24)
              have r14 := row_alloc2 wr (.cells #[.int .i64 (A k).v, .int .i64 (A k).a, .int .i64 (A k).f, .int .i64 (A k).s, .int .i64 (A k).pg, .int .i64 (A k).wt, .int .i64 (A k).ix, .int .i64 (A k).ev, .slice (A k).pa (A k).pl (A k).pc] 53) #[.int .i64 (1 + (K : Int)), .int .i64 (Q K).a, .int .i64 (Q K).f, .int .i64 (Q K).s] 24
              replace h := h.alloc (.cells #[.int .i64 (1 + (K : Int)), .int .i64 (Q K).a, .int .i64 (Q K).f, .int .i64 (Q K).s] 24)
              replace hT := hT.alloc (.cells #[.int .i64 (1 + (K : Int)), .int .i64 (Q K).a, .int .i64 (Q K).f, .int .i64 (Q K).s] 24)
              replace f1 := f1.alloc (.cells #[.int .i64 (1 + (K : Int)), .int .i64 (Q K).a, .int .i64 (Q K).f, .int .i64 (Q K).s] 24)
              clear sk
              have e7 := r12.cell 7
              go_wp2_with fail
              refine (evict_any _ _ _ _ _ hT (A k).ev).mono ?_
              rintro e v1 ⟨rfl, g1, hT1⟩
              clear c0 c1 c2 c3 c4 c5 c6 c7 c8 d0 d1 d2 d3 e7 hT hKe tz
              have ll := L.out
              have lb : bt < wr.heap.size := hbw.out
              replace r12 := r12.keep g1 (show wr.heap.size ≠ bt by omega)
              replace r14 := r14.keep g1 (show wr.heap.size + 1 ≠ bt by omega)
              replace h := h.keep g1 ll.2.2.2.1 ll.2.2.2.2
              replace f1 := f1.newer g1 ll.2.2.1
              clear g1 lb ll
              have e4 := r12.cell 4
              have e5 := r12.cell 5
              have e6 := r12.cell 6
              obtain ⟨s0, s1, s2, s3⟩ := row4 r14
              go_wp2_with fail
              have ll := L.out
              refine (reach_any _ _ _ _ _ _ _ _ _ _ _ _ _ _ _ _ h hT1 (by omega) (by omega) ll.2.2.2.1 ll.2.2.2.2).mono ?_
              rintro e v2 ⟨rfl, g2, hT2⟩
              have HB1 := buf_ev HB.out (A k).ev
              rw [(reach_same HB1 K (A k).pg (A k).wt).1, (reach_same HB1 K (A k).pg (A k).wt).2]
              clear e4 e5 e6 s0 s1 s2 s3 hT1
              have HB2 : Hid (BufOk bs Q _) := buf_reach HB1 K (A k).pg (A k).wt (A k).ix
              clear HB HB1
              have lb : bt < wr.heap.size := hbw.out
              replace r12 := r12.keep g2 (show wr.heap.size ≠ bt by omega)
              replace r14 := r14.keep g2 (show wr.heap.size + 1 ≠ bt by omega)
              replace h := h.keep g2 ll.2.2.2.1 ll.2.2.2.2
              replace f1 := f1.newer g2 ll.2.2.1
              clear g2 lb ll
              obtain ⟨x, hx⟩ : ∃ x, nested bs 16 (Q K).f (Q K).s (A k).pg (A k).wt = x := ⟨_, rfl⟩
              have hs := fun w0 h0 => nested_any w0 pm bm 16 bs (1 + (K : Int)) (Q K).a (Q K).f (Q K).s (A k).pg (A k).wt h0
              rw [hx] at hs ⊢
              clear hx
              have r16 := row_alloc v2 #[.int .i64 x.ft.k, .int .i64 x.ft.s, .int .i64 x.ft.l, .bool x.ft.wk, .int .i64 x.ft.p] 31
              replace r12 := r12.alloc (.cells #[.int .i64 x.ft.k, .int .i64 x.ft.s, .int .i64 x.ft.l, .bool x.ft.wk, .int .i64 x.ft.p] 31)
              replace r14 := r14.alloc (.cells #[.int .i64 x.ft.k, .int .i64 x.ft.s, .int .i64 x.ft.l, .bool x.ft.wk, .int .i64 x.ft.p] 31)
              replace h := h.alloc (.cells #[.int .i64 x.ft.k, .int .i64 x.ft.s, .int .i64 x.ft.l, .bool x.ft.wk, .int .i64 x.ft.p] 31)
              replace hT2 := hT2.alloc (.cells #[.int .i64 x.ft.k, .int .i64 x.ft.s, .int .i64 x.ft.l, .bool x.ft.wk, .int .i64 x.ft.p] 31)
              replace f1 := f1.alloc (.cells #[.int .i64 x.ft.k, .int .i64 x.ft.s, .int .i64 x.ft.l, .bool x.ft.wk, .int .i64 x.ft.p] 31)
              have e4 := r12.cell 4
              have e5 := r12.cell 5
              obtain ⟨s0, s1, s2, s3⟩ := row4 r14
              go_wp2_with fail
              refine (hs _ h).mono ?_
              rintro e v3 ⟨rfl, g3⟩
              clear e4 e5 s0 s1 s2 s3 r12 r14 hs
              replace r16 := (r16.keep g3 (fun h => h)).alloc (.cells #[.int .i64 x.ft.k, .int .i64 x.ft.s, .int .i64 x.ft.l, .bool x.ft.wk, .int .i64 x.ft.p] 31)
              have r19 := row_alloc v3 #[.int .i64 x.ft.k, .int .i64 x.ft.s, .int .i64 x.ft.l, .bool x.ft.wk, .int .i64 x.ft.p] 31
              replace h := (h.keep g3 (fun h => h) (fun h => h)).alloc (.cells #[.int .i64 x.ft.k, .int .i64 x.ft.s, .int .i64 x.ft.l, .bool x.ft.wk, .int .i64 x.ft.p] 31)
              replace hT2 := (hT2.keep g3 (fun h => h)).alloc (.cells #[.int .i64 x.ft.k, .int .i64 x.ft.s, .int .i64 x.ft.l, .bool x.ft.wk, .int .i64 x.ft.p] 31)
              replace f1 := (f1.trans g3).alloc (.cells #[.int .i64 x.ft.k, .int .i64 x.ft.s, .int .i64 x.ft.l, .bool x.ft.wk, .int .i64 x.ft.p] 31)
              clear g3
              obtain ⟨y0, y1, y2, y3, y4⟩ := cells5 r16
              obtain ⟨z0, z1, z2, z3, z4⟩ := cells5 r19
              have q1 : (x.fr != x.fr) = false := by simp
              go_wp2_with fail
              go_roundw
              case rel => exact ⟨k + 1, _, _, _, by omega, by omega, by go_num, f1, h, hT2, HB2, by have := more_bounds (idx (evT T (A k).ev) (1 + (K : Int)) (Q K).a (A k).pg 8); omega, by have := more_bounds (idx (evT T (A k).ev) (1 + (K : Int)) (Q K).a (A k).pg 8); omega, by have := more_bounds (idx (evT T (A k).ev) (1 + (K : Int)) (Q K).a (A k).pg 8); omega⟩
              case measure => simp [intOf]; omega
          · by_cases hn : (A k).ev.tmod 3 < 0
            · skip
              have hmin : min (len1 : Int) 3 = 3 := by omega
              have hm4 : (3 : Int) < (len1 : Int) := by omega
              obtain ⟨K, hKe, hK0, hK⟩ : ∃ K : Nat, (A k).ev.tmod 3 = -(K : Int) ∧ 0 < K ∧ K < 3 := ⟨((A k).ev.tmod 3).natAbs, by omega, by omega, by have := Int.tmod_lt_of_pos (A k).ev (b := 3) (by omega); have h9 := Int.tmod_lt_of_pos (-(A k).ev) (b := 3) (by omega); rw [Int.neg_tmod] at h9; omega⟩
              clear hn
              have tn : decide (-(K : Int) < 0) = true := decide_eq_true (by omega)
              have hw : wrap64 (K : Int) = (K : Int) := by unfold wrap64; omega
              obtain ⟨b1, o1, rfl, sk⟩ := hQ K (by omega)
              replace sk := sk.keep f1 (fun h => h)
              have d0 := sk.c0
              have d1 := sk.c1
              have d2 := sk.c2
              have d3 := sk.c3
              have i2 : 0 ≤ (K : Int) ∧ (K : Int) < (len1 : Int) := by omega
              have i3 : (K : Int) ≤ 2 := by omega
              replace r12 := r12.alloc (.cells #[.int .i64 (1 + (K : Int)), .int .i64 (Q K).a, .int .i64 (Q K).f, .int .i64 (Q K).s] 24)
              have r14 := row_alloc2 wr (.cells #[.int .i64 (A k).v, .int .i64 (A k).a, .int .i64 (A k).f, .int .i64 (A k).s, .int .i64 (A k).pg, .int .i64 (A k).wt, .int .i64 (A k).ix, .int .i64 (A k).ev, .slice (A k).pa (A k).pl (A k).pc] 53) #[.int .i64 (1 + (K : Int)), .int .i64 (Q K).a, .int .i64 (Q K).f, .int .i64 (Q K).s] 24
              replace h := h.alloc (.cells #[.int .i64 (1 + (K : Int)), .int .i64 (Q K).a, .int .i64 (Q K).f, .int .i64 (Q K).s] 24)
              replace hT := hT.alloc (.cells #[.int .i64 (1 + (K : Int)), .int .i64 (Q K).a, .int .i64 (Q K).f, .int .i64 (Q K).s] 24)
              replace f1 := f1.alloc (.cells #[.int .i64 (1 + (K : Int)), .int .i64 (Q K).a, .int .i64 (Q K).f, .int .i64 (Q K).s] 24)
              clear sk
              have e7 := r12.cell 7
              go_wp2_with fail
              refine (evict_any _ _ _ _ _ hT (A k).ev).mono ?_
              rintro e v1 ⟨rfl, g1, hT1⟩
              clear c0 c1 c2 c3 c4 c5 c6 c7 c8 d0 d1 d2 d3 e7 hT hKe tz
              have ll := L.out
              have lb : bt < wr.heap.size := hbw.out
              replace r12 := r12.keep g1 (show wr.heap.size ≠ bt by omega)
              replace r14 := r14.keep g1 (show wr.heap.size + 1 ≠ bt by omega)
              replace h := h.keep g1 ll.2.2.2.1 ll.2.2.2.2
              replace f1 := f1.newer g1 ll.2.2.1
              clear g1 lb ll
              have e4 := r12.cell 4
              have e5 := r12.cell 5
              have e6 := r12.cell 6
              obtain ⟨s0, s1, s2, s3⟩ := row4 r14
              go_wp2_with fail
              have ll := L.out
              refine (reach_any _ _ _ _ _ _ _ _ _ _ _ _ _ _ _ _ h hT1 (by omega) (by omega) ll.2.2.2.1 ll.2.2.2.2).mono ?_
              rintro e v2 ⟨rfl, g2, hT2⟩
              have HB1 := buf_ev HB.out (A k).ev
              rw [(reach_same HB1 K (A k).pg (A k).wt).1, (reach_same HB1 K (A k).pg (A k).wt).2]
              clear e4 e5 e6 s0 s1 s2 s3 hT1
              have HB2 : Hid (BufOk bs Q _) := buf_reach HB1 K (A k).pg (A k).wt (A k).ix
              clear HB HB1
              have lb : bt < wr.heap.size := hbw.out
              replace r12 := r12.keep g2 (show wr.heap.size ≠ bt by omega)
              replace r14 := r14.keep g2 (show wr.heap.size + 1 ≠ bt by omega)
              replace h := h.keep g2 ll.2.2.2.1 ll.2.2.2.2
              replace f1 := f1.newer g2 ll.2.2.1
              clear g2 lb ll
              obtain ⟨x, hx⟩ : ∃ x, nested bs 16 (Q K).f (Q K).s (A k).pg (A k).wt = x := ⟨_, rfl⟩
              have hs := fun w0 h0 => nested_any w0 pm bm 16 bs (1 + (K : Int)) (Q K).a (Q K).f (Q K).s (A k).pg (A k).wt h0
              rw [hx] at hs ⊢
              clear hx
              have r16 := row_alloc v2 #[.int .i64 x.ft.k, .int .i64 x.ft.s, .int .i64 x.ft.l, .bool x.ft.wk, .int .i64 x.ft.p] 31
              replace r12 := r12.alloc (.cells #[.int .i64 x.ft.k, .int .i64 x.ft.s, .int .i64 x.ft.l, .bool x.ft.wk, .int .i64 x.ft.p] 31)
              replace r14 := r14.alloc (.cells #[.int .i64 x.ft.k, .int .i64 x.ft.s, .int .i64 x.ft.l, .bool x.ft.wk, .int .i64 x.ft.p] 31)
              replace h := h.alloc (.cells #[.int .i64 x.ft.k, .int .i64 x.ft.s, .int .i64 x.ft.l, .bool x.ft.wk, .int .i64 x.ft.p] 31)
              replace hT2 := hT2.alloc (.cells #[.int .i64 x.ft.k, .int .i64 x.ft.s, .int .i64 x.ft.l, .bool x.ft.wk, .int .i64 x.ft.p] 31)
              replace f1 := f1.alloc (.cells #[.int .i64 x.ft.k, .int .i64 x.ft.s, .int .i64 x.ft.l, .bool x.ft.wk, .int .i64 x.ft.p] 31)
              have e4 := r12.cell 4
              have e5 := r12.cell 5
              obtain ⟨s0, s1, s2, s3⟩ := row4 r14
              go_wp2_with fail
              refine (hs _ h).mono ?_
              rintro e v3 ⟨rfl, g3⟩
              clear e4 e5 s0 s1 s2 s3 r12 r14 hs
              replace r16 := (r16.keep g3 (fun h => h)).alloc (.cells #[.int .i64 x.ft.k, .int .i64 x.ft.s, .int .i64 x.ft.l, .bool x.ft.wk, .int .i64 x.ft.p] 31)
              have r19 := row_alloc v3 #[.int .i64 x.ft.k, .int .i64 x.ft.s, .int .i64 x.ft.l, .bool x.ft.wk, .int .i64 x.ft.p] 31
              replace h := (h.keep g3 (fun h => h) (fun h => h)).alloc (.cells #[.int .i64 x.ft.k, .int .i64 x.ft.s, .int .i64 x.ft.l, .bool x.ft.wk, .int .i64 x.ft.p] 31)
              replace hT2 := (hT2.keep g3 (fun h => h)).alloc (.cells #[.int .i64 x.ft.k, .int .i64 x.ft.s, .int .i64 x.ft.l, .bool x.ft.wk, .int .i64 x.ft.p] 31)
              replace f1 := (f1.trans g3).alloc (.cells #[.int .i64 x.ft.k, .int .i64 x.ft.s, .int .i64 x.ft.l, .bool x.ft.wk, .int .i64 x.ft.p] 31)
              clear g3
              obtain ⟨y0, y1, y2, y3, y4⟩ := cells5 r16
              obtain ⟨z0, z1, z2, z3, z4⟩ := cells5 r19
              have q1 : (x.fr != x.fr) = false := by simp
              go_wp2_with fail
              go_roundw
              case rel => exact ⟨k + 1, _, _, _, by omega, by omega, by go_num, f1, h, hT2, HB2, by have := more_bounds (idx (evT T (A k).ev) (1 + (K : Int)) (Q K).a (A k).pg 8); omega, by have := more_bounds (idx (evT T (A k).ev) (1 + (K : Int)) (Q K).a (A k).pg 8); omega, by have := more_bounds (idx (evT T (A k).ev) (1 + (K : Int)) (Q K).a (A k).pg 8); omega⟩
              case measure => simp [intOf]; omega
            · skip
              have hmin : min (len1 : Int) 3 = 3 := by omega
              have hm4 : (3 : Int) < (len1 : Int) := by omega
              obtain ⟨K, hKe, hK⟩ : ∃ K : Nat, (A k).ev.tmod 3 = (K : Int) ∧ K < 3 := ⟨((A k).ev.tmod 3).toNat, by omega, by have := Int.tmod_lt_of_pos (A k).ev (b := 3) (by omega); omega⟩
              clear hn
              have tn : decide ((K : Int) < 0) = false := decide_eq_false (by omega)
              obtain ⟨b1, o1, rfl, sk⟩ := hQ K (by omega)
              replace sk := sk.keep f1 (fun h => h)
              have d0 := sk.c0
              have d1 := sk.c1
              have d2 := sk.c2
              have d3 := sk.c3
              have i2 : 0 ≤ (K : Int) ∧ (K : Int) < (len1 : Int) := by omega
              have i3 : (K : Int) ≤ 2 := by omega
              replace r12 := r12.alloc (.cells #[.int .i64 (1 + (K : Int)), .int .i64 (Q K).a, .int .i64 (Q K).f, .int .i64 (Q K).s] 24)
              have r14 := row_alloc2 wr (.cells #[.int .i64 (A k).v, .int .i64 (A k).a, .int .i64 (A k).f, .int .i64 (A k).s, .int .i64 (A k).pg, .int .i64 (A k).wt, .int .i64 (A k).ix, .int .i64 (A k).ev, .slice (A k).pa (A k).pl (A k).pc] 53) #[.int .i64 (1 + (K : Int)), .int .i64 (Q K).a, .int .i64 (Q K).f, .int .i64 (Q K).s] 24
              replace h := h.alloc (.cells #[.int .i64 (1 + (K : Int)), .int .i64 (Q K).a, .int .i64 (Q K).f, .int .i64 (Q K).s] 24)
              replace hT := hT.alloc (.cells #[.int .i64 (1 + (K : Int)), .int .i64 (Q K).a, .int .i64 (Q K).f, .int .i64 (Q K).s] 24)
              replace f1 := f1.alloc (.cells #[.int .i64 (1 + (K : Int)), .int .i64 (Q K).a, .int .i64 (Q K).f, .int .i64 (Q K).s] 24)
              clear sk
              have e7 := r12.cell 7
              go_wp2_with fail
              refine (evict_any _ _ _ _ _ hT (A k).ev).mono ?_
              rintro e v1 ⟨rfl, g1, hT1⟩
              clear c0 c1 c2 c3 c4 c5 c6 c7 c8 d0 d1 d2 d3 e7 hT hKe tz
              have ll := L.out
              have lb : bt < wr.heap.size := hbw.out
              replace r12 := r12.keep g1 (show wr.heap.size ≠ bt by omega)
              replace r14 := r14.keep g1 (show wr.heap.size + 1 ≠ bt by omega)
              replace h := h.keep g1 ll.2.2.2.1 ll.2.2.2.2
              replace f1 := f1.newer g1 ll.2.2.1
              clear g1 lb ll
              have e4 := r12.cell 4
              have e5 := r12.cell 5
              have e6 := r12.cell 6
              obtain ⟨s0, s1, s2, s3⟩ := row4 r14
              go_wp2_with fail
              have ll := L.out
              refine (reach_any _ _ _ _ _ _ _ _ _ _ _ _ _ _ _ _ h hT1 (by omega) (by omega) ll.2.2.2.1 ll.2.2.2.2).mono ?_
              rintro e v2 ⟨rfl, g2, hT2⟩
              have HB1 := buf_ev HB.out (A k).ev
              rw [(reach_same HB1 K (A k).pg (A k).wt).1, (reach_same HB1 K (A k).pg (A k).wt).2]
              clear e4 e5 e6 s0 s1 s2 s3 hT1
              have HB2 : Hid (BufOk bs Q _) := buf_reach HB1 K (A k).pg (A k).wt (A k).ix
              clear HB HB1
              have lb : bt < wr.heap.size := hbw.out
              replace r12 := r12.keep g2 (show wr.heap.size ≠ bt by omega)
              replace r14 := r14.keep g2 (show wr.heap.size + 1 ≠ bt by omega)
              replace h := h.keep g2 ll.2.2.2.1 ll.2.2.2.2
              replace f1 := f1.newer g2 ll.2.2.1
              clear g2 lb ll
              obtain ⟨x, hx⟩ : ∃ x, nested bs 16 (Q K).f (Q K).s (A k).pg (A k).wt = x := ⟨_, rfl⟩
              have hs := fun w0 h0 => nested_any w0 pm bm 16 bs (1 + (K : Int)) (Q K).a (Q K).f (Q K).s (A k).pg (A k).wt h0
              rw [hx] at hs ⊢
              clear hx
              have r16 := row_alloc v2 #[.int .i64 x.ft.k, .int .i64 x.ft.s, .int .i64 x.ft.l, .bool x.ft.wk, .int .i64 x.ft.p] 31
              replace r12 := r12.alloc (.cells #[.int .i64 x.ft.k, .int .i64 x.ft.s, .int .i64 x.ft.l, .bool x.ft.wk, .int .i64 x.ft.p] 31)
              replace r14 := r14.alloc (.cells #[.int .i64 x.ft.k, .int .i64 x.ft.s, .int .i64 x.ft.l, .bool x.ft.wk, .int .i64 x.ft.p] 31)
              replace h := h.alloc (.cells #[.int .i64 x.ft.k, .int .i64 x.ft.s, .int .i64 x.ft.l, .bool x.ft.wk, .int .i64 x.ft.p] 31)
              replace hT2 := hT2.alloc (.cells #[.int .i64 x.ft.k, .int .i64 x.ft.s, .int .i64 x.ft.l, .bool x.ft.wk, .int .i64 x.ft.p] 31)
              replace f1 := f1.alloc (.cells #[.int .i64 x.ft.k, .int .i64 x.ft.s, .int .i64 x.ft.l, .bool x.ft.wk, .int .i64 x.ft.p] 31)
              have e4 := r12.cell 4
              have e5 := r12.cell 5
              obtain ⟨s0, s1, s2, s3⟩ := row4 r14
              go_wp2_with fail
              refine (hs _ h).mono ?_
              rintro e v3 ⟨rfl, g3⟩
              clear e4 e5 s0 s1 s2 s3 r12 r14 hs
              replace r16 := (r16.keep g3 (fun h => h)).alloc (.cells #[.int .i64 x.ft.k, .int .i64 x.ft.s, .int .i64 x.ft.l, .bool x.ft.wk, .int .i64 x.ft.p] 31)
              have r19 := row_alloc v3 #[.int .i64 x.ft.k, .int .i64 x.ft.s, .int .i64 x.ft.l, .bool x.ft.wk, .int .i64 x.ft.p] 31
              replace h := (h.keep g3 (fun h => h) (fun h => h)).alloc (.cells #[.int .i64 x.ft.k, .int .i64 x.ft.s, .int .i64 x.ft.l, .bool x.ft.wk, .int .i64 x.ft.p] 31)
              replace hT2 := (hT2.keep g3 (fun h => h)).alloc (.cells #[.int .i64 x.ft.k, .int .i64 x.ft.s, .int .i64 x.ft.l, .bool x.ft.wk, .int .i64 x.ft.p] 31)
              replace f1 := (f1.trans g3).alloc (.cells #[.int .i64 x.ft.k, .int .i64 x.ft.s, .int .i64 x.ft.l, .bool x.ft.wk, .int .i64 x.ft.p] 31)
              clear g3
              obtain ⟨y0, y1, y2, y3, y4⟩ := cells5 r16
              obtain ⟨z0, z1, z2, z3, z4⟩ := cells5 r19
              have q1 : (x.fr != x.fr) = false := by simp
              go_wp2_with fail
              go_roundw
              case rel => exact ⟨k + 1, _, _, _, by omega, by omega, by go_num, f1, h, hT2, HB2, by have := more_bounds (idx (evT T (A k).ev) (1 + (K : Int)) (Q K).a (A k).pg 8); omega, by have := more_bounds (idx (evT T (A k).ev) (1 + (K : Int)) (Q K).a (A k).pg 8); omega, by have := more_bounds (idx (evT T (A k).ev) (1 + (K : Int)) (Q K).a (A k).pg 8); omega⟩
              case measure => simp [intOf]; omega
      · obtain rfl : k = 100 := by omega
        go_wp2_with fail
        go_ret
        exact ⟨rfl, f1.below (Nat.le_refl _) (fun _ h => h.elim)⟩
    · obtain rfl : k = len2 := by omega
      go_wp2_with fail
      go_ret
      exact ⟨rfl, f1.below (Nat.le_refl _) (fun _ h => h.elim)⟩

end Go.Proofs.Ytnegnmoffidniaa
