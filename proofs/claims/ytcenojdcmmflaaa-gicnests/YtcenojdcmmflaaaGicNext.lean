/-
  Contracts of package gic's Next, Ack, End, State over the translation. No statement is proved here.
-/
import Derived.Test.YtcenojdcmmflaaaGicAsk
import Derived.Deep.RegionHeld3
namespace Go.Proofs.Ytcenojdcmmflaaa
open Go.RowKit

set_option maxHeartbeats 4000000 in
theorem next_any (w : World) (b : Nat) (T : Nat → Li) (m : Int) (h : IsGic w b T m) :
    Calls Try.prog 20 #[.pointer (some ⟨b, 0, none⟩)] w fun e w' => e = .returned (.tuple #[.int .i64 (nextL T m : Int), .bool (nextO T m)]) ∧ Fr none' w w' := by
  unfold nextL nextO
  have H := heard_any w b T m h
  obtain ⟨bd, hbd⟩ : ∃ bd, bd = bound T m := ⟨_, rfl⟩
  rw [← hbd] at H ⊢
  clear hbd
  go_enter Try.func20, Try.ntmps20
  go_wp2_with fail
  refine H.mono ?_
  rintro e w1 ⟨g, rfl, f1, hg⟩
  have h1 := h.keep f1 (fun h => h)
  obtain ⟨A, hA, hl, hc⟩ := h1.arr
  clear H h
  go_wp2_with (refine wpList_load_part rfl 55 _ rfl b rfl A _ hc Try.underlying55 rfl (by rw [hA]; exact size_lis) ?_)
  go_loopw [2, 3, 13] (fun l o i wr => ∃ k : Nat, k ≤ 32 ∧ l = .int .i64 ((best bd T k).1 : Int) ∧ o = .bool (best bd T k).2 ∧ i = .int .i64 k ∧ Fr none' w wr ∧ IsGic wr b T m ∧ wr.cell? ⟨g, 0, none⟩ = some (.int .i64 bd)) (fun _ _ i _ => 32 - (intOf i).toNat)
  case atStart => exact ⟨0, by omega, rfl, rfl, rfl, f1, h1, hg⟩
  case round =>
    clear hc f1 h1 hg
    obtain ⟨k, hk, rfl, rfl, rfl, fk, hT, hg⟩ := hrel
    by_cases hlt : k < 32
    · have hix := index_li hA hl k hlt
      have rb := row_alloc wr #[.int .i64 (T k).p, .int .i64 (T k).s, .bool (T k).en, .bool (T k).pe] 54
      obtain ⟨c0, c1, c2, c3⟩ := row4 rb
      have fa := (Fr.refl none' wr).alloc (.cells #[.int .i64 (T k).p, .int .i64 (T k).s, .bool (T k).en, .bool (T k).pe] 54)
      have f1 := fk.trans fa
      have hT1 := hT.keep fa (fun h => h)
      have hg1 := cell_keep fa hg (fun h => h)
      have hstep : best bd T (k + 1) = if may bd (T k) && (!(best bd T k).2 || decide ((T k).p < (T (best bd T k).1).p)) then (k, true) else best bd T k := rfl
      have hle := best_lt' bd T k
      obtain ⟨⟨l, o⟩, hb⟩ : ∃ q, best bd T k = q := ⟨_, rfl⟩
      rw [hb] at hstep hle ⊢
      have hl32 : l < 32 := by have : l ≤ k := hle; omega
      obtain ⟨q, hq⟩ : ∃ q, best bd T (k + 1) = q := ⟨_, rfl⟩
      rw [hq] at hstep
      simp only at hstep
      have i1 : 0 ≤ (l : Int) ∧ (l : Int) < 32 := by omega
      clear hb hle fk fa hT hg hl hA
      obtain ⟨d0, d1, d2, d3⟩ := hT1.cells l hl32
      cases hm : may bd (T k) with
      | false =>
        obtain rfl : q = (l, o) := by rw [hstep, hm]; rfl
        clear hstep
        go_wp2_with fail
        refine wp_region_any (by kernel_rfl) ?_
        change wpAny _ _ _ _ _ _ _ (World.drew _)
        refine wpAny_take (i := 0) (v := ?_) rfl (by kernel_rfl) (by kernel_rfl) (by kernel_rfl) (fun _ _ _ h => h) (Or.inl ⟨by kernel_rfl, fun w => ?_⟩) ?_
        rotate_left
        · go_simp
          try with_reducible rfl
        show wpAny _ _ _ _ _ _ (Act.put _ (some 17) _) _
        simp only [Act.put, List.setIfInBounds_toArray, List.set_cons_succ, List.set_cons_zero]
        refine wpAny_ready (rs := [1]) (by kernel_rfl) (by simp) ?_
        refine AllReady.cons rfl (fun K hK => ?_) AllReady.nil
        go_simp
        refine hK _ _ ?_
        clear hK K
        refine wpAny_ready (rs := [2]) (by kernel_rfl) (by simp) ?_
        refine AllReady.cons rfl (fun K hK => ?_) AllReady.nil
        go_simp
        refine (may1 (wr.alloc (.cells #[.int .i64 (T k).p, .int .i64 (T k).s, .bool (T k).en, .bool (T k).pe] 54)).drew g bd (T k) hg1).mono ?_
        rintro e w2 ⟨rfl, f2⟩
        rw [hm]
        replace f2 := f2.undrew
        replace rb := rb.keep f2 (fun h => h)
        replace hT1 := hT1.keep f2 (fun h => h)
        replace hg1 := cell_keep f2 hg1 (fun h => h)
        replace f1 := f1.trans f2
        refine hK _ _ ?_
        clear hK K
        refine wpAny_take (i := 3) (v := ?_) rfl (by kernel_rfl) (by kernel_rfl) (by kernel_rfl) (fun _ _ _ h => h) (Or.inl ⟨by kernel_rfl, fun w => ?_⟩) ?_
        rotate_left
        · go_simp
          try with_reducible rfl
        show wpAny _ _ _ _ _ _ (Act.put _ (some 20) _) _
        simp only [Act.put, List.setIfInBounds_toArray, List.set_cons_succ, List.set_cons_zero]
        refine wpAny_take (i := 4) (v := undef) rfl (by kernel_rfl) (by kernel_rfl) (by kernel_rfl) (fun _ _ _ h => h) (Or.inr ⟨by kernel_rfl, rfl⟩) ?_
        show wpAny _ _ _ _ _ _ (Act.put _ (some 21) _) _
        simp only [Act.put, List.setIfInBounds_toArray, List.set_cons_succ, List.set_cons_zero]
        refine wpAny_take (i := 5) (v := undef) rfl (by kernel_rfl) (by kernel_rfl) (by kernel_rfl) (fun _ _ _ h => h) (Or.inr ⟨by kernel_rfl, rfl⟩) ?_
        show wpAny _ _ _ _ _ _ (Act.put _ (some 22) _) _
        simp only [Act.put, List.setIfInBounds_toArray, List.set_cons_succ, List.set_cons_zero]
        refine wpAny_take (i := 6) (v := undef) rfl (by kernel_rfl) (by kernel_rfl) (by kernel_rfl) (fun _ _ _ h => h) (Or.inr ⟨by kernel_rfl, rfl⟩) ?_
        show wpAny _ _ _ _ _ _ (Act.put _ (some 23) _) _
        simp only [Act.put, List.setIfInBounds_toArray, List.set_cons_succ, List.set_cons_zero]
        refine wpAny_take (i := 7) (v := undef) rfl (by kernel_rfl) (by kernel_rfl) (by kernel_rfl) (fun _ _ _ h => h) (Or.inr ⟨by kernel_rfl, rfl⟩) ?_
        show wpAny _ _ _ _ _ _ (Act.put _ (some 24) _) _
        simp only [Act.put, List.setIfInBounds_toArray, List.set_cons_succ, List.set_cons_zero]
        refine wpAny_take (i := 8) (v := undef) rfl (by kernel_rfl) (by kernel_rfl) (by kernel_rfl) (fun _ _ _ h => h) (Or.inr ⟨by kernel_rfl, rfl⟩) ?_
        show wpAny _ _ _ _ _ _ (Act.put _ (some 25) _) _
        simp only [Act.put, List.setIfInBounds_toArray, List.set_cons_succ, List.set_cons_zero]
        refine wpAny_take (i := 9) (v := undef) rfl (by kernel_rfl) (by kernel_rfl) (by kernel_rfl) (fun _ _ _ h => h) (Or.inr ⟨by kernel_rfl, rfl⟩) ?_
        show wpAny _ _ _ _ _ _ (Act.put _ (some 26) _) _
        simp only [Act.put, List.setIfInBounds_toArray, List.set_cons_succ, List.set_cons_zero]
        refine wpAny_take (i := 10) (v := undef) rfl (by kernel_rfl) (by kernel_rfl) (by kernel_rfl) (fun _ _ _ h => h) (Or.inr ⟨by kernel_rfl, rfl⟩) ?_
        show wpAny _ _ _ _ _ _ (Act.put _ (some 27) _) _
        simp only [Act.put, List.setIfInBounds_toArray, List.set_cons_succ, List.set_cons_zero]
        refine wpAny_take (i := 11) (v := undef) rfl (by kernel_rfl) (by kernel_rfl) (by kernel_rfl) (fun _ _ _ h => h) (Or.inr ⟨by kernel_rfl, rfl⟩) ?_
        show wpAny _ _ _ _ _ _ (Act.put _ (some 28) _) _
        simp only [Act.put, List.setIfInBounds_toArray, List.set_cons_succ, List.set_cons_zero]
        refine wpAny_take (i := 12) (v := undef) rfl (by kernel_rfl) (by kernel_rfl) (by kernel_rfl) (fun _ _ _ h => h) (Or.inr ⟨by kernel_rfl, rfl⟩) ?_
        show wpAny _ _ _ _ _ _ (Act.put _ (some 29) _) _
        simp only [Act.put, List.setIfInBounds_toArray, List.set_cons_succ, List.set_cons_zero]
        refine wpAny_take (i := 13) (v := undef) rfl (by kernel_rfl) (by kernel_rfl) (by kernel_rfl) (fun _ _ _ h => h) (Or.inr ⟨by kernel_rfl, rfl⟩) ?_
        show wpAny _ _ _ _ _ _ (Act.put _ (some 30) _) _
        simp only [Act.put, List.setIfInBounds_toArray, List.set_cons_succ, List.set_cons_zero]
        refine wpAny_take (i := 14) (v := undef) rfl (by kernel_rfl) (by kernel_rfl) (by kernel_rfl) (fun _ _ _ h => h) (Or.inr ⟨by kernel_rfl, rfl⟩) ?_
        show wpAny _ _ _ _ _ _ (Act.put _ (some 31) _) _
        simp only [Act.put, List.setIfInBounds_toArray, List.set_cons_succ, List.set_cons_zero]
        refine wpAny_take (i := 15) (v := undef) rfl (by kernel_rfl) (by kernel_rfl) (by kernel_rfl) (fun _ _ _ h => h) (Or.inr ⟨by kernel_rfl, rfl⟩) ?_
        show wpAny _ _ _ _ _ _ (Act.put _ (some 32) _) _
        simp only [Act.put, List.setIfInBounds_toArray, List.set_cons_succ, List.set_cons_zero]
        refine wpAny_take (i := 16) (v := undef) rfl (by kernel_rfl) (by kernel_rfl) (by kernel_rfl) (fun _ _ _ h => h) (Or.inr ⟨by kernel_rfl, rfl⟩) ?_
        show wpAny _ _ _ _ _ _ (Act.put _ (some 33) _) _
        simp only [Act.put, List.setIfInBounds_toArray, List.set_cons_succ, List.set_cons_zero]
        refine wpAny_take (i := 17) (v := undef) rfl (by kernel_rfl) (by kernel_rfl) (by kernel_rfl) (fun _ _ _ h => h) (Or.inr ⟨by kernel_rfl, rfl⟩) ?_
        show wpAny _ _ _ _ _ _ (Act.put _ (some 34) _) _
        simp only [Act.put, List.setIfInBounds_toArray, List.set_cons_succ, List.set_cons_zero]
        refine wpAny_take (i := 18) (v := ?_) rfl (by kernel_rfl) (by kernel_rfl) (by kernel_rfl) (fun _ _ _ h => h) (Or.inl ⟨by kernel_rfl, fun w => ?_⟩) ?_
        rotate_left
        · go_simp
          try with_reducible rfl
        show wpAny _ _ _ _ _ _ (Act.put _ (some 35) _) _
        simp only [Act.put, List.setIfInBounds_toArray, List.set_cons_succ, List.set_cons_zero]
        refine wpAny_done (by kernel_rfl) ?_ _
        all_goals (go_wp2_with fail)
        all_goals go_roundw
        all_goals first
          | exact ⟨k + 1, by omega, by rw [hq], by rw [hq], by go_num, f1, hT1, hg1⟩
          | (simp [intOf]; omega)
      | true =>
        rw [hm] at hstep
        cases o with
        | false =>
          obtain rfl : q = (k, true) := by rw [hstep]; rfl
          clear hstep
          go_wp2_with fail
          refine wp_region_any (by kernel_rfl) ?_
          change wpAny _ _ _ _ _ _ _ (World.drew _)
          refine wpAny_take (i := 0) (v := ?_) rfl (by kernel_rfl) (by kernel_rfl) (by kernel_rfl) (fun _ _ _ h => h) (Or.inl ⟨by kernel_rfl, fun w => ?_⟩) ?_
          rotate_left
          · go_simp
            try with_reducible rfl
          show wpAny _ _ _ _ _ _ (Act.put _ (some 17) _) _
          simp only [Act.put, List.setIfInBounds_toArray, List.set_cons_succ, List.set_cons_zero]
          refine wpAny_ready (rs := [1]) (by kernel_rfl) (by simp) ?_
          refine AllReady.cons rfl (fun K hK => ?_) AllReady.nil
          go_simp
          refine hK _ _ ?_
          clear hK K
          refine wpAny_ready (rs := [2]) (by kernel_rfl) (by simp) ?_
          refine AllReady.cons rfl (fun K hK => ?_) AllReady.nil
          go_simp
          refine (may1 (wr.alloc (.cells #[.int .i64 (T k).p, .int .i64 (T k).s, .bool (T k).en, .bool (T k).pe] 54)).drew g bd (T k) hg1).mono ?_
          rintro e w2 ⟨rfl, f2⟩
          rw [hm]
          replace f2 := f2.undrew
          replace rb := rb.keep f2 (fun h => h)
          replace hT1 := hT1.keep f2 (fun h => h)
          replace hg1 := cell_keep f2 hg1 (fun h => h)
          replace f1 := f1.trans f2
          refine hK _ _ ?_
          clear hK K
          refine wpAny_take (i := 3) (v := ?_) rfl (by kernel_rfl) (by kernel_rfl) (by kernel_rfl) (fun _ _ _ h => h) (Or.inl ⟨by kernel_rfl, fun w => ?_⟩) ?_
          rotate_left
          · go_simp
            try with_reducible rfl
          show wpAny _ _ _ _ _ _ (Act.put _ (some 20) _) _
          simp only [Act.put, List.setIfInBounds_toArray, List.set_cons_succ, List.set_cons_zero]
          refine wpAny_take (i := 4) (v := ?_) rfl (by kernel_rfl) (by kernel_rfl) (by kernel_rfl) (fun _ _ _ h => h) (Or.inl ⟨by kernel_rfl, fun w => ?_⟩) ?_
          rotate_left
          · go_simp
            try with_reducible rfl
          show wpAny _ _ _ _ _ _ (Act.put _ (some 21) _) _
          simp only [Act.put, List.setIfInBounds_toArray, List.set_cons_succ, List.set_cons_zero]
          refine wpAny_take (i := 5) (v := ?_) rfl (by kernel_rfl) (by kernel_rfl) (by kernel_rfl) (fun _ _ _ h => h) (Or.inl ⟨by kernel_rfl, fun w => ?_⟩) ?_
          rotate_left
          · go_simp
            try with_reducible rfl
          show wpAny _ _ _ _ _ _ (Act.put _ (some 22) _) _
          simp only [Act.put, List.setIfInBounds_toArray, List.set_cons_succ, List.set_cons_zero]
          refine wpAny_take (i := 6) (v := ?_) rfl (by kernel_rfl) (by kernel_rfl) (by kernel_rfl) (fun _ _ _ h => h) (Or.inl ⟨by kernel_rfl, fun w => ?_⟩) ?_
          rotate_left
          · go_simp
            try with_reducible rfl
          show wpAny _ _ _ _ _ _ (Act.put _ (some 23) _) _
          simp only [Act.put, List.setIfInBounds_toArray, List.set_cons_succ, List.set_cons_zero]
          refine wpAny_take (i := 7) (v := undef) rfl (by kernel_rfl) (by kernel_rfl) (by kernel_rfl) (fun _ _ _ h => h) (Or.inr ⟨by kernel_rfl, rfl⟩) ?_
          show wpAny _ _ _ _ _ _ (Act.put _ (some 24) _) _
          simp only [Act.put, List.setIfInBounds_toArray, List.set_cons_succ, List.set_cons_zero]
          refine wpAny_take (i := 8) (v := undef) rfl (by kernel_rfl) (by kernel_rfl) (by kernel_rfl) (fun _ _ _ h => h) (Or.inr ⟨by kernel_rfl, rfl⟩) ?_
          show wpAny _ _ _ _ _ _ (Act.put _ (some 25) _) _
          simp only [Act.put, List.setIfInBounds_toArray, List.set_cons_succ, List.set_cons_zero]
          refine wpAny_take (i := 9) (v := undef) rfl (by kernel_rfl) (by kernel_rfl) (by kernel_rfl) (fun _ _ _ h => h) (Or.inr ⟨by kernel_rfl, rfl⟩) ?_
          show wpAny _ _ _ _ _ _ (Act.put _ (some 26) _) _
          simp only [Act.put, List.setIfInBounds_toArray, List.set_cons_succ, List.set_cons_zero]
          refine wpAny_take (i := 10) (v := undef) rfl (by kernel_rfl) (by kernel_rfl) (by kernel_rfl) (fun _ _ _ h => h) (Or.inr ⟨by kernel_rfl, rfl⟩) ?_
          show wpAny _ _ _ _ _ _ (Act.put _ (some 27) _) _
          simp only [Act.put, List.setIfInBounds_toArray, List.set_cons_succ, List.set_cons_zero]
          refine wpAny_take (i := 11) (v := undef) rfl (by kernel_rfl) (by kernel_rfl) (by kernel_rfl) (fun _ _ _ h => h) (Or.inr ⟨by kernel_rfl, rfl⟩) ?_
          show wpAny _ _ _ _ _ _ (Act.put _ (some 28) _) _
          simp only [Act.put, List.setIfInBounds_toArray, List.set_cons_succ, List.set_cons_zero]
          refine wpAny_take (i := 12) (v := undef) rfl (by kernel_rfl) (by kernel_rfl) (by kernel_rfl) (fun _ _ _ h => h) (Or.inr ⟨by kernel_rfl, rfl⟩) ?_
          show wpAny _ _ _ _ _ _ (Act.put _ (some 29) _) _
          simp only [Act.put, List.setIfInBounds_toArray, List.set_cons_succ, List.set_cons_zero]
          refine wpAny_take (i := 13) (v := undef) rfl (by kernel_rfl) (by kernel_rfl) (by kernel_rfl) (fun _ _ _ h => h) (Or.inr ⟨by kernel_rfl, rfl⟩) ?_
          show wpAny _ _ _ _ _ _ (Act.put _ (some 30) _) _
          simp only [Act.put, List.setIfInBounds_toArray, List.set_cons_succ, List.set_cons_zero]
          refine wpAny_take (i := 14) (v := undef) rfl (by kernel_rfl) (by kernel_rfl) (by kernel_rfl) (fun _ _ _ h => h) (Or.inr ⟨by kernel_rfl, rfl⟩) ?_
          show wpAny _ _ _ _ _ _ (Act.put _ (some 31) _) _
          simp only [Act.put, List.setIfInBounds_toArray, List.set_cons_succ, List.set_cons_zero]
          refine wpAny_take (i := 15) (v := undef) rfl (by kernel_rfl) (by kernel_rfl) (by kernel_rfl) (fun _ _ _ h => h) (Or.inr ⟨by kernel_rfl, rfl⟩) ?_
          show wpAny _ _ _ _ _ _ (Act.put _ (some 32) _) _
          simp only [Act.put, List.setIfInBounds_toArray, List.set_cons_succ, List.set_cons_zero]
          refine wpAny_take (i := 16) (v := undef) rfl (by kernel_rfl) (by kernel_rfl) (by kernel_rfl) (fun _ _ _ h => h) (Or.inr ⟨by kernel_rfl, rfl⟩) ?_
          show wpAny _ _ _ _ _ _ (Act.put _ (some 33) _) _
          simp only [Act.put, List.setIfInBounds_toArray, List.set_cons_succ, List.set_cons_zero]
          refine wpAny_take (i := 17) (v := ?_) rfl (by kernel_rfl) (by kernel_rfl) (by kernel_rfl) (fun _ _ _ h => h) (Or.inl ⟨by kernel_rfl, fun w => ?_⟩) ?_
          rotate_left
          · go_simp
            try with_reducible rfl
          show wpAny _ _ _ _ _ _ (Act.put _ (some 34) _) _
          simp only [Act.put, List.setIfInBounds_toArray, List.set_cons_succ, List.set_cons_zero]
          refine wpAny_take (i := 18) (v := ?_) rfl (by kernel_rfl) (by kernel_rfl) (by kernel_rfl) (fun _ _ _ h => h) (Or.inl ⟨by kernel_rfl, fun w => ?_⟩) ?_
          rotate_left
          · go_simp
            try with_reducible rfl
          show wpAny _ _ _ _ _ _ (Act.put _ (some 35) _) _
          simp only [Act.put, List.setIfInBounds_toArray, List.set_cons_succ, List.set_cons_zero]
          refine wpAny_done (by kernel_rfl) ?_ _
          all_goals (go_wp2_with fail)
          all_goals go_roundw
          all_goals first
            | exact ⟨k + 1, by omega, by rw [hq], by rw [hq], by go_num, f1, hT1, hg1⟩
            | (simp [intOf]; omega)
        | true =>
          by_cases hp : (T k).p < (T l).p
          · have u1 : decide ((T k).p < (T l).p) = true := decide_eq_true hp
            obtain rfl : q = (k, true) := by rw [hstep, u1]; rfl
            clear hstep
            go_wp2_with fail
            go_region_held3 (fun w' => w'.cell? ⟨wr.heap.size, 0, none⟩ = some (.int .i64 (T k).p) ∧ w'.cell? ⟨wr.heap.size, 1, none⟩ = some (.int .i64 (T k).s) ∧ w'.cell? ⟨wr.heap.size, 2, none⟩ = some (.bool (T k).en) ∧ w'.cell? ⟨wr.heap.size, 3, none⟩ = some (.bool (T k).pe) ∧ w'.cell? ⟨b, l * 4, none⟩ = some (.int .i64 (T l).p)) (first | with_reducible exact ⟨c0, c1, c2, c3, d0⟩ | with_reducible exact ⟨x0, x1, x2, x3, y0⟩ | go_keep) (first | (go_at_call 39; refine (may1 (wr.alloc (.cells #[.int .i64 (T k).p, .int .i64 (T k).s, .bool (T k).en, .bool (T k).pe] 54)).drew g bd (T k) hg1).mono ?_; rintro e w2 ⟨rfl, f2⟩; rw [hm]; (replace f2 := f2.undrew); (replace rb := rb.keep f2 (fun h => h)); (replace hT1 := hT1.keep f2 (fun h => h)); (replace hg1 := cell_keep f2 hg1 (fun h => h)); (replace f1 := f1.trans f2); obtain ⟨x0, x1, x2, x3⟩ := row4 rb; obtain ⟨y0, y1, y2, y3⟩ := hT1.cells l hl32))
            all_goals (go_wp2_with fail)
            all_goals go_roundw
            all_goals first
              | exact ⟨k + 1, by omega, by rw [hq], by rw [hq], by go_num, f1, hT1, hg1⟩
              | (simp [intOf]; omega)
          · have u1 : decide ((T k).p < (T l).p) = false := decide_eq_false hp
            obtain rfl : q = (l, true) := by rw [hstep, u1]; rfl
            clear hstep
            go_wp2_with fail
            go_region_held3 (fun w' => w'.cell? ⟨wr.heap.size, 0, none⟩ = some (.int .i64 (T k).p) ∧ w'.cell? ⟨wr.heap.size, 1, none⟩ = some (.int .i64 (T k).s) ∧ w'.cell? ⟨wr.heap.size, 2, none⟩ = some (.bool (T k).en) ∧ w'.cell? ⟨wr.heap.size, 3, none⟩ = some (.bool (T k).pe) ∧ w'.cell? ⟨b, l * 4, none⟩ = some (.int .i64 (T l).p)) (first | with_reducible exact ⟨c0, c1, c2, c3, d0⟩ | with_reducible exact ⟨x0, x1, x2, x3, y0⟩ | go_keep) (first | (go_at_call 39; refine (may1 (wr.alloc (.cells #[.int .i64 (T k).p, .int .i64 (T k).s, .bool (T k).en, .bool (T k).pe] 54)).drew g bd (T k) hg1).mono ?_; rintro e w2 ⟨rfl, f2⟩; rw [hm]; (replace f2 := f2.undrew); (replace rb := rb.keep f2 (fun h => h)); (replace hT1 := hT1.keep f2 (fun h => h)); (replace hg1 := cell_keep f2 hg1 (fun h => h)); (replace f1 := f1.trans f2); obtain ⟨x0, x1, x2, x3⟩ := row4 rb; obtain ⟨y0, y1, y2, y3⟩ := hT1.cells l hl32))
            all_goals (go_wp2_with fail)
            all_goals go_roundw
            all_goals first
              | exact ⟨k + 1, by omega, by rw [hq], by rw [hq], by go_num, f1, hT1, hg1⟩
              | (simp [intOf]; omega)
    · obtain rfl : k = 32 := by omega
      go_wp2_with fail
      go_ret2
      exact ⟨rfl, fk⟩

set_option maxHeartbeats 400000 in
theorem ack_any (w : World) (b : Nat) (T : Nat → Li) (m : Int) (h : IsGic w b T m) :
    Calls Try.prog 15 #[.pointer (some ⟨b, 0, none⟩)] w fun e w' => e = .returned (.int .i64 (ackA T m)) ∧ Chg w b (ackT T m) m w' := by
  have hn := next_any w b T m h
  unfold ackA ackT
  cases ho : nextO T m with
  | false =>
    rw [ho] at hn
    go_enter Try.func15, Try.ntmps15
    go_wp2_with fail
    refine hn.mono ?_
    rintro e w1 ⟨rfl, f1⟩
    go_wp2_with fail
    go_ret
    exact ⟨rfl, f1.mono (fun _ _ h => h.elim), h.keep f1 (fun h => h)⟩
  | true =>
    have hk := next_lt ho
    rw [ho] at hn
    obtain ⟨k, hke⟩ : ∃ k, k = nextL T m := ⟨_, rfl⟩
    rw [← hke] at hn hk ⊢
    clear hke ho
    go_enter Try.func15, Try.ntmps15
    go_wp2_with fail
    refine hn.mono ?_
    rintro e w1 ⟨rfl, f1⟩
    have h1 := h.keep f1 (fun h => h)
    have hc := change_in w1 b T m h1 k hk 31 #[] _ (enters_of Try.func31 (by kernel_rfl) rfl) (ack1 w1 b T m h1 k hk)
    clear hn
    go_wp2_with fail
    refine hc.mono ?_
    rintro e w2 ⟨rfl, f2⟩
    go_wp2_with fail
    go_ret
    exact ⟨rfl, f2.pre f1⟩

set_option maxHeartbeats 400000 in
theorem end1 (w : World) (b g : Nat) (T : Nat → Li) (m : Int) (h : IsGic w b T m) (k : Nat) (hk : k < 32) (v : Value) (r : Row w g #[v] 4) (hne : g ≠ b) :
    Calls Try.prog 35 #[.pointer (some ⟨b, k * 4, none⟩), .pointer (some ⟨g, 0, none⟩)] w fun e w' => (∃ v, e = .returned v) ∧ Fr (two b g) w w' ∧ IsGic w' b (upd T k (fEnd (T k))) m ∧ Row w' g #[.bool (act (T k))] 4 := by
  obtain ⟨c0, c1, c2, c3⟩ := h.cells k hk
  go_enter Try.func35, Try.ntmps35
  go_wp2_with fail
  refine (active_any (T k) _).mono ?_
  rintro e w1 ⟨rfl, f1⟩
  replace h := h.keep f1 (fun h => h)
  replace r := r.keep f1 (fun h => h)
  have r0 := r.cell 0
  have r1 := r.frozen 0
  have r2 := r.setCell 0 (.bool (act (T k)))
  have h2 := h.keep (w' := w1.setCell ⟨g, 0, none⟩ (.bool (act (T k)))) ((Fr.refl (at' g) w1).setCell (p := ⟨g, 0, none⟩) (Or.inr (show g = g from rfl)) _) (fun e => hne e.symm)
  have f2 : Fr (two b g) w (w1.setCell ⟨g, 0, none⟩ (.bool (act (T k)))) := (f1.mono (T := two b g) (fun _ _ h => h.elim)).setCell (p := ⟨g, 0, none⟩) (Or.inr (show two b g g from Or.inr rfl)) _
  clear c0 c1 c2 c3
  obtain ⟨c0, c1, c2, c3⟩ := h2.cells k hk
  have g1 := h2.frozen (k * 4 + 1)
  go_wp2_with fail
  exact post_void rfl rfl (fun v => ⟨⟨v, rfl⟩, f2.setCell (p := ⟨b, k * 4 + 1, none⟩) (Or.inr (show two b g b from Or.inl rfl)) _, h2.setEnd hk, r2.setCell_other (p := ⟨b, k * 4 + 1, none⟩) (fun e => hne e.symm) _⟩)

set_option maxHeartbeats 400000 in
theorem end_any (w : World) (b : Nat) (T : Nat → Li) (m : Int) (h : IsGic w b T m) (n : Int) :
    Calls Try.prog 19 #[.pointer (some ⟨b, 0, none⟩), .int .i64 n] w fun e w' => e = .returned (.int .i64 (enE T n)) ∧ Chg w b (enT T n) m w' := by
  have h0 := h.alloc (.cells #[.bool false] 4)
  have f0 := (Fr.refl none' w).alloc (.cells #[.bool false] 4)
  have r0 := row_alloc w #[.bool false] 4
  have hne : w.heap.size ≠ b := by have := h.lt; omega
  unfold enE enT chT
  cases hn : isL n with
  | false =>
    go_enter Try.func19, Try.ntmps19
    go_wp2_with fail
    refine (change_out _ _ _ _ hn).mono ?_
    rintro e w1 ⟨rfl, rfl⟩
    go_wp2_with fail
    go_ret
    exact ⟨rfl, f0.mono (fun _ _ h => h.elim), h0⟩
  | true =>
    obtain ⟨k, rfl⟩ : ∃ k : Nat, n = (k : Int) := ⟨n.toNat, by have := isL_iff.mp hn; omega⟩
    have hk : k < 32 := by have := isL_iff.mp hn; omega
    have hc := change_in _ b T m h0 k hk 35 #[.pointer (some ⟨w.heap.size, 0, none⟩)] _ (enters_of Try.func35 (by kernel_rfl) rfl) (end1 _ b w.heap.size T m h0 k hk _ r0 hne)
    clear h0
    show Calls Try.prog 19 #[.pointer (some ⟨b, 0, none⟩), .int .i64 (k : Int)] w fun e w' => e = .returned (.int .i64 (bif act (T k) then 0 else 70)) ∧ Chg w b (upd T k (fEnd (T k))) m w'
    cases ha : act (T k) with
    | true =>
      rw [ha] at hc
      go_enter Try.func19, Try.ntmps19
      go_wp2_with fail
      refine hc.mono ?_
      rintro e w1 ⟨rfl, f1, h1, r1⟩
      have d0 := r1.cell 0
      have f2 : Fr (at' b) w w1 := ⟨f1.os.trans f0.os, f1.tape.trans f0.tape, f1.output.trans f0.output, Nat.le_trans f0.size f1.size, fun i hi hn => (f1.block i (Nat.lt_of_lt_of_le hi f0.size) (fun e => by rcases e with e | e; exact hn e; omega)).trans (f0.block i hi (fun h => h))⟩
      clear hc f0 f1 r0 r1
      go_wp2_with fail
      go_ret
      exact ⟨rfl, f2, h1⟩
    | false =>
      rw [ha] at hc
      go_enter Try.func19, Try.ntmps19
      go_wp2_with fail
      refine hc.mono ?_
      rintro e w1 ⟨rfl, f1, h1, r1⟩
      have d0 := r1.cell 0
      have f2 : Fr (at' b) w w1 := ⟨f1.os.trans f0.os, f1.tape.trans f0.tape, f1.output.trans f0.output, Nat.le_trans f0.size f1.size, fun i hi hn => (f1.block i (Nat.lt_of_lt_of_le hi f0.size) (fun e => by rcases e with e | e; exact hn e; omega)).trans (f0.block i hi (fun h => h))⟩
      clear hc f0 f1 r0 r1
      go_wp2_with fail
      go_ret
      exact ⟨rfl, f2, h1⟩

end Go.Proofs.Ytcenojdcmmflaaa
