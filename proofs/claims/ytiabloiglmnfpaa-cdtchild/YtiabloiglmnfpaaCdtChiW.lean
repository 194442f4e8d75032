/-
  The walk of the law CdtChild over the translation: it answers true. No statement is proved here.
-/
import Derived.Test.YtiabloiglmnfpaaCdtBl
import Derived.Test.YtiabloiglmnfpaaCdtRefA
namespace Go.Proofs.Ytiabloiglmnfpaa
open Go.RowKit Go.Maps Go.WideMaps

set_option maxRecDepth 100000 in
set_option maxHeartbeats 8000000 in
theorem lchild_any (a0 : Option Addr) (len cap : Nat) (an ai bn bi : Int) (w : World) (hl : len ≤ 9223372036854775807) (hA : ∃ A, Acs w a0 len A) (ha : (⟨an, ai⟩ : Rf).Ok) (hb : (⟨bn, bi⟩ : Rf).Ok) :
    Calls Try.prog 7 #[.slice a0 len cap, .agg #[.int .i64 an, .int .i64 ai], .agg #[.int .i64 bn, .int .i64 bi]] w fun e w' => e = .returned (.bool true) ∧ Below w.heap.size w w' := by
  obtain ⟨A, hA⟩ := hA
  have fB := (((Fr.refl none' w).alloc (.cells #[.int .i64 an, .int .i64 ai] 33)).alloc (.cells #[.int .i64 bn, .int .i64 bi] 33))
  replace hA := hA.keep fB
  have rA := (row_alloc w #[.int .i64 an, .int .i64 ai] 33).alloc (.cells #[.int .i64 bn, .int .i64 bi] 33)
  have rB := row_alloc1 w (.cells #[.int .i64 an, .int .i64 ai] 33) #[.int .i64 bn, .int .i64 bi] 33
  go_enter Try.func7, Try.ntmps7
  go_wp2_with fail
  generalize ((w.alloc (.cells #[.int .i64 an, .int .i64 ai] 33)).alloc (.cells #[.int .i64 bn, .int .i64 bi] 33)) = v0 at *
  have HA : Hid (Acs v0 a0 len A) := ⟨hA⟩
  have HF : Hid (Fr none' w v0) := ⟨fB⟩
  have HrA : Hid (Row v0 w.heap.size #[.int .i64 an, .int .i64 ai] 33) := ⟨rA⟩
  have HrB : Hid (Row v0 (w.heap.size + 1) #[.int .i64 bn, .int .i64 bi] 33) := ⟨rB⟩
  clear hA fB rA rB
  refine (awake_any _).mono ?_
  rintro e w1 ⟨rfl, f0⟩
  go_wp2_with fail
  refine (played_any v0 w1 a0 len cap A HA.out hl f0).mono ?_
  rintro e w2 ⟨t, F, rfl, P, hF⟩
  have HP : Hid (Pr v0 w2 t F) := ⟨P⟩
  clear P f0 HA
  have HR : Hid (Row w2 w.heap.size #[.int .i64 an, .int .i64 ai] 33 ∧ Row w2 (w.heap.size + 1) #[.int .i64 bn, .int .i64 bi] 33) := ⟨HrA.out.keep HP.out.fr (fun h => h), HrB.out.keep HP.out.fr (fun h => h)⟩
  clear HrA HrB
  obtain ⟨a0', a1'⟩ := row2 HR.out.1
  obtain ⟨pa, hpa⟩ : ∃ q, q = hasF F ⟨an, ai⟩ := ⟨_, rfl⟩
  obtain ⟨pb, hpb⟩ : ∃ q, q = hasF F ⟨bn, bi⟩ := ⟨_, rfl⟩
  have HH : Hid (hasF F ⟨an, ai⟩ = pa ∧ hasF F ⟨bn, bi⟩ = pb) := ⟨hpa.symm, hpb.symm⟩
  clear hpa hpb
  have hM := phas _ _ t F HP.out ⟨an, ai⟩ ha
  rw [HH.out.1] at hM
  go_wp2_with fail
  refine hM.mono ?_
  rintro e w20 ⟨rfl, f2⟩
  replace HP : Hid (Pr v0 w20 t F) := ⟨HP.out.keep0 f2⟩
  replace HR : Hid (Row w20 w.heap.size #[.int .i64 an, .int .i64 ai] 33 ∧ Row w20 (w.heap.size + 1) #[.int .i64 bn, .int .i64 bi] 33) := ⟨HR.out.1.keep f2 (fun h => h), HR.out.2.keep f2 (fun h => h)⟩
  clear a0' a1' f2 hM
  obtain ⟨b0', b1'⟩ := row2 HR.out.2
  have hM := phas _ _ t F HP.out ⟨bn, bi⟩ hb
  rw [HH.out.2] at hM
  go_wp2_with fail
  refine hM.mono ?_
  rintro e w21 ⟨rfl, f2⟩
  replace HP : Hid (Pr v0 w21 t F) := ⟨HP.out.keep0 f2⟩
  replace HR : Hid (Row w21 w.heap.size #[.int .i64 an, .int .i64 ai] 33 ∧ Row w21 (w.heap.size + 1) #[.int .i64 bn, .int .i64 bi] 33) := ⟨HR.out.1.keep f2 (fun h => h), HR.out.2.keep f2 (fun h => h)⟩
  clear b0' b1' f2 hM
  go_wp2_with fail
  refine (plist _ _ t F HP.out).mono ?_
  rintro e w3 ⟨vb, rfl, sb, f3⟩
  replace HP : Hid (Pr _ w3 t F) := ⟨HP.out.keep0 f3⟩
  obtain ⟨ab, capb, rfl⟩ := sb.slice
  have HS : Hid (RfS w3 w21.heap.size _ (F.map (·.a))) := ⟨sb⟩
  replace HR : Hid (Row w3 w.heap.size #[.int .i64 an, .int .i64 ai] 33 ∧ Row w3 (w.heap.size + 1) #[.int .i64 bn, .int .i64 bi] 33) := ⟨HR.out.1.keep f3 (fun h => h), HR.out.2.keep f3 (fun h => h)⟩
  clear sb f3
  rw [List.length_map] at HS ⊢
  obtain ⟨N, hN⟩ : ∃ N, N = F.length := ⟨_, rfl⟩
  have HN : Hid (N = F.length) := ⟨hN⟩
  rw [← hN] at HS hF ⊢
  clear hN
  go_wp2_with fail
  go_loopw [12, 13] (fun v i wr => ∃ k : Nat, k ≤ N ∧ i = .int .i64 (k : Int) ∧ Hid (Own1 4 w3 wr v ((F.take k).map fun e => .bool (belF e.a ⟨an, ai⟩ F || decide (e.a = ⟨an, ai⟩))))) (fun _ i _ => N - (intOf i).toNat)
  case atStart => exact ⟨0, by omega, rfl, ⟨own1_nil _ _⟩⟩
  case round =>
    obtain ⟨k, hk, rfl, ho⟩ := hrel
    rename_i u12
    by_cases hkN : k < N
    · have hkF : k < F.length := by rw [← HN.out]; exact hkN
      obtain ⟨e, he⟩ : ∃ e, F[k]? = some e := ⟨F[k], List.getElem?_eq_getElem hkF⟩
      obtain ⟨g, rfl, c0, c1⟩ := (HS.out.keep0 ho.out.fr).get (i := k) (x := e.a) (by simp [he])
      have hB := pbel _ _ t F (HP.out.keep0 (ho.out.fr.trans (Fr.refl none' wr).drew)) e.a ⟨an, ai⟩ (HP.out.wf.ok e (List.mem_of_getElem? he))
      obtain ⟨q0, q1⟩ := row2 (HR.out.1.keep ho.out.fr (fun h => h))
      obtain ⟨is, his⟩ : ∃ is, is = belF e.a ⟨an, ai⟩ F := ⟨_, rfl⟩
      rw [← his] at hB
      have HE : Hid (F[k]? = some e ∧ is = belF e.a ⟨an, ai⟩ F) := ⟨he, his⟩
      clear he hkF his
      obtain ⟨⟨en, ei⟩, ed⟩ := e
      dsimp only at c0 c1 hB
      have HC : Hid (wr.cell? ⟨g, k * 2, none⟩ = some (.int .i64 en) ∧ wr.cell? ⟨g, k * 2 + 1, none⟩ = some (.int .i64 ei) ∧ wr.cell? ⟨w.heap.size, 0, none⟩ = some (.int .i64 an) ∧ wr.cell? ⟨w.heap.size, 1, none⟩ = some (.int .i64 ai)) := ⟨c0, c1, q0, q1⟩
      have uk : decide ((k : Int) < (N : Int)) = true := decide_eq_true (by omega)
      have i1 : 0 ≤ (k : Int) ∧ (k : Int) < (N : Int) := by omega
      go_wp2_with fail
      go_region_held3 (fun w' => w'.cell? ⟨g, k * 2, none⟩ = some (.int .i64 en) ∧ w'.cell? ⟨g, k * 2 + 1, none⟩ = some (.int .i64 ei) ∧ w'.cell? ⟨w.heap.size, 0, none⟩ = some (.int .i64 an) ∧ w'.cell? ⟨w.heap.size, 1, none⟩ = some (.int .i64 ai)) (first | with_reducible exact ⟨c0, c1, q0, q1⟩ | with_reducible exact ⟨x0, x1, x2, x3⟩ | go_keep) (first | (go_at_call 17; refine hB.mono ?_; rintro e w4 ⟨rfl, f4⟩; (replace f4 := (Fr.refl none' wr).drew.trans f4); (have x0 := cell_keep f4 HC.out.1 (fun h => h)); (have x1 := cell_keep f4 HC.out.2.1 (fun h => h)); (have x2 := cell_keep f4 HC.out.2.2.1 (fun h => h)); (have x3 := cell_keep f4 HC.out.2.2.2 (fun h => h))))
      clear c0 c1 q0 q1 hB
      have O4 := (ho.out.keep f4).keep (Fr.refl none' w4).drew
      cases is with
      | true =>
        obtain ⟨v5, w5, hrun, O5⟩ := O4.bool (by simp; omega) true
        have HO : Hid (Own1 4 w3 w5 v5 ((F.take (k + 1)).map fun e => .bool (belF e.a ⟨an, ai⟩ F || decide (e.a = ⟨an, ai⟩)))) := ⟨by
          rw [List.take_add_one, HE.out.1, List.map_append]
          simp only [Option.toList, List.map_cons, List.map_nil, ← HE.out.2, Bool.true_or]
          exact O5⟩
        clear O4 O5 f4 ho HC HE x0 x1 x2 x3
        go_wp2_with fail
        refine wp_region_any (by kernel_rfl) ?_
        change wpAny _ _ _ _ _ _ _ (World.drew _)
        refine wpAny_take (i := 0) (v := ?_) rfl (by kernel_rfl) (by kernel_rfl) (by kernel_rfl) (fun _ _ _ h => h) (Or.inl ⟨by kernel_rfl, fun w => ?_⟩) ?_
        rotate_left
        · go_simp
          try with_reducible rfl
        show wpAny _ _ _ _ _ _ (Act.put _ (some 47) _) _
        simp only [Act.put, List.setIfInBounds_toArray, List.set_cons_succ, List.set_cons_zero]
        refine wpAny_take (i := 1) (v := ?_) rfl (by kernel_rfl) (by kernel_rfl) (by kernel_rfl) (fun _ _ _ h => h) (Or.inl ⟨by kernel_rfl, fun w => ?_⟩) ?_
        rotate_left
        · go_simp
          try with_reducible rfl
        show wpAny _ _ _ _ _ _ (Act.put _ (some 48) _) _
        simp only [Act.put, List.setIfInBounds_toArray, List.set_cons_succ, List.set_cons_zero]
        refine wpAny_take (i := 2) (v := ?_) rfl (by kernel_rfl) (by kernel_rfl) (by kernel_rfl) (fun _ _ _ h => h) (Or.inl ⟨by kernel_rfl, fun w => ?_⟩) ?_
        rotate_left
        · go_simp
          try with_reducible rfl
        show wpAny _ _ _ _ _ _ (Act.put _ (some 49) _) _
        simp only [Act.put, List.setIfInBounds_toArray, List.set_cons_succ, List.set_cons_zero]
        refine wpAny_take (i := 3) (v := undef) rfl (by kernel_rfl) (by kernel_rfl) (by kernel_rfl) (fun _ _ _ h => h) (Or.inr ⟨by kernel_rfl, rfl⟩) ?_
        show wpAny _ _ _ _ _ _ (Act.put _ (some 50) _) _
        simp only [Act.put, List.setIfInBounds_toArray, List.set_cons_succ, List.set_cons_zero]
        refine wpAny_take (i := 4) (v := undef) rfl (by kernel_rfl) (by kernel_rfl) (by kernel_rfl) (fun _ _ _ h => h) (Or.inr ⟨by kernel_rfl, rfl⟩) ?_
        show wpAny _ _ _ _ _ _ (Act.put _ (some 51) _) _
        simp only [Act.put, List.setIfInBounds_toArray, List.set_cons_succ, List.set_cons_zero]
        refine wpAny_take (i := 5) (v := undef) rfl (by kernel_rfl) (by kernel_rfl) (by kernel_rfl) (fun _ _ _ h => h) (Or.inr ⟨by kernel_rfl, rfl⟩) ?_
        show wpAny _ _ _ _ _ _ (Act.put _ (some 52) _) _
        simp only [Act.put, List.setIfInBounds_toArray, List.set_cons_succ, List.set_cons_zero]
        refine wpAny_take (i := 6) (v := undef) rfl (by kernel_rfl) (by kernel_rfl) (by kernel_rfl) (fun _ _ _ h => h) (Or.inr ⟨by kernel_rfl, rfl⟩) ?_
        show wpAny _ _ _ _ _ _ (Act.put _ (some 53) _) _
        simp only [Act.put, List.setIfInBounds_toArray, List.set_cons_succ, List.set_cons_zero]
        refine wpAny_take (i := 7) (v := undef) rfl (by kernel_rfl) (by kernel_rfl) (by kernel_rfl) (fun _ _ _ h => h) (Or.inr ⟨by kernel_rfl, rfl⟩) ?_
        show wpAny _ _ _ _ _ _ (Act.put _ (some 54) _) _
        simp only [Act.put, List.setIfInBounds_toArray, List.set_cons_succ, List.set_cons_zero]
        refine wpAny_take (i := 8) (v := undef) rfl (by kernel_rfl) (by kernel_rfl) (by kernel_rfl) (fun _ _ _ h => h) (Or.inr ⟨by kernel_rfl, rfl⟩) ?_
        show wpAny _ _ _ _ _ _ (Act.put _ (some 55) _) _
        simp only [Act.put, List.setIfInBounds_toArray, List.set_cons_succ, List.set_cons_zero]
        refine wpAny_take (i := 9) (v := ?_) rfl (by kernel_rfl) (by kernel_rfl) (by kernel_rfl) (fun _ _ _ h => h) (Or.inl ⟨by kernel_rfl, fun w => ?_⟩) ?_
        rotate_left
        · go_simp
          try with_reducible rfl
        show wpAny _ _ _ _ _ _ (Act.put _ (some 56) _) _
        simp only [Act.put, List.setIfInBounds_toArray, List.set_cons_succ, List.set_cons_zero]
        refine wpAny_ready (rs := [10]) (by kernel_rfl) (by simp) ?_
        refine AllReady.cons rfl (fun K hK => ?_) AllReady.nil
        go_simp
        refine hK _ _ ?_
        clear hK K
        refine wpAny_ready (rs := [11]) (by kernel_rfl) (by simp) ?_
        refine AllReady.cons rfl (fun K hK => ?_) AllReady.nil
        refine step_append_run rfl (.tmp 47) (.tmp 57) 50 rfl _ _ _ _ rfl rfl hrun ?_
        refine hK _ _ ?_
        clear hK K
        show wpAny _ _ _ _ _ _ (Act.put _ (some 58) _) _
        simp only [Act.put, List.setIfInBounds_toArray, List.set_cons_succ, List.set_cons_zero]
        refine wpAny_take (i := 12) (v := ?_) rfl (by kernel_rfl) (by kernel_rfl) (by kernel_rfl) (fun _ _ _ h => h) (Or.inl ⟨by kernel_rfl, fun w => ?_⟩) ?_
        rotate_left
        · go_simp
          try with_reducible rfl
        show wpAny _ _ _ _ _ _ (Act.put _ (some 12) _) _
        simp only [Act.put, List.setIfInBounds_toArray, List.set_cons_succ, List.set_cons_zero]
        refine wpAny_done (by kernel_rfl) ?_ _
        go_wp2_with fail
        go_roundw
        case rel => exact ⟨k + 1, by omega, by go_num, HO⟩
        case measure => simp [intOf]; omega
      | false =>
        have hq := fun w => eq_ref en ei an ai w
        obtain ⟨dd, hdd⟩ : ∃ dd, dd = decide ((⟨en, ei⟩ : Rf) = ⟨an, ai⟩) := ⟨_, rfl⟩
        rw [← hdd] at hq
        obtain ⟨v5, w5, hrun, O5⟩ := O4.bool (by simp; omega) dd
        have HO : Hid (Own1 4 w3 w5 v5 ((F.take (k + 1)).map fun e => .bool (belF e.a ⟨an, ai⟩ F || decide (e.a = ⟨an, ai⟩)))) := ⟨by
          rw [List.take_add_one, HE.out.1, List.map_append]
          simp only [Option.toList, List.map_cons, List.map_nil, ← HE.out.2, Bool.false_or, ← hdd]
          exact O5⟩
        clear O4 O5 f4 ho HC HE hdd
        go_wp2_with fail
        go_region_law (refine step_append_run rfl (.tmp 47) (.tmp 57) 50 rfl _ _ _ _ rfl rfl hrun ?_)
        all_goals
          go_wp2_with fail
          go_roundw
          case rel => exact ⟨k + 1, by omega, by go_num, HO⟩
          case measure => simp [intOf]; omega
    · obtain rfl : k = N := by omega
      have uk : decide ((k : Int) < (k : Int)) = false := decide_eq_false (by omega)
      have hT : F.take k = F := by rw [HN.out, List.take_length]
      rw [hT] at ho
      clear hT hkN
      have f4 := ho.out.fr
      have HPf := HP.out.keep0 f4
      have hlF : (F.map fun e => Value.bool (belF e.a ⟨an, ai⟩ F || decide (e.a = ⟨an, ai⟩))).length = k := by simp [HN.out]
      obtain ⟨ad, capd, rfl⟩ := ho.out.ow.slice
      have HK : Hid (OwnK 4 1 wr w3.heap.size (.slice ad _ capd) _ (F.map fun e => Value.bool (belF e.a ⟨an, ai⟩ F || decide (e.a = ⟨an, ai⟩))) ∧ RfS wr w21.heap.size (.slice ab k capb) (F.map (·.a))) := ⟨ho.out.ow, HS.out.keep0 f4⟩
      rw [hlF] at HK ⊢
      clear hlF
      replace HR : Hid (Row wr w.heap.size #[.int .i64 an, .int .i64 ai] 33 ∧ Row wr (w.heap.size + 1) #[.int .i64 bn, .int .i64 bi] 33) := ⟨HR.out.1.keep f4 (fun h => h), HR.out.2.keep f4 (fun h => h)⟩
      have HWf : Hid (Wf F) := ⟨HPf.wf⟩
      have hM := pkid _ _ t F HPf (by have := HN.out; omega) ⟨an, ai⟩ ⟨bn, bi⟩ ha hb
      clear f4 ho HPf HS
      obtain ⟨a0', a1'⟩ := row2 HR.out.1
      obtain ⟨b0', b1'⟩ := row2 HR.out.2
      go_wp2_with fail
      refine hM.mono ?_
      rintro e w5 ⟨rfl, P5, ft⟩
      replace HK : Hid (OwnK 4 1 w5 w3.heap.size (.slice ad k capd) k (F.map fun e => Value.bool (belF e.a ⟨an, ai⟩ F || decide (e.a = ⟨an, ai⟩))) ∧ RfS w5 w21.heap.size (.slice ab k capb) (F.map (·.a))) := ⟨ft.own HK.out.1 (by decide) (by decide), ft.rfs HK.out.2⟩
      replace HR : Hid (Row w5 w.heap.size #[.int .i64 an, .int .i64 ai] 33 ∧ Row w5 (w.heap.size + 1) #[.int .i64 bn, .int .i64 bi] 33) := ⟨ft.row HR.out.1 (by decide) (by decide), ft.row HR.out.2 (by decide) (by decide)⟩
      clear HP
      have HP : Hid (Pr v0 w5 t (kidS F ⟨an, ai⟩ ⟨bn, bi⟩)) := ⟨P5⟩
      clear P5 ft hM a0' a1' b0' b1'
      have HEnd : Hid (Fr none' w w5) := ⟨HF.out.trans HP.out.fr⟩
      cases pa with
      | false =>
        have hE : kidE F ⟨an, ai⟩ ⟨bn, bi⟩ = 131 := by simp [kidE, HH.out.1]
        rw [hE]
        clear hE
        go_wp2_with fail
        go_ret
        exact ⟨rfl, HEnd.out.below (Nat.le_refl _) (fun _ h => h.elim)⟩
      | true =>
        cases pb with
        | true =>
          have hE : kidE F ⟨an, ai⟩ ⟨bn, bi⟩ = 130 := by simp [kidE, HH.out.1, HH.out.2]
          rw [hE]
          clear hE
          go_wp2_with fail
          go_ret
          exact ⟨rfl, HEnd.out.below (Nat.le_refl _) (fun _ h => h.elim)⟩
        | false =>
          have hE : kidE F ⟨an, ai⟩ ⟨bn, bi⟩ = 0 := by simp [kidE, HH.out.1, HH.out.2]
          rw [hE]
          clear hE
          have hX := pfir _ _ t _ HP.out ⟨an, ai⟩ ha
          rw [(kid_fir HWf.out HH.out.1 HH.out.2).1] at hX
          obtain ⟨a0', a1'⟩ := row2 HR.out.1
          go_wp2_with fail
          refine hX.mono ?_
          rintro e w6 ⟨rfl, f6⟩
          have f7 := f6.alloc (.cells #[.int .i64 bn, .int .i64 bi] 33)
          have rF := row_alloc w6 #[.int .i64 bn, .int .i64 bi] 33
          clear HEnd
          have HPd := HP.out.keep0 f7
          replace HK : Hid (OwnK 4 1 _ w3.heap.size (.slice ad k capd) k (F.map fun e => Value.bool (belF e.a ⟨an, ai⟩ F || decide (e.a = ⟨an, ai⟩))) ∧ RfS _ w21.heap.size (.slice ab k capb) (F.map (·.a))) := ⟨HK.out.1.keep0 f7, HK.out.2.keep0 f7⟩
          replace HR : Hid (Row _ w.heap.size #[.int .i64 an, .int .i64 ai] 33 ∧ Row _ (w.heap.size + 1) #[.int .i64 bn, .int .i64 bi] 33) := ⟨HR.out.1.keep f7 (fun h => h), HR.out.2.keep f7 (fun h => h)⟩
          clear a0' a1' hX f6 f7
          have hX := pdes _ _ t _ HPd ⟨bn, bi⟩ hb
          rw [(kid_fir HWf.out HH.out.1 HH.out.2).2] at hX
          obtain ⟨b0', b1'⟩ := row2 HR.out.2
          clear HP
          have HP : Hid _ := ⟨HPd⟩
          have HrF : Hid _ := ⟨rF⟩
          clear HPd rF
          go_wp2_with fail
          refine hX.mono ?_
          rintro e w8 ⟨vo, rfl, so, f8⟩
          obtain ⟨ao, capo, rfl⟩ := so.slice
          replace HP : Hid (Pr v0 w8 t (kidS F ⟨an, ai⟩ ⟨bn, bi⟩)) := ⟨HP.out.keep0 f8⟩
          replace HrF : Hid (Row w8 w6.heap.size #[.int .i64 bn, .int .i64 bi] 33) := ⟨HrF.out.keep f8 (fun h => h)⟩
          replace HK : Hid (OwnK 4 1 w8 w3.heap.size (.slice ad k capd) k (F.map fun e => Value.bool (belF e.a ⟨an, ai⟩ F || decide (e.a = ⟨an, ai⟩))) ∧ RfS w8 w21.heap.size (.slice ab k capb) (F.map (·.a))) := ⟨HK.out.1.keep0 f8, HK.out.2.keep0 f8⟩
          replace HR : Hid (Row w8 w.heap.size #[.int .i64 an, .int .i64 ai] 33 ∧ Row w8 (w.heap.size + 1) #[.int .i64 bn, .int .i64 bi] 33) := ⟨HR.out.1.keep f8 (fun h => h), HR.out.2.keep f8 (fun h => h)⟩
          clear hX so f8 b0' b1'
          rw [List.length_nil]
          go_wp2_with fail
          go_loopw [19] (fun i wr => ∃ j : Nat, j ≤ k ∧ i = .int .i64 (j : Int) ∧ Hid (Fr none' w8 wr)) (fun i _ => k - (intOf i).toNat)
          case atStart => exact ⟨0, by omega, rfl, ⟨Fr.refl _ _⟩⟩
          case round =>
            obtain ⟨j, hj, rfl, f7⟩ := hrel
            by_cases hjN : j < k
            · have hjF : j < F.length := by rw [← HN.out]; exact hjN
              obtain ⟨e, he⟩ : ∃ e, F[j]? = some e := ⟨F[j], List.getElem?_eq_getElem hjF⟩
              obtain ⟨g, rfl, c0, c1⟩ := (HK.out.2.keep0 f7.out).get (i := j) (x := e.a) (by simp [he])
              obtain ⟨g3, rfl, e0⟩ := (HK.out.1.keep0 f7.out).get (i := j) (x := .bool (belF e.a ⟨an, ai⟩ F || decide (e.a = ⟨an, ai⟩))) (by simp [he])
              have hB := pbel _ _ t _ (HP.out.keep0 (f7.out.trans (Fr.refl none' wr).drew)) e.a ⟨bn, bi⟩ (HWf.out.ok e (List.mem_of_getElem? he))
              rw [kid_bel HWf.out HH.out.1 HH.out.2 HP.out.wf he] at hB
              generalize (belF e.a ⟨an, ai⟩ F || decide (e.a = ⟨an, ai⟩)) = bb at e0 hB
              clear he hjF
              obtain ⟨⟨en, ei⟩, ed⟩ := e
              dsimp only at c0 c1 hB
              obtain ⟨q0, q1⟩ := row2 (HR.out.2.keep f7.out (fun h => h))
              have HC : Hid (wr.cell? ⟨g, j * 2, none⟩ = some (.int .i64 en) ∧ wr.cell? ⟨g, j * 2 + 1, none⟩ = some (.int .i64 ei) ∧ wr.cell? ⟨w.heap.size + 1, 0, none⟩ = some (.int .i64 bn) ∧ wr.cell? ⟨w.heap.size + 1, 1, none⟩ = some (.int .i64 bi)) := ⟨c0, c1, q0, q1⟩
              have HE0 : Hid (wr.cell? ⟨g3, j, none⟩ = some (.bool bb)) := ⟨e0⟩
              have uk : decide ((j : Int) < (k : Int)) = true := decide_eq_true (by omega)
              have i1 : 0 ≤ (j : Int) ∧ (j : Int) < (k : Int) := by omega
              clear e0
              go_wp2_with fail
              go_region_held3 (fun w' => w'.cell? ⟨g, j * 2, none⟩ = some (.int .i64 en) ∧ w'.cell? ⟨g, j * 2 + 1, none⟩ = some (.int .i64 ei) ∧ w'.cell? ⟨w.heap.size + 1, 0, none⟩ = some (.int .i64 bn) ∧ w'.cell? ⟨w.heap.size + 1, 1, none⟩ = some (.int .i64 bi)) (first | with_reducible exact ⟨c0, c1, q0, q1⟩ | with_reducible exact ⟨x0, x1, x2, x3⟩ | go_keep) (first | (go_at_call 17; refine hB.mono ?_; rintro e w10 ⟨rfl, f4⟩; (replace f4 := (Fr.refl none' wr).drew.trans f4); (have x0 := cell_keep f4 HC.out.1 (fun h => h)); (have x1 := cell_keep f4 HC.out.2.1 (fun h => h)); (have x2 := cell_keep f4 HC.out.2.2.1 (fun h => h)); (have x3 := cell_keep f4 HC.out.2.2.2 (fun h => h))))
              clear c0 c1 q0 q1 hB x0 x1 x2 x3
              have e0 := cell_keep f4 HE0.out (fun h => h)
              have H8 : Hid (Fr none' w8 w10) := ⟨f7.out.trans f4⟩
              clear f4
              have tb : (bb != bb) = false := by simp
              go_wp2_with fail
              go_roundw
              case rel => exact ⟨j + 1, by omega, by go_num, H8⟩
              case measure => simp [intOf]; omega
            · obtain rfl : j = k := by omega
              have uk : decide ((j : Int) < (j : Int)) = false := decide_eq_false (by omega)
              have HEnd : Hid (∀ m, Fr none' w (wr.drewN m)) := ⟨fun m => (HF.out.trans (HP.out.fr.trans f7.out)).trans (fr_drewN wr m)⟩
              obtain ⟨q0, q1⟩ := row2 (HR.out.2.keep f7.out (fun h => h))
              obtain ⟨r0, r1⟩ := row2 (HrF.out.keep f7.out (fun h => h))
              have hq := fun w => eq_ref bn bi bn bi w
              rw [decide_eq_true rfl] at hq
              clear f7
              go_wp2_with fail
              go_ret
              exact ⟨rfl, (HEnd.out 0).below (Nat.le_refl _) (fun _ h => h.elim)⟩

end Go.Proofs.Ytiabloiglmnfpaa
