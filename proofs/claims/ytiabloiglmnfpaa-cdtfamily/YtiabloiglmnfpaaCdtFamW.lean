/-
  The walk of the law CdtFamily over the translation: it answers true. No statement is proved here.
-/
import Derived.Test.YtiabloiglmnfpaaCdtFamQ
namespace Go.Proofs.Ytiabloiglmnfpaa
open Go.RowKit Go.Maps Go.WideMaps

set_option maxRecDepth 100000 in
set_option maxHeartbeats 8000000 in
theorem lfamily_any (a0 : Option Addr) (len cap : Nat) (an ai : Int) (w : World) (hl : len ≤ 9223372036854775807) (hA : ∃ A, Acs w a0 len A) (ha : (⟨an, ai⟩ : Rf).Ok) :
    Calls Try.prog 6 #[.slice a0 len cap, .agg #[.int .i64 an, .int .i64 ai]] w fun e w' => e = .returned (.bool true) ∧ Below w.heap.size w w' := by
  obtain ⟨A, hA⟩ := hA
  have fB := ((Fr.refl none' w).alloc (.cells #[.int .i64 an, .int .i64 ai] 33))
  replace hA := hA.keep fB
  have rA := row_alloc w #[.int .i64 an, .int .i64 ai] 33
  go_enter Try.func6, Try.ntmps6
  go_wp2_with fail
  generalize (w.alloc (.cells #[.int .i64 an, .int .i64 ai] 33)) = v0 at *
  have HA : Hid (Acs v0 a0 len A) := ⟨hA⟩
  have HF : Hid (Fr none' w v0) := ⟨fB⟩
  have HrA : Hid (Row v0 w.heap.size #[.int .i64 an, .int .i64 ai] 33) := ⟨rA⟩
  clear hA fB rA
  refine (awake_any _).mono ?_
  rintro e w1 ⟨rfl, f0⟩
  go_wp2_with fail
  refine (played_any v0 w1 a0 len cap A HA.out hl f0).mono ?_
  rintro e w2 ⟨t, F, rfl, P, hF⟩
  have HP : Hid (Pr v0 w2 t F) := ⟨P⟩
  clear P f0 HA
  have HR : Hid (Row w2 w.heap.size #[.int .i64 an, .int .i64 ai] 33) := ⟨HrA.out.keep HP.out.fr (fun h => h)⟩
  clear HrA
  go_wp2_with fail
  refine (plist _ _ t F HP.out).mono ?_
  rintro e w3 ⟨vb, rfl, sb, f3⟩
  replace HP : Hid (Pr _ w3 t F) := ⟨HP.out.keep0 f3⟩
  obtain ⟨ab, capb, rfl⟩ := sb.slice
  have HS : Hid (RfS w3 w2.heap.size _ (F.map (·.a))) := ⟨sb⟩
  replace HR : Hid (Row w3 w.heap.size #[.int .i64 an, .int .i64 ai] 33) := ⟨HR.out.keep f3 (fun h => h)⟩
  clear sb f3
  rw [List.length_map] at HS ⊢
  obtain ⟨N, hN⟩ : ∃ N, N = F.length := ⟨_, rfl⟩
  have HN : Hid (N = F.length) := ⟨hN⟩
  rw [← hN] at HS hF ⊢
  clear hN
  go_wp2_with fail
  go_loopw [8, 9] (fun v i wr => ∃ j : Nat, j ≤ N ∧ i = .int .i64 (j : Int) ∧ Hid (Own1 4 w3 wr v (allB F (F.take j)))) (fun _ i _ => N - (intOf i).toNat)
  case atStart => exact ⟨0, by omega, rfl, ⟨own1_nil _ _⟩⟩
  case round =>
    obtain ⟨j, hj, rfl, ho⟩ := hrel
    by_cases hjN : j < N
    · have hjF : j < F.length := by rw [← HN.out]; exact hjN
      obtain ⟨⟨⟨yn, yi⟩, yd⟩, hy⟩ : ∃ e, F[j]? = some e := ⟨F[j], List.getElem?_eq_getElem hjF⟩
      have HY : Hid (F[j]? = some ⟨⟨yn, yi⟩, yd⟩) := ⟨hy⟩
      obtain ⟨g, rfl, _, _⟩ := HS.out.get (i := j) (x := ⟨yn, yi⟩) (by simp [hy])
      clear hy hjF
      have uk : decide ((j : Int) < (N : Int)) = true := decide_eq_true (by omega)
      have i1 : 0 ≤ (j : Int) ∧ (j : Int) < (N : Int) := by omega
      have hjl : j * N ≤ 80 * 80 := Nat.mul_le_mul (by omega) hF
      have HO7 : Hid (∃ wr' : World, wr' = wr) := ⟨_, rfl⟩
      clear HO7
      obtain ⟨w7, hw7⟩ : ∃ w7, w7 = wr := ⟨_, rfl⟩
      rw [← hw7] at ho ⊢
      clear hw7
      clear wr
      go_wp2_with fail
      go_loopw [8, 10] (fun v i wr => ∃ k : Nat, k ≤ N ∧ i = .int .i64 (k : Int) ∧ Hid (Own1 4 w3 wr v (allB F (F.take j) ++ rowB F ⟨⟨yn, yi⟩, yd⟩ (F.take k)))) (fun _ i _ => N - (intOf i).toNat)
      case atStart => exact ⟨0, by omega, rfl, ⟨by simpa [rowB] using ho.out⟩⟩
      case round =>
        clear ho
        obtain ⟨k, hk, rfl, ho⟩ := hrel
        by_cases hkN : k < N
        · have hkF : k < F.length := by rw [← HN.out]; exact hkN
          obtain ⟨⟨⟨en, ei⟩, ed⟩, he⟩ : ∃ e, F[k]? = some e := ⟨F[k], List.getElem?_eq_getElem hkF⟩
          obtain ⟨g', eg, c0, c1⟩ := (HS.out.keep0 ho.out.fr).get (i := k) (x := ⟨en, ei⟩) (by simp [he])
          obtain ⟨g'', eg2, q0, q1⟩ := (HS.out.keep0 ho.out.fr).get (i := j) (x := ⟨yn, yi⟩) (by simp [HY.out])
          simp only [Option.some.injEq, Addr.mk.injEq, and_true] at eg eg2
          subst eg eg2
          dsimp only at c0 c1 q0 q1
          have hB := pbel _ _ t F (HP.out.keep0 (ho.out.fr.trans (Fr.refl none' wr).drew)) ⟨yn, yi⟩ ⟨en, ei⟩ (HP.out.wf.ok _ (List.mem_of_getElem? HY.out))
          obtain ⟨is, his⟩ : ∃ is, is = belF ⟨yn, yi⟩ ⟨en, ei⟩ F := ⟨_, rfl⟩
          rw [← his] at hB
          have HE : Hid (F[k]? = some ⟨⟨en, ei⟩, ed⟩ ∧ is = belF ⟨yn, yi⟩ ⟨en, ei⟩ F) := ⟨he, his⟩
          clear he hkF his
          have HC : Hid (wr.cell? ⟨g, k * 2, none⟩ = some (.int .i64 en) ∧ wr.cell? ⟨g, k * 2 + 1, none⟩ = some (.int .i64 ei) ∧ wr.cell? ⟨g, j * 2, none⟩ = some (.int .i64 yn) ∧ wr.cell? ⟨g, j * 2 + 1, none⟩ = some (.int .i64 yi)) := ⟨c0, c1, q0, q1⟩
          have uk2 : decide ((k : Int) < (N : Int)) = true := decide_eq_true (by omega)
          have i2 : 0 ≤ (k : Int) ∧ (k : Int) < (N : Int) := by omega
          go_wp2_with fail
          go_region_held3 (fun w' => w'.cell? ⟨g, k * 2, none⟩ = some (.int .i64 en) ∧ w'.cell? ⟨g, k * 2 + 1, none⟩ = some (.int .i64 ei) ∧ w'.cell? ⟨g, j * 2, none⟩ = some (.int .i64 yn) ∧ w'.cell? ⟨g, j * 2 + 1, none⟩ = some (.int .i64 yi)) (first | with_reducible exact ⟨c0, c1, q0, q1⟩ | with_reducible exact ⟨x0, x1, x2, x3⟩ | go_keep) (first | (go_at_call 17; refine hB.mono ?_; rintro e w4 ⟨rfl, f4⟩; (replace f4 := (Fr.refl none' wr).drew.trans f4); (have x0 := cell_keep f4 HC.out.1 (fun h => h)); (have x1 := cell_keep f4 HC.out.2.1 (fun h => h)); (have x2 := cell_keep f4 HC.out.2.2.1 (fun h => h)); (have x3 := cell_keep f4 HC.out.2.2.2 (fun h => h))))
          clear c0 c1 q0 q1 hB x0 x1 x2 x3
          have O4 := ho.out.keep f4
          obtain ⟨v5, w5, hrun, O5⟩ := O4.bool (by
            rw [List.length_append, allB_len, rowB_len, List.length_take, List.length_take, ← HN.out, Nat.min_eq_left (by omega), Nat.min_eq_left (by omega)]
            omega) is
          have HO : Hid (Own1 4 w3 w5 v5 (allB F (F.take j) ++ rowB F ⟨⟨yn, yi⟩, yd⟩ (F.take (k + 1)))) := ⟨by
            have e1 : rowB F ⟨⟨yn, yi⟩, yd⟩ (F.take (k + 1)) = rowB F ⟨⟨yn, yi⟩, yd⟩ (F.take k) ++ [.bool is] := by
              rw [List.take_add_one, HE.out.1, HE.out.2]
              simp [rowB]
            rw [e1, ← List.append_assoc]
            exact O5⟩
          clear O4 O5 f4 ho HC HE
          go_wp2_with (first | (at_builtin; refine wpList_append_runK rfl _ _ 50 rfl _ _ rfl rfl _ _ hrun ?_))
          go_roundw
          case rel => exact ⟨k + 1, by omega, by go_num, HO⟩
          case measure => simp [intOf]; omega
        · obtain rfl : k = N := by omega
          have uk2 : decide ((k : Int) < (k : Int)) = false := decide_eq_false (by omega)
          have HO : Hid (Own1 4 w3 wr _ (allB F (F.take (j + 1)))) := ⟨by
            have hT : F.take k = F := by rw [HN.out, List.take_length]
            rw [List.take_add_one, HY.out]
            have := ho.out
            rw [hT] at this
            rw [show (some (⟨⟨yn, yi⟩, yd⟩ : En)).toList = [⟨⟨yn, yi⟩, yd⟩] from rfl, allB_app]
            exact this⟩
          clear ho
          go_wp2_with fail
          go_roundw
          case rel => exact ⟨j + 1, by omega, by go_num, HO⟩
          case measure => simp [intOf]; omega
    · obtain rfl : j = N := by omega
      have uk : decide ((j : Int) < (j : Int)) = false := decide_eq_false (by omega)
      have hT : F.take j = F := by rw [HN.out, List.take_length]
      rw [hT] at ho
      clear hT hjN
      have f4 := ho.out.fr
      have HPf := HP.out.keep0 f4
      obtain ⟨ad, capd, rfl⟩ := ho.out.ow.slice
      obtain ⟨LN, hLN⟩ : ∃ LN, LN = (allB F F).length := ⟨_, rfl⟩
      have hLNj : LN = j * j := by rw [hLN, allB_len, ← HN.out]
      have HK : Hid (OwnK 4 1 wr w3.heap.size (.slice ad _ capd) _ (allB F F) ∧ RfS wr w2.heap.size (.slice ab j capb) (F.map (·.a))) := ⟨ho.out.ow, HS.out.keep0 f4⟩
      rw [← hLN] at HK ⊢
      have HLN : Hid (LN = j * j) := ⟨hLNj⟩
      clear hLN hLNj
      replace HR : Hid (Row wr w.heap.size #[.int .i64 an, .int .i64 ai] 33) := ⟨HR.out.keep f4 (fun h => h)⟩
      have HWf : Hid (Wf F) := ⟨HPf.wf⟩
      have hM := prem _ _ t F HPf ⟨an, ai⟩ ha
      clear f4 ho HPf HS
      obtain ⟨a0', a1'⟩ := row2 HR.out
      go_wp2_with fail
      refine hM.mono ?_
      rintro e w5 ⟨rfl, P5, ft⟩
      replace HK : Hid (OwnK 4 1 w5 w3.heap.size (.slice ad LN capd) LN (allB F F) ∧ RfS w5 w2.heap.size (.slice ab j capb) (F.map (·.a))) := ⟨ft.own HK.out.1 (by decide) (by decide), ft.rfs HK.out.2⟩
      replace HR : Hid (Row w5 w.heap.size #[.int .i64 an, .int .i64 ai] 33) := ⟨ft.row HR.out (by decide) (by decide)⟩
      clear HP
      have HP : Hid (Pr v0 w5 t (remF ⟨an, ai⟩ F)) := ⟨P5⟩
      clear P5 ft hM a0' a1'
      go_wp2_with fail
      refine (plist _ _ t _ HP.out).mono ?_
      rintro e w6 ⟨va, rfl, sa, f6⟩
      obtain ⟨aa, capa, rfl⟩ := sa.slice
      replace HP : Hid (Pr v0 w6 t (remF ⟨an, ai⟩ F)) := ⟨HP.out.keep0 f6⟩
      replace HK : Hid (OwnK 4 1 w6 w3.heap.size (.slice ad LN capd) LN (allB F F) ∧ RfS w6 w2.heap.size (.slice ab j capb) (F.map (·.a))) := ⟨HK.out.1.keep0 f6, HK.out.2.keep0 f6⟩
      replace HR : Hid (Row w6 w.heap.size #[.int .i64 an, .int .i64 ai] 33) := ⟨HR.out.keep f6 (fun h => h)⟩
      have HSA : Hid (RfS w6 w5.heap.size _ ((remF ⟨an, ai⟩ F).map (·.a))) := ⟨sa⟩
      clear sa f6
      rw [List.length_map] at HSA ⊢
      obtain ⟨M, hM⟩ : ∃ M, M = (remF ⟨an, ai⟩ F).length := ⟨_, rfl⟩
      have HM : Hid (M = (remF ⟨an, ai⟩ F).length) := ⟨hM⟩
      rw [← hM] at HSA ⊢
      clear hM
      obtain ⟨E, hE⟩ : ∃ E, E = remE F ⟨an, ai⟩ := ⟨_, rfl⟩
      have HE : Hid ((E = 0 ∧ M + 1 = j) ∨ (E = 131 ∧ M = j)) := ⟨by
        rw [hE, HM.out, HN.out]
        cases hh : hasF F ⟨an, ai⟩ with
        | true => exact Or.inl ⟨by simp [remE, hh], (rem_less _).1 hh⟩
        | false => exact Or.inr ⟨by simp [remE, hh], (rem_less _).2 hh⟩⟩
      rw [← hE]
      clear hE
      obtain ⟨N, rfl⟩ : ∃ N, N = j := ⟨_, rfl⟩
      go_wp2_with fail
      go_loopw [14, 15] (fun n i wr => ∃ j : Nat, j ≤ N ∧ n = .int .i64 (((F.take j).countP (oth ⟨an, ai⟩) : Nat) : Int) ∧ i = .int .i64 (j : Int) ∧ Hid (Fr none' w6 wr)) (fun _ i _ => N - (intOf i).toNat)
      case atStart => exact ⟨0, by omega, rfl, rfl, ⟨Fr.refl _ _⟩⟩
      case round =>
        obtain ⟨j, hj, rfl, rfl, f7⟩ := hrel
        by_cases hjN : j < N
        · have hjF : j < F.length := by rw [← HN.out]; exact hjN
          obtain ⟨⟨⟨yn, yi⟩, yd⟩, hy⟩ : ∃ e, F[j]? = some e := ⟨F[j], List.getElem?_eq_getElem hjF⟩
          have HY : Hid (F[j]? = some ⟨⟨yn, yi⟩, yd⟩) := ⟨hy⟩
          obtain ⟨g, rfl, q0, q1⟩ := (HK.out.2.keep0 f7.out).get (i := j) (x := ⟨yn, yi⟩) (by simp [hy])
          dsimp only at q0 q1
          have hcl : ((F.take j).countP (oth ⟨an, ai⟩)) ≤ j := Nat.le_trans List.countP_le_length (by simp; omega)
          have hcn : ((F.take (j + 1)).countP (oth ⟨an, ai⟩)) = ((F.take j).countP (oth ⟨an, ai⟩)) + (if (⟨yn, yi⟩ : Rf) ≠ ⟨an, ai⟩ then 1 else 0) := by
            rw [List.take_add_one, hy, List.countP_append]
            congr 1
            by_cases h : (⟨yn, yi⟩ : Rf) = ⟨an, ai⟩
            · rw [if_neg (fun hh => hh h)]
              have h2 : oth ⟨an, ai⟩ ⟨⟨yn, yi⟩, yd⟩ = false := decide_eq_false (fun hh => hh h)
              simp [h2]
            · rw [if_pos h]
              have h2 : oth ⟨an, ai⟩ ⟨⟨yn, yi⟩, yd⟩ = true := decide_eq_true h
              simp [h2]
          have hfi : (⟨yn, yi⟩ : Rf) ≠ ⟨an, ai⟩ → ((remF ⟨an, ai⟩ F).map (·.a))[(F.take j).countP (oth ⟨an, ai⟩)]? = some ⟨yn, yi⟩ := fun h => by
            rw [rem_names HWf.out, List.getElem?_map, filter_idx _ hy (by simp [oth, h])]
            rfl
          obtain ⟨c, hc⟩ : ∃ c, c = ((F.take j).countP (oth ⟨an, ai⟩)) := ⟨_, rfl⟩
          rw [← hc] at hcn hcl hfi ⊢
          have HV : Hid (Value.int .i64 ((((F.take (j + 1)).countP (oth ⟨an, ai⟩)) : Nat) : Int) = .int .i64 ((c : Int) + (if (⟨yn, yi⟩ : Rf) ≠ ⟨an, ai⟩ then 1 else 0))) := ⟨by rw [hcn]; split <;> simp⟩
          clear hy hjF hc hcn
          have uk : decide ((j : Int) < (N : Int)) = true := decide_eq_true (by omega)
          have i1 : 0 ≤ (j : Int) ∧ (j : Int) < (N : Int) := by omega
          have hq := fun w => eq_ref yn yi an ai w
          obtain ⟨a0', a1'⟩ := row2 (HR.out.keep f7.out (fun h => h))
          by_cases hya : (⟨yn, yi⟩ : Rf) = ⟨an, ai⟩
          · rw [decide_eq_true hya] at hq
            have HV2 : Hid (Value.int .i64 ((((F.take (j + 1)).countP (oth ⟨an, ai⟩)) : Nat) : Int) = .int .i64 (c : Int)) := ⟨by rw [HV.out, if_neg (fun h => h hya)]; simp⟩
            have H4 : Hid (∀ m, Fr none' w6 (wr.drewN m)) := ⟨fun m => f7.out.trans (fr_drewN wr m)⟩
            clear hfi hya HV f7
            go_wp2_with fail
            go_quiet (fail)
            go_wp2_with fail
            go_roundw
            case rel => exact ⟨j + 1, by omega, HV2.out.symm, by go_num, ⟨H4.out _⟩⟩
            case measure => simp [intOf]; omega
          · rw [decide_eq_false hya] at hq
            have HV2 : Hid (Value.int .i64 ((((F.take (j + 1)).countP (oth ⟨an, ai⟩)) : Nat) : Int) = .int .i64 ((c : Int) + 1)) := ⟨by rw [HV.out, if_pos hya]⟩
            have hcM : c < M := by
              have h1 := hfi hya
              rcases Nat.lt_or_ge c M with h | h
              · exact h
              · rw [List.getElem?_eq_none (by rw [List.length_map, ← HM.out]; exact h)] at h1; cases h1
            obtain ⟨g2, rfl, s0, s1⟩ := (HSA.out.keep0 f7.out).get (i := c) (x := ⟨yn, yi⟩) (hfi hya)
            dsimp only at s0 s1
            have tg : decide ((M : Int) ≤ (c : Int)) = false := decide_eq_false (by omega)
            have i2 : 0 ≤ (c : Int) ∧ (c : Int) < (M : Int) := by omega
            have hq2 := fun w => neq_ref yn yi yn yi w
            rw [show decide ((⟨yn, yi⟩ : Rf) ≠ ⟨yn, yi⟩) = false from by simp] at hq2
            have HYA : Hid ((⟨yn, yi⟩ : Rf) ≠ ⟨an, ai⟩) := ⟨hya⟩
            have H4 : Hid (∀ m, Fr none' w6 (wr.drewN m)) := ⟨fun m => f7.out.trans (fr_drewN wr m)⟩
            have H5 : Hid (∀ m n, Fr none' w6 ((wr.drewN m).drewN n)) := ⟨fun m n => (f7.out.trans (fr_drewN wr m)).trans (fr_drewN _ n)⟩
            clear hfi hya HV f7
            go_wp2_with fail
            go_quiet (fail)
            go_wp2_with fail
            go_quiet (fail)
            clear q0 q1 s0 s1 hq hq2 a0' a1'
            go_wp2_with fail
            have hnl : (M ≤ c) = False := eq_false (by omega)
            simp only [hnl, decide_false]
            clear hnl
            go_loopw [16] (fun i wr => ∃ k : Nat, k ≤ N ∧ i = .int .i64 (k : Int) ∧ Hid (Fr none' w6 wr)) (fun i _ => N - (intOf i).toNat)
            case atStart => exact ⟨0, by omega, rfl, ⟨by first | exact H4.out _ | exact H5.out _ _⟩⟩
            case round =>
              clear H4 H5 tg i2 hcM
              obtain ⟨k, hk, rfl, f7⟩ := hrel
              by_cases hkN : k < N
              · have hkF : k < F.length := by rw [← HN.out]; exact hkN
                obtain ⟨⟨⟨en, ei⟩, ed⟩, he⟩ : ∃ e, F[k]? = some e := ⟨F[k], List.getElem?_eq_getElem hkF⟩
                obtain ⟨g', eg, c0, c1⟩ := (HK.out.2.keep0 f7.out).get (i := k) (x := ⟨en, ei⟩) (by simp [he])
                obtain ⟨g'', eg2, q0, q1⟩ := (HK.out.2.keep0 f7.out).get (i := j) (x := ⟨yn, yi⟩) (by simp [HY.out])
                simp only [Option.some.injEq, Addr.mk.injEq, and_true] at eg eg2
                subst eg eg2
                have hag := allB_get F HY.out he
                rw [← HN.out] at hag
                obtain ⟨g3, rfl, e0⟩ := (HK.out.1.keep0 f7.out).get hag
                dsimp only at c0 c1 q0 q1 e0
                obtain ⟨bb, hbb⟩ : ∃ bb, bb = belF ⟨yn, yi⟩ ⟨en, ei⟩ F := ⟨_, rfl⟩
                rw [← hbb] at e0
                have HB : Hid ((⟨en, ei⟩ : Rf) ≠ ⟨an, ai⟩ → belF ⟨yn, yi⟩ ⟨en, ei⟩ (remF ⟨an, ai⟩ F) = bb) := ⟨fun h => by rw [hbb]; exact rem_bel HWf.out HP.out.wf (List.mem_of_getElem? HY.out) HYA.out h⟩
                have HC0 : Hid (wr.cell? ⟨g, k * 2, none⟩ = some (.int .i64 en) ∧ wr.cell? ⟨g, k * 2 + 1, none⟩ = some (.int .i64 ei) ∧ wr.cell? ⟨g, j * 2, none⟩ = some (.int .i64 yn) ∧ wr.cell? ⟨g, j * 2 + 1, none⟩ = some (.int .i64 yi)) := ⟨c0, c1, q0, q1⟩
                have HE0 : Hid (wr.cell? ⟨g3, j * N + k, none⟩ = some (.bool bb)) := ⟨e0⟩
                clear he hkF hag hbb q0 q1 e0
                have uk2 : decide ((k : Int) < (N : Int)) = true := decide_eq_true (by omega)
                have i3 : 0 ≤ (k : Int) ∧ (k : Int) < (N : Int) := by omega
                have hq3 := fun w => neq_ref en ei an ai w
                obtain ⟨a0', a1'⟩ := row2 (HR.out.keep f7.out (fun h => h))
                by_cases hea : (⟨en, ei⟩ : Rf) = ⟨an, ai⟩
                · rw [decide_eq_false (fun h => h hea)] at hq3
                  have H6 : Hid (∀ m, Fr none' w6 (wr.drewN m)) := ⟨fun m => f7.out.trans (fr_drewN wr m)⟩
                  clear f7 hea HB
                  go_wp2_with fail
                  go_quiet (fail)
                  go_wp2_with fail
                  go_roundw
                  case rel => exact ⟨k + 1, by omega, by go_num, ⟨H6.out _⟩⟩
                  case measure => simp [intOf]; omega
                · rw [decide_eq_true hea] at hq3
                  have hbq := HB.out hea
                  have HBQ : Hid (belF ⟨yn, yi⟩ ⟨en, ei⟩ (remF ⟨an, ai⟩ F) = bb) := ⟨hbq⟩
                  clear hbq hea HB
                  go_wp2_with fail
                  go_quiet (fail)
                  clear c0 c1 a0' a1' hq3
                  go_wp2_with fail
                  have fW := fr_drewN wr nq
                  generalize wr.drewN nq = W at fW ⊢
                  have c0 := cell_keep fW HC0.out.1 (fun h => h)
                  have c1 := cell_keep fW HC0.out.2.1 (fun h => h)
                  have q0 := cell_keep fW HC0.out.2.2.1 (fun h => h)
                  have q1 := cell_keep fW HC0.out.2.2.2 (fun h => h)
                  have HC : Hid (W.cell? ⟨g, k * 2, none⟩ = some (.int .i64 en) ∧ W.cell? ⟨g, k * 2 + 1, none⟩ = some (.int .i64 ei) ∧ W.cell? ⟨g, j * 2, none⟩ = some (.int .i64 yn) ∧ W.cell? ⟨g, j * 2 + 1, none⟩ = some (.int .i64 yi)) := ⟨c0, c1, q0, q1⟩
                  have hB := pbel _ _ t _ (HP.out.keep0 ((f7.out.trans fW).trans (Fr.refl none' W).drew)) ⟨yn, yi⟩ ⟨en, ei⟩ (HWf.out.ok _ (List.mem_of_getElem? HY.out))
                  rw [HBQ.out] at hB
                  go_region_held3 (fun w' => w'.cell? ⟨g, k * 2, none⟩ = some (.int .i64 en) ∧ w'.cell? ⟨g, k * 2 + 1, none⟩ = some (.int .i64 ei) ∧ w'.cell? ⟨g, j * 2, none⟩ = some (.int .i64 yn) ∧ w'.cell? ⟨g, j * 2 + 1, none⟩ = some (.int .i64 yi)) (first | with_reducible exact ⟨c0, c1, q0, q1⟩ | with_reducible exact ⟨x0, x1, x2, x3⟩ | go_keep) (first | (go_at_call 17; refine hB.mono ?_; rintro e w4 ⟨rfl, f4⟩; (replace f4 := (Fr.refl none' W).drew.trans f4); (have x0 := cell_keep f4 HC.out.1 (fun h => h)); (have x1 := cell_keep f4 HC.out.2.1 (fun h => h)); (have x2 := cell_keep f4 HC.out.2.2.1 (fun h => h)); (have x3 := cell_keep f4 HC.out.2.2.2 (fun h => h))))
                  clear c0 c1 q0 q1 hB x0 x1 x2 x3
                  have e0 := cell_keep (fW.trans f4) HE0.out (fun h => h)
                  have H6 : Hid (Fr none' w6 w4) := ⟨f7.out.trans (fW.trans f4)⟩
                  clear f7 fW f4 HC HC0 HE0 HBQ
                  have hjN2 : j * N + k < LN := by
                    rw [HLN.out]
                    have : (j + 1) * N ≤ N * N := Nat.mul_le_mul_right N (by omega)
                    rw [Nat.add_mul] at this
                    omega
                  have hLL : LN ≤ 6400 := by rw [HLN.out]; exact Nat.mul_le_mul hF hF
                  obtain ⟨P, hP⟩ : ∃ P, P = j * N := ⟨_, rfl⟩
                  have hPc : (j : Int) * (N : Int) = (P : Int) := by rw [hP]; simp
                  rw [← hP] at e0 hjN2
                  clear hP
                  have mw : IntKind.i64.wrap ((j : Int) * (N : Int)) = (P : Int) := by
                    rw [hPc]
                    simp [IntKind.wrap, IntKind.bits, IntKind.signed]
                    omega
                  obtain ⟨Q, hQ⟩ : ∃ Q, Q = P + k := ⟨_, rfl⟩
                  have aw : IntKind.i64.wrap ((P : Int) + (k : Int)) = (Q : Int) := by
                    rw [show (P : Int) + (k : Int) = (Q : Int) by omega]
                    simp [IntKind.wrap, IntKind.bits, IntKind.signed]
                    omega
                  rw [← hQ] at e0 hjN2
                  have i4 : 0 ≤ (Q : Int) ∧ (Q : Int) < (LN : Int) := by omega
                  clear hQ hPc hjN2
                  have tb : (bb != bb) = false := by simp
                  go_wp2_with fail
                  go_roundw
                  case rel => exact ⟨k + 1, by omega, by go_num, H6⟩
                  case measure => simp [intOf]; omega
              · obtain rfl : k = N := by omega
                have uk2 : decide ((k : Int) < (k : Int)) = false := decide_eq_false (by omega)
                have H6 : Hid (Fr none' w6 wr) := f7
                clear f7
                go_wp2_with fail
                go_roundw
                case rel => exact ⟨j + 1, by omega, HV2.out.symm, by go_num, H6⟩
                case measure => simp [intOf]; omega
        · obtain rfl : j = N := by omega
          have uk : decide ((j : Int) < (j : Int)) = false := decide_eq_false (by omega)
          have hT : F.take j = F := by rw [HN.out, List.take_length]
          have hct : (F.take j).countP (oth ⟨an, ai⟩) = M := by rw [hT, rem_count HWf.out, ← HM.out]
          rw [hct]
          clear hct hT
          have HEnd : Hid (Fr none' w wr) := ⟨HF.out.trans (HP.out.fr.trans f7.out)⟩
          have te : ((M : Int) == (M : Int)) = true := by simp
          clear f7
          rcases HE.out with ⟨rfl, h⟩ | ⟨rfl, h⟩
          · have tl : decide ((M : Int) < (j : Int)) = true := decide_eq_true (by omega)
            have HT : Hid (decide (M < j) = true) := ⟨decide_eq_true (by omega)⟩
            clear h HE
            go_wp2_with fail
            go_ret
            exact ⟨congrArg (fun b => Ending.returned (.bool b)) HT.out, HEnd.out.below (Nat.le_refl _) (fun _ h => h.elim)⟩
          · have tl : decide ((M : Int) < (j : Int)) = false := decide_eq_false (by omega)
            have HT : Hid (decide (M < j) = false) := ⟨decide_eq_false (by omega)⟩
            clear h HE
            go_wp2_with fail
            go_ret
            exact ⟨congrArg (fun b => Ending.returned (.bool (!b))) HT.out, HEnd.out.below (Nat.le_refl _) (fun _ h => h.elim)⟩

end Go.Proofs.Ytiabloiglmnfpaa
