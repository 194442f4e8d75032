/-
  The walk of the law CdtNames over the translation: it answers true. No statement is proved here.
-/
import Derived.Test.YtiabloiglmnfpaaCdtLaw
namespace Go.Proofs.Ytiabloiglmnfpaa
open Go.RowKit Go.Maps Go.WideMaps

theorem mov_d (a b : Rf) (e : En) : (nm1 a b e).d = e.d := by unfold nm1; split <;> rfl
theorem mov_a (a b : Rf) (e : En) : (nm1 a b e).a = if e.a = a then b else e.a := by unfold nm1; split <;> rfl

set_option maxRecDepth 100000 in
set_option maxHeartbeats 8000000 in
theorem lnames_any (a0 : Option Addr) (len cap : Nat) (an ai bn bi : Int) (w : World) (hl : len ≤ 9223372036854775807) (hA : ∃ A, Acs w a0 len A) (ha : (⟨an, ai⟩ : Rf).Ok) (hb : (⟨bn, bi⟩ : Rf).Ok) :
    Calls Try.prog 8 #[.slice a0 len cap, .agg #[.int .i64 an, .int .i64 ai], .agg #[.int .i64 bn, .int .i64 bi]] w fun e w' => e = .returned (.bool true) ∧ Below w.heap.size w w' := by
  obtain ⟨A, hA⟩ := hA
  have fB := (((Fr.refl none' w).alloc (.cells #[.int .i64 an, .int .i64 ai] 33)).alloc (.cells #[.int .i64 bn, .int .i64 bi] 33))
  replace hA := hA.keep fB
  have rA := (row_alloc w #[.int .i64 an, .int .i64 ai] 33).alloc (.cells #[.int .i64 bn, .int .i64 bi] 33)
  have rB := row_alloc1 w (.cells #[.int .i64 an, .int .i64 ai] 33) #[.int .i64 bn, .int .i64 bi] 33
  go_enter Try.func8, Try.ntmps8
  go_wp2_with fail
  generalize ((w.alloc (.cells #[.int .i64 an, .int .i64 ai] 33)).alloc (.cells #[.int .i64 bn, .int .i64 bi] 33)) = v0 at *
  have HA : Hid (Acs v0 a0 len A) := ⟨hA⟩
  have HF : Hid (Fr none' w v0) := ⟨fB⟩
  have HrA : Hid (Row v0 w.heap.size #[.int .i64 an, .int .i64 ai] 33) := ⟨rA⟩
  have HrB : Hid (Row v0 (w.heap.size + 1) #[.int .i64 bn, .int .i64 bi] 33) := ⟨rB⟩
  clear hA fB rA rB
  refine (awake_any _).mono ?_
  rintro e w1 ⟨rfl, f0⟩
  go_wp2_with fail
  refine (played_any v0 w1 a0 len cap A HA.out hl f0).mono ?_
  rintro e w2 ⟨t, F, rfl, P, hF⟩
  have HP : Hid (Pr v0 w2 t F) := ⟨P⟩
  clear P f0 HA
  go_wp2_with fail
  refine (plist _ _ t F HP.out).mono ?_
  rintro e w3 ⟨vb, rfl, sb, f3⟩
  replace HP : Hid (Pr _ w3 t F) := ⟨HP.out.keep0 f3⟩
  obtain ⟨ab, capb, rfl⟩ := sb.slice
  have HS : Hid (RfS w3 w2.heap.size _ (F.map (·.a))) := ⟨sb⟩
  clear sb f3
  rw [List.length_map] at HS ⊢
  obtain ⟨N, hN⟩ : ∃ N, N = F.length := ⟨_, rfl⟩
  have HN : Hid (N = F.length) := ⟨hN⟩
  rw [← hN] at HS hF ⊢
  clear hN
  go_wp2_with fail
  go_loopw [10, 11] (fun v i wr => ∃ k : Nat, k ≤ N ∧ i = .int .i64 (k : Int) ∧ Hid (Own1 3 w3 wr v ((F.take k).map fun e => .int .i64 e.d))) (fun _ i _ => N - (intOf i).toNat)
  case atStart => exact ⟨0, by omega, rfl, ⟨own1_nil _ _⟩⟩
  case round =>
    obtain ⟨k, hk, rfl, ho⟩ := hrel
    by_cases hkN : k < N
    · have hkF : k < F.length := by rw [← HN.out]; exact hkN
      obtain ⟨e, he⟩ : ∃ e, F[k]? = some e := ⟨F[k], List.getElem?_eq_getElem hkF⟩
      obtain ⟨g, rfl, c0, c1⟩ := (HS.out.keep0 ho.out.fr).get (i := k) (x := e.a) (by simp [he])
      have hD := pdep _ _ t F (HP.out.keep0 ho.out.fr) e.a (HP.out.wf.ok e (List.mem_of_getElem? he))
      rw [dep_get HP.out.wf.nd he] at hD
      have HE : Hid (F[k]? = some e) := ⟨he⟩
      clear he hkF
      obtain ⟨⟨en, ei⟩, ed⟩ := e
      dsimp only at c0 c1 hD
      have uk : decide ((k : Int) < (N : Int)) = true := decide_eq_true (by omega)
      have i1 : 0 ≤ (k : Int) ∧ (k : Int) < (N : Int) := by omega
      go_wp2_with fail
      refine hD.mono ?_
      rintro e w4 ⟨rfl, f4⟩
      have O4 := ho.out.keep f4
      obtain ⟨v5, w5, hrun, O5⟩ := O4.int (by simp; omega) ed
      have HO : Hid (Own1 3 w3 w5 v5 ((F.take (k + 1)).map fun e => .int .i64 e.d)) := ⟨by
        rw [List.take_add_one, HE.out, List.map_append]
        exact O5⟩
      clear O4 O5 f4 hD c0 c1 ho
      go_wp2_with (first | (at_builtin; refine wpList_append_runK rfl _ _ 28 rfl _ _ rfl rfl _ _ hrun ?_))
      go_roundw
      case rel => exact ⟨k + 1, by omega, by go_num, HO⟩
      case measure => simp [intOf]; omega
    · obtain rfl : k = N := by omega
      have uk : decide ((k : Int) < (k : Int)) = false := decide_eq_false (by omega)
      have hT : F.take k = F := by rw [HN.out, List.take_length]
      rw [hT] at ho
      clear hT hkN
      rename_i u10
      have f4 := ho.out.fr
      have HPf := HP.out.keep0 f4
      have rA := HrA.out.keep HPf.fr (fun h => h)
      have rB := HrB.out.keep HPf.fr (fun h => h)
      obtain ⟨a0', a1'⟩ := row2 rA
      obtain ⟨b0', b1'⟩ := row2 rB
      have hM := pmov _ _ t F HPf ⟨an, ai⟩ ⟨bn, bi⟩ ha hb
      have HK : Hid (Own1 3 w3 wr u10 (F.map fun e => .int .i64 e.d) ∧ RfS wr w2.heap.size (.slice ab k capb) (F.map (·.a))) := ⟨ho.out, HS.out.keep0 f4⟩
      have HR : Hid (Row wr w.heap.size #[.int .i64 an, .int .i64 ai] 33 ∧ Row wr (w.heap.size + 1) #[.int .i64 bn, .int .i64 bi] 33) := ⟨rA, rB⟩
      obtain ⟨ad, capd, rfl⟩ := ho.out.ow.slice
      have hlF : (F.map fun e => Value.int .i64 e.d).length = k := by simp [HN.out]
      rw [hlF] at HK ⊢
      clear hlF
      clear f4 rA rB HPf ho HrA HrB
      go_wp2_with fail
      refine hM.mono ?_
      rintro e w5 ⟨rfl, P5, ft⟩
      replace HP : Hid _ := ⟨P5⟩
      have HK5 : Hid (OwnK 3 1 w5 w3.heap.size (.slice ad _ capd) _ (F.map fun e => .int .i64 e.d) ∧ RfS w5 w2.heap.size (.slice ab k capb) (F.map (·.a))) := ⟨ft.own HK.out.1.ow (by decide) (by decide), ft.rfs HK.out.2⟩
      have HR5 : Hid (Row w5 w.heap.size #[.int .i64 an, .int .i64 ai] 33 ∧ Row w5 (w.heap.size + 1) #[.int .i64 bn, .int .i64 bi] 33) := ⟨ft.row HR.out.1 (by decide) (by decide), ft.row HR.out.2 (by decide) (by decide)⟩
      clear P5 ft HK HR hM a0' a1' b0' b1'
      go_wp2_with fail
      refine (plist _ _ t _ HP.out).mono ?_
      rintro e w6 ⟨va, rfl, sa, f6⟩
      replace HP : Hid _ := ⟨HP.out.keep0 f6⟩
      have HK6 : Hid (OwnK 3 1 w6 w3.heap.size (.slice ad _ capd) _ (F.map fun e => .int .i64 e.d) ∧ RfS w6 w2.heap.size (.slice ab k capb) (F.map (·.a))) := ⟨HK5.out.1.keep0 f6, HK5.out.2.keep0 f6⟩
      have HR6 : Hid (Row w6 w.heap.size #[.int .i64 an, .int .i64 ai] 33 ∧ Row w6 (w.heap.size + 1) #[.int .i64 bn, .int .i64 bi] 33) := ⟨HR5.out.1.keep f6 (fun h => h), HR5.out.2.keep f6 (fun h => h)⟩
      clear HK5 HR5
      by_cases hE : movE F ⟨an, ai⟩ ⟨bn, bi⟩ = 0
      · have hS : movS F ⟨an, ai⟩ ⟨bn, bi⟩ = movF ⟨an, ai⟩ ⟨bn, bi⟩ F := by
          unfold movE at hE; unfold movS
          repeat' split at hE
          all_goals simp_all
        rw [hE]
        rw [hS] at HP sa
        obtain ⟨aa, capa, rfl⟩ := sa.slice
        have HSA : Hid (RfS w6 w5.heap.size _ ((movF ⟨an, ai⟩ ⟨bn, bi⟩ F).map (·.a))) := ⟨sa⟩
        have hlen : ((movF ⟨an, ai⟩ ⟨bn, bi⟩ F).map (·.a)).length = k := by simp [movF, HN.out]
        rw [hlen] at HSA ⊢
        clear sa f6 hlen hE hS
        have tt : ((k : Int) != (k : Int)) = false := by simp
        go_wp2_with fail
        go_loopw [16] (fun i wr => ∃ j : Nat, j ≤ k ∧ i = .int .i64 (j : Int) ∧ Hid (Fr none' w6 wr)) (fun i _ => k - (intOf i).toNat)
        case atStart => exact ⟨0, by omega, rfl, ⟨Fr.refl _ _⟩⟩
        case round =>
          obtain ⟨j, hj, rfl, f7⟩ := hrel
          by_cases hjN : j < k
          · have hjF : j < F.length := by rw [← HN.out]; exact hjN
            obtain ⟨e, he⟩ : ∃ e, F[j]? = some e := ⟨F[j], List.getElem?_eq_getElem hjF⟩
            have he2 : (movF ⟨an, ai⟩ ⟨bn, bi⟩ F)[j]? = some (nm1 ⟨an, ai⟩ ⟨bn, bi⟩ e) := by simp [movF, he]
            obtain ⟨g, rfl, c0, c1⟩ := (HK6.out.2.keep0 f7.out).get (i := j) (x := e.a) (by simp [he])
            obtain ⟨g2, rfl, d0, d1⟩ := (HSA.out.keep0 f7.out).get (i := j) (x := (nm1 ⟨an, ai⟩ ⟨bn, bi⟩ e).a) (by simp [he2])
            obtain ⟨g3, rfl, e0⟩ := (HK6.out.1.keep0 f7.out).get (i := j) (x := .int .i64 e.d) (by simp [he])
            have HD : Hid (∀ w', Fr none' wr w' → Calls Try.prog 18 #[pv t, rfV (nm1 ⟨an, ai⟩ ⟨bn, bi⟩ e).a] w' fun x w'' => x = .returned (.int .i64 e.d) ∧ Fr none' w' w'') := ⟨fun w' f => by
              have hD := pdep _ _ t _ ((HP.out.keep0 f7.out).keep0 f) (nm1 ⟨an, ai⟩ ⟨bn, bi⟩ e).a (HP.out.wf.ok _ (List.mem_of_getElem? he2))
              rw [dep_get HP.out.wf.nd he2, mov_d] at hD
              exact hD⟩
            have hx := mov_a ⟨an, ai⟩ ⟨bn, bi⟩ e
            generalize (nm1 ⟨an, ai⟩ ⟨bn, bi⟩ e).a = x at *
            obtain ⟨⟨en, ei⟩, ed⟩ := e
            obtain ⟨xn, xi⟩ := x
            dsimp only at hx c0 c1 d0 d1 e0
            clear he he2 hjF
            have hq := fun w => eq_ref en ei an ai w
            have uk : decide ((j : Int) < (k : Int)) = true := decide_eq_true (by omega)
            have i1 : 0 ≤ (j : Int) ∧ (j : Int) < (k : Int) := by omega
            by_cases hea : (⟨en, ei⟩ : Rf) = ⟨an, ai⟩
            · rw [if_pos hea] at hx
              simp only [Rf.mk.injEq] at hx hea
              obtain ⟨rfl, rfl⟩ := hx
              obtain ⟨rfl, rfl⟩ := hea
              rw [decide_eq_true rfl] at hq
              have fA := (Fr.refl none' wr).alloc (.cells #[.int .i64 en, .int .i64 ei] 33)
              have rN := row_alloc wr #[.int .i64 en, .int .i64 ei] 33
              obtain ⟨a0', a1'⟩ := row2 (HR6.out.1.keep (f7.out.trans fA) (fun h => h))
              obtain ⟨b0', b1'⟩ := row2 (HR6.out.2.keep (f7.out.trans fA) (fun h => h))
              obtain ⟨n0', n1'⟩ := row2 rN
              clear rN fA
              have fA := (Fr.refl none' wr).alloc (.cells #[.int .i64 xn, .int .i64 xi] 33)
              have rN := row_alloc wr #[.int .i64 xn, .int .i64 xi] 33
              have HC : Hid (wr.cell? ⟨g2, j * 2, none⟩ = some (.int .i64 xn) ∧ wr.cell? ⟨g2, j * 2 + 1, none⟩ = some (.int .i64 xi) ∧ wr.cell? ⟨g3, j, none⟩ = some (.int .i64 ed)) := ⟨d0, d1, e0⟩
              replace d0 := cell_keep fA d0 (fun h => h)
              replace d1 := cell_keep fA d1 (fun h => h)
              have HFA : Hid _ := ⟨fA⟩
              clear fA
              go_wp2_with fail
              refine (HD.out _ HFA.out).mono ?_
              rintro e w8 ⟨rfl, f8⟩
              replace d0 := cell_keep (HFA.out.trans f8) HC.out.1 (fun h => h)
              replace d1 := cell_keep (HFA.out.trans f8) HC.out.2.1 (fun h => h)
              replace e0 := cell_keep (HFA.out.trans f8) HC.out.2.2 (fun h => h)
              clear n0' n1'
              obtain ⟨n0', n1'⟩ := row2 (rN.keep f8 (fun h => h))
              have hq2 := fun w => neq_ref xn xi xn xi w
              rw [show decide ((⟨xn, xi⟩ : Rf) ≠ ⟨xn, xi⟩) = false from by simp] at hq2
              have td : (ed != ed) = false := by simp
              have H8 : Hid (∀ m, Fr none' w6 (w8.drewN m)) := ⟨fun m => (f7.out.trans (HFA.out.trans f8)).trans (fr_drewN w8 m)⟩
              clear rN f8 a0' a1' hq c0 c1
              go_wp2_with fail
              go_quiet (fail)
              go_wp2_with fail
              go_roundw
              case rel => exact ⟨j + 1, by omega, by go_num, ⟨H8.out _⟩⟩
              case measure => simp [intOf]; omega
            · rw [if_neg hea] at hx
              simp only [Rf.mk.injEq] at hx
              obtain ⟨rfl, rfl⟩ := hx
              rw [decide_eq_false hea] at hq
              have fA := (Fr.refl none' wr).alloc (.cells #[.int .i64 xn, .int .i64 xi] 33)
              have rN := row_alloc wr #[.int .i64 xn, .int .i64 xi] 33
              have HC : Hid (wr.cell? ⟨g2, j * 2, none⟩ = some (.int .i64 xn) ∧ wr.cell? ⟨g2, j * 2 + 1, none⟩ = some (.int .i64 xi) ∧ wr.cell? ⟨g3, j, none⟩ = some (.int .i64 ed)) := ⟨d0, d1, e0⟩
              replace d0 := cell_keep fA d0 (fun h => h)
              replace d1 := cell_keep fA d1 (fun h => h)
              have HFA : Hid _ := ⟨fA⟩
              obtain ⟨a0', a1'⟩ := row2 (HR6.out.1.keep (f7.out.trans fA) (fun h => h))
              obtain ⟨n0', n1'⟩ := row2 rN
              clear fA
              go_wp2_with fail
              refine (HD.out _ HFA.out).mono ?_
              rintro e w8 ⟨rfl, f8⟩
              replace d0 := cell_keep (HFA.out.trans f8) HC.out.1 (fun h => h)
              replace d1 := cell_keep (HFA.out.trans f8) HC.out.2.1 (fun h => h)
              replace e0 := cell_keep (HFA.out.trans f8) HC.out.2.2 (fun h => h)
              clear n0' n1'
              obtain ⟨n0', n1'⟩ := row2 (rN.keep f8 (fun h => h))
              have hq2 := fun w => neq_ref xn xi xn xi w
              rw [show decide ((⟨xn, xi⟩ : Rf) ≠ ⟨xn, xi⟩) = false from by simp] at hq2
              have td : (ed != ed) = false := by simp
              have H8 : Hid (∀ m, Fr none' w6 (w8.drewN m)) := ⟨fun m => (f7.out.trans (HFA.out.trans f8)).trans (fr_drewN w8 m)⟩
              clear rN f8 a0' a1' hq c0 c1
              go_wp2_with fail
              go_quiet (fail)
              go_wp2_with fail
              go_roundw
              case rel => exact ⟨j + 1, by omega, by go_num, ⟨H8.out _⟩⟩
              case measure => simp [intOf]; omega
          · obtain rfl : j = k := by omega
            have uk : decide ((j : Int) < (j : Int)) = false := decide_eq_false (by omega)
            have HEnd : Hid (Fr none' w _) := ⟨HF.out.trans (HP.out.fr.trans f7.out)⟩
            clear f7
            go_wp2_with fail
            go_ret
            exact ⟨rfl, HEnd.out.below (Nat.le_refl _) (fun _ h => h.elim)⟩
      · have hS : movS F ⟨an, ai⟩ ⟨bn, bi⟩ = F := by
          unfold movE at hE; unfold movS
          repeat' split at hE
          all_goals simp_all
        rw [hS] at HP sa
        have hr := refs_any _ _ _ _ _ _ _ HK6.out.2 sa (by simp; have := HN.out; omega)
        rw [decide_eq_true rfl] at hr
        have HEnd : Hid (Fr none' w _) := ⟨HF.out.trans HP.out.fr⟩
        have tt : (movE F ⟨an, ai⟩ ⟨bn, bi⟩ != 0) = true := by simpa using hE
        clear sa f6 HK6 HR6 HP hS hE
        generalize movE F ⟨an, ai⟩ ⟨bn, bi⟩ = E at *
        go_wp2_with fail
        refine hr.mono ?_
        rintro e w7 ⟨rfl, f7⟩
        replace HEnd : Hid (Fr none' w w7) := ⟨HEnd.out.trans f7⟩
        clear f7 hr
        go_wp2_with fail
        go_ret
        exact ⟨rfl, HEnd.out.below (Nat.le_refl _) (fun _ h => h.elim)⟩

end Go.Proofs.Ytiabloiglmnfpaa
