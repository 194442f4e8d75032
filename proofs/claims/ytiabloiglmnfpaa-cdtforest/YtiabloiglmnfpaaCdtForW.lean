/-
  The walk of the law CdtForest over the translation: it answers true. No statement is proved here.
-/
import Derived.Test.YtiabloiglmnfpaaCdtForQ
namespace Go.Proofs.Ytiabloiglmnfpaa
open Go.RowKit Go.Maps Go.WideMaps

set_option maxRecDepth 100000 in
set_option maxHeartbeats 8000000 in
theorem lforest_any (a0 : Option Addr) (len cap : Nat) (w : World) (hl : len ≤ 9223372036854775807) (hA : ∃ A, Acs w a0 len A) :
    Calls Try.prog 4 #[.slice a0 len cap] w fun e w' => e = .returned (.bool true) ∧ Below w.heap.size w w' := by
  obtain ⟨A, hA⟩ := hA
  have fB := (Fr.refl none' w)
  replace hA := hA.keep fB
  go_enter Try.func4, Try.ntmps4
  go_wp2_with fail
  have HA : Hid (Acs w a0 len A) := ⟨hA⟩
  have HF : Hid (Fr none' w w) := ⟨fB⟩
  clear hA fB
  refine (awake_any _).mono ?_
  rintro e w1 ⟨rfl, f0⟩
  go_wp2_with fail
  refine (played_any w w1 a0 len cap A HA.out hl f0).mono ?_
  rintro e w2 ⟨t, F, rfl, P, hF⟩
  have HP : Hid (Pr w w2 t F) := ⟨P⟩
  clear P f0 HA
  go_wp2_with fail
  refine (plist _ _ t F HP.out).mono ?_
  rintro e w3 ⟨vb, rfl, sb, f3⟩
  replace HP : Hid (Pr _ w3 t F) := ⟨HP.out.keep0 f3⟩
  obtain ⟨ab, capb, rfl⟩ := sb.slice
  have HS : Hid (RfS w3 w2.heap.size _ (F.map (·.a))) := ⟨sb⟩
  clear sb f3
  rw [List.length_map] at HS ⊢
  obtain ⟨N, hN⟩ : ∃ N, N = F.length := ⟨_, rfl⟩
  have HN : Hid (N = F.length) := ⟨hN⟩
  rw [← hN] at HS hF ⊢
  clear hN
  go_wp2_with fail
  go_loopw [6] (fun i wr => ∃ j : Nat, j ≤ N ∧ i = .int .i64 (j : Int) ∧ Hid (Fr none' w3 wr)) (fun i _ => N - (intOf i).toNat)
  case atStart => exact ⟨0, by omega, rfl, ⟨Fr.refl _ _⟩⟩
  case round =>
    obtain ⟨j, hj, rfl, f7⟩ := hrel
    by_cases hjN : j < N
    · have hjF : j < F.length := by rw [← HN.out]; exact hjN
      obtain ⟨y, hy⟩ : ∃ e, F[j]? = some e := ⟨F[j], List.getElem?_eq_getElem hjF⟩
      obtain ⟨⟨yn, yi⟩, yd⟩ := y
      have HY : Hid (F[j]? = some ⟨⟨yn, yi⟩, yd⟩) := ⟨hy⟩
      obtain ⟨g, rfl, _, _⟩ := HS.out.get (i := j) (x := ⟨yn, yi⟩) (by simp [hy])
      clear hy hjF
      have uk : decide ((j : Int) < (N : Int)) = true := decide_eq_true (by omega)
      have i1 : 0 ≤ (j : Int) ∧ (j : Int) < (N : Int) := by omega
      obtain ⟨w7, hw7⟩ : ∃ w7, w7 = wr := ⟨_, rfl⟩
      have F7 : Hid (Fr none' w3 w7) := ⟨by rw [hw7]; exact f7.out⟩
      rw [← hw7]
      clear hw7 f7
      clear wr
      go_wp2_with fail
      go_loopw [7, 8] (fun a i wr => ∃ k : Nat, k ≤ N ∧ a = .int .i64 (((F.take k).countP fun z => belF z.a ⟨yn, yi⟩ F : Nat) : Int) ∧ i = .int .i64 (k : Int) ∧ Hid (Fr none' w3 wr)) (fun _ i _ => N - (intOf i).toNat)
      case atStart => exact ⟨0, by omega, rfl, rfl, F7⟩
      case round =>
        clear F7
        obtain ⟨k, hk, rfl, rfl, f7⟩ := hrel
        by_cases hkN : k < N
        · have hkF : k < F.length := by rw [← HN.out]; exact hkN
          obtain ⟨⟨⟨en, ei⟩, ed⟩, he⟩ : ∃ e, F[k]? = some e := ⟨F[k], List.getElem?_eq_getElem hkF⟩
          have hcn : ((F.take (k + 1)).countP fun z => belF z.a ⟨yn, yi⟩ F) = ((F.take k).countP fun z => belF z.a ⟨yn, yi⟩ F) + (if belF ⟨en, ei⟩ ⟨yn, yi⟩ F = true then 1 else 0) := by
            rw [List.take_add_one, he, List.countP_append]
            simp
          have hcl : ((F.take k).countP fun z => belF z.a ⟨yn, yi⟩ F) ≤ k := Nat.le_trans List.countP_le_length (by simp; omega)
          obtain ⟨g', eg, c0, c1⟩ := (HS.out.keep0 f7.out).get (i := k) (x := ⟨en, ei⟩) (by simp [he])
          obtain ⟨g'', eg2, q0, q1⟩ := (HS.out.keep0 f7.out).get (i := j) (x := ⟨yn, yi⟩) (by simp [HY.out])
          simp only [Option.some.injEq, Addr.mk.injEq, and_true] at eg eg2
          subst eg eg2
          dsimp only at c0 c1 q0 q1
          have hB := pbel _ _ t F (HP.out.keep0 (f7.out.trans (Fr.refl none' wr).drew)) ⟨en, ei⟩ ⟨yn, yi⟩ (HP.out.wf.ok _ (List.mem_of_getElem? he))
          have hlt : belF ⟨en, ei⟩ ⟨yn, yi⟩ F = true → k < j := fun h => ((bel_bl HP.out.wf.nd he HY.out).1 h).1
          have hne : (⟨en, ei⟩ : Rf) = ⟨yn, yi⟩ → k = j := fun h => nodup_idx HP.out.wf.nd he HY.out h
          have heq : k = j → (⟨en, ei⟩ : Rf) = ⟨yn, yi⟩ := fun h => by subst h; exact congrArg (·.a) (Option.some.inj (he.symm.trans HY.out))
          obtain ⟨c, hc⟩ : ∃ c, c = ((F.take k).countP fun z => belF z.a ⟨yn, yi⟩ F) := ⟨_, rfl⟩
          obtain ⟨is, his⟩ : ∃ is, is = belF ⟨en, ei⟩ ⟨yn, yi⟩ F := ⟨_, rfl⟩
          rw [← hc] at hcn hcl ⊢
          rw [← his] at hB hlt hcn
          have HV : Hid (Value.int .i64 ((((F.take (k + 1)).countP fun z => belF z.a ⟨yn, yi⟩ F) : Nat) : Int) = .int .i64 ((c : Int) + (if is = true then 1 else 0))) := ⟨by rw [hcn]; cases is <;> simp⟩
          clear he hkF hc hcn his
          have HNE : Hid ((⟨en, ei⟩ : Rf) = ⟨yn, yi⟩ ↔ k = j) := ⟨hne, heq⟩
          clear hne heq
          have HC : Hid (wr.cell? ⟨g, k * 2, none⟩ = some (.int .i64 en) ∧ wr.cell? ⟨g, k * 2 + 1, none⟩ = some (.int .i64 ei) ∧ wr.cell? ⟨g, j * 2, none⟩ = some (.int .i64 yn) ∧ wr.cell? ⟨g, j * 2 + 1, none⟩ = some (.int .i64 yi)) := ⟨c0, c1, q0, q1⟩
          have uk2 : decide ((k : Int) < (N : Int)) = true := decide_eq_true (by omega)
          have i2 : 0 ≤ (k : Int) ∧ (k : Int) < (N : Int) := by omega
          have hq := fun w => eq_ref en ei yn yi w
          go_wp2_with fail
          go_region_held3 (fun w' => w'.cell? ⟨g, k * 2, none⟩ = some (.int .i64 en) ∧ w'.cell? ⟨g, k * 2 + 1, none⟩ = some (.int .i64 ei) ∧ w'.cell? ⟨g, j * 2, none⟩ = some (.int .i64 yn) ∧ w'.cell? ⟨g, j * 2 + 1, none⟩ = some (.int .i64 yi)) (first | with_reducible exact ⟨c0, c1, q0, q1⟩ | with_reducible exact ⟨x0, x1, x2, x3⟩ | go_keep) (first | (go_at_call 17; refine hB.mono ?_; rintro e w4 ⟨rfl, f4⟩; (replace f4 := (Fr.refl none' wr).drew.trans f4); (have x0 := cell_keep f4 HC.out.1 (fun h => h)); (have x1 := cell_keep f4 HC.out.2.1 (fun h => h)); (have x2 := cell_keep f4 HC.out.2.2.1 (fun h => h)); (have x3 := cell_keep f4 HC.out.2.2.2 (fun h => h))))
          clear c0 c1 q0 q1 hB
          have H4 : Hid (∀ m, Fr none' w3 (w4.drewN m)) := ⟨fun m => (f7.out.trans f4).trans (fr_drewN w4 m)⟩
          clear f4 f7
          cases is with
          | true =>
            have hkj := hlt rfl
            have tg : decide ((j : Int) ≤ (k : Int)) = false := decide_eq_false (by omega)
            rw [decide_eq_false (fun h => by have := HNE.out.1 h; omega)] at hq
            clear hlt
            go_wp2_with fail
            go_quiet (fail)
            go_wp2_with fail
            go_roundw
            case rel => exact ⟨k + 1, by omega, by rw [HV.out]; simp, by go_num, ⟨H4.out _⟩⟩
            case measure => simp [intOf]; omega
          | false =>
            clear hlt
            by_cases hkj : k = j
            · subst hkj
              rw [decide_eq_true (HNE.out.2 rfl)] at hq
              have tn : ((k : Int) != (k : Int)) = false := by simp
              go_wp2_with fail
              go_quiet (fail)
              go_wp2_with fail
              go_roundw
              case rel => exact ⟨k + 1, by omega, by rw [HV.out]; simp, by go_num, ⟨H4.out _⟩⟩
              case measure => simp [intOf]; omega
            · rw [decide_eq_false (fun h => hkj (HNE.out.1 h))] at hq
              go_wp2_with fail
              go_quiet (fail)
              go_wp2_with fail
              go_roundw
              case rel => exact ⟨k + 1, by omega, by rw [HV.out]; simp, by go_num, ⟨H4.out _⟩⟩
              case measure => simp [intOf]; omega
        · obtain rfl : k = N := by omega
          have uk2 : decide ((k : Int) < (k : Int)) = false := decide_eq_false (by omega)
          have hT : F.take k = F := by rw [HN.out, List.take_length]
          rw [hT]
          have hct := cnt_get HP.out.wf HY.out
          have hyd : 0 ≤ yd ∧ yd ≤ 80 := by
            have h1 : (F.countP fun z => belF z.a ⟨yn, yi⟩ F) ≤ F.length := List.countP_le_length
            have h2 := HN.out
            have hct' : (((F.countP fun z => belF z.a ⟨yn, yi⟩ F) : Nat) : Int) = yd := hct
            omega
          rw [show (((F.countP fun z => belF z.a ⟨yn, yi⟩ F) : Nat) : Int) = yd from hct]
          clear hct hT
          obtain ⟨p, h, hp, hok, hh, himp⟩ := par_full HP.out.wf HY.out
          obtain ⟨pn, pi⟩ := p
          dsimp only at hp hh himp
          have hD := pdep _ _ t F (HP.out.keep0 f7.out) ⟨yn, yi⟩ (HP.out.wf.ok _ (List.mem_of_getElem? HY.out))
          rw [show depF ⟨yn, yi⟩ F = yd from dep_get HP.out.wf.nd HY.out] at hD
          obtain ⟨g'', eg2, q0, q1⟩ := (HS.out.keep0 f7.out).get (i := j) (x := ⟨yn, yi⟩) (by simp [HY.out])
          simp only [Option.some.injEq, Addr.mk.injEq, and_true] at eg2
          subst eg2
          dsimp only at q0 q1
          have HI : Hid (h = decide (0 < yd) ∧ (h = true → belF ⟨pn, pi⟩ ⟨yn, yi⟩ F = true ∧ depF ⟨pn, pi⟩ F = yd - 1)) := ⟨hh, himp⟩
          have HPp : Hid (parF ⟨yn, yi⟩ [] F = (⟨pn, pi⟩, h)) := ⟨hp⟩
          have HQ : Hid (wr.cell? ⟨g, j * 2, none⟩ = some (.int .i64 yn) ∧ wr.cell? ⟨g, j * 2 + 1, none⟩ = some (.int .i64 yi)) := ⟨q0, q1⟩
          clear hp hh himp
          go_wp2_with fail
          refine hD.mono ?_
          rintro e w5 ⟨rfl, f5⟩
          have hE := ppar _ _ t F (HP.out.keep0 (f7.out.trans f5)) ⟨yn, yi⟩ (HP.out.wf.ok _ (List.mem_of_getElem? HY.out))
          rw [HPp.out] at hE
          replace hE : Calls Try.prog 19 #[pv t, .agg #[.int .i64 yn, .int .i64 yi]] w5 fun e w' => e = .returned (.tuple #[.agg #[.int .i64 pn, .int .i64 pi], .bool h]) ∧ Fr none' w5 w' := hE
          clear q0 q1 hD
          have q0 := cell_keep f5 HQ.out.1 (fun h => h)
          have q1 := cell_keep f5 HQ.out.2 (fun h => h)
          go_wp2_with fail
          refine hE.mono ?_
          rintro e w6 ⟨rfl, f6⟩
          have f8 := (f5.trans f6).alloc (.cells #[.int .i64 pn, .int .i64 pi] 33)
          have rp := row_alloc w6 #[.int .i64 pn, .int .i64 pi] 33
          clear q0 q1 hE f5 f6
          go_wp2_with fail
          generalize (w6.alloc (.cells #[.int .i64 pn, .int .i64 pi] 33)) = W at f8 rp ⊢
          generalize w6.heap.size = B6 at rp ⊢
          have c0 := cell_keep f8 HQ.out.1 (fun h => h)
          have c1 := cell_keep f8 HQ.out.2 (fun h => h)
          obtain ⟨q0, q1⟩ := row2 rp
          have HC : Hid (W.cell? ⟨g, j * 2, none⟩ = some (.int .i64 yn) ∧ W.cell? ⟨g, j * 2 + 1, none⟩ = some (.int .i64 yi) ∧ W.cell? ⟨B6, 0, none⟩ = some (.int .i64 pn) ∧ W.cell? ⟨B6, 1, none⟩ = some (.int .i64 pi)) := ⟨c0, c1, q0, q1⟩
          have F8 : Hid (Fr none' w3 W) := ⟨f7.out.trans f8⟩
          have hB := pbel _ _ t F (HP.out.keep0 (F8.out.trans (Fr.refl none' W).drew)) ⟨pn, pi⟩ ⟨yn, yi⟩ hok
          obtain ⟨un, hun⟩ : ∃ un, un = belF ⟨pn, pi⟩ ⟨yn, yi⟩ F := ⟨_, rfl⟩
          obtain ⟨up, hup⟩ : ∃ up, up = depF ⟨pn, pi⟩ F := ⟨_, rfl⟩
          replace HI : Hid (h = decide (0 < yd) ∧ (h = true → un = true ∧ up = yd - 1)) := ⟨HI.out.1, fun hh => by rw [hun, hup]; exact HI.out.2 hh⟩
          rw [← hun] at hB
          have HUP : Hid (depF ⟨pn, pi⟩ F = up) := ⟨hup.symm⟩
          clear hun hup f8 f7 rp HQ HPp
          go_region_held3 (fun w' => w'.cell? ⟨g, j * 2, none⟩ = some (.int .i64 yn) ∧ w'.cell? ⟨g, j * 2 + 1, none⟩ = some (.int .i64 yi) ∧ w'.cell? ⟨B6, 0, none⟩ = some (.int .i64 pn) ∧ w'.cell? ⟨B6, 1, none⟩ = some (.int .i64 pi)) (first | with_reducible exact ⟨c0, c1, q0, q1⟩ | with_reducible exact ⟨x0, x1, x2, x3⟩ | go_keep) (first | (go_at_call 17; refine hB.mono ?_; rintro e w4 ⟨rfl, f4⟩; (replace f4 := (Fr.refl none' W).drew.trans f4); (have x0 := cell_keep f4 HC.out.1 (fun h => h)); (have x1 := cell_keep f4 HC.out.2.1 (fun h => h)); (have x2 := cell_keep f4 HC.out.2.2.1 (fun h => h)); (have x3 := cell_keep f4 HC.out.2.2.2 (fun h => h))))
          clear c0 c1 q0 q1 hB x0 x1
          have F9 : Hid (Fr none' w3 w4) := ⟨F8.out.trans f4⟩
          clear f4 F8 HC
          have hD := pdep _ _ t F (HP.out.keep0 F9.out) ⟨pn, pi⟩ hok
          rw [HUP.out] at hD
          go_wp2_with fail
          refine hD.mono ?_
          rintro e w10 ⟨rfl, f10⟩
          have H8 : Hid (Fr none' w3 w10) := ⟨F9.out.trans f10⟩
          clear f10 F9 hD x2 x3 HUP
          have ty : (yd != yd) = false := by simp
          cases h with
          | true =>
            obtain ⟨hh, hi⟩ := HI.out
            obtain ⟨rfl, rfl⟩ := hi rfl
            have tg : decide (0 < yd) = true := hh.symm
            have hyp : 0 < yd := of_decide_eq_true tg
            have tz : (yd - 1 != yd - 1) = false := by simp
            clear hh hi HI
            go_wp2_with fail
            go_roundw
            case rel => exact ⟨j + 1, by omega, by go_num, H8⟩
            case measure => simp [intOf]; omega
          | false =>
            have tg : decide (0 < yd) = false := HI.out.1.symm
            clear HI
            go_wp2_with fail
            go_roundw
            case rel => exact ⟨j + 1, by omega, by go_num, H8⟩
            case measure => simp [intOf]; omega
    · obtain rfl : j = N := by omega
      have uk : decide ((j : Int) < (j : Int)) = false := decide_eq_false (by omega)
      have HEnd : Hid (Fr none' w _) := ⟨HP.out.fr.trans f7.out⟩
      clear f7
      go_wp2_with fail
      go_ret
      exact ⟨rfl, HEnd.out.below (Nat.le_refl _) (fun _ h => h.elim)⟩

end Go.Proofs.Ytiabloiglmnfpaa
