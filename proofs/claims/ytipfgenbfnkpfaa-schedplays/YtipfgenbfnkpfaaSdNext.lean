/-
  The contract of package sched's nextTurn over the translation. No statement is proved here.
-/
import Derived.Test.YtipfgenbfnkpfaaSdTick
namespace Go.Proofs.Ytipfgenbfnkpfaa
open Go.RowKit Go.Maps Go.WideMaps

set_option maxRecDepth 100000 in
set_option maxHeartbeats 2000000 in
theorem next_any (w : World) (p : Pb) (S : Sd) (h : IsS w p S) (ho : CurOk S) (gt : GoodT { S with lf := 1 }) (hl : Sh S) :
    Calls Try.prog 53 #[.pointer (some ⟨p.b, 0, none⟩)] w fun e w' => ∃ v, e = .returned v ∧ ∃ p', p'.b = p.b ∧ Chg w p S w' p' (nexS S) := by
  have htn : S.tn < S.tb.length := gt.tn
  have hle : S.tb.length ≤ 8 := gt.len
  obtain ⟨g, cap, hT, hgb, hx⟩ := tb_form h (by omega)
  have hlt := nexN_lt htn
  have hme : S.tb[nexN S]? = some S.tb[nexN S] := List.getElem?_eq_getElem hlt
  have hmod : ((S.tn : Int) + 1) % (S.tb.length : Int) = ((nexN S : Nat) : Int) := by unfold nexN; rw [Int.natCast_emod]; rfl
  have hlf : (turS S).lf = S.tb[nexN S].n := by show ((S.tb[nexN S]?).getD ⟨0, 1000⟩).n = _; rw [hme]; rfl
  have DA : Hid (Calls Try.prog 15 #[.pointer (some ⟨p.b, 0, none⟩)] w fun e w1 => e = .returned (.int .i64 (pe S)) ∧ Fr none' w w1 ∧ w1.cell? ⟨p.b, 257, none⟩ = some (curV p S.c) ∧ w1.cell? ⟨p.b, 258, none⟩ = some (.slice (some ⟨g, 0, none⟩) S.tb.length cap) ∧ w1.cell? ⟨p.b, 259, none⟩ = some (.int .i64 S.tn) ∧ w1.cell? ⟨p.b, 260, none⟩ = some (.int .i64 S.lf) ∧ w1.frozen? ⟨p.b, 259, none⟩ = false ∧ w1.frozen? ⟨p.b, 260, none⟩ = false ∧ w1.cell? ⟨g, nexN S * 2 + 1, none⟩ = some (.int .i64 (turS S).lf)) := (dom_lf w p S h gt).mono (by
    rintro e w1 ⟨rfl, n, rfl⟩
    have f := fr_drewN w n
    have h1 := h.keep0 f
    obtain ⟨_, a1, a2, a3, a4⟩ := h1.cells
    rw [hT] at a2
    rw [hlf]
    exact ⟨rfl, f, a1, a2, a3, a4, h1.frozen _, h1.frozen _, (hx _ rfl _ _ hme).2⟩)
  have HB : Hid (∀ wa wb w2, Fr none' w wa → Fr none' (wa.setCell ⟨p.b, 259, none⟩ (.int .i64 (nexN S : Nat))) wb → Fr none' (wb.setCell ⟨p.b, 260, none⟩ (.int .i64 (turS S).lf)) w2 → Chg w p S w2 p (turS S)) := fun wa wb w2 f1 f2 f3 => by
    have C1 := (h.keep0 f1).setTurn (nexN S)
    have C2 := (C1.is.keep0 f2).setLeft (turS S).lf
    exact ((((C1.before f1 h).after f2).trans C2).after f3)
  have hen : ∀ w2, IsS w2 p (turS S) → S.c ≠ -1 → Calls Try.prog 42 #[.pointer (some ⟨p.b, 0, none⟩), .func (.func 45) #[] #[]] w2 fun e w' => ∃ v V', e = .returned v ∧ Chg w2 p (turS S) w' { p with V := V' } (back (turS S) gFront) := fun w2 h2 hc => back_any w2 p (turS S) h2 makes_front hc (ho.get hc) (hl _ (h.good.all _ (fnd_mem (ho.get hc)).1).ky)
  have gt2 := turS_good gt
  have i1 : 0 ≤ ((nexN S : Nat) : Int) ∧ ((nexN S : Nat) : Int) < (S.tb.length : Int) := by omega
  have i2 : (S.tn : Int) + 1 ≤ 8 := by omega
  have hw : wrap64 ((S.tn : Int) + 1) = (S.tn : Int) + 1 := by unfold wrap64; omega
  have hz : ((S.tb.length : Int) == 0) = false := beq_eq_false_iff_ne.2 (by omega)
  unfold nexS
  by_cases hc : S.c = -1
  · rw [if_neg (fun e => e.1 hc)]
    have HF : Hid (∀ wa wb w2, Fr none' w wa → Fr none' (wa.setCell ⟨p.b, 259, none⟩ (.int .i64 (nexN S : Nat))) wb → Fr none' (wb.setCell ⟨p.b, 260, none⟩ (.int .i64 (turS S).lf)) w2 → ∃ p', p'.b = p.b ∧ Chg w p S w2 p' (turS S)) := fun wa wb w2 f1 f2 f3 => ⟨p, rfl, HB.out wa wb w2 f1 f2 f3⟩
    rw [hc, curV_none] at DA
    clear h ho gt hl hen gt2 hx hT hlf hme hlt HB hc htn hle
    generalize (turS S).lf = lf' at *
    generalize nexN S = nx at *
    generalize S.tb.length = m at *
    generalize S.tn = tn at *
    generalize S.lf = lf at *
    generalize turS S = X at *
    go_enter Try.func53, Try.ntmps53
    go_wp2_with (go_at_call 15; refine DA.out.mono ?_; rintro e w1 ⟨rfl, F1, a1, a2, a3, a4, z3, z4, d1⟩)
    have hgb' : p.b ≠ g := fun e => hgb e.symm
    go_region
    all_goals go_wp2_with fail
    all_goals go_region
    all_goals go_wp2_with fail
    all_goals refine post_void rfl rfl fun v => ?_
    all_goals exact ⟨v, rfl, by first | exact HF.out _ _ _ F1 (Fr.refl none' _).drew (Fr.refl none' _).drew | exact HF.out _ _ _ F1.drew (Fr.refl none' _).drew (Fr.refl none' _).drew | exact HF.out _ _ _ F1 (Fr.refl none' _).drew (Fr.refl none' _) | exact HF.out _ _ _ F1.drew (Fr.refl none' _) (Fr.refl none' _)⟩
  · rw [curV_some hc] at DA
    have HD : Hid (∀ wa wb w2, Fr none' w wa → Fr none' (wa.setCell ⟨p.b, 259, none⟩ (.int .i64 (nexN S : Nat))) wb → Fr none' (wb.setCell ⟨p.b, 260, none⟩ (.int .i64 (turS S).lf)) w2 → Calls Try.prog 15 #[.pointer (some ⟨p.b, 0, none⟩)] w2 fun e w3 => e = .returned (.int .i64 (pe (turS S))) ∧ Hid (Chg w p S w3 p (turS S))) := fun wa wb w2 f1 f2 f3 => by
      have C := HB.out wa wb w2 f1 f2 f3
      refine (domain_any w2 p (turS S) C.is gt2).mono ?_
      rintro e w3 ⟨rfl, n, rfl⟩
      exact ⟨rfl, C.after (fr_drewN _ _)⟩
    have HE : Hid (∀ w3, Chg w p S w3 p (turS S) → Calls Try.prog 42 #[.pointer (some ⟨p.b, 0, none⟩), .func (.func 45) #[] #[]] w3 fun e w' => ∃ v, e = .returned v ∧ Hid (∃ p', p'.b = p.b ∧ Chg w p S w' p' (back (turS S) gFront))) := fun w3 C => (hen w3 C.is hc).mono (by
      rintro e w' ⟨v, V', rfl, C2⟩
      exact ⟨v, rfl, exP (C.trans C2) rfl⟩)
    have hgb' : p.b ≠ g := fun e => hgb e.symm
    by_cases hpe : pe (turS S) = pe S
    · rw [if_neg (fun e => e.2 hpe)]
      have HF : Hid (∀ w2, Chg w p S w2 p (turS S) → ∃ p', p'.b = p.b ∧ Chg w p S w2 p' (turS S)) := fun w2 C => ⟨p, rfl, C⟩
      have t1 : (pe (turS S) == pe S) = true := by simpa using hpe
      clear h ho gt hl hen gt2 hx hT hlf hme hlt HB hc htn hle HE hpe
      generalize (turS S).lf = lf' at *
      generalize pe (turS S) = px at *
      generalize pe S = py at *
      generalize p.B S.c = gB at *
      generalize nexN S = nx at *
      generalize S.tb.length = m at *
      generalize S.tn = tn at *
      generalize S.lf = lf at *
      generalize turS S = X at *
      go_enter Try.func53, Try.ntmps53
      go_wp2_with (go_at_call 15; refine DA.out.mono ?_; rintro e w1 ⟨rfl, F1, a1, a2, a3, a4, z3, z4, d1⟩)
      go_region
      all_goals go_wp2_with fail
      all_goals go_region
      all_goals go_wp2_with (go_at_call 15; refine (HD.out _ _ _ (by first | exact F1 | exact F1.drew) (by exact (Fr.refl none' _).drew) (by exact (Fr.refl none' _).drew)).mono ?_; rintro e w3 ⟨rfl, HC⟩)
      all_goals refine post_void rfl rfl fun v => ?_
      all_goals exact ⟨v, rfl, HF.out _ HC.out⟩
    · rw [if_pos ⟨hc, hpe⟩]
      have t1 : (pe (turS S) == pe S) = false := by simpa using hpe
      clear h ho gt hl hen gt2 hx hT hlf hme hlt HB hc htn hle hpe
      generalize (turS S).lf = lf' at *
      generalize pe (turS S) = px at *
      generalize pe S = py at *
      generalize p.B S.c = gB at *
      generalize nexN S = nx at *
      generalize S.tb.length = m at *
      generalize S.tn = tn at *
      generalize S.lf = lf at *
      generalize back (turS S) gFront = Y at *
      generalize turS S = X at *
      go_enter Try.func53, Try.ntmps53
      go_wp2_with (go_at_call 15; refine DA.out.mono ?_; rintro e w1 ⟨rfl, F1, a1, a2, a3, a4, z3, z4, d1⟩)
      go_region
      all_goals go_wp2_with fail
      all_goals go_region
      all_goals go_wp2_with (first | (go_at_call 15; refine (HD.out _ _ _ (by first | exact F1 | exact F1.drew) (by exact (Fr.refl none' _).drew) (by exact (Fr.refl none' _).drew)).mono ?_; rintro e w3 ⟨rfl, HC⟩) | (go_at_call 42; refine (HE.out _ HC.out).mono ?_; rintro e w4 ⟨v, rfl, HG⟩))
      all_goals refine post_void rfl rfl fun v => ?_
      all_goals exact ⟨v, rfl, HG.out⟩

end Go.Proofs.Ytipfgenbfnkpfaa
