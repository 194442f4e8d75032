/-
  Tick of package vcpu over the translation. No statement is proved here.
-/
import Derived.Test.YthkieoedidpkaaaVcDrop
namespace Go.Proofs.Ythkieoedidpkaaa
open Go.RowKit Go.Maps Go.WideMaps

theorem IsP.ticked {w : World} {p : Pp} {S : Vp} (h : IsP w p S) {x : Vc} (hx : fnd S.L S.ld = some x) : ChP w p S (w.setCell ⟨p.b, 7, none⟩ (.int .u32 (IntKind.u32.wrap (bkF S 5 + 1)))) p (tick1 S) := by
  obtain ⟨b, o, u, hb, ho, _, _, _, C⟩ := h.wr hx (k := 5) (by decide) (IntKind.u32.wrap (bkF S 5 + 1))
  rw [if_pos rfl] at hb ho
  subst hb ho
  exact C
theorem tick_has {S : Vp} (h : hasB S S.ld = true) : hasB (tick1 S) S.ld = true := by
  unfold hasB tick1 at *
  show (fnd (upd S.L S.ld _) S.ld).isSome = true
  rw [fnd_upd (f := set1R 5 (IntKind.u32.wrap (bkF S 5 + 1))) (fun _ => rfl), Option.isSome_map]
  exact h
set_option maxRecDepth 100000 in
set_option maxHeartbeats 4000000 in
theorem tick_any (w : World) (p : Pp) (S : Vp) (h : IsP w p S) : Calls Try.prog 19 #[pv p.b] w fun e w' => e = .returned (.bool (tckB S)) ∧ ChP w p S w' p (tckS S) := by
  obtain ⟨_, _, c10⟩ := h.st
  rcases h.good.ld with hl | hl
  · have HE : Hid (tckB S = false ∧ tckS S = S) := ⟨by unfold tckB; rw [if_pos hl], by unfold tckS; rw [if_pos hl]⟩
    have HC : Hid (ChP w p S w p S) := ChP.same h (Fr.refl _ _)
    rw [hl] at c10
    clear h hl
    go_enter Try.func19, Try.ntmps19
    go_wp2_with fail
    go_ret
    rw [HE.out.1, HE.out.2]
    exact ⟨rfl, HC.out⟩
  · obtain ⟨x, hx⟩ := has_iff.1 hl
    obtain ⟨_, _, _, g0, g1⟩ := h.has hx
    have hn : S.ld ≠ -1 := by omega
    have d1 : (S.ld == -1) = false := by simpa using hn
    have b5 : w.cell? ⟨p.b, 7, none⟩ = some (.int .u32 (bkF S 5)) := h.row.cell 7
    have z5 : w.frozen? ⟨p.b, 7, none⟩ = false := h.row.frozen 7
    have HC : Hid (ChP w p S (w.setCell ⟨p.b, 7, none⟩ (.int .u32 (IntKind.u32.wrap (bkF S 5 + 1)))) p (tick1 S)) := h.ticked hx
    have HE : Hid ((dueB S = false → tckB S = false ∧ tckS S = tick1 S) ∧ (dueB S = true → tckB S = (ijE (tick1 S) S.ld 27 10 == 0) ∧ tckS S = ijS (tick1 S) S.ld 27 10 false)) := by
      refine ⟨fun e => ?_, fun e => ?_⟩ <;> (unfold tckB tckS; rw [if_neg hn, if_neg hn, e]; exact ⟨rfl, rfl⟩)
    have HI : Hid (I64 S.ld) := ⟨by omega, by omega⟩
    have HJ := fun (W : World) (h : IsP W p (tick1 S)) => injectV W p (tick1 S) h S.ld 27 10 false HI.out
    clear h hl hx g0 g1 hn
    go_enter Try.func19, Try.ntmps19
    go_wp2_with fail
    go_region_with fail
    all_goals have C1 : ChP w p S (w.setCell ⟨p.b, 7, none⟩ (.int .u32 (IntKind.u32.wrap (bkF S 5 + 1)))).drew p (tick1 S) := HC.out.after (Fr.refl none' _).drew
    all_goals generalize (w.setCell ⟨p.b, 7, none⟩ (.int .u32 (IntKind.u32.wrap (bkF S 5 + 1)))).drew = W at *
    all_goals obtain ⟨_, _, _, k3, _, k5, _, _⟩ := C1.is.bks
    all_goals obtain ⟨_, _, k10⟩ := C1.is.st
    all_goals replace k10 : W.cell? ⟨p.b, 10, none⟩ = some (.int .i64 S.ld) := k10
    all_goals have Y := HJ W C1.is
    all_goals have HC1 : Hid _ := C1
    all_goals have HD : Hid (∀ a b, (bkF (tick1 S) 3 == 0) = a → (bkF (tick1 S) 5 == bkF (tick1 S) 3) = b → dueB S = (!a && b)) := fun a b e1 e2 => by unfold dueB; rw [e1, e2]
    all_goals clear C1 HJ HC
    all_goals cases e3 : bkF (tick1 S) 3 == 0
    all_goals cases e5 : bkF (tick1 S) 5 == bkF (tick1 S) 3
    all_goals have e5' : (bkF (tick1 S) 5 != bkF (tick1 S) 3) = !(bkF (tick1 S) 5 == bkF (tick1 S) 3) := rfl
    all_goals rw [e5] at e5'
    all_goals have HD2 : Hid _ := HD.out _ _ e3 e5
    all_goals clear HD
    all_goals go_wp2_with fail
    all_goals first
      | (refine Y.mono ?_
         rintro e w2 ⟨rfl, C2⟩
         have HZ : Hid _ := HC1.out.trans C2
         clear C2
         go_wp2_with fail
         go_ret
         rw [(HE.out.2 HD2.out).1, (HE.out.2 HD2.out).2]
         exact ⟨rfl, HZ.out⟩)
      | (go_ret
         rw [(HE.out.1 HD2.out).1, (HE.out.1 HD2.out).2]
         exact ⟨rfl, HC1.out⟩)

end Go.Proofs.Ythkieoedidpkaaa
