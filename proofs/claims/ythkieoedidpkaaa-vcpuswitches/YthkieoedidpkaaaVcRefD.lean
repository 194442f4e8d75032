/-
  The document's Drop over the translation. No statement is proved here.
-/
import Derived.Test.YthkieoedidpkaaaVcRefC
namespace Go.Proofs.Ythkieoedidpkaaa
open Go.RowKit Go.Maps Go.WideMaps

theorem own_slice {g n c k : Nat} (h : some k = (Value.slice (some ⟨g, 0, none⟩) n c).ownBlock) : k = g := by simpa [Value.ownBlock] using h
/-- What a walk over Drop's last line asks for. -/
theorem IsD.drops {w : World} {q : Qd} {S : Vp} (h : IsD w q S) {j : Nat} {y : Vc × Nat} (hj : q.D[j]? = some y) (hl : S.ld ≠ y.1.id) (hh : hasB S y.1.id = true) {g cap N : Nat} (hN : N = q.D.length) (hL : q.L = .slice (some ⟨g, 0, none⟩) q.D.length cap) (a2 : Addr) (c2 : Nat) (ha2 : j + 1 < N → a2 = ⟨g, (j + 1) * 11, none⟩) :
    ∃ (g1 c1 : Nat) (w2 : World) (g3 c3 : Nat) (w3 : World),
      (Builtin.append_ #[52, 52] 52 #[.slice (some ⟨w.heap.size, 0, none⟩) 0 0, .slice (some ⟨g, 0, none⟩) j cap]).run Try.prog (w.alloc (.cells #[] 62)).drew = .ok (.slice (some ⟨g1, 0, none⟩) j c1) w2 ∧
      (Builtin.append_ #[52, 52] 52 #[.slice (some ⟨g1, 0, none⟩) j c1, .slice (some a2) (N - (j + 1)) c2]).run Try.prog w2 = .ok (.slice (some ⟨g3, 0, none⟩) (N - 1) c3) w3 ∧
      w2.cell? ⟨q.b, 0, none⟩ = some (.slice (some ⟨g, 0, none⟩) N cap) ∧ w3.cell? ⟨q.b, 0, none⟩ = some (.slice (some ⟨g, 0, none⟩) N cap) ∧ w3.frozen? ⟨q.b, 0, none⟩ = false ∧ ∃ q', ChD w q (w3.setCell ⟨q.b, 0, none⟩ (.slice (some ⟨g3, 0, none⟩) (N - 1) c3)) q' (drpS S y.1.id) := by
  have hf := h.fl
  rw [hL] at hf
  have hlen := h.dlen
  subst hN
  obtain ⟨g1, c1, w2, g3, c3, w3, r1, r2, f1, f2, hg, ho⟩ := fl_cut (T := 52) Try.underlying52 info_one rfl (by omega) (by omega) encO_len encO_one hf (by omega) hj a2 c2 ha2
  have e1 := (h.keep0 f1).row.cell 0
  have e2 := (h.keep0 f2).row.cell 0
  exact ⟨g1, c1, w2, g3, c3, w3, r1, r2, by rw [← hL]; exact e1, by rw [← hL]; exact e2, (h.keep0 f2).row.frozen 0, _, h.cut hj hl hh f2 (fun k hk => by rw [own_slice hk]; exact hg) ho⟩
set_option maxRecDepth 100000 in
set_option maxHeartbeats 4000000 in
theorem ddrop_any (w : World) (q : Qd) (S : Vp) (h : IsD w q S) (id : Int) : Calls Try.prog 23 #[pv q.b, .int .i64 id] w fun e w' => ∃ q', e = .returned (.int .i64 (drpE S id)) ∧ ChD w q w' q' (drpS S id) := by
  have c0 : w.cell? ⟨q.b, 0, none⟩ = some q.L := h.row.cell 0
  have hlen := h.dlen
  obtain ⟨a, cap, hv, hn⟩ := h.fl.form encO_len
  have X := dat_any w q S h id
  have HV : Hid (q.L = .slice a q.D.length cap) := hv
  have HN : Hid (∀ i n, q.D[i]? = some n → ∃ g, a = some ⟨g, 0, none⟩ ∧ (∀ r u, (encO n)[r]? = some u → w.cell? ⟨g, i * 11 + r, none⟩ = some u) ∧ ∀ r, w.frozen? ⟨g, r, none⟩ = false) := hn
  rw [hv] at c0
  have HD : Hid (IsD w q S) := h
  have c2 : w.cell? ⟨q.b, 2, none⟩ = some (.int .i64 S.ld) := h.row.cell 2
  have HC : Hid (ChD w q w q S) := ChD.same h (Fr.refl _ _)
  clear hn hv h
  obtain ⟨N, hNl⟩ : ∃ N, N = q.D.length := ⟨_, rfl⟩
  rw [← hNl] at c0 hlen
  have HL : Hid (N = q.D.length) := hNl
  clear hNl
  go_enter Try.func23, Try.ntmps23
  go_wp2_with fail
  refine X.mono ?_
  clear X
  rintro e w1 ⟨rfl, i, rfl, hp⟩
  rcases hp with ⟨hn, rfl⟩ | ⟨j, y, hj, hid, hf, rfl⟩
  · have HE : Hid (drpE S id = 181 ∧ drpS S id = S) := by
      have hh : hasB S id = false := by unfold hasB; rw [hn]; rfl
      have h1 : drpE S id = 181 := by unfold drpE; rw [hh]; rfl
      exact ⟨h1, by unfold drpS; rw [hh]; rfl⟩
    clear hn
    go_wp2_with fail
    go_ret
    rw [HE.out.1, HE.out.2]
    exact ⟨_, rfl, HC.out⟩
  · have hjN : j < N := by
      rw [HL.out]
      rcases Nat.lt_or_ge j q.D.length with h' | h'
      · exact h'
      · rw [List.getElem?_eq_none h'] at hj; cases hj
    obtain ⟨g, rfl, hc, hz⟩ := HN.out j y hj
    have HJ : Hid (q.D[j]? = some y ∧ y.1.id = id ∧ fnd S.L id = some y.1) := ⟨hj, hid, hf⟩
    have hh : hasB S id = true := has_iff.2 ⟨_, hf⟩
    have j0 : decide ((j : Int) < 0) = false := decide_eq_false (by omega)
    have hcap : N ≤ cap := by
      obtain ⟨_, hh' | ⟨g', cap', cur, hv', _, _, hcc, _⟩⟩ := HD.out.fl
      · rw [HV.out] at hh'; cases hh'.1
      · rw [HV.out] at hv'
        simp only [Value.slice.injEq, Option.some.injEq, Addr.mk.injEq, and_true, true_and] at hv'
        rw [HL.out, hv'.2]
        exact hcc
    have k1 : j ≤ cap := by omega
    have k2 : j + 1 ≤ N := by omega
    have k3 : IntKind.i64.wrap ((j : Int) + 1) = (j : Int) + 1 := by rw [IntKind.wrap_i64]; omega
    have k4 : ((j : Int) + 1).toNat = j + 1 := by omega
    have k5 : (0 : Int) ≤ (j : Int) + 1 := by omega
    have k6 : (j : Int) + 1 ≤ (N : Int) := by omega
    have X0 : True := trivial
    have HE : Hid (drpE S id = 0) := by show drpE S id = 0; unfold drpE; rw [hh]; rfl
    by_cases hl : S.ld = id
    · have d1 : (S.ld == id) = true := by simpa using hl
      have z2 : w1.frozen? ⟨q.b, 2, none⟩ = false := HD.out.row.frozen 2
      have hn1 : id ≠ -1 := by
        have := HD.out.good.pos hf
        omega
      have HCL : Hid (ChD w1 q (w1.setCell ⟨q.b, 2, none⟩ (.int .i64 (-1))) q (leaS S)) := HD.out.setLd (-1) (good_lea HD.out.good)
      have HX : Hid (-1 ≠ id ∧ hasB S id = true ∧ S.ld = id) := ⟨fun e => hn1 e.symm, hh, hl⟩
      clear hc hz hj hid hf hh hl hn1
      go_wp2_with fail
      generalize w1.setCell ⟨q.b, 2, none⟩ (.int .i64 (-1)) = W at *
      have hD := HCL.out.is
      have cW : W.cell? ⟨q.b, 0, none⟩ = some q.L := hD.row.cell 0
      rw [HV.out, ← HL.out] at cW
      have cA := cell_keep ((Fr.refl none' W).alloc (.cells #[] 62)) cW (fun h => h)
      have HD' : Hid (∀ (a2 : Addr) (c2 : Nat) (ha2 : j + 1 < N → a2 = ⟨g, (j + 1) * 11, none⟩), _) := fun a2 c2 ha2 => hD.drops HJ.out.1 (by show (-1 : Int) ≠ y.1.id; rw [HJ.out.2.1]; exact HX.out.1) (by rw [HJ.out.2.1]; exact HX.out.2.1) HL.out HV.out a2 c2 ha2
      have HS : Hid (drpS (leaS S) y.1.id = drpS S id) := by rw [HJ.out.2.1]; exact drp_lea HX.out.2.1 HX.out.2.2
      clear hD
      clear X0
      by_cases hc : cap = j + 1
      · obtain ⟨g1, c1, w2, g3, c3, w3, hrun1, hrun2, e2, e3, e4, hC⟩ := HD'.out ⟨g, 0, none⟩ 0 (fun _ => by omega)
        obtain rfl : N = j + 1 := by omega
        subst hc
        have k7 : (j : Int) ≤ (j : Int) + 1 := by omega
        rw [show j + 1 - (j + 1) = 0 by omega, show j + 1 - 1 = j by omega] at hrun2
        rw [show j + 1 - 1 = j by omega] at hC
        have HZ : Hid _ := hC
        clear hC HD'
        go_wp2_with fail
        go_region_law (first | (refine step_append_run rfl (.tmp 21) (.tmp 27) 52 rfl _ _ _ _ rfl rfl hrun1 ?_) | (refine step_append_run rfl (.tmp 28) (.tmp 35) 52 rfl _ _ _ _ rfl rfl hrun2 ?_))
        all_goals go_wp2_with fail
        all_goals go_ret
        all_goals rw [HE.out]
        all_goals obtain ⟨q', hq⟩ := HZ.out
        all_goals exact ⟨q', rfl, (by rw [← HS.out]; exact HCL.out.trans hq)⟩
      · obtain ⟨g1, c1, w2, g3, c3, w3, hrun1, hrun2, e2, e3, e4, hC⟩ := HD'.out ⟨g, (j + 1) * 11, none⟩ (cap - (j + 1)) (fun _ => rfl)
        have HZ : Hid _ := hC
        clear hC HD'
        go_wp2_with fail
        go_region_law (first | (refine step_append_run rfl (.tmp 21) (.tmp 27) 52 rfl _ _ _ _ rfl rfl hrun1 ?_) | (refine step_append_run rfl (.tmp 28) (.tmp 35) 52 rfl _ _ _ _ rfl rfl hrun2 ?_))
        all_goals go_wp2_with fail
        all_goals go_ret
        all_goals rw [HE.out]
        all_goals obtain ⟨q', hq⟩ := HZ.out
        all_goals exact ⟨q', rfl, (by rw [← HS.out]; exact HCL.out.trans hq)⟩
    · have d1 : (S.ld == id) = false := by simpa using hl
      have hD := HD.out
      have cA := cell_keep ((Fr.refl none' w1).alloc (.cells #[] 62)) c0 (fun h => h)
      have HD' : Hid (∀ (a2 : Addr) (c2 : Nat) (ha2 : j + 1 < N → a2 = ⟨g, (j + 1) * 11, none⟩), _) := fun a2 c2 ha2 => hD.drops HJ.out.1 (by rw [HJ.out.2.1]; exact hl) (by rw [HJ.out.2.1]; exact hh) HL.out HV.out a2 c2 ha2
      have HS : Hid (drpS S y.1.id = drpS S id) := by show drpS S y.1.id = drpS S id; rw [HJ.out.2.1]
      clear hD hc hz hj hid hf hh hl
      clear X0
      by_cases hc : cap = j + 1
      · obtain ⟨g1, c1, w2, g3, c3, w3, hrun1, hrun2, e2, e3, e4, hC⟩ := HD'.out ⟨g, 0, none⟩ 0 (fun _ => by omega)
        obtain rfl : N = j + 1 := by omega
        subst hc
        have k7 : (j : Int) ≤ (j : Int) + 1 := by omega
        rw [show j + 1 - (j + 1) = 0 by omega, show j + 1 - 1 = j by omega] at hrun2
        rw [show j + 1 - 1 = j by omega] at hC
        have HZ : Hid _ := hC
        clear hC HD'
        go_wp2_with fail
        go_region_law (first | (refine step_append_run rfl (.tmp 21) (.tmp 27) 52 rfl _ _ _ _ rfl rfl hrun1 ?_) | (refine step_append_run rfl (.tmp 28) (.tmp 35) 52 rfl _ _ _ _ rfl rfl hrun2 ?_))
        all_goals go_wp2_with fail
        all_goals go_ret
        all_goals rw [HE.out]
        all_goals obtain ⟨q', hq⟩ := HZ.out
        all_goals exact ⟨q', rfl, (by rw [← HS.out]; exact hq)⟩
      · obtain ⟨g1, c1, w2, g3, c3, w3, hrun1, hrun2, e2, e3, e4, hC⟩ := HD'.out ⟨g, (j + 1) * 11, none⟩ (cap - (j + 1)) (fun _ => rfl)
        have HZ : Hid _ := hC
        clear hC HD'
        go_wp2_with fail
        go_region_law (first | (refine step_append_run rfl (.tmp 21) (.tmp 27) 52 rfl _ _ _ _ rfl rfl hrun1 ?_) | (refine step_append_run rfl (.tmp 28) (.tmp 35) 52 rfl _ _ _ _ rfl rfl hrun2 ?_))
        all_goals go_wp2_with fail
        all_goals go_ret
        all_goals rw [HE.out]
        all_goals obtain ⟨q', hq⟩ := HZ.out
        all_goals exact ⟨q', rfl, (by rw [← HS.out]; exact hq)⟩

end Go.Proofs.Ythkieoedidpkaaa
