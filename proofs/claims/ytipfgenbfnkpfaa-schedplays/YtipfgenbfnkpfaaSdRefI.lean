/-
  The document's Tick over the translation: the last way; and Settle's ways joined. No statement is proved here.
-/
import Derived.Test.YtipfgenbfnkpfaaSdRefH
namespace Go.Proofs.Ytipfgenbfnkpfaa
open Go.RowKit Go.Maps Go.WideMaps

set_option maxRecDepth 100000 in
set_option maxHeartbeats 4000000 in
theorem rtick_c (w : World) (q : Db) (S : Sd) (Q : List Int) (h : IsD w q S Q) (gt : GoodT S) (hc : S.c ≠ -1) (hf : fnd S.L S.c = some (curT S)) (hs : 2 ≤ (curT S).s) (hl : Q.length ≤ 5000) :
    Calls Try.prog 36 #[.pointer (some ⟨q.b, 0, none⟩)] w fun e w' => ∃ v, e = .returned v ∧ ∃ q', ChgD w q w' q' (ticS S) (ticQ S Q) := by
  obtain ⟨r1, r2, r3⟩ := speS_rest S
  have htn : (speS S).tn < (speS S).tb.length := by rw [r1, r2]; exact gt.tn
  have l0 := gt.l0
  have l1 := gt.l1
  obtain ⟨k, hk⟩ := fnd_ix hf
  have A := rat_at h hf hk
  have hkl := lt_of_get hk
  have hti := fnd_i hf
  have okt := h.good.all _ (List.mem_of_getElem? hk)
  have s1 := okt.s1
  obtain ⟨av, cp, hv, _, hn⟩ := h.formL
  obtain ⟨g, rfl, hgb, _, _, _, cs, _, zz⟩ := hn k _ hk
  have z4 := zz (k * 5 + 3)
  have k3 := h.cells.2.2.2.1
  have k5 := h.cells.2.2.2.2.2
  rw [hv] at k3
  have j1 : 0 ≤ (k : Int) ∧ (k : Int) < (S.L.length : Int) := by omega
  have j2 : decide (0 ≤ (k : Int)) = true := decide_eq_true (by omega)
  have C1 := h.setT hk hv (f := setSl ((curT S).s - 1)) (fun _ => rfl) (okt.setSl (by omega) (by omega)) (r := 3) (by omega) (u := .int .i64 ((curT S).s - 1)) rfl
  rw [hti] at C1
  have fd := (Fr.refl none' (w.setCell ⟨g, k * 5 + 3, none⟩ (.int .i64 ((curT S).s - 1)))).drew
  have C1d := C1.trans (ChgD.same C1.is fd)
  have hws : wrap64 ((curT S).s - 1) = (curT S).s - 1 := by unfold wrap64; omega
  have hws2 : IntKind.i64.wrap ((curT S).s - 1) = (curT S).s - 1 := by rw [IntKind.wrap_i64]; omega
  have hgb' : q.b ≠ g := fun e => hgb e.symm
  have es : speS S = { S with L := upd S.L S.c (setSl ((curT S).s - 1)) } := by unfold speS; rw [if_neg hc]; dsimp only; rw [if_neg (by omega)]
  have eq : speQ S Q = Q := by unfold speQ; rw [if_neg hc, if_neg (by omega)]
  have hc1 : (speS S).c = S.c := by rw [es]
  have HC : Hid (ChgD w q (w.setCell ⟨g, k * 5 + 3, none⟩ (.int .i64 ((curT S).s - 1))).drew q (speS S) (speQ S Q)) := by
    show ChgD _ _ _ _ _ _
    rw [es, eq]
    exact C1d
  have HW : Hid ((w.setCell ⟨g, k * 5 + 3, none⟩ (.int .i64 ((curT S).s - 1))).drew.cell? ⟨q.b, 3, none⟩ = some (.slice (some ⟨g, 0, none⟩) S.L.length cp) ∧ (w.setCell ⟨g, k * 5 + 3, none⟩ (.int .i64 ((curT S).s - 1))).drew.cell? ⟨g, k * 5 + 3, none⟩ = some (.int .i64 ((curT S).s - 1))) := by
    have hk2 : (upd S.L S.c (setSl ((curT S).s - 1)))[k]? = some (setSl ((curT S).s - 1) (curT S)) := by
      have := upd_at h.good hk (setSl ((curT S).s - 1))
      rw [hti] at this
      rw [this, List.getElem?_set, if_pos rfl, if_pos hkl]
    obtain ⟨a', cp', hv', _, hn'⟩ := C1d.is.formL
    obtain ⟨g', e', _, _, _, _, cs', _⟩ := hn' k _ hk2
    have c3' := C1d.is.cells.2.2.2.1
    rw [hv] at hv' c3'
    simp only [Value.slice.injEq] at hv'
    rw [← hv'.1] at e'
    simp only [Option.some.injEq, Addr.mk.injEq, and_true] at e'
    subst e'
    exact ⟨c3', cs'⟩
  have hl1 : (speQ S Q).length ≤ 5000 := by rw [eq]; exact hl
  have cpos := (fnd_pos h.good hf).1
  have j4 : decide ((curT S).s - 1 ≤ 0) = false := decide_eq_false (by omega)
  have j5 : ¬ (curT S).s ≤ 1 := by omega
  have j6 : decide (0 ≤ S.c) = true := decide_eq_true cpos
  by_cases hlf : S.lf = 1
  · have hsf : (speS S).lf = 1 := by rw [r3]; exact hlf
    have hlt := nexN_lt htn
    have hpos : 0 < (speS S).tb.length := Nat.lt_of_le_of_lt (Nat.zero_le _) hlt
    have hz : (((speS S).tb.length : Int) == 0) = false := beq_eq_false_iff_ne.2 (fun e => Nat.ne_of_gt hpos (Int.ofNat.inj e))
    have hle : (speS S).tb.length ≤ 8 := by rw [r1]; exact gt.len
    have i1 : 0 ≤ ((nexN (speS S) : Nat) : Int) ∧ ((nexN (speS S) : Nat) : Int) < ((speS S).tb.length : Int) := ⟨Int.natCast_nonneg _, Int.ofNat_lt.2 hlt⟩
    have i2 : ((speS S).tn : Int) + 1 ≤ 8 := by clear hlt hz; omega
    have hw : wrap64 (((speS S).tn : Int) + 1) = ((speS S).tn : Int) + 1 := by clear hlt hz i1; unfold wrap64; omega
    have hmod : (((speS S).tn : Int) + 1) % ((speS S).tb.length : Int) = ((nexN (speS S) : Nat) : Int) := by unfold nexN; rw [Int.natCast_emod]; rfl
    by_cases hfr : (speS S).c ≠ -1 ∧ pe (turS { speS S with lf := 0 }) ≠ pe { speS S with lf := 0 }
    · have t1 : (pe (turS { speS S with lf := 0 }) == pe { speS S with lf := 0 }) = false := beq_eq_false_iff_ne.2 hfr.2
      have ea : ticS S = back (turS { speS S with lf := 0 }) gFront := by
        unfold ticS
        dsimp only
        rw [r3, if_pos hlf]
        unfold nexS
        rw [if_pos hfr]
      have eb : ticQ S Q = (speS S).c :: speQ S Q := by unfold ticQ; rw [if_pos hlf, if_pos hfr]
      have HB : Hid (∀ W q1 g cap, ChgD w q W q1 (speS S) (speQ S Q) → q1.T = .slice (some ⟨g, 0, none⟩) (speS S).tb.length cap → P2b q.b g (speS S).tb.length cap (speS S).tn (nexN (speS S)) (turS { speS S with lf := 0 }).lf (pe { speS S with lf := 0 }) (pe (turS { speS S with lf := 0 })) (speS S).c (fun W => Calls Try.prog 59 #[.pointer (some ⟨q.b, 0, none⟩)] W fun e w6 => ∃ v, e = .returned v ∧ Hid (∃ q', ChgD w q w6 q' (ticS S) (ticQ S Q))) W) := fun W q1 g cap C hv => p2b_of C hsf htn hv (fun w' q' C' => by
        have F := rfront_any w' q' _ _ C'.is hl1
        rw [C'.b] at F
        refine F.mono ?_
        rintro e w6 ⟨v, rfl, q6, C6, _⟩
        exact ⟨v, rfl, q6, by rw [ea, eb]; exact (C'.trans C6).of rfl rfl rfl rfl rfl⟩)
      obtain ⟨gt', cap', hv', hgt, _⟩ := tbl_cell HC.out.is hpos
      have P := HB.out _ _ _ _ HC.out hv'
      rw [hc1] at P
      have HP : Hid _ := P
      clear P
      have hgt' : q.b ≠ gt' := fun e => hgt e.symm
      clear h gt r1 r2 r3 htn l0 l1 hf hk hkl hti okt s1 hv hn zz C1 C1d fd hgb hfr ea eb HB HC hv' hc hc1 es eq hlf hsf hlt hle hl1 cpos hpos
      generalize ticS S = X at *
      generalize ticQ S Q = Y at *
      generalize (turS { speS S with lf := 0 }).lf = lf' at *
      generalize pe (turS { speS S with lf := 0 }) = d1 at *
      generalize pe { speS S with lf := 0 } = d0 at *
      generalize nexN (speS S) = nx at *
      generalize (speS S).tb.length = m at *
      generalize (speS S).tn = tn at *
      generalize (speS S).lf = lf at *
      generalize speQ S Q = QQ at *
      generalize speS S = SS at *
      generalize S.c = cc at *
      generalize S.L.length = N at *
      generalize (curT S).s = sl at *
      go_enter Try.func36, Try.ntmps36
      go_wp2_with (go_at_call 55; refine A.mono ?_; rintro e wx ⟨rfl, rfl⟩)
      go_region
      all_goals obtain ⟨k3', cs'⟩ := HW.out
      all_goals obtain ⟨c2, z2, HD⟩ := HP.out
      all_goals clear HP HW
      all_goals generalize (wx.setCell ⟨g, k * 5 + 3, none⟩ (.int .i64 (sl - 1))).drew = W0 at *
      all_goals go_wp2_with (first | (go_at_call 38; refine HD.out.mono ?_; rintro e w3 ⟨rfl, k0, k1, k2, z1, z3, kx, HD2⟩))
      all_goals go_region
      all_goals go_wp2_with fail
      all_goals go_region
      all_goals go_wp2_with (first | (go_at_call 38; refine (HD2.out _ _ _ (by first | exact Fr.refl none' _ | exact (Fr.refl none' _).drew) (by first | exact (Fr.refl none' _).drew | exact Fr.refl none' _) (by first | exact (Fr.refl none' _).drew | exact Fr.refl none' _)).mono ?_; rintro e w5 ⟨rfl, k5, HR⟩) | (go_at_call 59; refine Calls.mono HR.out ?_; rintro e w6 ⟨v, rfl, HE⟩))
      all_goals refine post_void rfl rfl fun v => ?_
      all_goals exact ⟨v, rfl, HE.out⟩
    · have t1 : (pe (turS { speS S with lf := 0 }) == pe { speS S with lf := 0 }) = true := beq_iff_eq.2 (Classical.byContradiction fun hn => hfr ⟨by rw [hc1]; exact hc, hn⟩)
      have ea : ticS S = turS { speS S with lf := 0 } := by
        unfold ticS
        dsimp only
        rw [r3, if_pos hlf]
        unfold nexS
        rw [if_neg hfr]
      have eb : ticQ S Q = speQ S Q := by unfold ticQ; rw [if_pos hlf, if_neg hfr]
      have HB : Hid (∀ W q1 g cap, ChgD w q W q1 (speS S) (speQ S Q) → q1.T = .slice (some ⟨g, 0, none⟩) (speS S).tb.length cap → P2b q.b g (speS S).tb.length cap (speS S).tn (nexN (speS S)) (turS { speS S with lf := 0 }).lf (pe { speS S with lf := 0 }) (pe (turS { speS S with lf := 0 })) (speS S).c (fun W => ∃ q', ChgD w q W q' (ticS S) (ticQ S Q)) W) := fun W q1 g cap C hv => p2b_of C hsf htn hv (fun w' q' C' => ⟨q', by rw [ea, eb]; exact C'⟩)
      obtain ⟨gt', cap', hv', hgt, _⟩ := tbl_cell HC.out.is hpos
      have P := HB.out _ _ _ _ HC.out hv'
      rw [hc1] at P
      have HP : Hid _ := P
      clear P
      have hgt' : q.b ≠ gt' := fun e => hgt e.symm
      clear h gt r1 r2 r3 htn l0 l1 hf hk hkl hti okt s1 hv hn zz C1 C1d fd hgb hfr ea eb HB HC hv' hc hc1 es eq hlf hsf hlt hle hl1 cpos hpos
      generalize ticS S = X at *
      generalize ticQ S Q = Y at *
      generalize (turS { speS S with lf := 0 }).lf = lf' at *
      generalize pe (turS { speS S with lf := 0 }) = d1 at *
      generalize pe { speS S with lf := 0 } = d0 at *
      generalize nexN (speS S) = nx at *
      generalize (speS S).tb.length = m at *
      generalize (speS S).tn = tn at *
      generalize (speS S).lf = lf at *
      generalize speQ S Q = QQ at *
      generalize speS S = SS at *
      generalize S.c = cc at *
      generalize S.L.length = N at *
      generalize (curT S).s = sl at *
      go_enter Try.func36, Try.ntmps36
      go_wp2_with (go_at_call 55; refine A.mono ?_; rintro e wx ⟨rfl, rfl⟩)
      go_region
      all_goals obtain ⟨k3', cs'⟩ := HW.out
      all_goals obtain ⟨c2, z2, HD⟩ := HP.out
      all_goals clear HP HW
      all_goals generalize (wx.setCell ⟨g, k * 5 + 3, none⟩ (.int .i64 (sl - 1))).drew = W0 at *
      all_goals go_wp2_with (first | (go_at_call 38; refine HD.out.mono ?_; rintro e w3 ⟨rfl, k0, k1, k2, z1, z3, kx, HD2⟩))
      all_goals go_region
      all_goals go_wp2_with fail
      all_goals go_region
      all_goals go_wp2_with (go_at_call 38; refine (HD2.out _ _ _ (by first | exact Fr.refl none' _ | exact (Fr.refl none' _).drew) (by first | exact (Fr.refl none' _).drew | exact Fr.refl none' _) (by first | exact (Fr.refl none' _).drew | exact Fr.refl none' _)).mono ?_; rintro e w5 ⟨rfl, k5, HR⟩)
      all_goals refine post_void rfl rfl fun v => ?_
      all_goals exact ⟨v, rfl, HR.out⟩
  · have ea : ticS S = { speS S with lf := (speS S).lf - 1 } := by unfold ticS; dsimp only; rw [r3, if_neg hlf]
    have eb : ticQ S Q = speQ S Q := by unfold ticQ; rw [if_neg hlf]
    have t1 : decide (0 < (speS S).lf - 1) = true := decide_eq_true (by rw [r3]; omega)
    have t2 : 1 < (speS S).lf := by rw [r3]; omega
    have t3 : decide (1 < (speS S).lf) = true := decide_eq_true t2
    have hw : wrap64 ((speS S).lf - 1) = (speS S).lf - 1 := by rw [r3]; unfold wrap64; omega
    have HA : Hid (∀ W q1, ChgD w q W q1 (speS S) (speQ S Q) → P2a q.b (speS S).lf (fun W => ∃ q', ChgD w q W q' (ticS S) (ticQ S Q)) W) := fun W q1 C => p2a_of C (fun w' q' C' => ⟨q', by rw [ea, eb]; exact C'⟩)
    have HP : Hid _ := HA.out _ _ HC.out
    clear h gt r1 r2 htn l0 l1 hf hk hkl hti okt s1 hv hn zz C1 C1d fd hgb ea eb HA HC hc hc1 es eq hlf hl1 cpos
    generalize ticS S = X at *
    generalize ticQ S Q = Y at *
    generalize (turS { speS S with lf := 0 }).lf = lf' at *
    generalize pe (turS { speS S with lf := 0 }) = d1 at *
    generalize pe { speS S with lf := 0 } = d0 at *
    generalize nexN (speS S) = nx at *
    generalize (speS S).tb.length = m at *
    generalize (speS S).tn = tn at *
    generalize (speS S).lf = lf at *
    generalize speQ S Q = QQ at *
    generalize speS S = SS at *
    clear r3
    generalize S.c = cc at *
    generalize S.L.length = N at *
    generalize (curT S).s = sl at *
    go_enter Try.func36, Try.ntmps36
    go_wp2_with (go_at_call 55; refine A.mono ?_; rintro e wx ⟨rfl, rfl⟩)
    go_region
    all_goals obtain ⟨k3', cs'⟩ := HW.out
    all_goals obtain ⟨c2, z2, HR⟩ := HP.out
    all_goals clear HP HW
    all_goals generalize (wx.setCell ⟨g, k * 5 + 3, none⟩ (.int .i64 (sl - 1))).drew = W0 at *
    all_goals go_wp2_with fail
    all_goals refine ret_void rfl rfl fun v => ?_
    all_goals exact ⟨v, rfl, HR.out⟩

theorem rtick_any (w : World) (q : Db) (S : Sd) (Q : List Int) (h : IsD w q S Q) (ok : Ok S) (hl : Q.length ≤ 5000) :
    Calls Try.prog 36 #[.pointer (some ⟨q.b, 0, none⟩)] w fun e w' => ∃ v, e = .returned v ∧ ∃ q', ChgD w q w' q' (ticS S) (ticQ S Q) := by
  by_cases hc : S.c = -1
  · exact rtick_a w q S Q h ok.t hc
  · have hf := (ok.q.get hc).1
    have := ok.q.sl _ (fnd_mem hf).1
    by_cases hs : (curT S).s = 1
    · exact rtick_b w q S Q h ok.t hc hf hs hl
    · exact rtick_c w q S Q h ok.t hc hf (by omega) hl
theorem rsettle_any (w : World) (q : Db) (S : Sd) (Q : List Int) (h : IsD w q S Q) (ok : Ok S) (hl : Q.length ≤ 4000) (hq : ∀ x ∈ Q, ∃ t, fnd S.L x = some t) (h1 : (S.c = -1 ∨ (curT S).d = pe S) → HigOk S Q) (h2 : S.c ≠ -1 → (curT S).d ≠ pe S → HigOk (back S gEnd) (Q ++ [S.c])) :
    Calls Try.prog 37 #[.pointer (some ⟨q.b, 0, none⟩)] w fun e w' => ∃ v, e = .returned v ∧ ∃ q', ChgD w q w' q' (setS S) (setQ S Q) := by
  by_cases hc : S.c = -1
  · exact rset_a w q S Q h ok.t hc (by omega) hq (h1 (Or.inl hc))
  · have hf := (ok.q.get hc).1
    by_cases hd : (curT S).d = pe S
    · exact rset_b w q S Q h ok.t hc hf hd (by omega) hq (h1 (Or.inr hd))
    · exact rset_c w q S Q h ok.t hc hf hd (by simp; omega) hq (h2 hc hd)

end Go.Proofs.Ytipfgenbfnkpfaa
