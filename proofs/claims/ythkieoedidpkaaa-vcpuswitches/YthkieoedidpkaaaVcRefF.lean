/-
  The document's Tick over the translation. No statement is proved here.
-/
import Derived.Test.YthkieoedidpkaaaVcRefC
import Derived.Deep.RegionWith
import Derived.Deep.QuietTactic
import Derived.BigQuiet
namespace Go.Proofs.Ythkieoedidpkaaa
open Go.RowKit Go.Maps Go.WideMaps

theorem sl_inj {a : Option Addr} {g gF : Nat} {n m c d : Nat} {v : Value} (h1 : .slice a n c = v) (h2 : v = .slice (some ⟨g, 0, none⟩) m d) (h3 : a = some ⟨gF, 0, none⟩) : gF = g := by
  rw [h2, h3] at h1
  simp at h1
  exact h1.1
theorem bne_flip (a b : Int) : (a != b) = !(b == a) := by
  show (!(a == b)) = _
  rw [Bool.beq_comm]
set_option maxRecDepth 100000 in
set_option maxHeartbeats 4000000 in
theorem dtick_any (w : World) (q : Qd) (S : Vp) (h : IsD w q S) : Calls Try.prog 33 #[pv q.b] w fun e w' => ∃ q', e = .returned (.bool (tckB S)) ∧ ChD w q w' q' (tckS S) := by
  have c0 : w.cell? ⟨q.b, 0, none⟩ = some q.L := h.row.cell 0
  have hlen := h.dlen
  obtain ⟨a, cap, hv, hn⟩ := h.fl.form encO_len
  have X := dat_any w q S h S.ld
  have HV : Hid (q.L = .slice a q.D.length cap) := hv
  have HN : Hid (∀ i n, q.D[i]? = some n → ∃ g, a = some ⟨g, 0, none⟩ ∧ (∀ r u, (encO n)[r]? = some u → w.cell? ⟨g, i * 11 + r, none⟩ = some u) ∧ ∀ r, w.frozen? ⟨g, r, none⟩ = false) := hn
  rw [hv] at c0
  have HD : Hid (IsD w q S) := h
  have c2 : w.cell? ⟨q.b, 2, none⟩ = some (.int .i64 S.ld) := h.row.cell 2
  have HC : Hid (ChD w q w q S) := ChD.same h (Fr.refl _ _)
  clear hn hv h
  obtain ⟨N, hNl⟩ : ∃ N, N = q.D.length := ⟨_, rfl⟩
  rw [← hNl] at c0 hlen
  have HL : Hid (N = q.D.length) := hNl
  clear hNl
  have hgl := HD.out.good.ld
  go_enter Try.func33, Try.ntmps33
  go_wp2_with fail
  refine X.mono ?_
  clear X
  rintro e w1 ⟨rfl, i, rfl, hp⟩
  rcases hp with ⟨hn, rfl⟩ | ⟨j, y, hj, hid, hf, rfl⟩
  · have hl : S.ld = -1 := by
      rcases hgl with h1 | h1
      · exact h1
      · unfold hasB at h1
        rw [hn] at h1
        cases h1
    have HE : Hid (tckB S = false ∧ tckS S = S) := ⟨by unfold tckB; rw [if_pos hl], by unfold tckS; rw [if_pos hl]⟩
    have e1 : decide (S.ld < 0) = true := decide_eq_true (by omega)
    clear hn hl hgl
    go_wp2_with fail
    go_ret
    rw [HE.out.1, HE.out.2]
    exact ⟨_, rfl, HC.out⟩
  · have hjN : j < N := by
      rw [HL.out]
      rcases Nat.lt_or_ge j q.D.length with h' | h'
      · exact h'
      · rw [List.getElem?_eq_none h'] at hj; cases hj
    obtain ⟨g, rfl, hc, hz⟩ := HN.out j y hj
    have HJ : Hid (q.D[j]? = some y ∧ y.1.id = S.ld ∧ fnd S.L S.ld = some y.1) := ⟨hj, hid, hf⟩
    have hh : hasB S S.ld = true := has_iff.2 ⟨_, hf⟩
    have j0 : decide ((j : Int) < 0) = false := decide_eq_false (by omega)
    have hps := HD.out.good.pos hf
    have e1 : decide (S.ld < 0) = false := decide_eq_false (by omega)
    have hn1 : S.ld ≠ -1 := by omega
    have hbk : bkF S = y.1.sy := bk_some hf
    have d5 : w1.cell? ⟨g, j * 11 + 2 + 5, none⟩ = some (.int .u32 (y.1.sy 5)) := hc 7 _ rfl
    have z5 : w1.frozen? ⟨g, j * 11 + 2 + 5, none⟩ = false := hz _
    have HT : Hid (ChD w1 q (w1.setCell ⟨g, j * 11 + 2 + 5, none⟩ (.int .u32 (IntKind.u32.wrap (y.1.sy 5 + 1)))) { q with D := q.D.set j (set1R 5 (IntKind.u32.wrap (y.1.sy 5 + 1)) y.1, y.2) } (tick1 S)) := by
      have hs : tick1 S = { S with L := upd S.L S.ld (set1R 5 (IntKind.u32.wrap (y.1.sy 5 + 1))) } := by unfold tick1; rw [hbk]
      have e := HD.out.set (f := set1R 5 (IntKind.u32.wrap (y.1.sy 5 + 1))) (r := 7) (v := .int .u32 (IntKind.u32.wrap (y.1.sy 5 + 1))) hj HV.out (by omega) rfl rfl (HD.out.good.upd1 _ (fun _ => rfl) (fun _ => rfl))
      rw [hid] at e
      rw [hs]
      exact e
    have HJ2 : Hid ((q.D.set j (set1R 5 (IntKind.u32.wrap (y.1.sy 5 + 1)) y.1, y.2))[j]? = some (set1R 5 (IntKind.u32.wrap (y.1.sy 5 + 1)) y.1, y.2)) := by
      show (q.D.set j _)[j]? = _
      rw [List.getElem?_set, if_pos rfl, if_pos (by rw [← HL.out]; exact hjN)]
    have HE : Hid ((dueB S = false → tckB S = false ∧ tckS S = tick1 S) ∧ (dueB S = true → tckB S = (ijE (tick1 S) S.ld 27 10 == 0) ∧ tckS S = ijS (tick1 S) S.ld 27 10 false)) := by
      refine ⟨fun e => ?_, fun e => ?_⟩ <;> (unfold tckB tckS; rw [if_neg hn1, if_neg hn1, e]; exact ⟨rfl, rfl⟩)
    have HF1 : Hid (fnd (tick1 S).L S.ld = some (set1R 5 (IntKind.u32.wrap (y.1.sy 5 + 1)) y.1)) := by
      show fnd (upd S.L S.ld (set1R 5 (IntKind.u32.wrap (bkF S 5 + 1)))) S.ld = _
      rw [fnd_upd1 S.L S.ld (f := set1R 5 (IntKind.u32.wrap (bkF S 5 + 1))) (fun _ => rfl), if_pos rfl, hf, hbk]
      rfl
    have HDU : Hid (∀ a b, (y.1.sy 3 == 0) = a → (IntKind.u32.wrap (y.1.sy 5 + 1) == y.1.sy 3) = b → dueB S = (!a && b)) := fun a b e1 e2 => by
      have h1 : bkF (tick1 S) = (set1R 5 (IntKind.u32.wrap (y.1.sy 5 + 1)) y.1).sy := bk_some HF1.out
      unfold dueB
      rw [h1, ← e1, ← e2]
      rfl
    have HIJ : Hid (ijE (tick1 S) S.ld 27 10 = injE y.1.vg 27 10 ∧ ijS (tick1 S) S.ld 27 10 false = { tick1 S with L := upd (tick1 S).L y.1.id (setV (injS y.1.vg 27 10 false)) }) := by
      have h2 : hasB (tick1 S) S.ld = true := has_iff.2 ⟨_, HF1.out⟩
      refine ⟨?_, ?_⟩
      · unfold ijE
        rw [if_pos h2, vg_some HF1.out]
        rfl
      · unfold ijS
        rw [if_pos h2, vg_some HF1.out, hid]
        rfl
    clear hc hz hj hid hf hh hgl hps hn1 hbk
    go_wp2_with fail
    go_region_with fail
    all_goals have C1 : ChD w1 q (w1.setCell ⟨g, j * 11 + 2 + 5, none⟩ (.int .u32 (IntKind.u32.wrap (y.1.sy 5 + 1)))).drew { q with D := q.D.set j (set1R 5 (IntKind.u32.wrap (y.1.sy 5 + 1)) y.1, y.2) } (tick1 S) := HT.out.after (Fr.refl none' _).drew
    all_goals generalize (w1.setCell ⟨g, j * 11 + 2 + 5, none⟩ (.int .u32 (IntKind.u32.wrap (y.1.sy 5 + 1)))).drew = W at *
    all_goals have cW : W.cell? ⟨q.b, 0, none⟩ = some q.L := C1.is.row.cell 0
    all_goals rw [HV.out, ← HL.out] at cW
    all_goals obtain ⟨aF, capF, hvF, hnF⟩ := C1.is.fl.form encO_len
    all_goals obtain ⟨gF, eF, hcF, _⟩ := hnF j _ HJ2.out
    all_goals have egG := sl_inj (hvF.symm.trans (rfl : q.L = q.L)) HV.out eF
    all_goals subst egG
    all_goals have D3 : W.cell? ⟨gF, j * 11 + 2 + 3, none⟩ = some (.int .u32 (y.1.sy 3)) := hcF 5 _ rfl
    all_goals have D5 : W.cell? ⟨gF, j * 11 + 2 + 5, none⟩ = some (.int .u32 (IntKind.u32.wrap (y.1.sy 5 + 1))) := hcF 7 _ rfl
    all_goals have D10 : W.cell? ⟨gF, j * 11 + 10, none⟩ = some (pv y.2) := hcF 10 _ rfl
    all_goals have Y := fun n => rinject_any (W.drewN n) y.2 y.1.vg ((C1.is.vs (set1R 5 (IntKind.u32.wrap (y.1.sy 5 + 1)) y.1, y.2) (List.mem_of_getElem? HJ2.out)).keep0 (fr_drewN W n)) 27 10 false
    all_goals have HC1 : Hid _ := C1
    all_goals clear C1 HT hvF hnF hcF eF d5 z5
    all_goals generalize IntKind.u32.wrap (y.1.sy 5 + 1) = V5 at *
    all_goals cases e3 : y.1.sy 3 == 0
    all_goals cases e5 : V5 == y.1.sy 3
    all_goals have e5' := bne_flip (y.1.sy 3) V5
    all_goals rw [e5] at e5'
    all_goals have HD2 : Hid _ := HDU.out _ _ e3 e5
    all_goals clear HDU
    all_goals go_wp2_with fail
    all_goals go_quiet (fail)
    all_goals go_wp2_with fail
    all_goals first
      | (refine (Y _).mono ?_
         clear Y
         rintro e w3 ⟨rfl, c⟩
         have HZ : Hid (∃ q', ChD w1 q w3 q' (tckS S)) := by
           rw [(HE.out.2 HD2.out).2, HIJ.out.2]
           exact ⟨_, HC1.out.trans (ChD.before (fr_drewN W _) HC1.out.is ((HC1.out.is.keep0 (fr_drewN W _)).setVg (y := (set1R 5 V5 y.1, y.2)) HJ2.out c))⟩
         clear c
         go_wp2_with fail
         go_ret
         rw [(HE.out.2 HD2.out).1, HIJ.out.1]
         obtain ⟨q', hq⟩ := HZ.out
         exact ⟨q', rfl, hq⟩)
      | (go_ret
         rw [(HE.out.1 HD2.out).1, (HE.out.1 HD2.out).2]
         first | exact ⟨_, rfl, HC1.out⟩ | exact ⟨_, rfl, HC1.out.after (fr_drewN W _)⟩)

end Go.Proofs.Ythkieoedidpkaaa
