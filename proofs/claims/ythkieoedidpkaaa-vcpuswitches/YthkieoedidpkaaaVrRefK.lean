/-
  The contract of the document's Ack over the translation. No statement is proved here.
-/
import Derived.Test.YthkieoedidpkaaaVrRefN
namespace Go.Proofs.Ythkieoedidpkaaa
open Go.RowKit

theorem IsRt.drew {w : World} {b : Nat} {T : Nat → One} {S : Vg} (h : IsRt w b T S) : IsRt w.drew b T S := h.keep (Fr.refl none' w).drew (fun h => h)

set_option maxRecDepth 100000 in
set_option maxHeartbeats 2000000 in
theorem rack_any (w : World) (b : Nat) (S : Vg) (h : IsRv w b S) :
    Calls Try.prog 37 #[.pointer (some ⟨b, 0, none⟩)] w fun e w' => e = .returned (.int .i64 (ackA S)) ∧ Rch w b (ackS S) w' := by
  obtain ⟨⟨T, hT, hR⟩, hg⟩ := h
  have hn := rnext_any w b T S hT hR
  unfold ackA ackS
  cases ho : nextO S with
  | none =>
    rw [ho] at hn
    replace hn : Calls Try.prog 55 #[.pointer (some ⟨b, 0, none⟩)] w fun e w' => e = .returned (.tuple #[.int .i64 0, .bool false]) ∧ Fr none' w w' := hn
    go_enter Try.func37, Try.ntmps37
    go_wp2_with fail
    refine hn.mono ?_
    rintro e w1 ⟨rfl, f1⟩
    go_wp2_with fail
    go_ret
    exact ⟨rfl, Rch.same ⟨⟨T, hT, hR⟩, hg⟩ f1⟩
  | some k =>
    have hk := next_lt ho
    obtain ⟨p, l, hp, hac, -⟩ := next_some ho
    rw [ho] at hn
    replace hn : Calls Try.prog 55 #[.pointer (some ⟨b, 0, none⟩)] w fun e w' => e = .returned (.tuple #[.int .i64 (k : Int), .bool true]) ∧ Fr none' w w' := hn
    have hpk : (T k).pe = true ∧ (T k).p = p ∧ (T k).lv = l := by
      have := hR.pe k hk
      rw [hp] at this
      cases h1 : (T k).pe with
      | false => rw [h1] at this; cases this
      | true => rw [h1] at this; simp at this; exact ⟨rfl, this.1.symm, this.2.symm⟩
    clear ho
    simp only [hp]
    have i1 : 0 ≤ (k : Int) ∧ (k : Int) < 64 := by omega
    go_enter Try.func37, Try.ntmps37
    go_wp2_with fail
    refine hn.mono ?_
    rintro e w1 ⟨rfl, f1⟩
    have h0 := hT.keep f1 (fun h => h)
    have g1 := h0.frozen (k * 7 + 1)
    have g2 := h0.frozen (k * 7 + 2)
    have g3 := h0.frozen (k * 7 + 4)
    have g4 := h0.frozen (k * 7 + 6)
    have g5 := h0.frozen 451
    obtain ⟨c0, c1, c2, c3, c4, c5, c6⟩ := h0.cells hk
    obtain ⟨-, -, -, n4, -⟩ := h0.nums
    have h1 := h0.setOne (r := 1) hk (by omega) (v := .bool false) (o := { T k with pe := false }) rfl
    have h2 := h1.setOne (r := 2) hk (by omega) (v := .bool true) (o := { T k with pe := false, ac := true }) (by rw [updT_same]; rfl)
    rw [updT_updT] at h2
    have h3 := h2.setOne (r := 4) hk (by omega) (v := .int .i64 (T k).p) (o := { T k with pe := false, ac := true, a := (T k).p }) (by rw [updT_same]; rfl)
    rw [updT_updT] at h3
    have h4 := h3.setOne (r := 6) hk (by omega) (v := .bool (T k).lv) (o := { T k with pe := false, ac := true, a := (T k).p, fl := (T k).lv }) (by rw [updT_same]; rfl)
    rw [updT_updT] at h4
    have h5 := h4.setAck (wrap64 (S.ack + 1))
    have s1 : (k * 7 + 1 = 451) = False := by simp; omega
    have s2 : (k * 7 + 2 = 451) = False := by simp; omega
    have s3 : (k * 7 + 4 = 451) = False := by simp; omega
    have s4 : (k * 7 + 6 = 451) = False := by simp; omega
    have hrel : Rel (updT T k { T k with pe := false, ac := true, a := (T k).p, fl := (T k).lv }) { S with pe := set1 S.pe k none, ac := set1 S.ac k (some (p, l)), ack := inc S.ack } :=
      hR.line ⟨hR.off k hk, by show set1 S.pe k none k = _; rw [set1_same]; rfl, by show set1 S.ac k (some (p, l)) k = _; rw [set1_same, hpk.2.1, hpk.2.2]; rfl⟩ (fun j hj => ⟨rfl, set1_other _ _ hj, set1_other _ _ hj⟩)
    have hgood : Good { S with pe := set1 S.pe k none, ac := set1 S.ac k (some (p, l)), ack := inc S.ack } := ⟨goodF_set hg.pe _ _ (fun q l' e => by cases e), goodF_set hg.ac _ _ (fun q l' e => by cases e; exact hg.pe k p l hp), hg.mask, hg.lrs⟩
    have HR : Hid (Rch w b { S with pe := set1 S.pe k none, ac := set1 S.ac k (some (p, l)), ack := inc S.ack } (((((w1.setCell ⟨b, k * 7 + 1, none⟩ (.bool false)).setCell ⟨b, k * 7 + 2, none⟩ (.bool true)).setCell ⟨b, k * 7 + 4, none⟩ (.int .i64 (T k).p)).setCell ⟨b, k * 7 + 6, none⟩ (.bool (T k).lv)).setCell ⟨b, 451, none⟩ (.int .i64 (wrap64 (S.ack + 1)))).drew.drew) :=
      ⟨(fr_set _ b _ _ (fr_set _ b _ _ (fr_set _ b _ _ (fr_set _ b _ _ (fr_set _ b _ _ (f1.mono (fun _ _ h => h.elim))))))).drew.drew, ⟨_, h5.drew.drew.nums_eq rfl rfl rfl rfl rfl, hrel⟩, hgood⟩
    generalize (T k).p = tp at *
    generalize (T k).lv = tl at *
    generalize (T k).a = ta at *
    generalize (T k).fl = tf at *
    clear hn hT hR hg h0 h1 h2 h3 h4 h5 hrel hgood f1 hpk hp hac
    go_wp2_with fail
    go_region
    all_goals (go_wp2_with fail)
    all_goals go_region
    all_goals (go_wp2_with fail)
    all_goals go_ret
    all_goals exact ⟨rfl, HR.out⟩

end Go.Proofs.Ythkieoedidpkaaa
