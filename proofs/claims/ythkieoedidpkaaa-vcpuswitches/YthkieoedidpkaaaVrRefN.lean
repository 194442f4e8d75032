/-
  Contracts of the document's Running, Next and Ack over the translation. No statement is proved here.
-/
import Derived.Test.YthkieoedidpkaaaVrRefA
namespace Go.Proofs.Ythkieoedidpkaaa
open Go.RowKit

set_option maxHeartbeats 1000000 in
theorem rrunning_any (w : World) (b : Nat) (T : Nat → One) (S : Vg) (hT : IsRt w b T S) (hR : Rel T S) :
    Calls Try.prog 63 #[.pointer (some ⟨b, 0, none⟩)] w fun e w' => e = .returned (.int .i64 (run S)) ∧ w' = w := by
  have HT : Hid (IsRt w b T S ∧ Rel T S) := ⟨hT, hR⟩
  clear hT hR
  go_enter Try.func63, Try.ntmps63
  go_wp2_with fail
  go_loopw [3, 4] (fun l i wr => ∃ k : Nat, k ≤ 64 ∧ i = .int .i64 k ∧ l = .int .i64 (runN S k) ∧ w = wr) (fun _ i _ => 64 - (intOf i).toNat)
  case atStart => exact ⟨0, by omega, rfl, rfl, rfl⟩
  case round =>
    obtain ⟨k, hk, rfl, rfl, rfl⟩ := hrel
    by_cases hlt : k < 64
    · obtain ⟨c0, c1, c2, c3, c4, c5, c6⟩ := HT.out.1.cells hlt
      have i1 : 0 ≤ (k : Int) ∧ (k : Int) < 64 := by omega
      have HS : Hid (runN S (k + 1) = match S.ac k with
        | some (p, _) => min (runN S k) p
        | none => runN S k) := rfl
      have hac := HT.out.2.ac k hlt
      clear c0 c1 c3 c5 c6
      cases ha : (T k).ac with
      | false =>
        rw [ha] at c2 hac
        have HQ : Hid (runN S (k + 1) = runN S k) := by show _ = _; rw [HS.out, hac]; rfl
        generalize runN S k = r at *
        clear hac
        go_wp2_with fail
        go_roundw
        case rel => exact ⟨k + 1, by omega, by go_num, by rw [HQ.out], trivial⟩
        case measure => simp [intOf]; omega
      | true =>
        rw [ha] at c2 hac
        have HQ : Hid (runN S (k + 1) = min (runN S k) (T k).a) := by show _ = _; rw [HS.out, hac]; rfl
        generalize (T k).a = a at *
        generalize runN S k = r at *
        clear hac
        by_cases h : a < r
        · have u : decide (a < r) = true := decide_eq_true h
          have HE : Hid (min r a = a) := by show _ = _; omega
          clear h
          go_wp2_with fail
          go_roundw
          case rel => exact ⟨k + 1, by omega, by go_num, by rw [HQ.out, HE.out], trivial⟩
          case measure => simp [intOf]; omega
        · have u : decide (a < r) = false := decide_eq_false h
          have HE : Hid (min r a = r) := by show _ = _; omega
          clear h
          go_wp2_with fail
          go_roundw
          case rel => exact ⟨k + 1, by omega, by go_num, by rw [HQ.out, HE.out], trivial⟩
          case measure => simp [intOf]; omega
    · obtain rfl : k = 64 := by omega
      go_wp2_with fail
      go_ret
      exact ⟨rfl, rfl⟩

def bI (o : Option Nat) : Int := match o with
  | some k => (k : Int)
  | none => -1

theorem best_lt (S : Vg) (bd : Int) (k q : Nat) (h : (best S bd k).1 = some q) : q < k ∧ ∃ l, S.pe q = some ((best S bd k).2, l) := by
  obtain ⟨h1, h2, _⟩ := (best_spec S bd k).2.2 q h
  exact ⟨h1, (cand_is.mp h2).1⟩
theorem best_none (S : Vg) (bd : Int) (k : Nat) (h : (best S bd k).1 = none) : (best S bd k).2 = bd := (best_spec S bd k).2.1 h
theorem best_le (S : Vg) (bd : Int) (k : Nat) : (best S bd k).2 ≤ bd := by
  cases h : (best S bd k).1 with
  | none => rw [best_none S bd k h]; omega
  | some q => have := ((best_spec S bd k).2.2 q h).2.2.1; omega

set_option maxRecDepth 100000 in
set_option maxHeartbeats 4000000 in
theorem rnext_any (w : World) (b : Nat) (T : Nat → One) (S : Vg) (hT : IsRt w b T S) (hR : Rel T S) :
    Calls Try.prog 55 #[.pointer (some ⟨b, 0, none⟩)] w fun e w' => e = .returned (.tuple #[.int .i64 (nId (nextO S)), .bool (nextO S).isSome]) ∧ Fr none' w w' := by
  have hrun := rrunning_any w b T S hT hR
  have HT : Hid (IsRt w b T S ∧ Rel T S) := ⟨hT, hR⟩
  clear hT hR
  go_enter Try.func55, Try.ntmps55
  go_wp2_with fail
  refine hrun.mono ?_
  rintro e w1 ⟨rfl, rfl⟩
  clear hrun
  obtain ⟨bd, hbd⟩ : ∃ bd, bd = min S.mask (run S) := ⟨_, rfl⟩
  have HBD : Hid (bd = min S.mask (run S)) := hbd
  have HN : Hid (nextO S = (best S bd 64).1) := by show _ = _; rw [hbd]; rfl
  obtain ⟨rn, hrn⟩ : ∃ rn, rn = run S := ⟨_, rfl⟩
  rw [← hrn]
  have HRN : Hid (rn = run S) := hrn
  clear hbd hrn
  go_wp2_with fail
  go_loopw [5, 6] (fun be i wr => ∃ k : Nat, k ≤ 64 ∧ i = .int .i64 k ∧ be = .int .i64 (bI (best S bd k).1) ∧ Fr none' w1 wr) (fun _ i _ => 64 - (intOf i).toNat)
  case atStart => exact ⟨0, by omega, rfl, rfl, Fr.refl _ _⟩
  case round =>
    obtain ⟨k, hk, rfl, rfl, fk⟩ := hrel
    by_cases hlt : k < 64
    · have hw := HT.out.1.keep fk (fun h => h)
      obtain ⟨c0, c1, c2, c3, c4, c5, c6⟩ := hw.cells hlt
      have fa := fk.alloc (.cells #[.bool (T k).off, .bool (T k).pe, .bool (T k).ac, .int .i64 (T k).p, .int .i64 (T k).a, .bool (T k).lv, .bool (T k).fl] 87)
      have ra := row_alloc wr #[.bool (T k).off, .bool (T k).pe, .bool (T k).ac, .int .i64 (T k).p, .int .i64 (T k).a, .bool (T k).lv, .bool (T k).fl] 87
      have ha := HT.out.1.keep fa (fun h => h)
      obtain ⟨_, m1, _, _, _⟩ := ha.nums
      have d0 := ra.cell 0
      have d1 := ra.cell 1
      have d2 := ra.cell 2
      have d3 := ra.cell 3
      have i1 : 0 ≤ (k : Int) ∧ (k : Int) < 64 := by omega
      have hpe := HT.out.2.pe k hlt
      have hac := HT.out.2.ac k hlt
      have hoff := HT.out.2.off k hlt
      have HS : Hid (best S bd (k + 1) = match cand S k with
        | some p => if p < (best S bd k).2 then (some k, p) else best S bd k
        | none => best S bd k) := rfl
      have HF : Hid (Fr none' w1 (wr.alloc (.cells #[.bool (T k).off, .bool (T k).pe, .bool (T k).ac, .int .i64 (T k).p, .int .i64 (T k).a, .bool (T k).lv, .bool (T k).fl] 87))) := fa
      have hcand : cand S k = if (T k).pe && (!(T k).off && !(T k).ac) then some (T k).p else none := by
        unfold cand
        rw [hpe, hac, hoff]
        cases (T k).pe <;> cases (T k).off <;> cases (T k).ac <;> rfl
      have HC : Hid (cand S k = if (T k).pe && (!(T k).off && !(T k).ac) then some (T k).p else none) := hcand
      clear hpe hac hoff hcand ra hw fk fa
      obtain ⟨B, hB⟩ : ∃ B, best S bd k = B := ⟨_, rfl⟩
      have HBe : Hid (best S bd k = B) := hB
      rw [hB]
      have hq : ∀ q, B.1 = some q → q < 64 ∧ (T q).p = B.2 := fun q hq => by
        rw [← hB] at hq ⊢
        obtain ⟨h1, l, h2⟩ := best_lt S bd k q hq
        rw [HT.out.2.pe q (by omega)] at h2
        refine ⟨by omega, ?_⟩
        cases h3 : (T q).pe with
        | false => rw [h3] at h2; cases h2
        | true => rw [h3] at h2; simp at h2; exact h2.1
      have hBle : B.2 ≤ bd := by rw [← hB]; exact best_le S bd k
      have hBn : B.1 = none → B.2 = bd := fun h => by rw [← hB] at h ⊢; exact best_none S bd k h
      clear hB
      generalize T k = tk at *
      obtain ⟨off, pe, ac, p, a, lv, fl⟩ := tk
      dsimp only at *
      obtain ⟨o, b2⟩ := B
      dsimp only at *
      have hreg : best S bd (k + 1) = (if (pe && (!off && !ac)) = true ∧ p < b2 then (some k, p) else (o, b2)) := by
        rw [HS.out, HC.out, HBe.out]
        cases hc : (pe && (!off && !ac)) with
        | false => simp
        | true => simp
      have HR : Hid (best S bd (k + 1) = (if (pe && (!off && !ac)) = true ∧ p < b2 then (some k, p) else (o, b2))) := hreg
      clear hreg HS HC
      by_cases hmay : pe = true ∧ off = false ∧ ac = false ∧ p < S.mask ∧ p < rn
      · obtain ⟨rfl, rfl, rfl, h4, h5⟩ := hmay
        have hlt2 : p < bd := by rw [HBD.out, ← HRN.out]; omega
        have u4 : decide (p < S.mask) = true := decide_eq_true h4
        have u5 : decide (p < rn) = true := decide_eq_true h5
        cases o with
        | none =>
          have HQ : Hid (best S bd (k + 1) = (some k, p)) := by
            show _ = _
            rw [HR.out, if_pos ⟨rfl, by have := hBn rfl; omega⟩]
          clear hq hBle hBn hlt2 h4 h5 HR
          show Code.wp Try.prog _ _ _ _
          simp only [bI]
          go_wp2_with fail
          go_quiet (fail)
          go_wp2_with fail
          go_quiet (fail)
          go_wp2_with fail
          go_roundw
          case rel => exact ⟨k + 1, by omega, by go_num, by rw [HQ.out], HF.out.trans (fr_drewN _ _)⟩
          case measure => simp [intOf]; omega
        | some q =>
          obtain ⟨hq64, hqp⟩ := hq q rfl
          obtain ⟨_, _, _, e3, _⟩ := ha.cells hq64
          rw [hqp] at e3
          have i2 : 0 ≤ (q : Int) ∧ (q : Int) < 64 := by omega
          have u6 : decide ((q : Int) < 0) = false := decide_eq_false (by omega)
          show Code.wp Try.prog _ _ _ _
          simp only [bI]
          by_cases hpb : p < b2
          · have HQ : Hid (best S bd (k + 1) = (some k, p)) := by
              show _ = _
              rw [HR.out, if_pos ⟨rfl, hpb⟩]
            have u7 : decide (p < b2) = true := decide_eq_true hpb
            clear hq hBle hBn hlt2 h4 h5 HR hpb hqp
            go_wp2_with fail
            go_quiet (fail)
            go_wp2_with fail
            go_quiet (fail)
            go_wp2_with fail
            go_roundw
            case rel => exact ⟨k + 1, by omega, by go_num, by rw [HQ.out], HF.out.trans (fr_drewN _ _)⟩
            case measure => simp [intOf]; omega
          · have HQ : Hid (best S bd (k + 1) = (some q, b2)) := by
              show _ = _
              rw [HR.out, if_neg (fun h => hpb h.2)]
            have u7 : decide (p < b2) = false := decide_eq_false hpb
            clear hq hBle hBn hlt2 h4 h5 HR hpb hqp
            go_wp2_with fail
            go_quiet (fail)
            go_wp2_with fail
            go_quiet (fail)
            go_wp2_with fail
            go_roundw
            case rel => exact ⟨k + 1, by omega, by go_num, by rw [HQ.out], HF.out.trans (fr_drewN _ _)⟩
            case measure => simp [intOf]; omega
      · have HQ : Hid (best S bd (k + 1) = (o, b2)) := by
          show _ = _
          rw [HR.out, if_neg]
          rintro ⟨h1, h2⟩
          simp only [Bool.and_eq_true, Bool.not_eq_true'] at h1
          have hbb := HBD.out
          have hrr := HRN.out
          exact hmay ⟨h1.1, h1.2.1, h1.2.2, by omega, by omega⟩
        have hcs : pe = false ∨ (pe = true ∧ off = true) ∨ (pe = true ∧ off = false ∧ ac = true) ∨ (pe = true ∧ off = false ∧ ac = false ∧ decide (p < S.mask) = false) ∨ (pe = true ∧ off = false ∧ ac = false ∧ decide (p < S.mask) = true ∧ decide (p < rn) = false) := by
          by_cases h4 : p < S.mask <;> by_cases h5 : p < rn <;> cases pe <;> cases off <;> cases ac <;> simp [h4, h5] at hmay ⊢
        obtain ⟨bi, hbi⟩ : ∃ bi, bi = bI o := ⟨_, rfl⟩
        have HBI : Hid (bi = bI o) := hbi
        rw [← hbi]
        clear hq hBle hBn HR hmay hbi
        rcases hcs with rfl | ⟨rfl, rfl⟩ | ⟨rfl, rfl, rfl⟩ | ⟨rfl, rfl, rfl, u4⟩ | ⟨rfl, rfl, rfl, u4, u5⟩
        all_goals
          go_wp2_with fail
          go_quiet (fail)
          go_wp2_with fail
          go_quiet (fail)
          go_wp2_with fail
          go_roundw
          case rel => exact ⟨k + 1, by omega, by go_num, by rw [HQ.out, HBI.out], HF.out.trans (fr_drewN _ _)⟩
          case measure => simp [intOf]; omega
    · obtain rfl : k = 64 := by omega
      cases ho : (best S bd 64).1 with
      | none =>
        have HO : Hid (nextO S = none) := by show _ = _; rw [HN.out, ho]
        show Code.wp Try.prog _ _ _ _
        simp only [bI]
        clear ho
        go_wp2_with fail
        go_ret2
        exact ⟨by rw [HO.out]; rfl, fk⟩
      | some q =>
        have HO : Hid (nextO S = some q) := by show _ = _; rw [HN.out, ho]
        have u6 : decide ((q : Int) < 0) = false := decide_eq_false (by omega)
        show Code.wp Try.prog _ _ _ _
        simp only [bI]
        clear ho
        go_wp2_with fail
        go_ret2
        exact ⟨by rw [HO.out]; rfl, fk⟩

end Go.Proofs.Ythkieoedidpkaaa
