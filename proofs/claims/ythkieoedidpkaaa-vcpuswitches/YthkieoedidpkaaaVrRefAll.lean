/-
  The contract of the document's All over the translation. No statement is proved here.
-/
import Derived.Test.YthkieoedidpkaaaVrRefN
import Derived.Test.YthkieoedidpkaaaVgAll
namespace Go.Proofs.Ythkieoedidpkaaa
open Go.RowKit

theorem inA_len (S : Vg) (p n : Nat) : (inA S p n).length ≤ n := by
  induction n with
  | zero => simp [inA]
  | succ k ih =>
    simp only [inA, List.length_append]
    cases S.ac k with
    | none => simp; omega
    | some q => simp only; split <;> simp <;> omega

theorem inP_len (S : Vg) (p n : Nat) : (inP S p n).length ≤ n := by
  induction n with
  | zero => simp [inP]
  | succ k ih =>
    simp only [inP, List.length_append]
    split
    · split <;> simp <;> omega
    · simp; omega
theorem pre_len {S : Vg} (g : Good S) : (∀ k L, outA S k = L → k ≤ 256 → L.length ≤ 500) ∧ (∀ L0 k0, outA S k0 = L0 → k0 = 256 → ∀ k L, L0 ++ outP S k = L → k ≤ 256 → L.length ≤ 500) := by
  have h := len_all g
  have ha : (outA S 256).length + (outP S 256).length ≤ 64 := by simpa [allL] using h
  have ma : ∀ j k, k ≤ j → (outA S k).length ≤ (outA S j).length := fun j => by
    induction j with
    | zero =>
      intro k hk
      obtain rfl : k = 0 := by omega
      exact Nat.le_refl _
    | succ j ih =>
      intro k hk
      by_cases e : k = j + 1
      · rw [e]; exact Nat.le_refl _
      · have := ih k (by omega); simp only [outA, List.length_append]; omega
  have mp : ∀ j k, k ≤ j → (outP S k).length ≤ (outP S j).length := fun j => by
    induction j with
    | zero =>
      intro k hk
      obtain rfl : k = 0 := by omega
      exact Nat.le_refl _
    | succ j ih =>
      intro k hk
      by_cases e : k = j + 1
      · rw [e]; exact Nat.le_refl _
      · have := ih k (by omega); simp only [outP, List.length_append]; omega
  refine ⟨fun k L hL hk => ?_, fun L0 k0 h0 e0 k L hL hk => ?_⟩
  · rw [← hL]; have := ma 256 k hk; omega
  · rw [← hL, ← h0, e0, List.length_append]; have := mp 256 k hk; omega

set_option maxRecDepth 100000 in
set_option maxHeartbeats 4000000 in
theorem rall_any (w : World) (b : Nat) (T : Nat → One) (S : Vg) (hT : IsRt w b T S) (hR : Rel T S) (hg : Good S) :
    Calls Try.prog 45 #[.pointer (some ⟨b, 0, none⟩)] w fun e w' => ∃ v, e = .returned v ∧ LrS w' w.heap.size v (allL S) ∧ Fr none' w w' := by
  have HT : Hid (IsRt w b T S ∧ Rel T S ∧ Good S) := ⟨hT, hR, hg⟩
  have HSL : Hid (∀ k L, outA S k = L → k ≤ 256 → L.length ≤ 500) := (pre_len hg).1
  have HSP : Hid (∀ L0 k0, outA S k0 = L0 → k0 = 256 → ∀ k L, L0 ++ outP S k = L → k ≤ 256 → L.length ≤ 500) := (pre_len hg).2
  clear hT hR hg
  go_enter Try.func45, Try.ntmps45
  go_wp2_with fail
  go_loopw [3, 4] (fun v i wr => ∃ (k : Nat) (L : List Lr), k ≤ 256 ∧ i = .int .i64 k ∧ outA S k = L ∧ OwnK 66 5 wr w.heap.size v L.length (flatV L) ∧ Fr none' w wr) (fun _ i _ => 256 - (intOf i).toNat)
  case atStart => exact ⟨0, [], by omega, rfl, rfl, ownk_nil _ _ _ _, Fr.refl _ _⟩
  case round =>
    obtain ⟨k, L, hk, rfl, hL, hO, fk⟩ := hrel
    have HL : Hid (outA S k = L) := hL
    clear hL
    by_cases hlt : k < 256
    · have HLEN : Hid (L.length ≤ 500) := HSL.out k L HL.out hk
      have uk1 : decide ((k : Int) < 256) = true := decide_eq_true (by omega)
      have uk2 : decide (k < 256) = true := decide_eq_true hlt
      go_wp2_with fail
      obtain ⟨w2, rfl⟩ : ∃ w2, w2 = wr := ⟨wr, rfl⟩
      go_loopw [3, 5] (fun v i wr => ∃ (m : Nat) (M : List Lr), m ≤ 64 ∧ i = .int .i64 m ∧ inA S k m = M ∧ OwnK 66 5 wr w.heap.size v (L ++ M).length (flatV (L ++ M)) ∧ Fr none' w wr) (fun _ i _ => 64 - (intOf i).toNat)
      case atStart => exact ⟨0, [], by omega, rfl, rfl, by simpa using hO, fk⟩
      case round =>
        clear hO fk
        obtain ⟨m, M, hm, rfl, hM, hO, fm⟩ := hrel
        have HM : Hid (inA S k m = M) := hM
        have HML : Hid (M.length ≤ 64) := by show _ ≤ _; rw [← hM]; exact Nat.le_trans (inA_len S k m) hm
        clear hM
        by_cases hlt2 : m < 64
        · obtain ⟨c0, c1, c2, c3, c4, c5, c6⟩ := (HT.out.1.keep fm (fun h => h)).cells hlt2
          have hpe := HT.out.2.1.pe m hlt2
          have hac := HT.out.2.1.ac m hlt2
          have HS : Hid (inA S k (m + 1) = inA S k m ++ (match S.ac m with
            | some (q, _) => if q = (k : Int) then [reg S m] else []
            | none => [])) := rfl
          have i1 : 0 ≤ (m : Int) ∧ (m : Int) < 64 := by omega
          have um1 : decide ((m : Int) < 64) = true := decide_eq_true (by omega)
          have um2 : decide (m < 64) = true := decide_eq_true hlt2
          generalize T m = tm at *
          obtain ⟨off, pe, ac, p, a, lv, fl⟩ := tm
          dsimp only at *
          by_cases hit : ac = true ∧ a = (k : Int)
          · have HQ : Hid (inA S k (m + 1) = M ++ [(⟨(m : Int), (k : Int), fl, pe, true⟩ : Lr)]) := by
              show _ = _
              rw [HS.out, HM.out, hac]
              obtain ⟨rfl, rfl⟩ := hit
              simp only [if_true]
              congr 2
              unfold reg; rw [hac, hpe]; cases pe <;> rfl
            obtain ⟨rfl, rfl⟩ := hit
            have f1 := (Fr.refl none' wr).alloc (.cells #[.bool off, .bool pe, .bool true, .int .i64 p, .int .i64 (k : Int), .bool lv, .bool fl] 87)
            have f2 := f1.alloc (.cells #[.int .i64 (m : Int), .int .i64 (k : Int), .bool fl, .bool pe, .bool true] 66)
            have r2 := row_two wr (.cells #[.bool off, .bool pe, .bool true, .int .i64 p, .int .i64 (k : Int), .bool lv, .bool fl] 87) #[.int .i64 (m : Int), .int .i64 (k : Int), .bool fl, .bool pe, .bool true] 66
            have o2 := hO.keep0 f2
            have HB : Hid ((L ++ M).length < 1000) := by show _ < _; rw [List.length_append]; have := HLEN.out; have := HML.out; omega
            obtain ⟨v', w4, hrun, f4, o4⟩ := append_lr _ w.heap.size (wr.heap.size + 1) u3 (L ++ M) (⟨(m : Int), (k : Int), fl, pe, true⟩ : Lr) (Nat.le_trans fm.size f2.size) o2 HB.out r2
            have F4 := Fr.ownK (fm.trans f2) f4 o2
            have HO : Hid (OwnK 66 5 w4 w.heap.size v' (L ++ (M ++ [(⟨(m : Int), (k : Int), fl, pe, true⟩ : Lr)])).length (flatV (L ++ (M ++ [(⟨(m : Int), (k : Int), fl, pe, true⟩ : Lr)])))) := by
              show OwnK _ _ _ _ _ _ _
              rw [← List.append_assoc]
              exact o4
            clear f4 o4 o2 hO fm f1 f2 r2 hpe hac
            go_wp2_with (first | (at_builtin; refine wpList_append_runK rfl _ _ 63 rfl _ _ rfl rfl _ _ hrun ?_))
            go_roundw
            case rel => exact ⟨m + 1, M ++ [(⟨(m : Int), (k : Int), fl, pe, true⟩ : Lr)], by omega, by go_num, HQ.out, HO.out, F4⟩
            case measure => simp [intOf]; omega
          · have HQ : Hid (inA S k (m + 1) = M) := by
              show _ = _
              rw [HS.out, HM.out, hac]
              cases ac with
              | false => simp
              | true => have : ¬ a = (k : Int) := fun e => hit ⟨rfl, e⟩; simp [this]
            have f1 := (Fr.refl none' wr).alloc (.cells #[.bool off, .bool pe, .bool ac, .int .i64 p, .int .i64 a, .bool lv, .bool fl] 87)
            have o1 := hO.keep0 f1
            have F1 := fm.trans f1
            have hcs : ac = false ∨ (ac = true ∧ (a == (k : Int)) = false) := by
              cases ac with | false => exact Or.inl rfl | true => exact Or.inr ⟨rfl, by simp; exact fun e => hit ⟨rfl, e⟩⟩
            clear hit hpe hac hO fm f1
            rcases hcs with rfl | ⟨rfl, u9⟩
            all_goals
              go_wp2_with fail
              go_roundw
              case rel => exact ⟨m + 1, M, by omega, by go_num, HQ.out, o1, F1⟩
              case measure => simp [intOf]; omega
        · have HQ : Hid (outA S (k + 1) = L ++ M) := by
            show _ = _
            have e : m = 64 := by omega
            rw [← HL.out, ← HM.out, e]
            rfl
          clear HM
          go_wp2_with fail
          go_roundw
          case rel => exact ⟨k + 1, L ++ M, by omega, by go_num, HQ.out, hO, fm⟩
          case measure => simp [intOf]; omega
    · have HK0 : Hid (k = 256) := by show _ = _; omega
      obtain ⟨L0, hL0⟩ : ∃ L0, L0 = L := ⟨_, rfl⟩
      obtain ⟨k0, hk0⟩ : ∃ k0, k0 = k := ⟨_, rfl⟩
      have H0 : Hid (outA S k0 = L0 ∧ k0 = 256) := ⟨by rw [hL0, hk0]; exact HL.out, by rw [hk0]; exact HK0.out⟩
      have HE0 : Hid (L0 ++ outP S 0 = L) := by show _ = _; rw [hL0]; simp [outP]
      clear HL HK0 hL0 hk0
      go_wp2_with fail
      obtain ⟨w3, rfl⟩ : ∃ w3, w3 = wr := ⟨wr, rfl⟩
      go_loopw [3, 7] (fun v i wr => ∃ (k : Nat) (L : List Lr), k ≤ 256 ∧ i = .int .i64 k ∧ L0 ++ outP S k = L ∧ OwnK 66 5 wr w.heap.size v L.length (flatV L) ∧ Fr none' w wr) (fun _ i _ => 256 - (intOf i).toNat)
      case atStart => exact ⟨0, L, by omega, rfl, HE0.out, hO, fk⟩
      case round =>
        clear HE0 hO fk hk
        obtain ⟨k, L, hk, rfl, hL, hO, fk⟩ := hrel
        have HL : Hid (L0 ++ outP S k = L) := hL
        clear hL
        by_cases hlt : k < 256
        · have HLEN : Hid (L.length ≤ 500) := HSP.out L0 k0 H0.out.1 H0.out.2 k L HL.out hk
          have uk1 : decide ((k : Int) < 256) = true := decide_eq_true (by omega)
          have uk2 : decide (k < 256) = true := decide_eq_true hlt
          go_wp2_with fail
          obtain ⟨w2, rfl⟩ : ∃ w2, w2 = wr := ⟨wr, rfl⟩
          go_loopw [3, 8] (fun v i wr => ∃ (m : Nat) (M : List Lr), m ≤ 64 ∧ i = .int .i64 m ∧ inP S k m = M ∧ OwnK 66 5 wr w.heap.size v (L ++ M).length (flatV (L ++ M)) ∧ Fr none' w wr) (fun _ i _ => 64 - (intOf i).toNat)
          case atStart => exact ⟨0, [], by omega, rfl, rfl, by simpa using hO, fk⟩
          case round =>
            clear hO fk
            obtain ⟨m, M, hm, rfl, hM, hO, fm⟩ := hrel
            have HM : Hid (inP S k m = M) := hM
            have HML : Hid (M.length ≤ 64) := by show _ ≤ _; rw [← hM]; exact Nat.le_trans (inP_len S k m) hm
            clear hM
            by_cases hlt2 : m < 64
            · obtain ⟨c0, c1, c2, c3, c4, c5, c6⟩ := (HT.out.1.keep fm (fun h => h)).cells hlt2
              have hpe := HT.out.2.1.pe m hlt2
              have hac := HT.out.2.1.ac m hlt2
              have HS : Hid (inP S k (m + 1) = inP S k m ++ (match S.ac m, S.pe m with
                | none, some (q, _) => if q = (k : Int) then [reg S m] else []
                | _, _ => [])) := rfl
              have i1 : 0 ≤ (m : Int) ∧ (m : Int) < 64 := by omega
              have um1 : decide ((m : Int) < 64) = true := decide_eq_true (by omega)
              have um2 : decide (m < 64) = true := decide_eq_true hlt2
              generalize T m = tm at *
              obtain ⟨off, pe, ac, p, a, lv, fl⟩ := tm
              dsimp only at *
              by_cases hit : ac = false ∧ pe = true ∧ p = (k : Int)
              · have HQ : Hid (inP S k (m + 1) = M ++ [(⟨(m : Int), (k : Int), lv, true, false⟩ : Lr)]) := by
                  show _ = _
                  rw [HS.out, HM.out, hac, hpe]
                  obtain ⟨rfl, rfl, rfl⟩ := hit
                  simp only [if_true, Bool.false_eq_true, if_false]
                  congr 2
                  unfold reg; rw [hac, hpe]; rfl
                obtain ⟨rfl, rfl, rfl⟩ := hit
                have f1 := (Fr.refl none' wr).alloc (.cells #[.bool off, .bool true, .bool false, .int .i64 (k : Int), .int .i64 a, .bool lv, .bool fl] 87)
                have f2 := f1.alloc (.cells #[.int .i64 (m : Int), .int .i64 (k : Int), .bool lv, .bool true, .bool false] 66)
                have r2 := row_two wr (.cells #[.bool off, .bool true, .bool false, .int .i64 (k : Int), .int .i64 a, .bool lv, .bool fl] 87) #[.int .i64 (m : Int), .int .i64 (k : Int), .bool lv, .bool true, .bool false] 66
                have o2 := hO.keep0 f2
                have HB : Hid ((L ++ M).length < 1000) := by show _ < _; rw [List.length_append]; have := HLEN.out; have := HML.out; omega
                obtain ⟨v', w4, hrun, f4, o4⟩ := append_lr _ w.heap.size (wr.heap.size + 1) u3 (L ++ M) (⟨(m : Int), (k : Int), lv, true, false⟩ : Lr) (Nat.le_trans fm.size f2.size) o2 HB.out r2
                have F4 := Fr.ownK (fm.trans f2) f4 o2
                have HO : Hid (OwnK 66 5 w4 w.heap.size v' (L ++ (M ++ [(⟨(m : Int), (k : Int), lv, true, false⟩ : Lr)])).length (flatV (L ++ (M ++ [(⟨(m : Int), (k : Int), lv, true, false⟩ : Lr)])))) := by
                  show OwnK _ _ _ _ _ _ _
                  rw [← List.append_assoc]
                  exact o4
                clear f4 o4 o2 hO fm f1 f2 r2 hpe hac
                go_wp2_with (first | (at_builtin; refine wpList_append_runK rfl _ _ 63 rfl _ _ rfl rfl _ _ hrun ?_))
                go_roundw
                case rel => exact ⟨m + 1, M ++ [(⟨(m : Int), (k : Int), lv, true, false⟩ : Lr)], by omega, by go_num, HQ.out, HO.out, F4⟩
                case measure => simp [intOf]; omega
              · have HQ : Hid (inP S k (m + 1) = M) := by
                  show _ = _
                  rw [HS.out, HM.out, hac, hpe]
                  cases ac with
                  | true => simp
                  | false => cases pe with | false => simp | true => (have : ¬ p = (k : Int) := fun e => hit ⟨rfl, rfl, e⟩); simp [this]
                have f1 := (Fr.refl none' wr).alloc (.cells #[.bool off, .bool pe, .bool ac, .int .i64 p, .int .i64 a, .bool lv, .bool fl] 87)
                have o1 := hO.keep0 f1
                have F1 := fm.trans f1
                have hcs : ac = true ∨ (ac = false ∧ pe = false) ∨ (ac = false ∧ pe = true ∧ (p == (k : Int)) = false) := by
                  cases ac with | true => exact Or.inl rfl | false => cases pe with | false => exact Or.inr (Or.inl ⟨rfl, rfl⟩) | true => exact Or.inr (Or.inr ⟨rfl, rfl, by simp; exact fun e => hit ⟨rfl, rfl, e⟩⟩)
                clear hit hpe hac hO fm f1
                rcases hcs with rfl | ⟨rfl, rfl⟩ | ⟨rfl, rfl, u9⟩
                all_goals
                  go_wp2_with fail
                  go_roundw
                  case rel => exact ⟨m + 1, M, by omega, by go_num, HQ.out, o1, F1⟩
                  case measure => simp [intOf]; omega
            · have HQ : Hid (L0 ++ outP S (k + 1) = L ++ M) := by
                show _ = _
                have e : m = 64 := by omega
                rw [← HL.out, ← HM.out, e]
                simp only [outP, List.append_assoc]
              clear HM
              go_wp2_with fail
              go_roundw
              case rel => exact ⟨k + 1, L ++ M, by omega, by go_num, HQ.out, hO, fm⟩
              case measure => simp [intOf]; omega
        · have HE : Hid (L = allL S) := by
            show _ = _
            have e : k = 256 := by omega
            rw [← HL.out, e, ← H0.out.1, H0.out.2]
            rfl
          clear HL H0
          go_wp2_with fail
          go_ret
          refine ⟨_, rfl, ?_, fk⟩
          rw [← HE.out]
          by_cases hn : L.length = 0
          · obtain rfl := hO.2 hn
            exact Or.inl ⟨List.length_eq_zero_iff.mp hn, rfl⟩
          · obtain ⟨g, cap, cur, rfl, hb, hr, hc, hm, hcs, hx⟩ := hO.row hn
            exact Or.inr ⟨g, cap, cur, rfl, hb, hc, hm, hr, fun i x hi => rec_of hx i x hi⟩

end Go.Proofs.Ythkieoedidpkaaa
