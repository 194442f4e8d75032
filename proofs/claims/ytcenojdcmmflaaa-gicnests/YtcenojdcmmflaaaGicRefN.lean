/-
  Contracts of the document's heard, Next, Ack, End over the translation. No statement is proved here.
-/
import Derived.Test.YtcenojdcmmflaaaGicRef
import Derived.Deep.RegionHeld3
namespace Go.Proofs.Ytcenojdcmmflaaa
open Go.RowKit

theorem hid {p : Prop} (h : p) : Hid p := h

set_option maxRecDepth 100000 in
set_option maxHeartbeats 2000000 in
theorem rheard_any (w : World) (b : Nat) (T : Nat → Li) (m : Int) (h : IsRef w b T m) (k : Nat) (hk : k < 32) :
    Calls Try.prog 38 #[.pointer (some ⟨b, 0, none⟩), .int .i64 (k : Int)] w fun e w' => e = .returned (.bool (may (bound T m) (T k))) ∧ Fr none' w w' := by
  have i1 : 0 ≤ (k : Int) ∧ (k : Int) < 32 := by omega
  rw [may_two]
  have R := rrunning_any w b T m h
  go_enter Try.func38, Try.ntmps38
  go_wp2_with fail
  refine R.mono ?_
  rintro e w1 ⟨rfl, f1⟩
  replace h := h.keep f1 (fun h => h)
  obtain ⟨c0, c1, c2, c3, _⟩ := h.cells k hk
  have c5 := h.mask
  clear R h
  cases h1 : (T k).en with
  | false =>
    rw [h1] at c1
    go_wp2_with fail
    go_quiet (fail)
    go_wp2_with fail
    go_ret
    exact ⟨ret_bool (by simp [h1]), f1.trans (fr_drewN _ _)⟩
  | true =>
    rw [h1] at c1
    cases h2 : (T k).pe with
    | false =>
      rw [h2] at c2
      go_wp2_with fail
      go_quiet (fail)
      go_wp2_with fail
      go_ret
      exact ⟨ret_bool (by simp [h1, h2]), f1.trans (fr_drewN _ _)⟩
    | true =>
      rw [h2] at c2
      cases h3 : act (T k) with
      | true =>
        rw [h3] at c3
        go_wp2_with fail
        go_quiet (fail)
        go_wp2_with fail
        go_ret
        exact ⟨ret_bool (by simp [h1, h2, h3]), f1.trans (fr_drewN _ _)⟩
      | false =>
        rw [h3] at c3
        cases h4 : decide ((T k).p < m) with
        | false =>
          go_wp2_with fail
          go_quiet (fail)
          go_wp2_with fail
          go_ret
          exact ⟨ret_bool (by simp [h1, h2, h3, h4]), f1.trans (fr_drewN _ _)⟩
        | true =>
          have h4' : (T k).p < m := of_decide_eq_true h4
          cases h5 : decide ((T k).p < run T) with
          | false =>
            go_wp2_with fail
            go_quiet (fail)
            go_wp2_with fail
            go_ret
            exact ⟨ret_bool (by simp [h1, h2, h3, h4, h5]), f1.trans (fr_drewN _ _)⟩
          | true =>
            have h5' : (T k).p < run T := of_decide_eq_true h5
            go_wp2_with fail
            go_quiet (fail)
            go_wp2_with fail
            go_ret
            exact ⟨ret_bool (by simp [h1, h2, h3, h4, h5]), f1.trans (fr_drewN _ _)⟩


set_option maxRecDepth 100000 in
set_option maxHeartbeats 4000000 in
theorem rnext_any (w : World) (b : Nat) (T : Nat → Li) (m : Int) (h : IsRef w b T m) (hG : Good T m) :
    Calls Try.prog 26 #[.pointer (some ⟨b, 0, none⟩)] w fun e w' => e = .returned (.tuple #[.int .i64 (nextL T m : Int), .bool (nextO T m)]) ∧ Fr none' w w' := by
  have hyes : ∀ q : Nat, q < 32 → may (bound T m) (T q) = true → (∀ j, j < 32 → may (bound T m) (T j) = true → (T q).p ≤ (T j).p) → (∀ j, j < q → may (bound T m) (T j) = true → (T q).p < (T j).p) → nextL T m = q ∧ nextO T m = true := by
    intro q hq hm h1 h2
    have := next_unique (best_next (bound T m) T 32) (q := (q, true)) ⟨fun _ => ⟨hq, hm, fun j hj hmj => ?_⟩, fun h => by simp at h⟩
    · unfold nextL nextO; rw [this]; exact ⟨rfl, rfl⟩
    · have a := h1 j hj hmj
      show (T q).p < (T j).p ∨ ((T q).p = (T j).p ∧ q ≤ j)
      rcases Nat.lt_or_ge j q with hjq | hjq
      · exact Or.inl (h2 j hjq hmj)
      · rcases Int.lt_or_eq_of_le a with a' | a'
        · exact Or.inl a'
        · exact Or.inr ⟨a', hjq⟩
  have hno : (∀ j, j < 32 → may (bound T m) (T j) = false) → nextL T m = 0 ∧ nextO T m = false := by
    intro hn
    have := next_unique (best_next (bound T m) T 32) (q := (0, false)) ⟨fun h => by simp at h, fun _ => ⟨rfl, hn⟩⟩
    unfold nextL nextO; rw [this]; exact ⟨rfl, rfl⟩
  have HY := hid hyes
  have HN := hid hno
  have HG := hid hG.line
  clear hyes hno hG
  go_enter Try.func26, Try.ntmps26
  go_wp2_with fail
  go_loopw [4] (fun p wr => ∃ k : Nat, k ≤ 256 ∧ p = .int .i64 k ∧ Fr none' w wr ∧ Hid (∀ j, j < 32 → may (bound T m) (T j) = true → (k : Int) ≤ (T j).p)) (fun p _ => 256 - (intOf p).toNat)
  case atStart => exact ⟨0, by omega, rfl, Fr.refl _ _, hid (fun j hj _ => by have := HG.out j hj; omega)⟩
  case round =>
    obtain ⟨k, hk, rfl, fk, HK⟩ := hrel
    obtain ⟨w4, hw4⟩ : ∃ w4, w4 = wr := ⟨wr, rfl⟩
    subst hw4
    by_cases hlt : k < 256
    · have v1 : decide ((k : Int) < 256) = true := decide_eq_true (by omega)
      go_wp2_with fail
      go_loopw [5] (fun i wr => ∃ q : Nat, q ≤ 32 ∧ i = .int .i64 q ∧ Fr none' w wr ∧ Hid (∀ j, j < q → may (bound T m) (T j) = true → (k : Int) < (T j).p)) (fun i _ => 32 - (intOf i).toNat)
      case atStart => exact ⟨0, by omega, rfl, fk, hid (fun j hj => by omega)⟩
      case round =>
        clear fk
        obtain ⟨q, hq, rfl, fq, HQ⟩ := hrel
        by_cases hlq : q < 32
        · have hR := h.keep fq (fun h => h)
          obtain ⟨c0, c1, c2, c3, _⟩ := hR.cells q hlq
          have i1 : 0 ≤ (q : Int) ∧ (q : Int) < 32 := by omega
          have v2 : decide ((q : Int) < 32) = true := decide_eq_true (by omega)
          have H := rheard_any wr b T m hR q hlq
          clear c1 c2 c3
          by_cases hp : (T q).p = (k : Int)
          · have u1 : ((T q).p == (k : Int)) = true := by simpa using hp
            cases hm : may (bound T m) (T q) with
            | false =>
              rw [hm] at H
              clear hp hR
              go_wp2_with fail
              refine H.mono ?_
              rintro e w5 ⟨rfl, f5⟩
              go_wp2_with fail
              go_roundw
              case rel =>
                refine ⟨q + 1, by omega, by go_num, fq.trans f5, hid (fun j hj hmj => ?_)⟩
                by_cases e : j = q
                · subst e; rw [hm] at hmj; exact absurd hmj (by simp)
                · exact HQ.out j (by omega) hmj
              case measure => simp [intOf]; omega
            | true =>
              rw [hm] at H
              obtain ⟨a1, a2⟩ := HY.out q hlq hm (fun j hj hmj => by rw [hp]; exact HK.out j hj hmj) (fun j hj hmj => by rw [hp]; exact HQ.out j hj hmj)
              clear hp hR
              go_wp2_with fail
              refine H.mono ?_
              rintro e w5 ⟨rfl, f5⟩
              go_wp2_with fail
              go_ret2
              exact ⟨by rw [a1, a2]; rfl, fq.trans f5⟩
          · have u1 : ((T q).p == (k : Int)) = false := by simpa using hp
            have HP := hid hp
            clear hp hR H
            go_wp2_with fail
            go_roundw
            case rel =>
              refine ⟨q + 1, by omega, by go_num, fq, hid (fun j hj hmj => ?_)⟩
              by_cases e : j = q
              · subst e
                have := HK.out j hlq hmj
                have := HP.out
                omega
              · exact HQ.out j (by omega) hmj
            case measure => simp [intOf]; omega
        · obtain rfl : q = 32 := by omega
          have v2 : decide ((32 : Int) < 32) = false := by decide
          go_wp2_with fail
          go_roundw
          case rel => exact ⟨k + 1, by omega, by go_num, fq, hid (fun j hj hmj => by have := HQ.out j hj hmj; omega)⟩
          case measure => simp [intOf]; omega
    · obtain rfl : k = 256 := by omega
      obtain ⟨a1, a2⟩ := HN.out (fun j hj => by
        cases hm : may (bound T m) (T j) with
        | false => rfl
        | true => have := HK.out j hj hm; have := HG.out j hj; omega)
      go_wp2_with fail
      go_ret2
      exact ⟨by rw [a1, a2]; rfl, fk⟩


set_option maxHeartbeats 1000000 in
theorem rack_any (w : World) (b : Nat) (T : Nat → Li) (m : Int) (h : IsRef w b T m) (hG : Good T m) :
    Calls Try.prog 24 #[.pointer (some ⟨b, 0, none⟩)] w fun e w' => e = .returned (.int .i64 (ackA T m)) ∧ Fr (at' b) w w' ∧ IsRef w' b (ackT T m) m := by
  have hn := rnext_any w b T m h hG
  unfold ackA ackT
  cases ho : nextO T m with
  | false =>
    rw [ho] at hn
    go_enter Try.func24, Try.ntmps24
    go_wp2_with fail
    refine hn.mono ?_
    rintro e w1 ⟨rfl, f1⟩
    go_wp2_with fail
    go_ret
    exact ⟨rfl, f1.mono (fun _ _ h => h.elim), h.keep f1 (fun h => h)⟩
  | true =>
    have hk := next_lt ho
    rw [ho] at hn
    obtain ⟨k, hke⟩ : ∃ k, k = nextL T m := ⟨_, rfl⟩
    rw [← hke] at hn hk ⊢
    clear hke ho
    have hp : (T k).p ≠ 256 := by have := hG.line k hk; omega
    have i1 : 0 ≤ (k : Int) ∧ (k : Int) < 32 := by omega
    go_enter Try.func24, Try.ntmps24
    go_wp2_with fail
    refine hn.mono ?_
    rintro e w1 ⟨rfl, f1⟩
    have h1 := h.keep f1 (fun h => h)
    obtain ⟨c0, c1, c2, c3, sv, c4, _⟩ := h1.cells k hk
    have g2 := h1.frozen (64 + k)
    have g3 := h1.frozen (96 + k)
    have g4 := h1.frozen (128 + k)
    have h2 := h1.setAck hk hp
    have f2 : Fr (at' b) w (((w1.setCell ⟨b, 96 + k, none⟩ (.bool true)).setCell ⟨b, 64 + k, none⟩ (.bool false)).setCell ⟨b, 128 + k, none⟩ (.int .i64 (T k).p)) := fr_set w b _ _ (fr_set w b _ _ (fr_set w b _ _ (f1.mono (fun _ _ h => h.elim))))
    have H2 := hid h2
    clear hn h1 h h2
    go_wp2_with fail
    go_region
    all_goals (go_wp2_with fail)
    all_goals go_ret
    all_goals exact ⟨rfl, f2.drew, H2.out.keep (Fr.drew (Fr.refl none' _)) (fun h => h)⟩

set_option maxHeartbeats 1000000 in
theorem rend_any (w : World) (b : Nat) (T : Nat → Li) (m : Int) (h : IsRef w b T m) (n : Int) :
    Calls Try.prog 25 #[.pointer (some ⟨b, 0, none⟩), .int .i64 n] w fun e w' => e = .returned (.int .i64 (enE T n)) ∧ Fr (at' b) w w' ∧ IsRef w' b (enT T n) m := by
  unfold enE enT chT
  cases hn : isL n with
  | false =>
    go_enter Try.func25, Try.ntmps25
    go_wp2_with fail
    refine (is_any _ _).mono ?_
    rintro e w1 ⟨rfl, rfl⟩
    rw [hn]
    go_wp2_with fail
    go_ret
    exact ⟨rfl, Fr.refl _ _, h⟩
  | true =>
    obtain ⟨k, rfl⟩ : ∃ k : Nat, n = (k : Int) := ⟨n.toNat, by have := isL_iff.mp hn; omega⟩
    have hk : k < 32 := by have := isL_iff.mp hn; omega
    show Calls Try.prog 25 #[.pointer (some ⟨b, 0, none⟩), .int .i64 (k : Int)] w fun e w' => e = .returned (.int .i64 (bif act (T k) then 0 else 70)) ∧ Fr (at' b) w w' ∧ IsRef w' b (upd T k (fEnd (T k))) m
    obtain ⟨c0, c1, c2, c3, _⟩ := h.cells k hk
    have g3 := h.frozen (96 + k)
    have i1 : 0 ≤ (k : Int) ∧ (k : Int) < 32 := by omega
    cases ha : act (T k) with
    | false =>
      rw [ha] at c3
      go_enter Try.func25, Try.ntmps25
      go_wp2_with fail
      refine (is_any _ _).mono ?_
      rintro e w1 ⟨rfl, rfl⟩
      rw [hn]
      go_wp2_with fail
      go_ret
      refine ⟨rfl, Fr.refl _ _, h.congr (fun j hj => ?_)⟩
      by_cases e : j = k
      · subst e
        rw [upd_same]
        have : (T j).s = 256 := by simpa [act] using ha
        unfold fEnd; rw [← this]
      · rw [upd_other _ _ e]
    | true =>
      rw [ha] at c3
      go_enter Try.func25, Try.ntmps25
      go_wp2_with fail
      refine (is_any _ _).mono ?_
      rintro e w1 ⟨rfl, rfl⟩
      rw [hn]
      go_wp2_with fail
      go_ret
      exact ⟨rfl, fr_set _ b _ _ (Fr.refl _ _), h.setEnd hk⟩

end Go.Proofs.Ytcenojdcmmflaaa
