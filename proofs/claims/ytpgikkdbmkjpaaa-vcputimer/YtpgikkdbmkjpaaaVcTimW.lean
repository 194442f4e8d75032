/-
  The walk of VcpuTimer. No statement is proved here.
-/
import Derived.Test.YtpgikkdbmkjpaaaVcAwake
import Derived.Test.YtpgikkdbmkjpaaaVcTim
import Derived.Below
namespace Go.Proofs.Ytpgikkdbmkjpaaa
open Go.RowKit Go.Maps Go.WideMaps

theorem bel_of {w w' : World} (h : Fr none' w w') : Below w.heap.size w w' := ⟨h.os, h.tape, h.output, h.size, fun i hi => h.block i hi (fun h => h)⟩
theorem find_tm {c t : Int} {S : Vp} {i : Nat} {V : Vg} (h : Tm c t S i V) : ∃ x, fnd S.L 0 = some x ∧ x.vg = V ∧ hasB S 0 = true := by
  obtain ⟨sy, rfl, _, _⟩ := h
  exact ⟨_, rfl, rfl, rfl⟩
theorem find_up {S : Vp} {x : Vc} (h : fnd S.L 0 = some x) (v : Vg) : fnd (upd S.L 0 (setV v)) 0 = some (setV v x) := by
  rw [fnd_upd1 S.L 0 (f := setV v) (fun _ => rfl), if_pos rfl, h]
  rfl
def tn (c t : Int) (i : Nat) : Int := if tl c t i then 1 else 0
set_option maxRecDepth 100000 in
set_option maxHeartbeats 4000000 in
theorem ltimer_any (c t k : Int) (W : World) (hc : 0 ≤ c ∧ c < 4294967296) (ht : 0 ≤ t ∧ t < 4294967296) (hk : I64 k) :
    Calls Try.prog 6 #[.int .u32 c, .int .u32 t, .int .i64 k] W fun e W' => e = .returned (.bool true) ∧ Below W.heap.size W W' := by
  obtain ⟨n1, n2, n3, n4⟩ := tm_codes c
  have HT : Hid (0 ≤ c ∧ c < 4294967296 ∧ 0 ≤ t ∧ t < 4294967296) := ⟨hc.1, hc.2, ht.1, ht.2⟩
  have HK : Hid (I64 k) := hk
  clear hc ht hk
  obtain ⟨M, hM⟩ : ∃ M, (if 60 < k then 60 else k) = M := ⟨_, rfl⟩
  have HM : Hid (M ≤ 60 ∧ I64 M) := by
    have := HK.out
    show M ≤ 60 ∧ I64 M
    unfold I64 at *
    subst hM
    split <;> omega
  go_enter Try.func6, Try.ntmps6
  go_wp2_with fail
  refine (awake_any W).mono ?_
  rintro e w1 ⟨rfl, F0⟩
  have HF : Hid (Fr none' W w1) := F0
  clear F0
  go_wp2_with fail
  refine (xnew w1 1 (by decide)).mono ?_
  rintro e w2 ⟨p, rfl, P⟩
  go_wp2_with fail
  refine (xadd P 0).mono ?_
  rintro e w3 ⟨p3, rfl, eb, Q, _⟩
  rw [n1, ← eb]
  clear P eb
  go_wp2_with fail
  refine (xenter Q 0 (i64_of (by omega) (by omega))).mono ?_
  clear Q
  rintro e w4 ⟨rfl, Q, _⟩
  rw [n2]
  go_wp2_with fail
  refine (xwrite Q 0 5 c (i64_of (by omega) (by omega))).mono ?_
  clear Q
  rintro e w5 ⟨rfl, Q, _⟩
  rw [n3]
  go_wp2_with fail
  refine (xwrite Q 0 3 t (i64_of (by omega) (by omega))).mono ?_
  clear Q
  rintro e w6 ⟨rfl, Q, _⟩
  rw [n4]
  have HQ : Hid (∃ S, Vx w1 w6 p3 S none' ∧ Tm c t S 0 (VV (tl c t 0))) := ⟨_, Q, tm_0 c t ⟨HT.out.1, HT.out.2.1⟩⟩
  clear Q n1 n2 n3 n4
  go_wp2_with fail
  go_loopw [14, 15] (fun a b wr => ∃ i : Nat, (i : Int) ≤ max 0 M ∧ a = .int .i64 (tn c t i) ∧ b = .int .i64 (i : Int) ∧ Hid (∃ S, Vx w1 wr p3 S none' ∧ Tm c t S i (VV (tl c t i)))) (fun _ b _ => 60 - (intOf b).toNat)
  case atStart => exact ⟨0, by omega, by unfold tn; rw [tl_0]; rfl, rfl, HQ.out⟩
  case round =>
    clear HQ
    obtain ⟨i, hi, rfl, rfl, hS⟩ := hrel
    by_cases hlt : (i : Int) < M
    · have dlt : decide ((i : Int) < M) = true := decide_eq_true hlt
      have hi60 : i < 60 := by have := HM.out.1; omega
      have hw1 : IntKind.u32.wrap (i : Int) = (i : Int) := by rw [wr32]; omega
      obtain ⟨S, vx, tm⟩ := hS.out
      have X := xtick vx
      have HX := tm_tick ⟨HT.out.2.2.1, HT.out.2.2.2⟩ hi60 tm
      have HDT := due_tl (c := c) (t := t) ⟨HT.out.2.2.1, HT.out.2.2.2⟩ hi60
      rw [HX.1] at X
      clear vx hS tm
      cases hd : due c t i with
      | false =>
        rw [hd] at X
        have htn : tn c t (i + 1) = tn c t i := by unfold tn; rw [HDT.2 hd]
        have HX2 : Hid _ := HX.2
        clear HX HDT hd
        go_wp2_with fail
        refine X.mono ?_
        clear X
        rintro e w7 ⟨rfl, Q, _⟩
        have HQ : Hid (∃ S, Vx w1 w7 p3 S none' ∧ Tm c t S (i + 1) (VV (tl c t (i + 1)))) := ⟨_, Q, HX2.out⟩
        clear Q HX2
        go_wp2_with fail
        go_roundw
        case rel => exact ⟨i + 1, by omega, by rw [htn], by go_num, HQ⟩
        case measure => simp [intOf]; omega
      | true =>
        rw [hd] at X
        have h0 : tn c t i = 0 := by unfold tn; rw [(HDT.1 hd).1]; rfl
        have h1 : tn c t (i + 1) = 1 := by unfold tn; rw [(HDT.1 hd).2]; rfl
        have hdd := of_decide_eq_true hd
        have e0 : (t == 0) = false := by simpa using hdd.1
        have hw2 : ((c + (i : Int) + 1) % 4294967296 != t) = false := by rw [hdd.2]; simp
        have HX2 : Hid _ := HX.2
        rw [h0]
        clear HX HDT hd hdd
        go_wp2_with fail
        refine X.mono ?_
        clear X
        rintro e w7 ⟨rfl, Q, _⟩
        have HQ : Hid (∃ S, Vx w1 w7 p3 S none' ∧ Tm c t S (i + 1) (VV (tl c t (i + 1)))) := ⟨_, Q, HX2.out⟩
        clear Q HX2
        go_wp2_with fail
        go_roundw
        case rel => exact ⟨i + 1, by omega, by rw [h1], by go_num, HQ⟩
        case measure => simp [intOf]; omega
    · have dlt : decide ((i : Int) < M) = false := decide_eq_false hlt
      obtain ⟨S, vx, tm⟩ := hS.out
      obtain ⟨x, hx, hv, hh⟩ := find_tm tm
      have X := xvgic vx 0 (i64_of (by omega) (by omega))
      rw [if_pos hh] at X
      have Y := xack vx hx
      rw [hv, vv_ack] at Y
      have HXX : Hid (fnd S.L 0 = some x) := hx
      clear vx hS tm hx hh
      go_wp2_with fail
      refine X.mono ?_
      clear X
      rintro e w7 ⟨rfl, rfl⟩
      go_wp2_with fail
      refine Y.mono ?_
      clear Y
      rintro e w8 ⟨rfl, Q, _⟩
      have Z := xend Q (x := setV (ackS (VV (tl c t i))) x) (find_up HXX.out _) (if tl c t i then 27 else 1023)
      have ez : (setV (ackS (VV (tl c t i))) x).vg = ackS (VV (tl c t i)) := rfl
      rw [ez, vv_endF, vv_endE] at Z
      clear Q ez HXX
      have hi2 : (i : Int) = if 0 < M then M else 0 := by split <;> omega
      obtain ⟨Y, hY⟩ : ∃ Y, (if 0 < M then M else 0) = Y := ⟨_, rfl⟩
      rw [hY] at hi2
      have hYw : IntKind.u32.wrap Y = Y := by rw [wr32]; have := HM.out.1; omega
      obtain ⟨D, hD⟩ : ∃ D, IntKind.u32.wrap (t - c) = D := ⟨_, rfl⟩
      have hD2 := hD
      rw [wr32] at hD2
      have HW : Hid (Fr none' w1 w8 → True) := fun _ => trivial
      have htl : tl c t i = decide (t ≠ 0 ∧ 1 ≤ D ∧ D ≤ Y) := by
        unfold tl
        rw [hD2, hi2]
      have htn : tn c t i = if decide (t ≠ 0 ∧ 1 ≤ D ∧ D ≤ Y) then 1 else 0 := by unfold tn; rw [htl]
      rw [htl] at Z ⊢
      rw [htn]
      clear htl htn hD2 hi2 HW hi hlt dlt
      by_cases a0 : t = 0
      · have e0 : (t != 0) = false := by simp [a0]
        rw [decide_eq_false (show ¬ (t ≠ 0 ∧ 1 ≤ D ∧ D ≤ Y) from fun h => h.1 a0)] at Z ⊢
        rw [if_neg (by decide)] at Z ⊢
        rw [if_neg (by decide)] at Z ⊢
        clear a0
        go_wp2_with fail
        refine Z.mono ?_
        clear Z
        rintro e w9 ⟨rfl, Q, _⟩
        have HZ : Hid (Fr none' w1 w9) := Q.fr
        clear Q
        go_wp2_with fail
        go_ret
        exact ⟨rfl, bel_of (HF.out.trans HZ.out)⟩
      · have e0 : (t != 0) = true := by simpa using a0
        by_cases b1 : 1 ≤ D
        · have e1 : decide (1 ≤ D) = true := decide_eq_true b1
          by_cases b2 : D ≤ Y
          · have e2 : decide (D ≤ Y) = true := decide_eq_true b2
            rw [decide_eq_true (show t ≠ 0 ∧ 1 ≤ D ∧ D ≤ Y from ⟨a0, b1, b2⟩)] at Z ⊢
            rw [if_pos (by decide)] at Z ⊢
            rw [if_pos (by decide)] at Z ⊢
            clear b1 b2
            clear a0
            go_wp2_with fail
            refine Z.mono ?_
            clear Z
            rintro e w9 ⟨rfl, Q, _⟩
            have HZ : Hid (Fr none' w1 w9) := Q.fr
            clear Q
            go_wp2_with fail
            go_ret
            exact ⟨rfl, bel_of (HF.out.trans HZ.out)⟩
          · have e2 : decide (D ≤ Y) = false := decide_eq_false b2
            rw [decide_eq_false (show ¬ (t ≠ 0 ∧ 1 ≤ D ∧ D ≤ Y) from fun h => b2 h.2.2)] at Z ⊢
            rw [if_neg (by decide)] at Z ⊢
            rw [if_neg (by decide)] at Z ⊢
            clear b1 b2
            clear a0
            go_wp2_with fail
            refine Z.mono ?_
            clear Z
            rintro e w9 ⟨rfl, Q, _⟩
            have HZ : Hid (Fr none' w1 w9) := Q.fr
            clear Q
            go_wp2_with fail
            go_ret
            exact ⟨rfl, bel_of (HF.out.trans HZ.out)⟩
        · have e1 : decide (1 ≤ D) = false := decide_eq_false b1
          rw [decide_eq_false (show ¬ (t ≠ 0 ∧ 1 ≤ D ∧ D ≤ Y) from fun h => b1 h.2.1)] at Z ⊢
          rw [if_neg (by decide)] at Z ⊢
          rw [if_neg (by decide)] at Z ⊢
          clear b1
          clear a0
          go_wp2_with fail
          refine Z.mono ?_
          clear Z
          rintro e w9 ⟨rfl, Q, _⟩
          have HZ : Hid (Fr none' w1 w9) := Q.fr
          clear Q
          go_wp2_with fail
          go_ret
          exact ⟨rfl, bel_of (HF.out.trans HZ.out)⟩

end Go.Proofs.Ytpgikkdbmkjpaaa
