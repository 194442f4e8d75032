/-
  AsmBase over the translation: whatever numbers came in, the law returns true, and nothing old turns. No statement is proved here.
-/
import Derived.Test.YtiifadnmiambpabGreatDoorAsmAwake
import Derived.Test.YtiifadnmiambpabGreatDoorAsmTwiceP
namespace Go.Proofs.YtiifadnmiambpabGreatDoor
open Go.RowKit

def jF : Nat → List UInt8 := fun _ => [110, 111, 112, 10, 106, 109, 112, 32, 102, 105, 114, 115, 116, 10]
theorem jF_is : jF = fun _ => nopB ++ 10 :: (jmpFB ++ [10]) := rfl
theorem base_len (v : Int) (m : Nat) : (baseW v m).length = 2 * m := by
  induction m with
  | zero => rfl
  | succ n ih => unfold baseW at ih ⊢; rw [List.replicate_succ, List.flatten_cons, List.length_append, ih]; simp; omega
theorem base_get (v : Int) : ∀ (m i : Nat), i < m → (baseW v m)[2 * i]? = some 419430400 ∧ (baseW v m)[2 * i + 1]? = some (encW 14 0 0 0 v)
  | 0, i, h => by omega
  | m + 1, 0, _ => by unfold baseW; rw [List.replicate_succ, List.flatten_cons]; exact ⟨rfl, rfl⟩
  | m + 1, i + 1, h => by
    have ih := base_get v m i (by omega)
    unfold baseW at ih ⊢
    rw [List.replicate_succ, List.flatten_cons]
    have e1 : 2 * (i + 1) = 2 * i + 2 := by omega
    have e2 : 2 * (i + 1) + 1 = 2 * i + 1 + 2 := by omega
    rw [e2, e1]
    exact ih
theorem jmp_word (v : Nat) (h : v ≤ 60000) : encW 14 0 0 0 (v : Int) = ((234881024 + v : Nat) : Int) ∧ dOp ((234881024 + v : Nat) : Int) = 14 ∧ dI ((234881024 + v : Nat) : Int) = (v : Int) ∧ dE ((234881024 + v : Nat) : Int) = 0 := by
  have hr : rightI 14 0 0 0 (v : Int) = true := by
    unfold rightI
    have hk : kf 14 = 4 := rfl
    rw [hk]
    have h2 : decide ((v : Int) ≤ 65535) = true := decide_eq_true (by omega)
    simp [fld, hA, hB, hC, hI, h2]
  have hw : wordI 14 0 0 0 (v : Int) = ((234881024 + v : Nat) : Int) := by unfold wordI; omega
  have := dec_back hr
  rw [hw] at this
  exact ⟨by unfold encW; rw [if_pos hr, hw], this.1, this.2.2.2.2.1, this.2.2.2.2.2⟩

set_option maxRecDepth 100000 in
set_option maxHeartbeats 1000000 in
theorem base_out (m b c : Int) (w : World) (hE : Env w) (h : m < 1 ∨ (¬ m < 1 ∧ (60 < m ∨ (¬ 60 < m ∧ (b < 0 ∨ (¬ b < 0 ∧ (60000 < b ∨ (¬ 60000 < b ∧ (c < 0 ∨ (¬ c < 0 ∧ 60000 < c)))))))))) :
    Calls Tryz.prog 3 #[.int .i64 m, .int .i64 b, .int .i64 c] w fun e w' => e = .returned (.bool true) ∧ Fr none' w w' := by
  have A := awake_any w hE
  rcases h with h1 | ⟨h1, h2 | ⟨h2, h3 | ⟨h3, h4 | ⟨h4, h5 | ⟨h5, h6⟩⟩⟩⟩⟩
  · have g1 : decide (m < 1) = true := decide_eq_true h1
    clear h1
    go_enter Tryz.func3, Tryz.ntmps3
    go_wp2_with fail
    refine A.mono ?_
    rintro e w1 ⟨rfl, f1⟩
    go_wp2_with fail
    go_ret
    exact ⟨rfl, f1⟩
  · have g1 : decide (m < 1) = false := decide_eq_false h1
    have g2 : decide (60 < m) = true := decide_eq_true h2
    clear h1 h2
    go_enter Tryz.func3, Tryz.ntmps3
    go_wp2_with fail
    refine A.mono ?_
    rintro e w1 ⟨rfl, f1⟩
    go_wp2_with fail
    go_ret
    exact ⟨rfl, f1⟩
  · have g1 : decide (m < 1) = false := decide_eq_false h1
    have g2 : decide (60 < m) = false := decide_eq_false h2
    have g3 : decide (b < 0) = true := decide_eq_true h3
    clear h1 h2 h3
    go_enter Tryz.func3, Tryz.ntmps3
    go_wp2_with fail
    refine A.mono ?_
    rintro e w1 ⟨rfl, f1⟩
    go_wp2_with fail
    go_ret
    exact ⟨rfl, f1⟩
  · have g1 : decide (m < 1) = false := decide_eq_false h1
    have g2 : decide (60 < m) = false := decide_eq_false h2
    have g3 : decide (b < 0) = false := decide_eq_false h3
    have g4 : decide (60000 < b) = true := decide_eq_true h4
    clear h1 h2 h3 h4
    go_enter Tryz.func3, Tryz.ntmps3
    go_wp2_with fail
    refine A.mono ?_
    rintro e w1 ⟨rfl, f1⟩
    go_wp2_with fail
    go_ret
    exact ⟨rfl, f1⟩
  · have g1 : decide (m < 1) = false := decide_eq_false h1
    have g2 : decide (60 < m) = false := decide_eq_false h2
    have g3 : decide (b < 0) = false := decide_eq_false h3
    have g4 : decide (60000 < b) = false := decide_eq_false h4
    have g5 : decide (c < 0) = true := decide_eq_true h5
    clear h1 h2 h3 h4 h5
    go_enter Tryz.func3, Tryz.ntmps3
    go_wp2_with fail
    refine A.mono ?_
    rintro e w1 ⟨rfl, f1⟩
    go_wp2_with fail
    go_ret
    exact ⟨rfl, f1⟩
  · have g1 : decide (m < 1) = false := decide_eq_false h1
    have g2 : decide (60 < m) = false := decide_eq_false h2
    have g3 : decide (b < 0) = false := decide_eq_false h3
    have g4 : decide (60000 < b) = false := decide_eq_false h4
    have g5 : decide (c < 0) = false := decide_eq_false h5
    have g6 : decide (60000 < c) = true := decide_eq_true h6
    clear h1 h2 h3 h4 h5 h6
    go_enter Tryz.func3, Tryz.ntmps3
    go_wp2_with fail
    refine A.mono ?_
    rintro e w1 ⟨rfl, f1⟩
    go_wp2_with fail
    go_ret
    exact ⟨rfl, f1⟩

set_option maxRecDepth 100000 in
set_option maxHeartbeats 4000000 in
theorem base_in (m b c : Nat) (w : World) (hE : Env w) (hm1 : 1 ≤ m) (hm : m ≤ 60) (hb : b ≤ 60000) (hc : c ≤ 60000) :
    Calls Tryz.prog 3 #[.int .i64 (m : Int), .int .i64 (b : Int), .int .i64 (c : Int)] w fun e w' => e = .returned (.bool true) ∧ Fr none' w w' := by
  have A := awake_any w hE
  have g1 : decide ((m : Int) < 1) = false := decide_eq_false (by omega)
  have g2 : decide (60 < (m : Int)) = false := decide_eq_false (by omega)
  have g3 : decide ((b : Int) < 0) = false := decide_eq_false (by omega)
  have g4 : decide (60000 < (b : Int)) = false := decide_eq_false (by omega)
  have g5 : decide ((c : Int) < 0) = false := decide_eq_false (by omega)
  have g6 : decide (60000 < (c : Int)) = false := decide_eq_false (by omega)
  have HE := hid' hE
  have HF := hid' (show 1 ≤ m ∧ m ≤ 60 ∧ b ≤ 60000 ∧ c ≤ 60000 from ⟨hm1, hm, hb, hc⟩)
  clear hE hm1 hm hb hc
  go_enter Tryz.func3, Tryz.ntmps3
  go_wp2_with fail
  refine A.mono ?_
  rintro e w1 ⟨rfl, f1⟩
  clear A
  go_wp2_with fail
  go_loopw [8, 9] (fun a i wr => ∃ (k : Nat) (z : ByteArray), k ≤ m ∧ a = .string z ∧ i = .int .i64 (k : Int) ∧ Hid (z = ⟨(firstB ++ [10] ++ accB jF k).toArray⟩) ∧ Fr none' w wr) (fun _ i _ => m - (intOf i).toNat)
  case atStart => exact ⟨0, _, by omega, rfl, rfl, hid' rfl, f1⟩
  case round =>
    clear f1 g1 g2 g3 g4 g5 g6
    obtain ⟨k, z, hk, rfl, rfl, HZ, fk⟩ := hrel
    have HF' := HF.out
    have hmb : m ≤ 60 := HF'.2.1
    by_cases hlt : k < m
    · have u1 : decide ((k : Int) < (m : Int)) = true := decide_eq_true (by omega)
      have u2 : decide (k < m) = true := decide_eq_true hlt
      have l1 := acc_len jF (fun _ => show (14 : Nat) ≤ 50 by decide) k
      have a1 := add_run (firstB ++ [10] ++ accB jF k) [110, 111, 112, 10, 106, 109, 112, 32, 102, 105, 114, 115, 116, 10] (by rw [List.length_append, List.length_append]; simp only [List.length_cons, List.length_nil, firstB]; omega)
      obtain ⟨t1, h1⟩ : ∃ z : ByteArray, z = ⟨(firstB ++ [10] ++ accB jF k ++ [110, 111, 112, 10, 106, 109, 112, 32, 102, 105, 114, 115, 116, 10]).toArray⟩ := ⟨_, rfl⟩
      simp only [strV] at a1
      rw [← HZ.out, ← h1] at a1
      have HT : Hid (t1 = ⟨(firstB ++ [10] ++ accB jF (k + 1)).toArray⟩) := by
        show t1 = _
        rw [h1, acc_succ]; simp [jF]
      clear h1 l1 HF' HZ
      go_wp2_with fail
      go_roundw
      case rel => exact ⟨k + 1, t1, by omega, rfl, by go_num, HT, fk⟩
      case measure => simp [intOf]; omega
    · obtain rfl : k = m := by omega
      obtain ⟨w4, hw4⟩ : ∃ w4, w4 = wr := ⟨wr, rfl⟩
      subst hw4
      have u1 : decide ((k : Int) < (k : Int)) = false := decide_eq_false (by omega)
      have u2 : decide (k < k) = false := decide_eq_false (by omega)
      have hz : z.data.toList = joinL (baseL k) [] := by rw [HZ.out, ← base_built k, ← jF_is]
      have B1 := asmis_any (b : Int) z w4 (HE.out.keep fk)
      have B2 := fun w hE => asmis_any (c : Int) z w hE
      rw [hz, base_pure (b : Int) (by omega) (by omega) k hmb] at B1
      simp only [hz, base_pure (c : Int) (by omega) (by omega) k hmb] at B2
      have e1 : (((baseW (b : Int) k).length : Int) != 2 * (k : Int)) = false := by rw [base_len]; simp
      have e2 : (((baseW (c : Int) k).length : Int) != 2 * (k : Int)) = false := by rw [base_len]; simp
      have e3 : IntKind.i64.wrap (2 * (k : Int)) = 2 * (k : Int) := by
        simp only [IntKind.wrap, IntKind.bits, IntKind.signed]
        simp
        omega
      clear HZ hz HF'
      go_wp2_with fail
      refine B1.mono ?_
      rintro e w2 ⟨⟨v1, rfl, o1⟩, f2⟩
      have W1 := ws_own o1
      replace fk := fk.trans f2
      clear B1 f2 o1
      go_wp2_with fail
      refine (B2 _ (HE.out.keep fk)).mono ?_
      rintro e w3 ⟨⟨v2, rfl, o2⟩, f3⟩
      have W2 := hid' (ws_own o2)
      replace W1 := hid' (W1.keep0 f3)
      replace fk := fk.trans f3
      clear B2 f3 o2
      obtain ⟨x1, y1, rfl, k1⟩ := W1.out
      obtain ⟨x2, y2, rfl, k2⟩ := W2.out
      have K1 := hid' k1
      have K2 := hid' k2
      have HM := hid' hmb
      have HL1 := hid' (base_len (b : Int) k)
      have HL2 := hid' (base_len (c : Int) k)
      clear k1 k2 W1 W2
      go_wp2_with fail
      go_loopw [16] (fun i wr => ∃ j : Nat, j ≤ k ∧ i = .int .i64 (j : Int) ∧ Fr none' w wr ∧ Hid (Fr none' w3 wr)) (fun i _ => k - (intOf i).toNat)
      case atStart => exact ⟨0, by omega, rfl, fk, hid' (Fr.refl _ _)⟩
      case round =>
        clear fk e1 e2 e3
        obtain ⟨j, hj, rfl, fj, F3⟩ := hrel
        by_cases hjl : j < k
        · have q1 : decide ((j : Int) < (k : Int)) = true := decide_eq_true (by omega)
          have q2 : decide (j < k) = true := decide_eq_true hjl
          have hmb := HM.out
          obtain ⟨bg1, bg2⟩ := base_get (b : Int) k j hjl
          obtain ⟨cg1, cg2⟩ := base_get (c : Int) k j hjl
          obtain ⟨jb1, jb2, jb3, jb4⟩ := jmp_word b HF.out.2.2.1
          obtain ⟨jc1, jc2, jc3, jc4⟩ := jmp_word c HF.out.2.2.2
          rw [jb1] at bg2
          rw [jc1] at cg2
          obtain ⟨p1, o1, rfl, c1⟩ := K1.out (2 * j) _ bg1
          obtain ⟨p1', o1', he1, c2⟩ := K1.out (2 * j + 1) _ bg2
          cases he1
          obtain ⟨p2, o2, rfl, c3⟩ := K2.out (2 * j) _ cg1
          obtain ⟨p2', o2', he2, c4⟩ := K2.out (2 * j + 1) _ cg2
          cases he2
          have d1 := cell_keep F3.out c1 (fun h => h)
          have d2 := cell_keep F3.out c2 (fun h => h)
          have d3 := cell_keep F3.out c3 (fun h => h)
          have d4 := cell_keep F3.out c4 (fun h => h)
          have i1 : 0 ≤ 2 * (j : Int) ∧ 2 * (j : Int) < ((baseW (b : Int) k).length : Int) := by have := HL1.out; omega
          have i2 : 0 ≤ 2 * (j : Int) + 1 ∧ 2 * (j : Int) + 1 < ((baseW (b : Int) k).length : Int) := by have := HL1.out; omega
          have i3 : 0 ≤ 2 * (j : Int) ∧ 2 * (j : Int) < ((baseW (c : Int) k).length : Int) := by have := HL2.out; omega
          have i4 : 0 ≤ 2 * (j : Int) + 1 ∧ 2 * (j : Int) + 1 < ((baseW (c : Int) k).length : Int) := by have := HL2.out; omega
          have e3 : IntKind.i64.wrap (2 * (j : Int)) = 2 * (j : Int) := by
            simp only [IntKind.wrap, IntKind.bits, IntKind.signed]
            simp
            omega
          have e4 : IntKind.i64.wrap (2 * (j : Int) + 1) = 2 * (j : Int) + 1 := by
            simp only [IntKind.wrap, IntKind.bits, IntKind.signed]
            simp
            omega
          have n1 : (2 * (j : Int)).toNat = 2 * j := by omega
          have n2 : (2 * (j : Int) + 1).toNat = 2 * j + 1 := by omega
          obtain ⟨xb, hxb⟩ : ∃ x, 234881024 + b = x := ⟨_, rfl⟩
          obtain ⟨xc, hxc⟩ : ∃ x, 234881024 + c = x := ⟨_, rfl⟩
          rw [hxb] at d2 jb2 jb3 jb4
          rw [hxc] at d4 jc2 jc3 jc4
          have D1 := dec_any xb wr (by have := HF.out; omega)
          have D2 := fun w => dec_any xc w (by have := HF.out; omega)
          rw [jb2, jb3, jb4] at D1
          simp only [jc2, jc3, jc4] at D2
          have t1 : ((b : Int) != (b : Int)) = false := by simp
          have t2 : ((c : Int) != (c : Int)) = false := by simp
          clear bg1 bg2 cg1 cg2 jb1 jc1 c1 c2 c3 c4 jb2 jb3 jb4 jc2 jc3 jc4 hxb hxc
          go_wp2_with fail
          refine D1.mono ?_
          rintro e w5 ⟨rfl, f5⟩
          have fa := f5.alloc (.cells #[.int .i64 14, .int .i64 (dA (xb : Int)), .int .i64 (dB (xb : Int)), .int .i64 (dC (xb : Int)), .int .i64 (b : Int)] 28)
          have r1 := row_alloc w5 #[.int .i64 14, .int .i64 (dA (xb : Int)), .int .i64 (dB (xb : Int)), .int .i64 (dC (xb : Int)), .int .i64 (b : Int)] 28
          replace d1 := cell_keep fa d1 (fun h => h)
          replace d3 := cell_keep fa d3 (fun h => h)
          replace d4 := cell_keep fa d4 (fun h => h)
          clear D1 f5 d2
          go_wp2_with fail
          refine (D2 _).mono ?_
          rintro e w6 ⟨rfl, f6⟩
          have fb := f6.alloc (.cells #[.int .i64 14, .int .i64 (dA (xc : Int)), .int .i64 (dB (xc : Int)), .int .i64 (dC (xc : Int)), .int .i64 (c : Int)] 28)
          have r2 := row_alloc w6 #[.int .i64 14, .int .i64 (dA (xc : Int)), .int .i64 (dB (xc : Int)), .int .i64 (dC (xc : Int)), .int .i64 (c : Int)] 28
          have r3 := (r1.keep f6 (fun h => h)).alloc (.cells #[.int .i64 14, .int .i64 (dA (xc : Int)), .int .i64 (dB (xc : Int)), .int .i64 (dC (xc : Int)), .int .i64 (c : Int)] 28)
          have hne : w5.heap.size ≠ w6.heap.size := Nat.ne_of_lt (r1.keep f6 (fun h => h)).lt
          replace d1 := cell_keep fb d1 (fun h => h)
          replace d3 := cell_keep fb d3 (fun h => h)
          have FJ := hid' (fj.trans (fa.trans fb))
          have F4 := hid' (F3.out.trans (fa.trans fb))
          have s0 := r3.cell 0
          have s4 := r3.cell 4
          have v0 := r2.cell 0
          have v4 := r2.cell 4
          clear D2 f6 d4 fa fb r1 r2 r3 fj F3
          go_wp2_with fail
          go_quiet (fail)
          go_wp2_with fail
          go_roundw
          case rel => exact ⟨j + 1, by omega, by go_num, FJ.out.trans (fr_drewN _ _), hid' (F4.out.trans (fr_drewN _ _))⟩
          case measure => simp [intOf]; omega
        · obtain rfl : j = k := by omega
          have q1 : decide ((j : Int) < (j : Int)) = false := decide_eq_false (by omega)
          have q2 : decide (j < j) = false := decide_eq_false (by omega)
          go_wp2_with fail
          go_ret
          exact ⟨rfl, fj⟩

theorem basel_any (m b c : Int) (w : World) (hE : Env w) :
    Calls Tryz.prog 3 #[.int .i64 m, .int .i64 b, .int .i64 c] w fun e w' => e = .returned (.bool true) ∧ Below w.heap.size w w' := by
  have H : Calls Tryz.prog 3 #[.int .i64 m, .int .i64 b, .int .i64 c] w fun e w' => e = .returned (.bool true) ∧ Fr none' w w' := by
    by_cases h : 1 ≤ m ∧ m ≤ 60 ∧ 0 ≤ b ∧ b ≤ 60000 ∧ 0 ≤ c ∧ c ≤ 60000
    · obtain ⟨m', rfl⟩ : ∃ q : Nat, m = (q : Int) := ⟨m.toNat, by omega⟩
      obtain ⟨b', rfl⟩ : ∃ q : Nat, b = (q : Int) := ⟨b.toNat, by omega⟩
      obtain ⟨c', rfl⟩ : ∃ q : Nat, c = (q : Int) := ⟨c.toNat, by omega⟩
      exact base_in m' b' c' w hE (by omega) (by omega) (by omega) (by omega)
    · exact base_out m b c w hE (by omega)
  exact H.mono fun _ _ ⟨he, hf⟩ => ⟨he, hf.below (Nat.le_refl _) (fun _ h => h.elim)⟩

end Go.Proofs.YtiifadnmiambpabGreatDoor
