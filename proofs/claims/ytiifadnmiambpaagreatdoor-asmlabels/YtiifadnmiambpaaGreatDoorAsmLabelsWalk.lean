/-
  AsmLabels over the translation: whatever numbers came in, the law returns true, and nothing old turns. No statement is proved here.
-/
import Derived.Test.YtiifadnmiambpaaGreatDoorAsmAwake
import Derived.Test.YtiifadnmiambpaaGreatDoorAsmTwiceP
namespace Go.Proofs.YtiifadnmiambpaaGreatDoor
open Go.RowKit

theorem lab_len (t i : Nat) : (labF t i).length ≤ 50 := by
  unfold labF
  split <;> simp [hereB, nopB]
theorem jmpL_word (v : Nat) (h : v ≤ 65535) : encW 14 0 0 0 (v : Int) = ((234881024 + v : Nat) : Int) ∧ dOp ((234881024 + v : Nat) : Int) = 14 ∧ dA ((234881024 + v : Nat) : Int) = 0 ∧ dB ((234881024 + v : Nat) : Int) = 0 ∧ dC ((234881024 + v : Nat) : Int) = 0 ∧ dI ((234881024 + v : Nat) : Int) = (v : Int) ∧ dE ((234881024 + v : Nat) : Int) = 0 := by
  have hr : rightI 14 0 0 0 (v : Int) = true := by
    unfold rightI
    have hk : kf 14 = 4 := rfl
    rw [hk]
    have h2 : decide ((v : Int) ≤ 65535) = true := decide_eq_true (by omega)
    simp [fld, hA, hB, hC, hI, h2]
  have hw : wordI 14 0 0 0 (v : Int) = ((234881024 + v : Nat) : Int) := by unfold wordI; omega
  have := dec_back hr
  rw [hw] at this
  exact ⟨by unfold encW; rw [if_pos hr, hw], this⟩
theorem jalL_word (v : Nat) (h : v ≤ 65535) : encW 15 3 0 0 (v : Int) = ((254803968 + v : Nat) : Int) ∧ dOp ((254803968 + v : Nat) : Int) = 15 ∧ dA ((254803968 + v : Nat) : Int) = 3 ∧ dB ((254803968 + v : Nat) : Int) = 0 ∧ dC ((254803968 + v : Nat) : Int) = 0 ∧ dI ((254803968 + v : Nat) : Int) = (v : Int) ∧ dE ((254803968 + v : Nat) : Int) = 0 := by
  have hr : rightI 15 3 0 0 (v : Int) = true := by
    unfold rightI
    have hk : kf 15 = 1 := rfl
    rw [hk]
    have h2 : decide ((v : Int) ≤ 65535) = true := decide_eq_true (by omega)
    simp [fld, hA, hB, hC, hI, h2]
  have hw : wordI 15 3 0 0 (v : Int) = ((254803968 + v : Nat) : Int) := by unfold wordI; omega
  have := dec_back hr
  rw [hw] at this
  exact ⟨by unfold encW; rw [if_pos hr, hw], this⟩

set_option maxRecDepth 100000 in
set_option maxHeartbeats 1000000 in
theorem labels_out (b m t : Int) (w : World) (hE : Env w) (h : b < 0 ∨ (¬ b < 0 ∧ (60000 < b ∨ (¬ 60000 < b ∧ (m < 0 ∨ (¬ m < 0 ∧ (100 < m ∨ (¬ 100 < m ∧ (t < 0 ∨ (¬ t < 0 ∧ m < t)))))))))) :
    Calls Tryz.prog 8 #[.int .i64 b, .int .i64 m, .int .i64 t] w fun e w' => e = .returned (.bool true) ∧ Fr none' w w' := by
  have A := awake_any w hE
  rcases h with h1 | ⟨h1, h2 | ⟨h2, h3 | ⟨h3, h4 | ⟨h4, h5 | ⟨h5, h6⟩⟩⟩⟩⟩
  · have g1 : decide (b < 0) = true := decide_eq_true h1
    clear h1
    go_enter Tryz.func8, Tryz.ntmps8
    go_wp2_with fail
    refine A.mono ?_
    rintro e w1 ⟨rfl, f1⟩
    go_wp2_with fail
    go_ret
    exact ⟨rfl, f1⟩
  · have g1 : decide (b < 0) = false := decide_eq_false h1
    have g2 : decide (60000 < b) = true := decide_eq_true h2
    clear h1 h2
    go_enter Tryz.func8, Tryz.ntmps8
    go_wp2_with fail
    refine A.mono ?_
    rintro e w1 ⟨rfl, f1⟩
    go_wp2_with fail
    go_ret
    exact ⟨rfl, f1⟩
  · have g1 : decide (b < 0) = false := decide_eq_false h1
    have g2 : decide (60000 < b) = false := decide_eq_false h2
    have g3 : decide (m < 0) = true := decide_eq_true h3
    clear h1 h2 h3
    go_enter Tryz.func8, Tryz.ntmps8
    go_wp2_with fail
    refine A.mono ?_
    rintro e w1 ⟨rfl, f1⟩
    go_wp2_with fail
    go_ret
    exact ⟨rfl, f1⟩
  · have g1 : decide (b < 0) = false := decide_eq_false h1
    have g2 : decide (60000 < b) = false := decide_eq_false h2
    have g3 : decide (m < 0) = false := decide_eq_false h3
    have g4 : decide (100 < m) = true := decide_eq_true h4
    clear h1 h2 h3 h4
    go_enter Tryz.func8, Tryz.ntmps8
    go_wp2_with fail
    refine A.mono ?_
    rintro e w1 ⟨rfl, f1⟩
    go_wp2_with fail
    go_ret
    exact ⟨rfl, f1⟩
  · have g1 : decide (b < 0) = false := decide_eq_false h1
    have g2 : decide (60000 < b) = false := decide_eq_false h2
    have g3 : decide (m < 0) = false := decide_eq_false h3
    have g4 : decide (100 < m) = false := decide_eq_false h4
    have g5 : decide (t < 0) = true := decide_eq_true h5
    clear h1 h2 h3 h4 h5
    go_enter Tryz.func8, Tryz.ntmps8
    go_wp2_with fail
    refine A.mono ?_
    rintro e w1 ⟨rfl, f1⟩
    go_wp2_with fail
    go_ret
    exact ⟨rfl, f1⟩
  · have g1 : decide (b < 0) = false := decide_eq_false h1
    have g2 : decide (60000 < b) = false := decide_eq_false h2
    have g3 : decide (m < 0) = false := decide_eq_false h3
    have g4 : decide (100 < m) = false := decide_eq_false h4
    have g5 : decide (t < 0) = false := decide_eq_false h5
    have g6 : decide (m < t) = true := decide_eq_true h6
    clear h1 h2 h3 h4 h5 h6
    go_enter Tryz.func8, Tryz.ntmps8
    go_wp2_with fail
    refine A.mono ?_
    rintro e w1 ⟨rfl, f1⟩
    go_wp2_with fail
    go_ret
    exact ⟨rfl, f1⟩

set_option maxRecDepth 100000 in
set_option maxHeartbeats 4000000 in
theorem labels_in (b m t : Nat) (w : World) (hE : Env w) (hb : b ≤ 60000) (hm : m ≤ 100) (ht : t ≤ m) :
    Calls Tryz.prog 8 #[.int .i64 (b : Int), .int .i64 (m : Int), .int .i64 (t : Int)] w fun e w' => e = .returned (.bool true) ∧ Fr none' w w' := by
  have A := awake_any w hE
  have g1 : decide ((b : Int) < 0) = false := decide_eq_false (by omega)
  have g2 : decide (60000 < (b : Int)) = false := decide_eq_false (by omega)
  have g3 : decide ((m : Int) < 0) = false := decide_eq_false (by omega)
  have g4 : decide (100 < (m : Int)) = false := decide_eq_false (by omega)
  have g5 : decide ((t : Int) < 0) = false := decide_eq_false (by omega)
  have g6 : decide ((m : Int) < (t : Int)) = false := decide_eq_false (by omega)
  have g6' : decide (m < t) = false := decide_eq_false (by omega)
  have HE := hid' hE
  have HF := hid' (show b ≤ 60000 ∧ m ≤ 100 ∧ t ≤ m from ⟨hb, hm, ht⟩)
  clear hE hb hm ht
  go_enter Tryz.func8, Tryz.ntmps8
  go_wp2_with fail
  refine A.mono ?_
  rintro e w1 ⟨rfl, f1⟩
  clear A
  go_wp2_with fail
  go_loopw [8, 9] (fun a i wr => ∃ (k : Nat) (z : ByteArray), k ≤ m ∧ a = .string z ∧ i = .int .i64 (k : Int) ∧ Hid (z = ⟨(accB (labF t) k).toArray⟩) ∧ Fr none' w wr) (fun _ i _ => m - (intOf i).toNat)
  case atStart => exact ⟨0, ⟨#[]⟩, by omega, rfl, rfl, hid' rfl, f1⟩
  case round =>
    clear f1 g1 g2 g3 g4 g5 g6 g6'
    obtain ⟨k, z, hk, rfl, rfl, HZ, fk⟩ := hrel
    have HF' := HF.out
    have hmb : m ≤ 100 := HF'.2.1
    have l1 := acc_len (labF t) (lab_len t) k
    by_cases hlt : k < m
    · have u1 : decide ((k : Int) < (m : Int)) = true := decide_eq_true (by omega)
      have u2 : decide (k < m) = true := decide_eq_true hlt
      by_cases hkt : k = t
      · have v1 : ((k : Int) == (t : Int)) = true := by simp [hkt]
        have v2 : (k == t) = true := by simp [hkt]
        have a1 := add_run (accB (labF t) k) [104, 101, 114, 101, 58, 10] (by simp only [List.length_cons, List.length_nil]; omega)
        have a2 := add_run (accB (labF t) k ++ [104, 101, 114, 101, 58, 10]) [110, 111, 112, 10] (by rw [List.length_append]; simp only [List.length_cons, List.length_nil]; omega)
        obtain ⟨t1, h1⟩ : ∃ z : ByteArray, z = ⟨(accB (labF t) k ++ [104, 101, 114, 101, 58, 10]).toArray⟩ := ⟨_, rfl⟩
        obtain ⟨t2, h2⟩ : ∃ z : ByteArray, z = ⟨(accB (labF t) k ++ [104, 101, 114, 101, 58, 10] ++ [110, 111, 112, 10]).toArray⟩ := ⟨_, rfl⟩
        simp only [strV] at a1 a2
        rw [← HZ.out, ← h1] at a1
        rw [← h1, ← h2] at a2
        have HT : Hid (t2 = ⟨(accB (labF t) (k + 1)).toArray⟩) := by
          show t2 = _
          rw [h2, acc_succ]; unfold labF; rw [if_pos hkt]; simp [hereB, nopB]
        clear h1 h2 l1 HF' HZ hkt
        go_wp2_with fail
        go_roundw
        case rel => exact ⟨k + 1, t2, by omega, rfl, by go_num, HT, fk⟩
        case measure => simp [intOf]; omega
      · have v1 : ((k : Int) == (t : Int)) = false := by simp; omega
        have v2 : (k == t) = false := by simp; omega
        have a2 := add_run (accB (labF t) k) [110, 111, 112, 10] (by simp only [List.length_cons, List.length_nil]; omega)
        obtain ⟨t2, h2⟩ : ∃ z : ByteArray, z = ⟨(accB (labF t) k ++ [110, 111, 112, 10]).toArray⟩ := ⟨_, rfl⟩
        simp only [strV] at a2
        rw [← HZ.out, ← h2] at a2
        have HT : Hid (t2 = ⟨(accB (labF t) (k + 1)).toArray⟩) := by
          show t2 = _
          rw [h2, acc_succ]; unfold labF; rw [if_neg hkt]; simp [nopB]
        clear h2 l1 HF' HZ hkt
        go_wp2_with fail
        go_roundw
        case rel => exact ⟨k + 1, t2, by omega, rfl, by go_num, HT, fk⟩
        case measure => simp [intOf]; omega
    · obtain rfl : k = m := by omega
      obtain ⟨w4, hw4⟩ : ∃ w4, w4 = wr := ⟨wr, rfl⟩
      subst hw4
      have u1 : decide ((k : Int) < (k : Int)) = false := decide_eq_false (by omega)
      have u2 : decide (k < k) = false := decide_eq_false (by omega)
      have htm : t ≤ k := HF'.2.2
      by_cases hkt : t = k
      · have v1 : ((t : Int) == (k : Int)) = true := by simp [hkt]
        have v2 : (t == k) = true := by simp [hkt]
        have a1 := add_run (accB (labF t) k) [104, 101, 114, 101, 58, 32] (by simp only [List.length_cons, List.length_nil]; omega)
        have a2 := add_run (accB (labF t) k ++ [104, 101, 114, 101, 58, 32]) [106, 109, 112, 32, 104, 101, 114, 101, 10, 106, 97, 108, 32, 114, 51, 44, 32, 104, 101, 114, 101] (by rw [List.length_append]; simp only [List.length_cons, List.length_nil]; omega)
        obtain ⟨t1, h1⟩ : ∃ z : ByteArray, z = ⟨(accB (labF t) k ++ [104, 101, 114, 101, 58, 32]).toArray⟩ := ⟨_, rfl⟩
        obtain ⟨tj, h2⟩ : ∃ z : ByteArray, z = ⟨(accB (labF t) k ++ [104, 101, 114, 101, 58, 32] ++ [106, 109, 112, 32, 104, 101, 114, 101, 10, 106, 97, 108, 32, 114, 51, 44, 32, 104, 101, 114, 101]).toArray⟩ := ⟨_, rfl⟩
        simp only [strV] at a1 a2
        rw [← HZ.out, ← h1] at a1
        rw [← h1, ← h2] at a2
        have htj : tj.data.toList = (accB (labF t) k ++ if t = k then [104, 101, 114, 101, 58, 32] else []) ++ (jmpHB ++ 10 :: jalHB) := by rw [h2, if_pos hkt]; simp [jmpHB, jalHB]
        clear h1 h2 l1 HF' HZ hkt
        have B1 := asmis_any (b : Int) tj w4 (HE.out.keep fk)
        rw [htj, lab_built k t htm, labels_pure (b : Int) (by omega) (by have := HF.out.1; omega) k t hmb htm] at B1
        have e1 : ((((List.replicate k (419430400 : Int) ++ [encW 14 0 0 0 ((b : Int) + 4 * (t : Int)), encW 15 3 0 0 ((b : Int) + 4 * (t : Int))]).length : Nat) : Int) != (k : Int) + 2) = false := by simp
        have e2 : IntKind.i64.wrap ((k : Int) + 2) = (k : Int) + 2 := by
          simp only [IntKind.wrap, IntKind.bits, IntKind.signed]
          simp
          omega
        have e3 : IntKind.i64.wrap ((k : Int) + 1) = (k : Int) + 1 := by
          simp only [IntKind.wrap, IntKind.bits, IntKind.signed]
          simp
          omega
        have e4 : IntKind.i64.wrap (4 * (t : Int)) = 4 * (t : Int) := by
          simp only [IntKind.wrap, IntKind.bits, IntKind.signed]
          simp
          omega
        have e5 : IntKind.i64.wrap ((b : Int) + 4 * (t : Int)) = (b : Int) + 4 * (t : Int) := by
          have := HF.out.1
          simp only [IntKind.wrap, IntKind.bits, IntKind.signed]
          simp
          omega
        obtain ⟨WL, hWL⟩ : ∃ L : List Int, List.replicate k (419430400 : Int) ++ [encW 14 0 0 0 ((b : Int) + 4 * (t : Int)), encW 15 3 0 0 ((b : Int) + 4 * (t : Int))] = L := ⟨_, rfl⟩
        rw [hWL] at B1 e1
        have hl : WL.length = k + 2 := by rw [← hWL]; simp
        obtain ⟨p0, p1, p2, p3, p4, p5, p6⟩ := jmpL_word (b + 4 * t) (by have := HF.out.1; omega)
        obtain ⟨q0, q1, q2, q3, q4, q5, q6⟩ := jalL_word (b + 4 * t) (by have := HF.out.1; omega)
        have hv : ((b + 4 * t : Nat) : Int) = (b : Int) + 4 * (t : Int) := by omega
        rw [hv] at p0 p5 q0 q5
        obtain ⟨x1, hx1⟩ : ∃ x, 234881024 + (b + 4 * t) = x := ⟨_, rfl⟩
        obtain ⟨x2, hx2⟩ : ∃ x, 254803968 + (b + 4 * t) = x := ⟨_, rfl⟩
        rw [hx1] at p0 p1 p2 p3 p4 p5 p6
        rw [hx2] at q0 q1 q2 q3 q4 q5 q6
        have G1 : WL[k]? = some (x1 : Int) := by rw [← hWL, List.getElem?_append_right (by simp)]; simp [p0]
        have G2 : WL[k + 1]? = some (x2 : Int) := by rw [← hWL, List.getElem?_append_right (by simp)]; simp [q0]
        have D1 := fun w => dec_any x1 w (by have := HF.out.1; omega)
        have D2 := fun w => dec_any x2 w (by have := HF.out.1; omega)
        simp only [p1, p2, p3, p4, p5, p6] at D1
        simp only [q1, q2, q3, q4, q5, q6] at D2
        have i1 : 0 ≤ (k : Int) ∧ (k : Int) < (WL.length : Int) := by omega
        have i2 : 0 ≤ (k : Int) + 1 ∧ (k : Int) + 1 < (WL.length : Int) := by omega
        have n2 : ((k : Int) + 1).toNat = k + 1 := by omega
        have heq := eq_instr
        clear htj hWL hl p0 p1 p2 p3 p4 p5 p6 q0 q1 q2 q3 q4 q5 q6 hv hx1 hx2
        go_wp2_with fail
        refine B1.mono ?_
        rintro e w2 ⟨⟨v1, rfl, o1⟩, f2⟩
        obtain ⟨y0, yc, rfl, hcs⟩ := ws_own o1
        obtain ⟨pb, po, rfl, c1⟩ := hcs k _ G1
        obtain ⟨pb', po', hpe, c2⟩ := hcs (k + 1) _ G2
        cases hpe
        replace fk := fk.trans f2
        clear B1 f2 o1 hcs G1 G2
        go_wp2_with fail
        refine (D1 _).mono ?_
        rintro e w3 ⟨rfl, f3⟩
        have fa := f3.alloc (.cells #[.int .i64 14, .int .i64 0, .int .i64 0, .int .i64 0, .int .i64 ((b : Int) + 4 * (t : Int))] 38)
        have r1 := row_alloc w3 #[.int .i64 14, .int .i64 0, .int .i64 0, .int .i64 0, .int .i64 ((b : Int) + 4 * (t : Int))] 38
        replace c2 := cell_keep fa c2 (fun h => h)
        replace fk := fk.trans fa
        clear D1 f3 fa c1
        go_wp2_with fail
        refine (D2 _).mono ?_
        rintro e w5 ⟨rfl, f5⟩
        have fb := f5.alloc (.cells #[.int .i64 15, .int .i64 3, .int .i64 0, .int .i64 0, .int .i64 ((b : Int) + 4 * (t : Int))] 38)
        have r2 := row_alloc w5 #[.int .i64 15, .int .i64 3, .int .i64 0, .int .i64 0, .int .i64 ((b : Int) + 4 * (t : Int))] 38
        have r3 := (r1.keep f5 (fun h => h)).alloc (.cells #[.int .i64 15, .int .i64 3, .int .i64 0, .int .i64 0, .int .i64 ((b : Int) + 4 * (t : Int))] 38)
        have hne : w3.heap.size ≠ w5.heap.size := Nat.ne_of_lt (r1.keep f5 (fun h => h)).lt
        replace fk := fk.trans fb
        have s0 := r3.cell 0
        have s1 := r3.cell 1
        have s2 := r3.cell 2
        have s3 := r3.cell 3
        have s4 := r3.cell 4
        have v0 := r2.cell 0
        have v1 := r2.cell 1
        have v2 := r2.cell 2
        have v3 := r2.cell 3
        have v4 := r2.cell 4
        clear D2 f5 fb c2 r1 r2 r3
        go_wp2_with fail
        go_ret
        exact ⟨ret_bool (by simp), fk⟩
      · have v1 : ((t : Int) == (k : Int)) = false := by simp; omega
        have v2 : (t == k) = false := by simp; omega
        have a2 := add_run (accB (labF t) k) [106, 109, 112, 32, 104, 101, 114, 101, 10, 106, 97, 108, 32, 114, 51, 44, 32, 104, 101, 114, 101] (by simp only [List.length_cons, List.length_nil]; omega)
        obtain ⟨tj, h2⟩ : ∃ z : ByteArray, z = ⟨(accB (labF t) k ++ [106, 109, 112, 32, 104, 101, 114, 101, 10, 106, 97, 108, 32, 114, 51, 44, 32, 104, 101, 114, 101]).toArray⟩ := ⟨_, rfl⟩
        simp only [strV] at a2
        rw [← HZ.out, ← h2] at a2
        have htj : tj.data.toList = (accB (labF t) k ++ if t = k then [104, 101, 114, 101, 58, 32] else []) ++ (jmpHB ++ 10 :: jalHB) := by rw [h2, if_neg hkt]; simp [jmpHB, jalHB]
        clear h2 l1 HF' HZ hkt
        have B1 := asmis_any (b : Int) tj w4 (HE.out.keep fk)
        rw [htj, lab_built k t htm, labels_pure (b : Int) (by omega) (by have := HF.out.1; omega) k t hmb htm] at B1
        have e1 : ((((List.replicate k (419430400 : Int) ++ [encW 14 0 0 0 ((b : Int) + 4 * (t : Int)), encW 15 3 0 0 ((b : Int) + 4 * (t : Int))]).length : Nat) : Int) != (k : Int) + 2) = false := by simp
        have e2 : IntKind.i64.wrap ((k : Int) + 2) = (k : Int) + 2 := by
          simp only [IntKind.wrap, IntKind.bits, IntKind.signed]
          simp
          omega
        have e3 : IntKind.i64.wrap ((k : Int) + 1) = (k : Int) + 1 := by
          simp only [IntKind.wrap, IntKind.bits, IntKind.signed]
          simp
          omega
        have e4 : IntKind.i64.wrap (4 * (t : Int)) = 4 * (t : Int) := by
          simp only [IntKind.wrap, IntKind.bits, IntKind.signed]
          simp
          omega
        have e5 : IntKind.i64.wrap ((b : Int) + 4 * (t : Int)) = (b : Int) + 4 * (t : Int) := by
          have := HF.out.1
          simp only [IntKind.wrap, IntKind.bits, IntKind.signed]
          simp
          omega
        obtain ⟨WL, hWL⟩ : ∃ L : List Int, List.replicate k (419430400 : Int) ++ [encW 14 0 0 0 ((b : Int) + 4 * (t : Int)), encW 15 3 0 0 ((b : Int) + 4 * (t : Int))] = L := ⟨_, rfl⟩
        rw [hWL] at B1 e1
        have hl : WL.length = k + 2 := by rw [← hWL]; simp
        obtain ⟨p0, p1, p2, p3, p4, p5, p6⟩ := jmpL_word (b + 4 * t) (by have := HF.out.1; omega)
        obtain ⟨q0, q1, q2, q3, q4, q5, q6⟩ := jalL_word (b + 4 * t) (by have := HF.out.1; omega)
        have hv : ((b + 4 * t : Nat) : Int) = (b : Int) + 4 * (t : Int) := by omega
        rw [hv] at p0 p5 q0 q5
        obtain ⟨x1, hx1⟩ : ∃ x, 234881024 + (b + 4 * t) = x := ⟨_, rfl⟩
        obtain ⟨x2, hx2⟩ : ∃ x, 254803968 + (b + 4 * t) = x := ⟨_, rfl⟩
        rw [hx1] at p0 p1 p2 p3 p4 p5 p6
        rw [hx2] at q0 q1 q2 q3 q4 q5 q6
        have G1 : WL[k]? = some (x1 : Int) := by rw [← hWL, List.getElem?_append_right (by simp)]; simp [p0]
        have G2 : WL[k + 1]? = some (x2 : Int) := by rw [← hWL, List.getElem?_append_right (by simp)]; simp [q0]
        have D1 := fun w => dec_any x1 w (by have := HF.out.1; omega)
        have D2 := fun w => dec_any x2 w (by have := HF.out.1; omega)
        simp only [p1, p2, p3, p4, p5, p6] at D1
        simp only [q1, q2, q3, q4, q5, q6] at D2
        have i1 : 0 ≤ (k : Int) ∧ (k : Int) < (WL.length : Int) := by omega
        have i2 : 0 ≤ (k : Int) + 1 ∧ (k : Int) + 1 < (WL.length : Int) := by omega
        have n2 : ((k : Int) + 1).toNat = k + 1 := by omega
        have heq := eq_instr
        clear htj hWL hl p0 p1 p2 p3 p4 p5 p6 q0 q1 q2 q3 q4 q5 q6 hv hx1 hx2
        go_wp2_with fail
        refine B1.mono ?_
        rintro e w2 ⟨⟨v1, rfl, o1⟩, f2⟩
        obtain ⟨y0, yc, rfl, hcs⟩ := ws_own o1
        obtain ⟨pb, po, rfl, c1⟩ := hcs k _ G1
        obtain ⟨pb', po', hpe, c2⟩ := hcs (k + 1) _ G2
        cases hpe
        replace fk := fk.trans f2
        clear B1 f2 o1 hcs G1 G2
        go_wp2_with fail
        refine (D1 _).mono ?_
        rintro e w3 ⟨rfl, f3⟩
        have fa := f3.alloc (.cells #[.int .i64 14, .int .i64 0, .int .i64 0, .int .i64 0, .int .i64 ((b : Int) + 4 * (t : Int))] 38)
        have r1 := row_alloc w3 #[.int .i64 14, .int .i64 0, .int .i64 0, .int .i64 0, .int .i64 ((b : Int) + 4 * (t : Int))] 38
        replace c2 := cell_keep fa c2 (fun h => h)
        replace fk := fk.trans fa
        clear D1 f3 fa c1
        go_wp2_with fail
        refine (D2 _).mono ?_
        rintro e w5 ⟨rfl, f5⟩
        have fb := f5.alloc (.cells #[.int .i64 15, .int .i64 3, .int .i64 0, .int .i64 0, .int .i64 ((b : Int) + 4 * (t : Int))] 38)
        have r2 := row_alloc w5 #[.int .i64 15, .int .i64 3, .int .i64 0, .int .i64 0, .int .i64 ((b : Int) + 4 * (t : Int))] 38
        have r3 := (r1.keep f5 (fun h => h)).alloc (.cells #[.int .i64 15, .int .i64 3, .int .i64 0, .int .i64 0, .int .i64 ((b : Int) + 4 * (t : Int))] 38)
        have hne : w3.heap.size ≠ w5.heap.size := Nat.ne_of_lt (r1.keep f5 (fun h => h)).lt
        replace fk := fk.trans fb
        have s0 := r3.cell 0
        have s1 := r3.cell 1
        have s2 := r3.cell 2
        have s3 := r3.cell 3
        have s4 := r3.cell 4
        have v0 := r2.cell 0
        have v1 := r2.cell 1
        have v2 := r2.cell 2
        have v3 := r2.cell 3
        have v4 := r2.cell 4
        clear D2 f5 fb c2 r1 r2 r3
        go_wp2_with fail
        go_ret
        exact ⟨ret_bool (by simp), fk⟩

theorem labelsl_any (b m t : Int) (w : World) (hE : Env w) :
    Calls Tryz.prog 8 #[.int .i64 b, .int .i64 m, .int .i64 t] w fun e w' => e = .returned (.bool true) ∧ Below w.heap.size w w' := by
  have H : Calls Tryz.prog 8 #[.int .i64 b, .int .i64 m, .int .i64 t] w fun e w' => e = .returned (.bool true) ∧ Fr none' w w' := by
    by_cases h : 0 ≤ b ∧ b ≤ 60000 ∧ 0 ≤ m ∧ m ≤ 100 ∧ 0 ≤ t ∧ t ≤ m
    · obtain ⟨m', rfl⟩ : ∃ q : Nat, m = (q : Int) := ⟨m.toNat, by omega⟩
      obtain ⟨b', rfl⟩ : ∃ q : Nat, b = (q : Int) := ⟨b.toNat, by omega⟩
      obtain ⟨t', rfl⟩ : ∃ q : Nat, t = (q : Int) := ⟨t.toNat, by omega⟩
      exact labels_in b' m' t' w hE (by omega) (by omega) (by omega)
    · exact labels_out b m t w hE (by omega)
  exact H.mono fun _ _ ⟨he, hf⟩ => ⟨he, hf.below (Nat.le_refl _) (fun _ h => h.elim)⟩

end Go.Proofs.YtiifadnmiambpaaGreatDoor
