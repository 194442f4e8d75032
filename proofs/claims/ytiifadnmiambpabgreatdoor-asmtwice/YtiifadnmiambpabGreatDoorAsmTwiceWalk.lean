/-
  AsmTwice over the translation: whatever numbers came in, the law returns true, and nothing old turns. No statement is proved here.
-/
import Derived.Test.YtiifadnmiambpabGreatDoorAsmAwake
import Derived.Test.YtiifadnmiambpabGreatDoorAsmTwiceP
namespace Go.Proofs.YtiifadnmiambpabGreatDoor
open Go.RowKit

set_option maxRecDepth 100000 in
theorem name_run (n : Nat) (h1 : 1 ≤ n) (h : n ≤ 20) (w : World) : (Instr.slice 9 (.string ⟨#[97, 98, 99, 100, 101, 102, 103, 104, 105, 106, 107, 108, 109, 110, 111, 112, 113, 114, 115, 116]⟩) none (some (.int .i64 (n : Int))) none).run Tryz.prog w = .ok (strV (nameB n)) w := by
  have : n = 1 ∨ n = 2 ∨ n = 3 ∨ n = 4 ∨ n = 5 ∨ n = 6 ∨ n = 7 ∨ n = 8 ∨ n = 9 ∨ n = 10 ∨ n = 11 ∨ n = 12 ∨ n = 13 ∨ n = 14 ∨ n = 15 ∨ n = 16 ∨ n = 17 ∨ n = 18 ∨ n = 19 ∨ n = 20 := by omega
  rcases this with rfl | rfl | rfl | rfl | rfl | rfl | rfl | rfl | rfl | rfl | rfl | rfl | rfl | rfl | rfl | rfl | rfl | rfl | rfl | rfl <;> rfl

set_option maxRecDepth 100000 in
set_option maxHeartbeats 1000000 in
theorem twice_out (m f s g : Int) (w : World) (hE : Env w) (h : m < 2 ∨ (¬ m < 2 ∧ (100 < m ∨ (¬ 100 < m ∧ (f < 0 ∨ (¬ f < 0 ∧ (s ≤ f ∨ (¬ s ≤ f ∧ (m ≤ s ∨ (¬ m ≤ s ∧ (g < 1 ∨ (¬ g < 1 ∧ 20 < g)))))))))))) :
    Calls Tryz.prog 5 #[.int .i64 m, .int .i64 f, .int .i64 s, .int .i64 g] w fun e w' => e = .returned (.bool true) ∧ Fr none' w w' := by
  have A := awake_any w hE
  rcases h with h1 | ⟨h1, h2 | ⟨h2, h3 | ⟨h3, h4 | ⟨h4, h5 | ⟨h5, h6 | ⟨h6, h7⟩⟩⟩⟩⟩⟩
  · have g1 : decide (m < 2) = true := decide_eq_true h1
    clear h1
    go_enter Tryz.func5, Tryz.ntmps5
    go_wp2_with fail
    refine A.mono ?_
    rintro e w1 ⟨rfl, f1⟩
    go_wp2_with fail
    go_ret
    exact ⟨rfl, f1⟩
  · have g1 : decide (m < 2) = false := decide_eq_false h1
    have g2 : decide (100 < m) = true := decide_eq_true h2
    clear h1 h2
    go_enter Tryz.func5, Tryz.ntmps5
    go_wp2_with fail
    refine A.mono ?_
    rintro e w1 ⟨rfl, f1⟩
    go_wp2_with fail
    go_ret
    exact ⟨rfl, f1⟩
  · have g1 : decide (m < 2) = false := decide_eq_false h1
    have g2 : decide (100 < m) = false := decide_eq_false h2
    have g3 : decide (f < 0) = true := decide_eq_true h3
    clear h1 h2 h3
    go_enter Tryz.func5, Tryz.ntmps5
    go_wp2_with fail
    refine A.mono ?_
    rintro e w1 ⟨rfl, f1⟩
    go_wp2_with fail
    go_ret
    exact ⟨rfl, f1⟩
  · have g1 : decide (m < 2) = false := decide_eq_false h1
    have g2 : decide (100 < m) = false := decide_eq_false h2
    have g3 : decide (f < 0) = false := decide_eq_false h3
    have g4 : decide (s ≤ f) = true := decide_eq_true h4
    clear h1 h2 h3 h4
    go_enter Tryz.func5, Tryz.ntmps5
    go_wp2_with fail
    refine A.mono ?_
    rintro e w1 ⟨rfl, f1⟩
    go_wp2_with fail
    go_ret
    exact ⟨rfl, f1⟩
  · have g1 : decide (m < 2) = false := decide_eq_false h1
    have g2 : decide (100 < m) = false := decide_eq_false h2
    have g3 : decide (f < 0) = false := decide_eq_false h3
    have g4 : decide (s ≤ f) = false := decide_eq_false h4
    have g5 : decide (m ≤ s) = true := decide_eq_true h5
    clear h1 h2 h3 h4 h5
    go_enter Tryz.func5, Tryz.ntmps5
    go_wp2_with fail
    refine A.mono ?_
    rintro e w1 ⟨rfl, f1⟩
    go_wp2_with fail
    go_ret
    exact ⟨rfl, f1⟩
  · have g1 : decide (m < 2) = false := decide_eq_false h1
    have g2 : decide (100 < m) = false := decide_eq_false h2
    have g3 : decide (f < 0) = false := decide_eq_false h3
    have g4 : decide (s ≤ f) = false := decide_eq_false h4
    have g5 : decide (m ≤ s) = false := decide_eq_false h5
    have g6 : decide (g < 1) = true := decide_eq_true h6
    clear h1 h2 h3 h4 h5 h6
    go_enter Tryz.func5, Tryz.ntmps5
    go_wp2_with fail
    refine A.mono ?_
    rintro e w1 ⟨rfl, f1⟩
    go_wp2_with fail
    go_ret
    exact ⟨rfl, f1⟩
  · have g1 : decide (m < 2) = false := decide_eq_false h1
    have g2 : decide (100 < m) = false := decide_eq_false h2
    have g3 : decide (f < 0) = false := decide_eq_false h3
    have g4 : decide (s ≤ f) = false := decide_eq_false h4
    have g5 : decide (m ≤ s) = false := decide_eq_false h5
    have g6 : decide (g < 1) = false := decide_eq_false h6
    have g7 : decide (20 < g) = true := decide_eq_true h7
    clear h1 h2 h3 h4 h5 h6 h7
    go_enter Tryz.func5, Tryz.ntmps5
    go_wp2_with fail
    refine A.mono ?_
    rintro e w1 ⟨rfl, f1⟩
    go_wp2_with fail
    go_ret
    exact ⟨rfl, f1⟩

set_option maxRecDepth 100000 in
set_option maxHeartbeats 4000000 in
theorem twice_in (m f s n : Nat) (w : World) (hE : Env w) (hm2 : 2 ≤ m) (hm : m ≤ 100) (hf : f < s) (hs : s < m) (hn1 : 1 ≤ n) (hn : n ≤ 20) :
    Calls Tryz.prog 5 #[.int .i64 (m : Int), .int .i64 (f : Int), .int .i64 (s : Int), .int .i64 (n : Int)] w fun e w' => e = .returned (.bool true) ∧ Fr none' w w' := by
  have A := awake_any w hE
  have g1 : decide ((m : Int) < 2) = false := decide_eq_false (by omega)
  have g2 : decide (100 < (m : Int)) = false := decide_eq_false (by omega)
  have g3 : decide ((f : Int) < 0) = false := decide_eq_false (by omega)
  have g4 : decide ((s : Int) ≤ (f : Int)) = false := decide_eq_false (by omega)
  have g5 : decide ((m : Int) ≤ (s : Int)) = false := decide_eq_false (by omega)
  have g6 : decide ((n : Int) < 1) = false := decide_eq_false (by omega)
  have g7 : decide (20 < (n : Int)) = false := decide_eq_false (by omega)
  have g4' : decide (s ≤ f) = false := decide_eq_false (by omega)
  have g5' : decide (m ≤ s) = false := decide_eq_false (by omega)
  have hr := name_run n hn1 hn
  have i1 : 0 ≤ (n : Int) ∧ (n : Int) ≤ 20 := by omega
  have HE := hid' hE
  have HF := hid' (show f < s ∧ s < m ∧ m ≤ 100 ∧ 1 ≤ n ∧ n ≤ 20 ∧ 2 ≤ m from ⟨hf, hs, hm, hn1, hn, hm2⟩)
  obtain ⟨nm, hnm⟩ : ∃ z : ByteArray, z = ⟨(nameB n).toArray⟩ := ⟨_, rfl⟩
  have HNM := hid' hnm
  simp only [strV] at hr
  simp only [← hnm] at hr
  clear hE hf hs hm hn1 hn hm2 hnm
  go_enter Tryz.func5, Tryz.ntmps5
  go_wp2_with fail
  refine A.mono ?_
  rintro e w1 ⟨rfl, f1⟩
  clear A
  go_wp2_with fail
  go_loopw [11, 12, 13] (fun a b i wr => ∃ (k : Nat) (z1 z2 : ByteArray), k ≤ m ∧ a = .string z1 ∧ b = .string z2 ∧ i = .int .i64 (k : Int) ∧ Hid (z1 = ⟨(accB (twiF n f s) k).toArray⟩ ∧ z2 = ⟨(accB (oncF n f) k).toArray⟩) ∧ Fr none' w wr) (fun _ _ i _ => m - (intOf i).toNat)
  case atStart => exact ⟨0, ⟨#[]⟩, ⟨#[]⟩, by omega, rfl, rfl, rfl, hid' ⟨rfl, rfl⟩, f1⟩
  case round =>
    clear f1 g1 g2 g3 g4 g5 g6 g7 g4' g5' hr i1
    obtain ⟨k, z1, z2, hk, rfl, rfl, rfl, HZ, fk⟩ := hrel
    have HF' := HF.out
    have hmb : m ≤ 100 := HF'.2.2.1
    by_cases hlt : k < m
    · have u1 : decide ((k : Int) < (m : Int)) = true := decide_eq_true (by omega)
      have u2 : decide (k < m) = true := decide_eq_true hlt
      have l1 := acc_len (twiF n f s) (twi_len n f s) k
      have l2 := acc_len (oncF n f) (onc_len n f) k
      have ln := name_size n
      by_cases hkf : k = f
      · have v1 : ((k : Int) == (f : Int)) = true := by simp [hkf]
        have v2 : ((k : Int) == (s : Int)) = false := by simp; omega
        have v3 : (k == f) = true := by simp [hkf]
        have v4 : (k == s) = false := by simp; omega
        have a1 := add_run (accB (twiF n f s) k) (nameB n) (by omega)
        have a2 := add_run (accB (twiF n f s) k ++ nameB n) [58, 32] (by rw [List.length_append]; simp only [List.length_cons, List.length_nil]; omega)
        have a3 := add_run (accB (oncF n f) k) (nameB n) (by omega)
        have a4 := add_run (accB (oncF n f) k ++ nameB n) [58, 32] (by rw [List.length_append]; simp only [List.length_cons, List.length_nil]; omega)
        have a5 := add_run (accB (twiF n f s) k ++ nameB n ++ [58, 32]) [110, 111, 112, 10] (by rw [List.length_append, List.length_append]; simp only [List.length_cons, List.length_nil]; omega)
        have a6 := add_run (accB (oncF n f) k ++ nameB n ++ [58, 32]) [110, 111, 112, 10] (by rw [List.length_append, List.length_append]; simp only [List.length_cons, List.length_nil]; omega)
        obtain ⟨t1, h1⟩ : ∃ z : ByteArray, z = ⟨(accB (twiF n f s) k ++ nameB n).toArray⟩ := ⟨_, rfl⟩
        obtain ⟨t2, h2⟩ : ∃ z : ByteArray, z = ⟨(accB (twiF n f s) k ++ nameB n ++ [58, 32]).toArray⟩ := ⟨_, rfl⟩
        obtain ⟨t3, h3⟩ : ∃ z : ByteArray, z = ⟨(accB (oncF n f) k ++ nameB n).toArray⟩ := ⟨_, rfl⟩
        obtain ⟨t4, h4⟩ : ∃ z : ByteArray, z = ⟨(accB (oncF n f) k ++ nameB n ++ [58, 32]).toArray⟩ := ⟨_, rfl⟩
        obtain ⟨t5, h5⟩ : ∃ z : ByteArray, z = ⟨(accB (twiF n f s) k ++ nameB n ++ [58, 32] ++ [110, 111, 112, 10]).toArray⟩ := ⟨_, rfl⟩
        obtain ⟨t6, h6⟩ : ∃ z : ByteArray, z = ⟨(accB (oncF n f) k ++ nameB n ++ [58, 32] ++ [110, 111, 112, 10]).toArray⟩ := ⟨_, rfl⟩
        simp only [strV] at a1 a2 a3 a4 a5 a6
        rw [← HZ.out.1, ← HNM.out, ← h1] at a1
        rw [← h1, ← h2] at a2
        rw [← HZ.out.2, ← HNM.out, ← h3] at a3
        rw [← h3, ← h4] at a4
        rw [← h2, ← h5] at a5
        rw [← h4, ← h6] at a6
        have HT : Hid (t5 = ⟨(accB (twiF n f s) (k + 1)).toArray⟩ ∧ t6 = ⟨(accB (oncF n f) (k + 1)).toArray⟩) := by
          refine ⟨?_, ?_⟩
          · rw [h5, acc_succ]; unfold twiF; rw [if_pos hkf, if_neg (by omega)]; simp [nopB]
          · rw [h6, acc_succ]; unfold oncF; rw [if_pos hkf]; simp [nopB]
        clear h1 h2 h3 h4 h5 h6 l1 l2 ln hkf HF' HZ
        go_wp2_with fail
        go_roundw
        case rel => exact ⟨k + 1, t5, t6, by omega, rfl, rfl, by go_num, HT, fk⟩
        case measure => simp [intOf]; omega
      · have v1 : ((k : Int) == (f : Int)) = false := by simp; omega
        have v3 : (k == f) = false := by simp; omega
        by_cases hks : k = s
        · have v2 : ((k : Int) == (s : Int)) = true := by simp [hks]
          have v4 : (k == s) = true := by simp [hks]
          have a1 := add_run (accB (twiF n f s) k) (nameB n) (by omega)
          have a2 := add_run (accB (twiF n f s) k ++ nameB n) [58, 32] (by rw [List.length_append]; simp only [List.length_cons, List.length_nil]; omega)
          have a5 := add_run (accB (twiF n f s) k ++ nameB n ++ [58, 32]) [110, 111, 112, 10] (by rw [List.length_append, List.length_append]; simp only [List.length_cons, List.length_nil]; omega)
          have a6 := add_run (accB (oncF n f) k) [110, 111, 112, 10] (by simp only [List.length_cons, List.length_nil]; omega)
          obtain ⟨t1, h1⟩ : ∃ z : ByteArray, z = ⟨(accB (twiF n f s) k ++ nameB n).toArray⟩ := ⟨_, rfl⟩
          obtain ⟨t2, h2⟩ : ∃ z : ByteArray, z = ⟨(accB (twiF n f s) k ++ nameB n ++ [58, 32]).toArray⟩ := ⟨_, rfl⟩
          obtain ⟨t5, h5⟩ : ∃ z : ByteArray, z = ⟨(accB (twiF n f s) k ++ nameB n ++ [58, 32] ++ [110, 111, 112, 10]).toArray⟩ := ⟨_, rfl⟩
          obtain ⟨t6, h6⟩ : ∃ z : ByteArray, z = ⟨(accB (oncF n f) k ++ [110, 111, 112, 10]).toArray⟩ := ⟨_, rfl⟩
          simp only [strV] at a1 a2 a5 a6
          rw [← HZ.out.1, ← HNM.out, ← h1] at a1
          rw [← h1, ← h2] at a2
          rw [← h2, ← h5] at a5
          rw [← HZ.out.2, ← h6] at a6
          have HT : Hid (t5 = ⟨(accB (twiF n f s) (k + 1)).toArray⟩ ∧ t6 = ⟨(accB (oncF n f) (k + 1)).toArray⟩) := by
            refine ⟨?_, ?_⟩
            · rw [h5, acc_succ]; unfold twiF; rw [if_neg hkf, if_pos hks]; simp [nopB]
            · rw [h6, acc_succ]; unfold oncF; rw [if_neg hkf]; simp [nopB]
          clear h1 h2 h5 h6 l1 l2 ln hkf hks HF' HZ
          go_wp2_with fail
          go_roundw
          case rel => exact ⟨k + 1, t5, t6, by omega, rfl, rfl, by go_num, HT, fk⟩
          case measure => simp [intOf]; omega
        · have v2 : ((k : Int) == (s : Int)) = false := by simp; omega
          have v4 : (k == s) = false := by simp; omega
          have a5 := add_run (accB (twiF n f s) k) [110, 111, 112, 10] (by simp only [List.length_cons, List.length_nil]; omega)
          have a6 := add_run (accB (oncF n f) k) [110, 111, 112, 10] (by simp only [List.length_cons, List.length_nil]; omega)
          obtain ⟨t5, h5⟩ : ∃ z : ByteArray, z = ⟨(accB (twiF n f s) k ++ [110, 111, 112, 10]).toArray⟩ := ⟨_, rfl⟩
          obtain ⟨t6, h6⟩ : ∃ z : ByteArray, z = ⟨(accB (oncF n f) k ++ [110, 111, 112, 10]).toArray⟩ := ⟨_, rfl⟩
          simp only [strV] at a5 a6
          rw [← HZ.out.1, ← h5] at a5
          rw [← HZ.out.2, ← h6] at a6
          have HT : Hid (t5 = ⟨(accB (twiF n f s) (k + 1)).toArray⟩ ∧ t6 = ⟨(accB (oncF n f) (k + 1)).toArray⟩) := by
            refine ⟨?_, ?_⟩
            · rw [h5, acc_succ]; unfold twiF; rw [if_neg hkf, if_neg hks]; simp [nopB]
            · rw [h6, acc_succ]; unfold oncF; rw [if_neg hkf]; simp [nopB]
          clear h5 h6 l1 l2 ln hkf hks HF' HZ
          go_wp2_with fail
          go_roundw
          case rel => exact ⟨k + 1, t5, t6, by omega, rfl, rfl, by go_num, HT, fk⟩
          case measure => simp [intOf]; omega
    · obtain rfl : k = m := by omega
      have u1 : decide ((k : Int) < (k : Int)) = false := decide_eq_false (by omega)
      have u2 : decide (k < k) = false := decide_eq_false (by omega)
      have B1 := asmis_any 0 z1 wr (HE.out.keep fk)
      have B2 := fun w hE => asmis_any 0 z2 w hE
      rw [show z1.data.toList = accB (twiF n f s) k by rw [HZ.out.1]] at B1
      simp only [show z2.data.toList = accB (oncF n f) k by rw [HZ.out.2]] at B2
      by_cases h12 : n ≤ 12
      · have w1' : decide (12 < (n : Int)) = false := decide_eq_false (by omega)
        rw [twice_short n k f s HF'.2.2.2.1 h12 HF'.2.2.1 HF'.1 HF'.2.1] at B1
        obtain ⟨ws, hws, hwl⟩ := once_short n k f HF'.2.2.2.1 h12 HF'.2.2.1 (by omega)
        simp only [hws] at B2
        have e1 : (((s + 1 : Nat) : Int) == (s : Int) + 1) = true := by simp
        have e2 : ((ws.length : Int) == (k : Int)) = true := by simp [hwl]
        have e3 : IntKind.i64.wrap ((s : Int) + 1) = (s : Int) + 1 := by
          simp only [IntKind.wrap, IntKind.bits, IntKind.signed]
          simp
          omega
        have HW := hid' hwl
        clear hws hwl HZ
        go_wp2_with fail
        refine B1.mono ?_
        rintro e w2 ⟨⟨v1, rfl, _⟩, f2⟩
        replace fk := fk.trans f2
        clear B1 f2
        go_wp2_with fail
        refine (B2 _ (HE.out.keep fk)).mono ?_
        rintro e w3 ⟨⟨v2, rfl, o2⟩, f3⟩
        replace fk := fk.trans f3
        obtain ⟨x0, xc, rfl, _⟩ := ws_own o2
        clear B2 f3 o2
        go_wp2_with fail
        go_ret
        exact ⟨rfl, fk⟩
      · have w1' : decide (12 < (n : Int)) = true := decide_eq_true (by omega)
        rw [twice_long n k f s (by omega) HF'.2.2.2.2.1 HF'.2.2.1 HF'.1 HF'.2.1] at B1
        simp only [once_long n k f (by omega) HF'.2.2.2.2.1 HF'.2.2.1 (by omega)] at B2
        have e1 : (((f + 1 : Nat) : Int) == (f : Int) + 1) = true := by simp
        have e3 : IntKind.i64.wrap ((f : Int) + 1) = (f : Int) + 1 := by
          simp only [IntKind.wrap, IntKind.bits, IntKind.signed]
          simp
          omega
        clear HZ
        go_wp2_with fail
        refine B1.mono ?_
        rintro e w2 ⟨⟨v1, rfl, _⟩, f2⟩
        replace fk := fk.trans f2
        clear B1 f2
        go_wp2_with fail
        refine (B2 _ (HE.out.keep fk)).mono ?_
        rintro e w3 ⟨⟨v2, rfl, o2⟩, f3⟩
        replace fk := fk.trans f3
        clear B2 f3 o2
        go_wp2_with fail
        go_ret
        exact ⟨rfl, fk⟩

theorem twicel_any (m f s g : Int) (w : World) (hE : Env w) :
    Calls Tryz.prog 5 #[.int .i64 m, .int .i64 f, .int .i64 s, .int .i64 g] w fun e w' => e = .returned (.bool true) ∧ Below w.heap.size w w' := by
  have H : Calls Tryz.prog 5 #[.int .i64 m, .int .i64 f, .int .i64 s, .int .i64 g] w fun e w' => e = .returned (.bool true) ∧ Fr none' w w' := by
    by_cases h : 2 ≤ m ∧ m ≤ 100 ∧ 0 ≤ f ∧ f < s ∧ s < m ∧ 1 ≤ g ∧ g ≤ 20
    · obtain ⟨m', rfl⟩ : ∃ q : Nat, m = (q : Int) := ⟨m.toNat, by omega⟩
      obtain ⟨f', rfl⟩ : ∃ q : Nat, f = (q : Int) := ⟨f.toNat, by omega⟩
      obtain ⟨s', rfl⟩ : ∃ q : Nat, s = (q : Int) := ⟨s.toNat, by omega⟩
      obtain ⟨g', rfl⟩ : ∃ q : Nat, g = (q : Int) := ⟨g.toNat, by omega⟩
      exact twice_in m' f' s' g' w hE (by omega) (by omega) (by omega) (by omega) (by omega) (by omega)
    · exact twice_out m f s g w hE (by omega)
  exact H.mono fun _ _ ⟨he, hf⟩ => ⟨he, hf.below (Nat.le_refl _) (fun _ h => h.elim)⟩

end Go.Proofs.YtiifadnmiambpabGreatDoor
