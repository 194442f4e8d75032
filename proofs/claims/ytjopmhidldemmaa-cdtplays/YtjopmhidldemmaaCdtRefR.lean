/-
  The document's replaced over the translation. No statement is proved here.
-/
import Derived.Test.YtjopmhidldemmaaCdtRefA
namespace Go.Proofs.Ytjopmhidldemmaa
open Go.RowKit Go.Maps Go.WideMaps

def replR (k : Nat) (m : List Nat) (l : List Nat) : List Nat := l.flatMap fun x => if x = k then m else [x]
theorem replR_app (k : Nat) (m l l' : List Nat) : replR k m (l ++ l') = replR k m l ++ replR k m l' := by simp [replR]
theorem replR_len (k : Nat) (m : List Nat) : ∀ l : List Nat, (replR k m l).length ≤ l.length * (m.length + 1)
  | [] => by simp [replR]
  | x :: l => by
    have ih := replR_len k m l
    have e : replR k m (x :: l) = (if x = k then m else [x]) ++ replR k m l := by simp [replR]
    rw [e, List.length_append, List.length_cons, Nat.add_mul]
    split <;> simp <;> omega

set_option maxRecDepth 100000 in
set_option maxHeartbeats 1000000 in
theorem replaced_any (w : World) (B1 B2 : Nat) (v1 v2 : Value) (l m : List Nat) (k : Nat) (h1 : Ks w B1 v1 l) (h2 : Ks w B2 v2 m) (hl : l.length ≤ 1000) (hm : m.length ≤ 1000) :
    Calls Try.prog 38 #[v1, .int .i64 (k : Int), v2] w fun e w' => ∃ v, e = .returned v ∧ Ks w' w.heap.size v (replR k m l) ∧ Fr none' w w' := by
  obtain ⟨a1, cap1, rfl, hc1⟩ := h1.cells
  have H2 : Hid _ := ⟨h2⟩
  have HC : Hid _ := ⟨hc1⟩
  clear hc1 h1 h2
  obtain ⟨N, hN⟩ : ∃ N, N = l.length := ⟨_, rfl⟩
  have HN : Hid (N = l.length) := ⟨hN⟩
  rw [← hN] at hl ⊢
  clear hN
  go_enter Try.func38, Try.ntmps38
  go_wp2_with fail
  go_loopw [7, 8] (fun v i wr => ∃ j : Nat, j ≤ N ∧ i = .int .i64 (j : Int) ∧ Fr none' w wr ∧ Hid (Ks wr w.heap.size v (replR k m (l.take j)))) (fun _ i _ => N - (intOf i).toNat)
  case atStart => exact ⟨0, by omega, rfl, Fr.refl _ _, ⟨by rw [List.take_zero]; exact ks_nil _ _⟩⟩
  case round =>
    obtain ⟨j, hj, rfl, fr, hK⟩ := hrel
    by_cases hlt : j < N
    · have hjL : j < l.length := by rw [← HN.out]; exact hlt
      obtain ⟨g, rfl, d0⟩ := HC.out j l[j] (List.getElem?_eq_getElem hjL)
      have HT : Hid (l.take (j + 1) = l.take j ++ [l[j]]) := ⟨List.take_succ_eq_append_getElem hjL⟩
      generalize l[j] = x at *
      replace d0 := cell_keep fr d0 (fun h => h)
      have i1 : 0 ≤ (j : Int) ∧ (j : Int) < (N : Int) := by omega
      have uk : decide ((j : Int) < (N : Int)) = true := decide_eq_true (by omega)
      have hbig := replR_len k m (l.take j)
      have hbig2 : (replR k m (l.take j)).length ≤ 1100000 := by
        have e : (l.take j).length = j := by simp; omega
        rw [e] at hbig
        have : j * (m.length + 1) ≤ 1000 * 1001 := Nat.mul_le_mul (by omega) (by omega)
        omega
      clear hjL hbig
      by_cases hxk : x = k
      · have t1 : ((x : Int) == (k : Int)) = true := by rw [hxk]; simp
        obtain ⟨v', w', hrun, f2, k2⟩ := append_ks (by exact fr.size) hK.out (H2.out.keep0 fr) (by omega) (by omega)
        have f3 : Fr none' w w' := ⟨f2.os.trans fr.os, f2.tape.trans fr.tape, f2.output.trans fr.output, Nat.le_trans fr.size f2.size, fun i hi hn => (f2.block i (Nat.lt_of_lt_of_le hi fr.size) (fun e => by have := hK.out.high i e; omega)).trans (fr.block i hi hn)⟩
        have K2 : Hid (Ks w' w.heap.size v' (replR k m (l.take (j + 1)))) := ⟨by
          rw [HT.out, replR_app]
          have : replR k m [x] = m := by simp [replR, hxk]
          rw [this]
          exact k2⟩
        clear f2 k2 hxk
        go_wp2_with (at_builtin; refine wpList_append_runK rfl _ _ 28 rfl _ _ rfl rfl _ _ hrun ?_)
        go_roundw
        case rel => exact ⟨j + 1, by omega, by go_num, f3, K2⟩
        case measure => simp [intOf]; omega
      · have t1 : ((x : Int) == (k : Int)) = false := by simp; omega
        have fA : Fr none' wr (wr.alloc (.cells #[.int .i64 (x : Int)] 3)) := (Fr.refl none' wr).alloc _
        have k1 := ks_one wr wr.heap.size x (Nat.le_refl _)
        obtain ⟨v', w', hrun, f2, k2⟩ := append_ks (w := wr.alloc (.cells #[.int .i64 (x : Int)] 3)) (by exact (fr.trans fA).size) (hK.out.keep0 fA) k1 (by omega) (by simp)
        have f3 : Fr none' w w' := by
          have fr' := fr.trans fA
          exact ⟨f2.os.trans fr'.os, f2.tape.trans fr'.tape, f2.output.trans fr'.output, Nat.le_trans fr'.size f2.size, fun i hi hn => (f2.block i (Nat.lt_of_lt_of_le hi fr'.size) (fun e => by have := hK.out.high i e; omega)).trans (fr'.block i hi hn)⟩
        have K2 : Hid (Ks w' w.heap.size v' (replR k m (l.take (j + 1)))) := ⟨by
          rw [HT.out, replR_app]
          have : replR k m [x] = [x] := by simp [replR, hxk]
          rw [this]
          exact k2⟩
        clear f2 k2 k1 fA hxk
        go_wp2_with (at_builtin; refine wpList_append_runK rfl _ _ 28 rfl _ _ rfl rfl _ _ hrun ?_)
        go_roundw
        case rel => exact ⟨j + 1, by omega, by go_num, f3, K2⟩
        case measure => simp [intOf]; omega
    · obtain rfl : j = N := by omega
      have uk : decide ((j : Int) < (j : Int)) = false := decide_eq_false (by omega)
      go_wp2_with fail
      go_ret
      refine ⟨_, rfl, ?_, fr⟩
      have := hK.out
      rw [HN.out, List.take_length] at this
      exact this

end Go.Proofs.Ytjopmhidldemmaa
