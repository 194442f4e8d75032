/-
  viceroylaw16.does at whatever act. No statement is proved here.
-/
import Derived.Test.YtjobdfkfongjaaaIpDoes
namespace Go.Proofs.Ytjobdfkfongjaaa
open Go.RowKit Go.Maps Go.WideMaps Go.Shelf

set_option maxRecDepth 100000 in
set_option maxHeartbeats 4000000 in
theorem do_0 {w0 w : World} {b : Nat} {S : Ip} {O : Nat → Prop} (h : Ix w0 w b S O) (A : Ac) (hA : ¬ (1 ≤ A.d ∧ A.d ≤ 12)) : Calls Try.prog 10 #[pv b, acV A] w (DoPost w0 w b S O A) := by
  obtain ⟨W, hW, B, r0, r1, r2, f⟩ := do_start h A
  obtain ⟨n1, n2, n3, n4, n5, n6⟩ := none_of hA S
  have lo := ix_low h
  have HN : Hid (doesS S A = S ∧ doesN S A = 0 ∧ doesG S A = false ∧ doesE S A = 0 ∧ doesM S A = M0 ∧ doesL S A = []) := ⟨n1, n2, n3, n4, n5, n6⟩
  have hv : OI w.heap.size W (.slice none 0 0) [] := ⟨rfl, Or.inl ⟨rfl, rfl⟩⟩
  have HE : Hid (∀ w2, Fr (Own3 w.heap.size) W w2 → _) := fun w2 f2 => do_end B f (Fr.refl _ W) f2 lo.1 hv r1 r2 ⟨_, r0⟩
  have HQ : Hid (Row W (w.heap.size + 1) _ _) := r1
  have x0 := r0.cell 0
  have u0 := r2.cell 0
  have y0 := r1.cell 0
  have z0 := r1.frozen 0
  have u1 := r2.cell 1
  have y1 := r1.cell 1
  have z1 := r1.frozen 1
  have u2 := r2.cell 2
  have y2 := r1.cell 2
  have z2 := r1.frozen 2
  have u3 := r2.cell 3
  have y3 := r1.cell 3
  have z3 := r1.frozen 3
  have u4 := r2.cell 4
  have y4 := r1.cell 4
  have z4 := r1.frozen 4
  have u5 := r2.cell 5
  have y5 := r1.cell 5
  have z5 := r1.frozen 5
  have u6 := r2.cell 6
  have y6 := r1.cell 6
  have z6 := r1.frozen 6
  have u7 := r2.cell 7
  have y7 := r1.cell 7
  have z7 := r1.frozen 7
  have u8 := r2.cell 8
  have y8 := r1.cell 8
  have z8 := r1.frozen 8
  have u9 := r2.cell 9
  have y9 := r1.cell 9
  have z9 := r1.frozen 9
  have u10 := r2.cell 10
  have y10 := r1.cell 10
  have z10 := r1.frozen 10
  have g1 : (A.d == 1) = false := by have : A.d ≠ 1 := (fun e => hA (by omega)); simpa using this
  have g2 : (A.d == 2) = false := by have : A.d ≠ 2 := (fun e => hA (by omega)); simpa using this
  have g3 : (A.d == 3) = false := by have : A.d ≠ 3 := (fun e => hA (by omega)); simpa using this
  have g4 : (A.d == 4) = false := by have : A.d ≠ 4 := (fun e => hA (by omega)); simpa using this
  have g5 : (A.d == 5) = false := by have : A.d ≠ 5 := (fun e => hA (by omega)); simpa using this
  have g6 : (A.d == 6) = false := by have : A.d ≠ 6 := (fun e => hA (by omega)); simpa using this
  have g7 : (A.d == 7) = false := by have : A.d ≠ 7 := (fun e => hA (by omega)); simpa using this
  have g8 : (A.d == 8) = false := by have : A.d ≠ 8 := (fun e => hA (by omega)); simpa using this
  have g9 : (A.d == 9) = false := by have : A.d ≠ 9 := (fun e => hA (by omega)); simpa using this
  have g10 : (A.d == 10) = false := by have : A.d ≠ 10 := (fun e => hA (by omega)); simpa using this
  have g11 : (A.d == 11) = false := by have : A.d ≠ 11 := (fun e => hA (by omega)); simpa using this
  have g12 : (A.d == 12) = false := by have : A.d ≠ 12 := (fun e => hA (by omega)); simpa using this
  dsimp only [acA] at hW x0
  unfold acV
  dsimp only [acA]
  dsimp at u0 y0 u1 y1 u2 y2 u3 y3 u4 y4 u5 y5 u6 y6 u7 y7 u8 y8 u9 y9 u10 y10
  clear r0 r1 r2 f B h hA n1 n2 n3 n4 n5 n6 lo hv
  go_enter Try.func10, Try.ntmps10
  go_wp2_with fail
  rw [← hW]
  refine bodyPost_ret (ret_an rfl rfl HQ.out rfl) rfl ?_
  obtain ⟨e1, e2, e3⟩ := HE.out W (Fr.refl _ W)
  obtain ⟨n1, n2, n3, n4, n5, n6⟩ := HN.out
  refine ⟨.slice none 0 0, ?_, ?_, ?_, e2⟩
  · rw [n2, n3, n4, n5]
    rfl
  · rw [n6]
    exact e3
  · rw [n1]
    exact e1

theorem does_any {w0 w : World} {b : Nat} {S : Ip} {O : Nat → Prop} (h : Ix w0 w b S O) (A : Ac) (ha : I64 A.a) (ht : I64 A.t) : Calls Try.prog 10 #[pv b, acV A] w (DoPost w0 w b S O A) := by
  by_cases hA : 1 ≤ A.d ∧ A.d ≤ 12
  · obtain ⟨d, a, t, x, m, c, bl⟩ := A
    have hA : 1 ≤ d ∧ d ≤ 12 := hA
    have : d = 1 ∨ d = 2 ∨ d = 3 ∨ d = 4 ∨ d = 5 ∨ d = 6 ∨ d = 7 ∨ d = 8 ∨ d = 9 ∨ d = 10 ∨ d = 11 ∨ d = 12 := by omega
    rcases this with rfl | rfl | rfl | rfl | rfl | rfl | rfl | rfl | rfl | rfl | rfl | rfl
    · exact do_1 h a t x m c bl ha ht
    · exact do_2 h a t x m c bl ha ht
    · exact do_3 h a t x m c bl ha ht
    · exact do_4 h a t x m c bl ha ht
    · exact do_5 h a t x m c bl ha ht
    · exact do_6 h a t x m c bl ha ht
    · exact do_7 h a t x m c bl ha ht
    · exact do_8 h a t x m c bl ha ht
    · exact do_9 h a t x m c bl ha ht
    · exact do_10 h a t x m c bl ha ht
    · exact do_11 h a t x m c bl ha ht
    · exact do_12 h a t x m c bl ha ht
  · exact do_0 h A hA

end Go.Proofs.Ytjobdfkfongjaaa
