/-
  The contract of 'Same' (are two lists of bytes one?) over the translation. No statement is proved here.
-/
import Derived.Test.YtgnoakidjnilpaaGreatFrame
namespace Go.Proofs.YtgnoakidjnilpaaGreat
open Go.RowKit

set_option maxHeartbeats 400000 in
theorem same_len (w : World) (a0 a1 : Option Addr) (l0 l1 c0 c1 : Nat) (hl : l0 ≠ l1) :
    Calls Tryz.prog 23 #[.slice a0 l0 c0, .slice a1 l1 c1] w fun e w' => e = .returned (.bool false) ∧ w = w' := by
  have hb : ((l0 : Int) != (l1 : Int)) = true := by simp; omega
  go_enter Tryz.func23, Tryz.ntmps23
  go_wp2
  go_ret
  exact ⟨rfl, rfl⟩

set_option maxHeartbeats 400000 in
theorem same_nil (w : World) (a0 a1 : Option Addr) (c0 c1 : Nat) :
    Calls Tryz.prog 23 #[.slice a0 0 c0, .slice a1 0 c1] w fun e w' => e = .returned (.bool true) ∧ w = w' := by
  go_enter Tryz.func23, Tryz.ntmps23
  go_wp2
  refine wp_loop_rounds 1 ?_
  rw [rounds_succ]; go_wp2
  go_ret
  exact ⟨rfl, rfl⟩

theorem take_eq_all' {a b : List UInt8} {n k : Nat} (ha : a.length = n) (hb : b.length = n) (hk : n ≤ k) (h : a.take k = b.take k) : a = b := by
  rwa [List.take_of_length_le (by omega), List.take_of_length_le (by omega)] at h

theorem ne_of_step {d0 d1 : List UInt8} {k : Nat} {x0 x1 : UInt8} (hx : ¬ x0 = x1) (h0 : d0.take (k + 1) = d0.take k ++ [x0]) (h1 : d1.take (k + 1) = d1.take k ++ [x1]) : ¬ d0 = d1 := by
  intro e
  subst e
  rw [h0] at h1
  have := List.append_cancel_left h1
  simp at this
  exact hx this

set_option maxHeartbeats 400000 in
theorem same_row (w : World) (b0 o0 b1 o1 l c0 c1 : Nat) (d0 d1 : List UInt8) (h0 : d0.length = l) (h1 : d1.length = l) (hm : l ≤ 9223372036854775807)
    (hc0 : ∀ j, (hj : j < d0.length) → w.cell? ⟨b0, o0 + j, none⟩ = some (.int .u8 ((d0[j].toNat : Nat) : Int))) (hc1 : ∀ j, (hj : j < d1.length) → w.cell? ⟨b1, o1 + j, none⟩ = some (.int .u8 ((d1[j].toNat : Nat) : Int))) :
    Calls Tryz.prog 23 #[.slice (some ⟨b0, o0, none⟩) l c0, .slice (some ⟨b1, o1, none⟩) l c1] w fun e w' => e = .returned (.bool (decide (d0 = d1))) ∧ Fr none' w w' := by
  have HC0 : Hid (∀ j, (hj : j < d0.length) → w.cell? ⟨b0, o0 + j, none⟩ = some (.int .u8 ((d0[j].toNat : Nat) : Int))) := hc0
  have HC1 : Hid (∀ j, (hj : j < d1.length) → w.cell? ⟨b1, o1 + j, none⟩ = some (.int .u8 ((d1[j].toNat : Nat) : Int))) := hc1
  have HL0 : Hid (d0.length = l) := h0
  have HL1 : Hid (d1.length = l) := h1
  clear hc0 hc1 h0 h1
  go_enter Tryz.func23, Tryz.ntmps23
  go_wp2
  go_loopw [5] (fun i wr => ∃ k : Nat, k ≤ l ∧ i = .int .i64 k ∧ (∃ m, wr = w.drewN m) ∧ Hid (d0.take k = d1.take k)) (fun i _ => l - (intOf i).toNat)
  case atStart => exact ⟨0, Nat.zero_le _, rfl, ⟨0, rfl⟩, rfl⟩
  case round =>
    obtain ⟨k, hk, rfl, ⟨m, rfl⟩, HT⟩ := hrel
    by_cases hlt : k < l
    · have g0 : k < d0.length := by rw [HL0.out]; exact hlt
      have g1 : k < d1.length := by rw [HL1.out]; exact hlt
      have e0 := HC0.out k g0
      have e1 := HC1.out k g1
      have HN0 : Hid (d0.take (k + 1) = d0.take k ++ [d0[k]]) := List.take_succ_eq_append_getElem g0
      have HN1 : Hid (d1.take (k + 1) = d1.take k ++ [d1[k]]) := List.take_succ_eq_append_getElem g1
      generalize d0[k] = x0 at *
      generalize d1[k] = x1 at *
      have hlt' : (k : Int) < (l : Int) := by omega
      by_cases hx : x0 = x1
      · have hb : (((x0.toNat : Nat) : Int) != ((x1.toNat : Nat) : Int)) = false := by simp [hx]
        go_wp2
        go_quiet (fail)
        go_wp2
        go_roundw
        case rel => exact ⟨k + 1, by omega, by go_num, ⟨_, rfl⟩, show _ = _ by rw [HN0.out, HN1.out, HT.out, hx]⟩
        case measure => simp [intOf]; omega
      · have hb : (((x0.toNat : Nat) : Int) != ((x1.toNat : Nat) : Int)) = true := by
          simp; intro e; exact hx (UInt8.toNat_inj.1 (by omega))
        go_wp2
        go_quiet (fail)
        go_wp2
        go_ret
        exact ⟨ret_bool (decide_eq_false (ne_of_step hx HN0.out HN1.out)).symm, (fr_drewN _ _).trans (fr_drewN _ _)⟩
    · have hlt' : ¬ (k : Int) < (l : Int) := by omega
      go_wp2
      go_ret
      exact ⟨ret_bool (decide_eq_true (take_eq_all' HL0.out HL1.out (by omega) HT.out)).symm, fr_drewN _ _⟩

theorem src_at {w : World} {a : Addr} {d : List UInt8} (hp : 0 < d.length) (h : ∀ (j : Nat) (hj : j < d.length), w.cell? (a.add j) = some (U8 d[j])) :
    ∃ b o, a = ⟨b, o, none⟩ ∧ ∀ j, (hj : j < d.length) → w.cell? ⟨b, o + j, none⟩ = some (.int .u8 ((d[j].toNat : Nat) : Int)) := by
  obtain ⟨b, o, sp⟩ := a
  have hs := World.cell?_spot (h 0 hp)
  have hs' : sp = none := by simpa [Addr.add] using hs
  subst hs'
  refine ⟨b, o, rfl, fun j hj => ?_⟩
  have hadd : (⟨b, o, none⟩ : Addr).add j = ⟨b, o + j, none⟩ := by unfold Addr.add; split <;> simp_all
  have := h j hj
  rw [hadd] at this
  exact this

theorem same_any (w : World) (a0 a1 : Option Addr) (l0 l1 c0 c1 : Nat) (d0 d1 : List UInt8) (h0 : d0.length = l0) (h1 : d1.length = l1) (hm : l0 ≤ 9223372036854775807) (s0 : Src w a0 d0) (s1 : Src w a1 d1) :
    Calls Tryz.prog 23 #[.slice a0 l0 c0, .slice a1 l1 c1] w fun e w' => e = .returned (.bool (decide (d0 = d1))) ∧ Fr none' w w' := by
  by_cases hl : l0 = l1
  · subst hl
    by_cases hz : l0 = 0
    · have e0 : d0 = [] := List.eq_nil_of_length_eq_zero (by omega)
      have e1 : d1 = [] := List.eq_nil_of_length_eq_zero (by omega)
      subst e0 e1 hz
      refine (same_nil w a0 a1 c0 c1).mono ?_
      rintro e w' ⟨rfl, rfl⟩
      exact ⟨ret_bool (decide_eq_true rfl).symm, Fr.refl _ _⟩
    · obtain ⟨x0, rfl, g0⟩ := s0 (by omega)
      obtain ⟨x1, rfl, g1⟩ := s1 (by omega)
      obtain ⟨b0, o0, rfl, k0⟩ := src_at (by omega) g0
      obtain ⟨b1, o1, rfl, k1⟩ := src_at (by omega) g1
      exact same_row w b0 o0 b1 o1 l0 c0 c1 d0 d1 h0 h1 hm k0 k1
  · refine (same_len w a0 a1 l0 l1 c0 c1 hl).mono ?_
    rintro e w' ⟨rfl, rfl⟩
    refine ⟨ret_bool (decide_eq_false (fun e => hl ?_)).symm, Fr.refl _ _⟩
    rw [← h0, ← h1, e]

end Go.Proofs.YtgnoakidjnilpaaGreat
