/-
  Contracts of both memories' Clear over the translation, said of the bytes, in one form each. No statement is proved here.
-/
import Derived.Test.YtcmhndkbcfpbbaaLay
import Derived.Test.YtcmhndkbcfpbbaaGrow
namespace Go.Proofs.Ytcmhndkbcfpbbaa
open Go.RowKit

def clearB (bs : List UInt8) (n : Int) (nf : Nat) : List UInt8 := if 0 ≤ n ∧ n < (nf : Int) then putAt bs (n.toNat * 64) (List.replicate 64 0) else bs

theorem length_clearB (bs : List UInt8) (n : Int) (nf : Nat) : (clearB bs n nf).length = bs.length := by
  unfold clearB; split
  · exact length_putAt _ _ _
  · rfl

theorem clear_any (w : World) (p bf nf : Nat) (bs : List UInt8) (n : Int) (h : IsRam w p bf nf bs) :
    Calls Try.prog 42 #[.pointer (some ⟨p, 0, none⟩), .int .i64 n] w fun e w' => (∃ x : Int, e = .returned (.int .i64 x)) ∧ Fr (at' bf) w w' ∧ IsRam w' p bf nf (clearB bs n nf) := by
  by_cases hn : 0 ≤ n ∧ n < (nf : Int)
  · obtain ⟨k, rfl⟩ := Int.eq_ofNat_of_zero_le hn.1
    rw [clearB, if_pos hn, Int.toNat_natCast]
    exact (clear_ok w p bf nf bs k h (by omega)).mono fun _ _ ⟨h1, h2⟩ => ⟨⟨0, h1⟩, h2⟩
  · rw [clearB, if_neg hn]
    refine (clear_bad w p bf nf bs n h hn).mono ?_
    rintro e w' ⟨rfl, rfl⟩
    exact ⟨⟨10, rfl⟩, Fr.refl _ _, h⟩

theorem putAt_snoc' (l : List UInt8) (x : UInt8) : ∀ (bs : List UInt8) (o : Nat), putAt bs o (l ++ [x]) = (putAt bs o l).set (o + l.length) x := putAt_snoc l x

theorem IsRef.set' {w : World} {p bf nf : Nat} {bs : List UInt8} {l : List UInt8} {o : Nat} (h : IsRef w p bf nf (putAt bs o l)) (x : UInt8) (a : Nat) (ha : a = o + l.length) : IsRef (w.setCell ⟨bf, a, none⟩ (U8 x)) p bf nf (putAt bs o (l ++ [x])) := by
  subst ha; rw [putAt_snoc]; exact h.set _ x

set_option maxHeartbeats 400000 in
theorem rclear_ok (w : World) (p bf nf : Nat) (bs : List UInt8) (n : Nat) (h : IsRef w p bf nf bs) (hn : n < nf) :
    Calls Try.prog 49 #[.pointer (some ⟨p, 0, none⟩), .int .i64 (n : Int)] w fun e w' => e = .returned (.int .i64 0) ∧ Fr (at' bf) w w' ∧ IsRef w' p bf nf (putAt bs (n * 64) (List.replicate 64 0)) := by
  have hm := h.most
  have hle := h.len
  go_enter Try.func49, Try.ntmps49
  go_wp2_with (go_at_call 37; refine (there_ok _ _ _ _ _ _ h hn).mono ?_; rintro e w' ⟨rfl, rfl⟩)
  go_loopw [6] (fun i wr => ∃ k : Nat, k ≤ 64 ∧ i = .int .i64 k ∧ Fr (at' bf) w' wr ∧ IsRef wr p bf nf (putAt bs (n * 64) (List.replicate k 0))) (fun i _ => 64 - (intOf i).toNat)
  case atStart => exact ⟨0, by omega, rfl, Fr.refl _ _, h⟩
  case round =>
    obtain ⟨k, hk, rfl, fk, rk⟩ := hrel
    by_cases hlt : k < 64
    · have c0 := rk.hcell
      have c1 : ∃ y, wr.cell? ⟨bf, 64 * n + k, none⟩ = some y := ⟨_, rk.bcell (64 * n + k) (by rw [length_putAt]; omega)⟩
      obtain ⟨y, c1⟩ := c1
      have c2 := rk.row.frozen (64 * n + k)
      have i1 : 0 ≤ 64 * (n : Int) + (k : Int) ∧ 64 * (n : Int) + (k : Int) < ((64 * nf : Nat) : Int) := by omega
      go_wp2
      go_roundw
      case rel =>
        refine ⟨k + 1, by omega, by go_num, fr_set _ _ _ _ fk, ?_⟩
        rw [List.replicate_succ']
        exact rk.set' 0 _ (by simp; omega)
      case measure => simp [intOf]; omega
    · obtain rfl : k = 64 := by omega
      go_wp2
      go_ret
      exact ⟨rfl, fk, rk⟩

set_option maxHeartbeats 400000 in
theorem rclear_bad (w : World) (p bf nf : Nat) (bs : List UInt8) (n : Int) (h : IsRef w p bf nf bs) (hn : ¬ (0 ≤ n ∧ n < (nf : Int))) :
    Calls Try.prog 49 #[.pointer (some ⟨p, 0, none⟩), .int .i64 n] w fun e w' => e = .returned (.int .i64 10) ∧ w = w' := by
  have HN : Hid (¬ (0 ≤ n ∧ n < (nf : Int))) := hn
  clear hn
  go_enter Try.func49, Try.ntmps49
  go_wp2_with (go_at_call 37; refine (there_no _ _ _ _ _ _ h HN).mono ?_; rintro e w' ⟨rfl, rfl⟩)
  go_ret
  exact ⟨rfl, rfl⟩

theorem rclear_any (w : World) (p bf nf : Nat) (bs : List UInt8) (n : Int) (h : IsRef w p bf nf bs) :
    Calls Try.prog 49 #[.pointer (some ⟨p, 0, none⟩), .int .i64 n] w fun e w' => (∃ x : Int, e = .returned (.int .i64 x)) ∧ Fr (at' bf) w w' ∧ IsRef w' p bf nf (clearB bs n nf) := by
  by_cases hn : 0 ≤ n ∧ n < (nf : Int)
  · obtain ⟨k, rfl⟩ := Int.eq_ofNat_of_zero_le hn.1
    rw [clearB, if_pos hn, Int.toNat_natCast]
    exact (rclear_ok w p bf nf bs k h (by omega)).mono fun _ _ ⟨h1, h2⟩ => ⟨⟨0, h1⟩, h2⟩
  · rw [clearB, if_neg hn]
    refine (rclear_bad w p bf nf bs n h hn).mono ?_
    rintro e w' ⟨rfl, rfl⟩
    exact ⟨⟨10, rfl⟩, Fr.refl _ _, h⟩

end Go.Proofs.Ytcmhndkbcfpbbaa
