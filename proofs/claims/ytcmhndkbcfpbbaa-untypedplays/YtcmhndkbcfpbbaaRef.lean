/-
  Contracts of the document's own memory (package viceroyref01) over the translation: Load, and Store piece by piece. No statement is proved here.
-/
import Derived.Test.YtcmhndkbcfpbbaaSame
namespace Go.Proofs.Ytcmhndkbcfpbbaa
open Go.RowKit

/-- A memory of the document's: p its struct's block, bf its bytes' block. -/
structure IsRef (w : World) (p bf nf : Nat) (bs : List UInt8) : Prop where
  head : Row w p #[.slice (some ⟨bf, 0, none⟩) (64 * nf) (64 * nf)] 71
  row : Row w bf (byteVals bs) 5
  len : bs.length = 64 * nf
  most : nf ≤ 1024
  apart : p ≠ bf

theorem IsRef.hcell {w : World} {p bf nf : Nat} {bs : List UInt8} (h : IsRef w p bf nf bs) : w.cell? ⟨p, 0, none⟩ = some (.slice (some ⟨bf, 0, none⟩) (64 * nf) (64 * nf)) := by
  rw [h.head.cell 0]; rfl

theorem IsRef.bcell {w : World} {p bf nf : Nat} {bs : List UInt8} (h : IsRef w p bf nf bs) (i : Nat) (hi : i < bs.length) : w.cell? ⟨bf, i, none⟩ = some (.int .u8 ((bs[i].toNat : Nat) : Int)) := by
  rw [h.row.cell i, byteVals_get bs i hi]; rfl

theorem IsRef.keep {S : Nat → Prop} {w w' : World} {p bf nf : Nat} {bs : List UInt8} (h : IsRef w p bf nf bs) (f : Fr S w w') (hp : ¬ S p) (hb : ¬ S bf) : IsRef w' p bf nf bs :=
  ⟨h.head.keep f hp, h.row.keep f hb, h.len, h.most, h.apart⟩

theorem IsRef.set {w : World} {p bf nf : Nat} {bs : List UInt8} (h : IsRef w p bf nf bs) (a : Nat) (x : UInt8) : IsRef (w.setCell ⟨bf, a, none⟩ (U8 x)) p bf nf (bs.set a x) :=
  ⟨h.head.setCell_other (Ne.symm h.apart) _, by rw [← byteVals_set]; exact h.row.setCell a _, by simp [h.len], h.most, h.apart⟩

theorem isRef_step {w : World} {p bf nf : Nat} {bs : List UInt8} (h : IsRef w p bf nf bs) (a : Nat) (v : Nat) (y : Int) (e : y = ((v : Nat) : Int) % 256) :
    IsRef (w.setCell ⟨bf, a, none⟩ (.int .u8 y)) p bf nf (bs.set a (UInt8.ofNat v)) := by
  subst e; rw [← U8_ofNat]; exact h.set a _

set_option maxHeartbeats 400000 in
theorem wrong_arg (b : Nat) (addr size : Int) (w : World) (hs : size ≠ 1 ∧ size ≠ 2 ∧ size ≠ 4) :
    Calls Try.prog 50 #[.pointer (some ⟨b, 0, none⟩), .int .i64 addr, .int .i64 size] w fun e w' => e = .returned (.int .i64 1) ∧ w' = w := by
  have e1 : (size != 1) = true := by simp; omega
  have e2 : (size != 2) = true := by simp; omega
  have e4 : (size != 4) = true := by simp; omega
  clear hs
  go_enter Try.func50, Try.ntmps50
  go_wp2
  go_ret
  exact ⟨rfl, rfl⟩

set_option maxHeartbeats 400000 in
theorem wrong_align (b : Nat) (addr size : Int) (w : World) (hs : size = 1 ∨ size = 2 ∨ size = 4) (ha : addr.tmod size ≠ 0) :
    Calls Try.prog 50 #[.pointer (some ⟨b, 0, none⟩), .int .i64 addr, .int .i64 size] w fun e w' => e = .returned (.int .i64 11) ∧ w' = w := by
  rcases hs with rfl | rfl | rfl
  · simp at ha
  · have e1 : (addr.tmod 2 != 0) = true := by simpa using ha
    go_enter Try.func50, Try.ntmps50
    go_wp2
    go_ret
    exact ⟨rfl, rfl⟩
  · have e1 : (addr.tmod 4 != 0) = true := by simpa using ha
    go_enter Try.func50, Try.ntmps50
    go_wp2
    go_ret
    exact ⟨rfl, rfl⟩

set_option maxHeartbeats 400000 in
theorem wrong_neg (b : Nat) (addr size : Int) (w : World) (hs : size = 1 ∨ size = 2 ∨ size = 4) (ha : addr.tmod size = 0) (h0 : addr < 0) :
    Calls Try.prog 50 #[.pointer (some ⟨b, 0, none⟩), .int .i64 addr, .int .i64 size] w fun e w' => e = .returned (.int .i64 10) ∧ w' = w := by
  have hd : decide (addr < 0) = true := by simpa using h0
  rcases hs with rfl | rfl | rfl
  · clear ha
    go_enter Try.func50, Try.ntmps50
    go_wp2
    go_ret
    exact ⟨rfl, rfl⟩
  · have e1 : (addr.tmod 2 != 0) = false := by simpa using ha
    go_enter Try.func50, Try.ntmps50
    go_wp2
    go_ret
    exact ⟨rfl, rfl⟩
  · have e1 : (addr.tmod 4 != 0) = false := by simpa using ha
    go_enter Try.func50, Try.ntmps50
    go_wp2
    go_ret
    exact ⟨rfl, rfl⟩

set_option maxHeartbeats 400000 in
theorem wrong_pos (b bf n : Nat) (addr size : Int) (w : World) (h : w.cell? ⟨b, 0, none⟩ = some (.slice (some ⟨bf, 0, none⟩) n n)) (hs : size = 1 ∨ size = 2 ∨ size = 4) (ha : addr % size = 0) (h0 : 0 ≤ addr) :
    Calls Try.prog 50 #[.pointer (some ⟨b, 0, none⟩), .int .i64 addr, .int .i64 size] w fun e w' => e = .returned (.int .i64 (if (n : Int) ≤ addr then 10 else 0)) ∧ w' = w := by
  have t1 : decide (addr < 0) = false := by simpa using h0
  by_cases hf : (n : Int) ≤ addr
  · have t2 : decide ((n : Int) ≤ addr) = true := by simpa using hf
    rw [if_pos hf]
    rcases hs with rfl | rfl | rfl
    · clear ha
      go_enter Try.func50, Try.ntmps50
      go_wp2
      go_ret
      exact ⟨rfl, rfl⟩
    · go_enter Try.func50, Try.ntmps50
      go_wp2
      go_ret
      exact ⟨rfl, rfl⟩
    · go_enter Try.func50, Try.ntmps50
      go_wp2
      go_ret
      exact ⟨rfl, rfl⟩
  · have t2 : decide ((n : Int) ≤ addr) = false := by simpa using hf
    rw [if_neg hf]
    rcases hs with rfl | rfl | rfl
    · clear ha
      go_enter Try.func50, Try.ntmps50
      go_wp2
      go_ret
      exact ⟨rfl, rfl⟩
    · go_enter Try.func50, Try.ntmps50
      go_wp2
      go_ret
      exact ⟨rfl, rfl⟩
    · go_enter Try.func50, Try.ntmps50
      go_wp2
      go_ret
      exact ⟨rfl, rfl⟩

theorem wrong_any (b bf nf : Nat) (addr size : Int) (w : World) (h : w.cell? ⟨b, 0, none⟩ = some (.slice (some ⟨bf, 0, none⟩) (64 * nf) (64 * nf))) :
    Calls Try.prog 50 #[.pointer (some ⟨b, 0, none⟩), .int .i64 addr, .int .i64 size] w fun e w' => e = .returned (.int .i64 (errOf addr size nf)) ∧ w' = w := by
  by_cases a : size ≠ 1 ∧ size ≠ 2 ∧ size ≠ 4
  · rw [err_arg a]; exact wrong_arg b addr size w a
  have a' : size = 1 ∨ size = 2 ∨ size = 4 := by omega
  by_cases c : addr.tmod size ≠ 0
  · rw [err_align a c]; exact wrong_align b addr size w a' c
  by_cases d0 : addr < 0
  · rw [err_address a c (Or.inl d0)]; exact wrong_neg b addr size w a' (by omega) d0
  have c' : addr % size = 0 := by rw [← Int.tmod_eq_emod_of_nonneg (by omega)]; omega
  refine (wrong_pos b bf (64 * nf) addr size w h a' c' (by omega)).mono ?_
  rintro e w' ⟨rfl, rfl⟩
  refine ⟨?_, rfl⟩
  by_cases d : 64 * (nf : Int) ≤ addr
  · rw [err_address a c (Or.inr d), if_pos (by omega)]
  · rw [err_none a c (by omega), if_neg (by omega)]

theorem rwrong_ok (b bf nf : Nat) (addr size : Int) (w : World) (h : w.cell? ⟨b, 0, none⟩ = some (.slice (some ⟨bf, 0, none⟩) (64 * nf) (64 * nf))) (he : errOf addr size nf = 0) :
    Calls Try.prog 50 #[.pointer (some ⟨b, 0, none⟩), .int .i64 addr, .int .i64 size] w fun e w' => e = .returned (.int .i64 0) ∧ w' = w := by
  have := wrong_any b bf nf addr size w h
  rwa [he] at this

set_option maxHeartbeats 400000 in
theorem rstore1 (b bf nf a v : Nat) (y0 : Value) (w : World) (h : w.cell? ⟨b, 0, none⟩ = some (.slice (some ⟨bf, 0, none⟩) (64 * nf) (64 * nf))) (hn : nf ≤ 1024) (ha : a + 1 ≤ 64 * nf) (he : errOf a 1 nf = 0) (hv : v < 4294967296)
    (c0 : w.cell? ⟨bf, a, none⟩ = some y0) (f : ∀ i, w.frozen? ⟨bf, i, none⟩ = false) :
    Calls Try.prog 33 #[.pointer (some ⟨b, 0, none⟩), .int .i64 (a : Int), .int .i64 1, .int .u32 (v : Int)] w fun e w' => e = .returned (.int .i64 0) ∧ (w.setCell ⟨bf, a, none⟩ (.int .u8 ((v : Int) % 256))) = w' := by
  have HE : Hid (errOf a 1 nf = 0) := he
  clear he
  have i0 : 0 ≤ (a : Int) ∧ (a : Int) < ((64 * nf : Nat) : Int) := by omega
  go_enter Try.func33, Try.ntmps33
  go_wp2_with (go_at_call 50; refine (rwrong_ok _ _ _ _ _ _ h HE).mono ?_; rintro e w' ⟨rfl, rfl⟩)
  refine wp_loop_rounds 2 ?_
  rw [rounds_succ]; go_wp2
  rw [rounds_succ]; go_wp2
  go_ret
  exact ⟨rfl, rfl⟩

set_option maxHeartbeats 400000 in
theorem rstore2 (b bf nf a v : Nat) (y0 y1 : Value) (w : World) (h : w.cell? ⟨b, 0, none⟩ = some (.slice (some ⟨bf, 0, none⟩) (64 * nf) (64 * nf))) (hn : nf ≤ 1024) (ha : a + 2 ≤ 64 * nf) (hbb : b ≠ bf) (he : errOf a 2 nf = 0) (hv : v < 4294967296)
    (c0 : w.cell? ⟨bf, a, none⟩ = some y0) (c1 : w.cell? ⟨bf, a + 1, none⟩ = some y1) (f : ∀ i, w.frozen? ⟨bf, i, none⟩ = false) :
    Calls Try.prog 33 #[.pointer (some ⟨b, 0, none⟩), .int .i64 (a : Int), .int .i64 2, .int .u32 (v : Int)] w fun e w' => e = .returned (.int .i64 0) ∧ ((w.setCell ⟨bf, a, none⟩ (.int .u8 ((v : Int) % 256))).setCell ⟨bf, a + 1, none⟩ (.int .u8 ((v : Int) / 256 % 256))) = w' := by
  have HE : Hid (errOf a 2 nf = 0) := he
  clear he
  have i0 : 0 ≤ (a : Int) ∧ (a : Int) < ((64 * nf : Nat) : Int) := by omega
  have i1 : 0 ≤ (a : Int) + 1 ∧ (a : Int) + 1 < ((64 * nf : Nat) : Int) := by omega
  go_enter Try.func33, Try.ntmps33
  go_wp2_with (go_at_call 50; refine (rwrong_ok _ _ _ _ _ _ h HE).mono ?_; rintro e w' ⟨rfl, rfl⟩)
  refine wp_loop_rounds 3 ?_
  rw [rounds_succ]; go_wp2
  rw [rounds_succ]; go_wp2
  rw [rounds_succ]; go_wp2
  go_ret
  exact ⟨rfl, rfl⟩

set_option maxHeartbeats 400000 in
theorem rstore4 (b bf nf a v : Nat) (y0 y1 y2 y3 : Value) (w : World) (h : w.cell? ⟨b, 0, none⟩ = some (.slice (some ⟨bf, 0, none⟩) (64 * nf) (64 * nf))) (hn : nf ≤ 1024) (ha : a + 4 ≤ 64 * nf) (hbb : b ≠ bf) (he : errOf a 4 nf = 0) (hv : v < 4294967296)
    (c0 : w.cell? ⟨bf, a, none⟩ = some y0) (c1 : w.cell? ⟨bf, a + 1, none⟩ = some y1) (c2 : w.cell? ⟨bf, a + 2, none⟩ = some y2) (c3 : w.cell? ⟨bf, a + 3, none⟩ = some y3) (f : ∀ i, w.frozen? ⟨bf, i, none⟩ = false) :
    Calls Try.prog 33 #[.pointer (some ⟨b, 0, none⟩), .int .i64 (a : Int), .int .i64 4, .int .u32 (v : Int)] w fun e w' => e = .returned (.int .i64 0) ∧ ((((w.setCell ⟨bf, a, none⟩ (.int .u8 ((v : Int) % 256))).setCell ⟨bf, a + 1, none⟩ (.int .u8 ((v : Int) / 256 % 256))).setCell ⟨bf, a + 2, none⟩ (.int .u8 ((v : Int) / 256 / 256 % 256))).setCell ⟨bf, a + 3, none⟩ (.int .u8 ((v : Int) / 256 / 256 / 256 % 256))) = w' := by
  have HE : Hid (errOf a 4 nf = 0) := he
  clear he
  have i0 : 0 ≤ (a : Int) ∧ (a : Int) < ((64 * nf : Nat) : Int) := by omega
  have i1 : 0 ≤ (a : Int) + 1 ∧ (a : Int) + 1 < ((64 * nf : Nat) : Int) := by omega
  have i2 : 0 ≤ (a : Int) + 2 ∧ (a : Int) + 2 < ((64 * nf : Nat) : Int) := by omega
  have i3 : 0 ≤ (a : Int) + 3 ∧ (a : Int) + 3 < ((64 * nf : Nat) : Int) := by omega
  go_enter Try.func33, Try.ntmps33
  go_wp2_with (go_at_call 50; refine (rwrong_ok _ _ _ _ _ _ h HE).mono ?_; rintro e w' ⟨rfl, rfl⟩)
  refine wp_loop_rounds 5 ?_
  rw [rounds_succ]; go_wp2
  rw [rounds_succ]; go_wp2
  rw [rounds_succ]; go_wp2
  rw [rounds_succ]; go_wp2
  rw [rounds_succ]; go_wp2
  go_ret
  exact ⟨rfl, rfl⟩

end Go.Proofs.Ytcmhndkbcfpbbaa
