/-
  Contracts of the document's own memory (package viceroyref01) over the translation: Load, and Store piece by piece. No statement is proved here.
-/
import Derived.Test.YtgnoakidjnilpaaGreatSame
namespace Go.Proofs.YtgnoakidjnilpaaGreat
open Go.RowKit

/-- A memory of the document's: p its struct's block, bf its bytes' block. -/
structure IsRef (w : World) (p bf nf : Nat) (bs : List UInt8) : Prop where
  head : Row w p #[.slice (some ⟨bf, 0, none⟩) (64 * nf) (64 * nf)] 167
  row : Row w bf (byteVals bs) 5
  len : bs.length = 64 * nf
  most : nf ≤ 1024
  apart : p ≠ bf

theorem IsRef.hcell {w : World} {p bf nf : Nat} {bs : List UInt8} (h : IsRef w p bf nf bs) : w.cell? ⟨p, 0, none⟩ = some (.slice (some ⟨bf, 0, none⟩) (64 * nf) (64 * nf)) := by
  rw [h.head.cell 0]; rfl

theorem IsRef.bcell {w : World} {p bf nf : Nat} {bs : List UInt8} (h : IsRef w p bf nf bs) (i : Nat) (hi : i < bs.length) : w.cell? ⟨bf, i, none⟩ = some (.int .u8 ((bs[i].toNat : Nat) : Int)) := by
  rw [h.row.cell i, byteVals_get bs i hi]; rfl

theorem IsRef.keep {S : Nat → Prop} {w w' : World} {p bf nf : Nat} {bs : List UInt8} (h : IsRef w p bf nf bs) (f : Fr S w w') (hp : ¬ S p) (hb : ¬ S bf) : IsRef w' p bf nf bs :=
  ⟨h.head.keep f hp, h.row.keep f hb, h.len, h.most, h.apart⟩

theorem IsRef.set {w : World} {p bf nf : Nat} {bs : List UInt8} (h : IsRef w p bf nf bs) (a : Nat) (x : UInt8) : IsRef (w.setCell ⟨bf, a, none⟩ (U8 x)) p bf nf (bs.set a x) :=
  ⟨h.head.setCell_other (Ne.symm h.apart) _, by rw [← byteVals_set]; exact h.row.setCell a _, by simp [h.len], h.most, h.apart⟩

theorem isRef_step {w : World} {p bf nf : Nat} {bs : List UInt8} (h : IsRef w p bf nf bs) (a : Nat) (v : Nat) (y : Int) (e : y = ((v : Nat) : Int) % 256) :
    IsRef (w.setCell ⟨bf, a, none⟩ (.int .u8 y)) p bf nf (bs.set a (UInt8.ofNat v)) := by
  subst e; rw [← U8_ofNat]; exact h.set a _

set_option maxHeartbeats 400000 in
theorem wrong_arg (b : Nat) (addr size : Int) (w : World) (hs : size ≠ 1 ∧ size ≠ 2 ∧ size ≠ 4) :
    Calls Tryz.prog 73 #[.pointer (some ⟨b, 0, none⟩), .int .i64 addr, .int .i64 size] w fun e w' => e = .returned (.int .i64 1) ∧ w' = w := by
  have e1 : (size != 1) = true := by simp; omega
  have e2 : (size != 2) = true := by simp; omega
  have e4 : (size != 4) = true := by simp; omega
  clear hs
  go_enter Tryz.func73, Tryz.ntmps73
  go_wp2
  go_ret
  exact ⟨rfl, rfl⟩

set_option maxHeartbeats 400000 in
theorem wrong_align (b : Nat) (addr size : Int) (w : World) (hs : size = 1 ∨ size = 2 ∨ size = 4) (ha : addr.tmod size ≠ 0) :
    Calls Tryz.prog 73 #[.pointer (some ⟨b, 0, none⟩), .int .i64 addr, .int .i64 size] w fun e w' => e = .returned (.int .i64 11) ∧ w' = w := by
  rcases hs with rfl | rfl | rfl
  · simp at ha
  · have e1 : (addr.tmod 2 != 0) = true := by simpa using ha
    go_enter Tryz.func73, Tryz.ntmps73
    go_wp2
    go_ret
    exact ⟨rfl, rfl⟩
  · have e1 : (addr.tmod 4 != 0) = true := by simpa using ha
    go_enter Tryz.func73, Tryz.ntmps73
    go_wp2
    go_ret
    exact ⟨rfl, rfl⟩

set_option maxHeartbeats 400000 in
theorem wrong_neg (b : Nat) (addr size : Int) (w : World) (hs : size = 1 ∨ size = 2 ∨ size = 4) (ha : addr.tmod size = 0) (h0 : addr < 0) :
    Calls Tryz.prog 73 #[.pointer (some ⟨b, 0, none⟩), .int .i64 addr, .int .i64 size] w fun e w' => e = .returned (.int .i64 10) ∧ w' = w := by
  have hd : decide (addr < 0) = true := by simpa using h0
  rcases hs with rfl | rfl | rfl
  · clear ha
    go_enter Tryz.func73, Tryz.ntmps73
    go_wp2
    go_ret
    exact ⟨rfl, rfl⟩
  · have e1 : (addr.tmod 2 != 0) = false := by simpa using ha
    go_enter Tryz.func73, Tryz.ntmps73
    go_wp2
    go_ret
    exact ⟨rfl, rfl⟩
  · have e1 : (addr.tmod 4 != 0) = false := by simpa using ha
    go_enter Tryz.func73, Tryz.ntmps73
    go_wp2
    go_ret
    exact ⟨rfl, rfl⟩

set_option maxHeartbeats 400000 in
theorem wrong_pos (b bf n : Nat) (addr size : Int) (w : World) (h : w.cell? ⟨b, 0, none⟩ = some (.slice (some ⟨bf, 0, none⟩) n n)) (hs : size = 1 ∨ size = 2 ∨ size = 4) (ha : addr % size = 0) (h0 : 0 ≤ addr) :
    Calls Tryz.prog 73 #[.pointer (some ⟨b, 0, none⟩), .int .i64 addr, .int .i64 size] w fun e w' => e = .returned (.int .i64 (if (n : Int) ≤ addr then 10 else 0)) ∧ w' = w := by
  have t1 : decide (addr < 0) = false := by simpa using h0
  by_cases hf : (n : Int) ≤ addr
  · have t2 : decide ((n : Int) ≤ addr) = true := by simpa using hf
    rw [if_pos hf]
    rcases hs with rfl | rfl | rfl
    · clear ha
      go_enter Tryz.func73, Tryz.ntmps73
      go_wp2
      go_ret
      exact ⟨rfl, rfl⟩
    · go_enter Tryz.func73, Tryz.ntmps73
      go_wp2
      go_ret
      exact ⟨rfl, rfl⟩
    · go_enter Tryz.func73, Tryz.ntmps73
      go_wp2
      go_ret
      exact ⟨rfl, rfl⟩
  · have t2 : decide ((n : Int) ≤ addr) = false := by simpa using hf
    rw [if_neg hf]
    rcases hs with rfl | rfl | rfl
    · clear ha
      go_enter Tryz.func73, Tryz.ntmps73
      go_wp2
      go_ret
      exact ⟨rfl, rfl⟩
    · go_enter Tryz.func73, Tryz.ntmps73
      go_wp2
      go_ret
      exact ⟨rfl, rfl⟩
    · go_enter Tryz.func73, Tryz.ntmps73
      go_wp2
      go_ret
      exact ⟨rfl, rfl⟩

theorem wrong_any (b bf nf : Nat) (addr size : Int) (w : World) (h : w.cell? ⟨b, 0, none⟩ = some (.slice (some ⟨bf, 0, none⟩) (64 * nf) (64 * nf))) :
    Calls Tryz.prog 73 #[.pointer (some ⟨b, 0, none⟩), .int .i64 addr, .int .i64 size] w fun e w' => e = .returned (.int .i64 (errOf addr size nf)) ∧ w' = w := by
  by_cases a : size ≠ 1 ∧ size ≠ 2 ∧ size ≠ 4
  · rw [err_arg a]; exact wrong_arg b addr size w a
  have a' : size = 1 ∨ size = 2 ∨ size = 4 := by omega
  by_cases c : addr.tmod size ≠ 0
  · rw [err_align a c]; exact wrong_align b addr size w a' c
  by_cases d0 : addr < 0
  · rw [err_address a c (Or.inl d0)]; exact wrong_neg b addr size w a' (by omega) d0
  have c' : addr % size = 0 := by rw [← Int.tmod_eq_emod_of_nonneg (by omega)]; omega
  refine (wrong_pos b bf (64 * nf) addr size w h a' c' (by omega)).mono ?_
  rintro e w' ⟨rfl, rfl⟩
  refine ⟨?_, rfl⟩
  by_cases d : 64 * (nf : Int) ≤ addr
  · rw [err_address a c (Or.inr d), if_pos (by omega)]
  · rw [err_none a c (by omega), if_neg (by omega)]

set_option maxHeartbeats 400000 in
theorem rload_bad (b bf nf : Nat) (addr size : Int) (w : World) (h : w.cell? ⟨b, 0, none⟩ = some (.slice (some ⟨bf, 0, none⟩) (64 * nf) (64 * nf))) (he : errOf addr size nf ≠ 0) :
    Calls Tryz.prog 40 #[.pointer (some ⟨b, 0, none⟩), .int .i64 addr, .int .i64 size] w fun e w' => e = .returned (.tuple #[.int .u32 0, .int .i64 (errOf addr size nf)]) ∧ w' = w := by
  have hb : (errOf addr size nf != 0) = true := by simpa using he
  go_enter Tryz.func40, Tryz.ntmps40
  go_wp2_with (go_at_call 73; refine (wrong_any _ _ _ _ _ _ h).mono ?_; rintro e w' ⟨rfl, rfl⟩)
  go_ret2
  exact ⟨rfl, rfl⟩

theorem rwrong_ok (b bf nf : Nat) (addr size : Int) (w : World) (h : w.cell? ⟨b, 0, none⟩ = some (.slice (some ⟨bf, 0, none⟩) (64 * nf) (64 * nf))) (he : errOf addr size nf = 0) :
    Calls Tryz.prog 73 #[.pointer (some ⟨b, 0, none⟩), .int .i64 addr, .int .i64 size] w fun e w' => e = .returned (.int .i64 0) ∧ w' = w := by
  have := wrong_any b bf nf addr size w h
  rwa [he] at this

set_option maxHeartbeats 400000 in
theorem rload1 (b bf nf a x0 : Nat) (w : World) (h : w.cell? ⟨b, 0, none⟩ = some (.slice (some ⟨bf, 0, none⟩) (64 * nf) (64 * nf))) (hn : nf ≤ 1024) (ha : a + 1 ≤ 64 * nf) (he : errOf a 1 nf = 0)
    (c0 : w.cell? ⟨bf, a, none⟩ = some (.int .u8 (x0 : Int)))
    (h0 : x0 < 256) :
    Calls Tryz.prog 40 #[.pointer (some ⟨b, 0, none⟩), .int .i64 (a : Int), .int .i64 1] w fun e w' => e = .returned (.tuple #[.int .u32 ((x0 + 256 * 0 : Nat) : Int), .int .i64 0]) ∧ w' = w := by
  have HE : Hid (errOf a 1 nf = 0) := he
  clear he
  have i0 : 0 ≤ (a : Int) ∧ (a : Int) < ((64 * nf : Nat) : Int) := by omega
  go_enter Tryz.func40, Tryz.ntmps40
  go_wp2_with (go_at_call 73; refine (rwrong_ok _ _ _ _ _ _ h HE).mono ?_; rintro e w' ⟨rfl, rfl⟩)
  refine wp_loop_rounds 2 ?_
  rw [rounds_succ]; go_wp2
  rw [rounds_succ]; go_wp2
  go_ret2
  exact ⟨ret_u32e (by omega), rfl⟩

set_option maxHeartbeats 400000 in
theorem rload2 (b bf nf a x0 x1 : Nat) (w : World) (h : w.cell? ⟨b, 0, none⟩ = some (.slice (some ⟨bf, 0, none⟩) (64 * nf) (64 * nf))) (hn : nf ≤ 1024) (ha : a + 2 ≤ 64 * nf) (he : errOf a 2 nf = 0)
    (c0 : w.cell? ⟨bf, a, none⟩ = some (.int .u8 (x0 : Int))) (c1 : w.cell? ⟨bf, a + 1, none⟩ = some (.int .u8 (x1 : Int)))
    (h0 : x0 < 256) (h1 : x1 < 256) :
    Calls Tryz.prog 40 #[.pointer (some ⟨b, 0, none⟩), .int .i64 (a : Int), .int .i64 2] w fun e w' => e = .returned (.tuple #[.int .u32 ((x0 + 256 * (x1 + 256 * 0) : Nat) : Int), .int .i64 0]) ∧ w' = w := by
  have HE : Hid (errOf a 2 nf = 0) := he
  clear he
  have i0 : 0 ≤ (a : Int) ∧ (a : Int) < ((64 * nf : Nat) : Int) := by omega
  have i1 : 0 ≤ (a : Int) + 1 ∧ (a : Int) + 1 < ((64 * nf : Nat) : Int) := by omega
  go_enter Tryz.func40, Tryz.ntmps40
  go_wp2_with (go_at_call 73; refine (rwrong_ok _ _ _ _ _ _ h HE).mono ?_; rintro e w' ⟨rfl, rfl⟩)
  refine wp_loop_rounds 3 ?_
  rw [rounds_succ]; go_wp2
  rw [rounds_succ]; go_wp2
  rw [rounds_succ]; go_wp2
  go_ret2
  exact ⟨ret_u32e (by omega), rfl⟩

set_option maxHeartbeats 400000 in
theorem rload4 (b bf nf a x0 x1 x2 x3 : Nat) (w : World) (h : w.cell? ⟨b, 0, none⟩ = some (.slice (some ⟨bf, 0, none⟩) (64 * nf) (64 * nf))) (hn : nf ≤ 1024) (ha : a + 4 ≤ 64 * nf) (he : errOf a 4 nf = 0)
    (c0 : w.cell? ⟨bf, a, none⟩ = some (.int .u8 (x0 : Int))) (c1 : w.cell? ⟨bf, a + 1, none⟩ = some (.int .u8 (x1 : Int))) (c2 : w.cell? ⟨bf, a + 2, none⟩ = some (.int .u8 (x2 : Int))) (c3 : w.cell? ⟨bf, a + 3, none⟩ = some (.int .u8 (x3 : Int)))
    (h0 : x0 < 256) (h1 : x1 < 256) (h2 : x2 < 256) (h3 : x3 < 256) :
    Calls Tryz.prog 40 #[.pointer (some ⟨b, 0, none⟩), .int .i64 (a : Int), .int .i64 4] w fun e w' => e = .returned (.tuple #[.int .u32 ((x0 + 256 * (x1 + 256 * (x2 + 256 * (x3 + 256 * 0))) : Nat) : Int), .int .i64 0]) ∧ w' = w := by
  have HE : Hid (errOf a 4 nf = 0) := he
  clear he
  have i0 : 0 ≤ (a : Int) ∧ (a : Int) < ((64 * nf : Nat) : Int) := by omega
  have i1 : 0 ≤ (a : Int) + 1 ∧ (a : Int) + 1 < ((64 * nf : Nat) : Int) := by omega
  have i2 : 0 ≤ (a : Int) + 2 ∧ (a : Int) + 2 < ((64 * nf : Nat) : Int) := by omega
  have i3 : 0 ≤ (a : Int) + 3 ∧ (a : Int) + 3 < ((64 * nf : Nat) : Int) := by omega
  go_enter Tryz.func40, Tryz.ntmps40
  go_wp2_with (go_at_call 73; refine (rwrong_ok _ _ _ _ _ _ h HE).mono ?_; rintro e w' ⟨rfl, rfl⟩)
  refine wp_loop_rounds 5 ?_
  rw [rounds_succ]; go_wp2
  rw [rounds_succ]; go_wp2
  rw [rounds_succ]; go_wp2
  rw [rounds_succ]; go_wp2
  rw [rounds_succ]; go_wp2
  go_ret2
  exact ⟨ret_u32e (by omega), rfl⟩

theorem rload_any (w : World) (p bf nf : Nat) (bs : List UInt8) (addr size : Int) (h : IsRef w p bf nf bs) :
    Calls Tryz.prog 40 #[.pointer (some ⟨p, 0, none⟩), .int .i64 addr, .int .i64 size] w fun e w' => e = .returned (.tuple #[.int .u32 (loadV bs addr size nf), .int .i64 (errOf addr size nf)]) ∧ w' = w := by
  by_cases he : errOf addr size nf = 0
  · obtain ⟨hs, ha, h0, h1⟩ := err_zero he
    obtain ⟨a, rfl⟩ := Int.eq_ofNat_of_zero_le h0
    rw [Int.tmod_eq_emod_of_nonneg h0] at ha
    have hl := h.len
    rw [loadV, if_pos he, he, Int.toNat_natCast]
    rcases hs with rfl | rfl | rfl
    · rw [show (1 : Int).toNat = 1 from rfl, numOf_1 bs a (by omega)]
      exact rload1 p bf nf a _ w h.hcell h.most (by omega) he (h.bcell a (by omega)) (UInt8.toNat_lt _)
    · rw [show (2 : Int).toNat = 2 from rfl, numOf_2 bs a (by omega)]
      exact rload2 p bf nf a _ _ w h.hcell h.most (by omega) he (h.bcell a (by omega)) (h.bcell (a + 1) (by omega)) (UInt8.toNat_lt _) (UInt8.toNat_lt _)
    · rw [show (4 : Int).toNat = 4 from rfl, numOf_4 bs a (by omega)]
      exact rload4 p bf nf a _ _ _ _ w h.hcell h.most (by omega) he (h.bcell a (by omega)) (h.bcell (a + 1) (by omega)) (h.bcell (a + 2) (by omega)) (h.bcell (a + 3) (by omega)) (UInt8.toNat_lt _) (UInt8.toNat_lt _) (UInt8.toNat_lt _) (UInt8.toNat_lt _)
  · rw [loadV, if_neg he]
    exact rload_bad p bf nf addr size w h.hcell he

set_option maxHeartbeats 400000 in
theorem rstore1 (b bf nf a v : Nat) (y0 : Value) (w : World) (h : w.cell? ⟨b, 0, none⟩ = some (.slice (some ⟨bf, 0, none⟩) (64 * nf) (64 * nf))) (hn : nf ≤ 1024) (ha : a + 1 ≤ 64 * nf) (he : errOf a 1 nf = 0) (hv : v < 4294967296)
    (c0 : w.cell? ⟨bf, a, none⟩ = some y0) (f : ∀ i, w.frozen? ⟨bf, i, none⟩ = false) :
    Calls Tryz.prog 34 #[.pointer (some ⟨b, 0, none⟩), .int .i64 (a : Int), .int .i64 1, .int .u32 (v : Int)] w fun e w' => e = .returned (.int .i64 0) ∧ (w.setCell ⟨bf, a, none⟩ (.int .u8 ((v : Int) % 256))) = w' := by
  have HE : Hid (errOf a 1 nf = 0) := he
  clear he
  have i0 : 0 ≤ (a : Int) ∧ (a : Int) < ((64 * nf : Nat) : Int) := by omega
  go_enter Tryz.func34, Tryz.ntmps34
  go_wp2_with (go_at_call 73; refine (rwrong_ok _ _ _ _ _ _ h HE).mono ?_; rintro e w' ⟨rfl, rfl⟩)
  refine wp_loop_rounds 2 ?_
  rw [rounds_succ]; go_wp2
  rw [rounds_succ]; go_wp2
  go_ret
  exact ⟨rfl, rfl⟩

set_option maxHeartbeats 400000 in
theorem rstore2 (b bf nf a v : Nat) (y0 y1 : Value) (w : World) (h : w.cell? ⟨b, 0, none⟩ = some (.slice (some ⟨bf, 0, none⟩) (64 * nf) (64 * nf))) (hn : nf ≤ 1024) (ha : a + 2 ≤ 64 * nf) (hbb : b ≠ bf) (he : errOf a 2 nf = 0) (hv : v < 4294967296)
    (c0 : w.cell? ⟨bf, a, none⟩ = some y0) (c1 : w.cell? ⟨bf, a + 1, none⟩ = some y1) (f : ∀ i, w.frozen? ⟨bf, i, none⟩ = false) :
    Calls Tryz.prog 34 #[.pointer (some ⟨b, 0, none⟩), .int .i64 (a : Int), .int .i64 2, .int .u32 (v : Int)] w fun e w' => e = .returned (.int .i64 0) ∧ ((w.setCell ⟨bf, a, none⟩ (.int .u8 ((v : Int) % 256))).setCell ⟨bf, a + 1, none⟩ (.int .u8 ((v : Int) / 256 % 256))) = w' := by
  have HE : Hid (errOf a 2 nf = 0) := he
  clear he
  have i0 : 0 ≤ (a : Int) ∧ (a : Int) < ((64 * nf : Nat) : Int) := by omega
  have i1 : 0 ≤ (a : Int) + 1 ∧ (a : Int) + 1 < ((64 * nf : Nat) : Int) := by omega
  go_enter Tryz.func34, Tryz.ntmps34
  go_wp2_with (go_at_call 73; refine (rwrong_ok _ _ _ _ _ _ h HE).mono ?_; rintro e w' ⟨rfl, rfl⟩)
  refine wp_loop_rounds 3 ?_
  rw [rounds_succ]; go_wp2
  rw [rounds_succ]; go_wp2
  rw [rounds_succ]; go_wp2
  go_ret
  exact ⟨rfl, rfl⟩

set_option maxHeartbeats 400000 in
theorem rstore4 (b bf nf a v : Nat) (y0 y1 y2 y3 : Value) (w : World) (h : w.cell? ⟨b, 0, none⟩ = some (.slice (some ⟨bf, 0, none⟩) (64 * nf) (64 * nf))) (hn : nf ≤ 1024) (ha : a + 4 ≤ 64 * nf) (hbb : b ≠ bf) (he : errOf a 4 nf = 0) (hv : v < 4294967296)
    (c0 : w.cell? ⟨bf, a, none⟩ = some y0) (c1 : w.cell? ⟨bf, a + 1, none⟩ = some y1) (c2 : w.cell? ⟨bf, a + 2, none⟩ = some y2) (c3 : w.cell? ⟨bf, a + 3, none⟩ = some y3) (f : ∀ i, w.frozen? ⟨bf, i, none⟩ = false) :
    Calls Tryz.prog 34 #[.pointer (some ⟨b, 0, none⟩), .int .i64 (a : Int), .int .i64 4, .int .u32 (v : Int)] w fun e w' => e = .returned (.int .i64 0) ∧ ((((w.setCell ⟨bf, a, none⟩ (.int .u8 ((v : Int) % 256))).setCell ⟨bf, a + 1, none⟩ (.int .u8 ((v : Int) / 256 % 256))).setCell ⟨bf, a + 2, none⟩ (.int .u8 ((v : Int) / 256 / 256 % 256))).setCell ⟨bf, a + 3, none⟩ (.int .u8 ((v : Int) / 256 / 256 / 256 % 256))) = w' := by
  have HE : Hid (errOf a 4 nf = 0) := he
  clear he
  have i0 : 0 ≤ (a : Int) ∧ (a : Int) < ((64 * nf : Nat) : Int) := by omega
  have i1 : 0 ≤ (a : Int) + 1 ∧ (a : Int) + 1 < ((64 * nf : Nat) : Int) := by omega
  have i2 : 0 ≤ (a : Int) + 2 ∧ (a : Int) + 2 < ((64 * nf : Nat) : Int) := by omega
  have i3 : 0 ≤ (a : Int) + 3 ∧ (a : Int) + 3 < ((64 * nf : Nat) : Int) := by omega
  go_enter Tryz.func34, Tryz.ntmps34
  go_wp2_with (go_at_call 73; refine (rwrong_ok _ _ _ _ _ _ h HE).mono ?_; rintro e w' ⟨rfl, rfl⟩)
  refine wp_loop_rounds 5 ?_
  rw [rounds_succ]; go_wp2
  rw [rounds_succ]; go_wp2
  rw [rounds_succ]; go_wp2
  rw [rounds_succ]; go_wp2
  rw [rounds_succ]; go_wp2
  go_ret
  exact ⟨rfl, rfl⟩

end Go.Proofs.YtgnoakidjnilpaaGreat
