/-
  Contracts of package ram's Store and New over the translation, said of the memory's bytes. No statement is proved here.
-/
import Derived.Test.YtgnoakidjnilpaaGreatRam
namespace Go.Proofs.YtgnoakidjnilpaaGreat
open Go.RowKit

set_option maxHeartbeats 400000 in
theorem store1 (b bf nf a v : Nat) (y0 : Value) (w : World) (h : w.cell? ⟨b, 0, none⟩ = some (.slice (some ⟨bf, 0, none⟩) nf nf)) (hn : nf ≤ 1024) (he : errOf a 1 nf = 0)
    (c0 : w.cell? ⟨bf, a, none⟩ = some y0) (f : ∀ i, w.frozen? ⟨bf, i, none⟩ = false) :
    Calls Tryz.prog 28 #[.pointer (some ⟨b, 0, none⟩), .int .i64 (a : Int), .int .i64 1, .int .u32 (v : Int)] w fun e w' => e = .returned (.int .i64 0) ∧ w.setCell ⟨bf, a, none⟩ (.int .u8 ((v : Int) % 256)) = w' := by
  have HE : Hid (errOf a 1 nf = 0) := he
  clear he
  go_enter Tryz.func28, Tryz.ntmps28
  go_wp2_with (go_at_call 69; refine (place_ok _ _ _ _ _ _ h hn HE).mono ?_; rintro e w' ⟨rfl, rfl⟩)
  refine wp_loop_rounds 2 ?_
  rw [rounds_succ]; go_wp2
  rw [rounds_succ]; go_wp2
  go_ret
  exact ⟨rfl, rfl⟩

set_option maxHeartbeats 400000 in
theorem store2 (b bf nf a v : Nat) (y0 y1 : Value) (w : World) (h : w.cell? ⟨b, 0, none⟩ = some (.slice (some ⟨bf, 0, none⟩) nf nf)) (hn : nf ≤ 1024) (he : errOf a 2 nf = 0)
    (c0 : w.cell? ⟨bf, a, none⟩ = some y0) (c1 : w.cell? ⟨bf, a + 1, none⟩ = some y1) (f : ∀ i, w.frozen? ⟨bf, i, none⟩ = false) :
    Calls Tryz.prog 28 #[.pointer (some ⟨b, 0, none⟩), .int .i64 (a : Int), .int .i64 2, .int .u32 (v : Int)] w fun e w' => e = .returned (.int .i64 0) ∧
      (w.setCell ⟨bf, a, none⟩ (.int .u8 ((v : Int) % 256))).setCell ⟨bf, a + 1, none⟩ (.int .u8 ((v : Int) / 256 % 256)) = w' := by
  have HE : Hid (errOf a 2 nf = 0) := he
  clear he
  go_enter Tryz.func28, Tryz.ntmps28
  go_wp2_with (go_at_call 69; refine (place_ok _ _ _ _ _ _ h hn HE).mono ?_; rintro e w' ⟨rfl, rfl⟩)
  refine wp_loop_rounds 3 ?_
  rw [rounds_succ]; go_wp2
  rw [rounds_succ]; go_wp2
  rw [rounds_succ]; go_wp2
  go_ret
  exact ⟨rfl, rfl⟩

set_option maxHeartbeats 400000 in
theorem store4 (b bf nf a v : Nat) (y0 y1 y2 y3 : Value) (w : World) (h : w.cell? ⟨b, 0, none⟩ = some (.slice (some ⟨bf, 0, none⟩) nf nf)) (hn : nf ≤ 1024) (he : errOf a 4 nf = 0) (hv : v < 4294967296)
    (c0 : w.cell? ⟨bf, a, none⟩ = some y0) (c1 : w.cell? ⟨bf, a + 1, none⟩ = some y1) (c2 : w.cell? ⟨bf, a + 2, none⟩ = some y2) (c3 : w.cell? ⟨bf, a + 3, none⟩ = some y3)
    (f : ∀ i, w.frozen? ⟨bf, i, none⟩ = false) :
    Calls Tryz.prog 28 #[.pointer (some ⟨b, 0, none⟩), .int .i64 (a : Int), .int .i64 4, .int .u32 (v : Int)] w fun e w' => e = .returned (.int .i64 0) ∧
      (((w.setCell ⟨bf, a, none⟩ (.int .u8 ((v : Int) % 256))).setCell ⟨bf, a + 1, none⟩ (.int .u8 ((v : Int) / 256 % 256))).setCell ⟨bf, a + 2, none⟩ (.int .u8 ((v : Int) / 65536 % 256))).setCell ⟨bf, a + 3, none⟩ (.int .u8 ((v : Int) / 16777216)) = w' := by
  have HE : Hid (errOf a 4 nf = 0) := he
  clear he
  go_enter Tryz.func28, Tryz.ntmps28
  go_wp2_with (go_at_call 69; refine (place_ok _ _ _ _ _ _ h hn HE).mono ?_; rintro e w' ⟨rfl, rfl⟩)
  refine wp_loop_rounds 5 ?_
  rw [rounds_succ]; go_wp2
  rw [rounds_succ]; go_wp2
  rw [rounds_succ]; go_wp2
  rw [rounds_succ]; go_wp2
  rw [rounds_succ]; go_wp2
  go_ret
  exact ⟨rfl, rfl⟩

set_option maxHeartbeats 400000 in
theorem store_bad (b bf nf : Nat) (addr size v : Int) (w : World) (h : w.cell? ⟨b, 0, none⟩ = some (.slice (some ⟨bf, 0, none⟩) nf nf)) (he : errOf addr size nf ≠ 0) (hm : addr ≤ 9223372036854775807) :
    Calls Tryz.prog 28 #[.pointer (some ⟨b, 0, none⟩), .int .i64 addr, .int .i64 size, .int .u32 v] w fun e w' => e = .returned (.int .i64 (errOf addr size nf)) ∧ w = w' := by
  have hb : (errOf addr size nf != 0) = true := by simpa using he
  go_enter Tryz.func28, Tryz.ntmps28
  go_wp2_with (go_at_call 69; refine (place_bad _ _ _ _ _ _ h he hm).mono ?_; rintro e w' ⟨rfl, rfl⟩)
  go_ret
  exact ⟨rfl, rfl⟩

/-- The bytes behind a store. -/
def storeB (bs : List UInt8) (addr size : Int) (nf v : Nat) : List UInt8 :=
  if errOf addr size nf = 0 then putAt bs addr.toNat (bytesOf size.toNat v) else bs

theorem IsRam.set {w : World} {p bf nf : Nat} {bs : List UInt8} (h : IsRam w p bf nf bs) (a : Nat) (x : UInt8) : IsRam (w.setCell ⟨bf, a, none⟩ (U8 x)) p bf nf (bs.set a x) :=
  ⟨h.head.setCell_other (Ne.symm h.apart) _, by rw [← byteVals_set]; exact h.row.setCell a _, by simp [h.len], h.most, h.apart⟩

theorem isRam_step {w : World} {p bf nf : Nat} {bs : List UInt8} (h : IsRam w p bf nf bs) (a : Nat) (v : Nat) (y : Int) (e : y = ((v : Nat) : Int) % 256) :
    IsRam (w.setCell ⟨bf, a, none⟩ (.int .u8 y)) p bf nf (bs.set a (UInt8.ofNat v)) := by
  subst e; rw [← U8_ofNat]; exact h.set a _

theorem store_any (w : World) (p bf nf : Nat) (bs : List UInt8) (addr size : Int) (v : Nat) (h : IsRam w p bf nf bs) (hm : addr ≤ 9223372036854775807) (hv : v < 4294967296) :
    Calls Tryz.prog 28 #[.pointer (some ⟨p, 0, none⟩), .int .i64 addr, .int .i64 size, .int .u32 (v : Int)] w fun e w' =>
      e = .returned (.int .i64 (errOf addr size nf)) ∧ Fr (at' bf) w w' ∧ IsRam w' p bf nf (storeB bs addr size nf v) := by
  by_cases he : errOf addr size nf = 0
  · obtain ⟨hs, ha, h0, h1⟩ := err_zero he
    obtain ⟨a, rfl⟩ := Int.eq_ofNat_of_zero_le h0
    rw [Int.tmod_eq_emod_of_nonneg h0] at ha
    have hl := h.len
    rw [storeB, if_pos he, he, Int.toNat_natCast]
    rcases hs with rfl | rfl | rfl
    · rw [show (1 : Int).toNat = 1 from rfl]
      refine (store1 p bf nf a v _ w h.hcell h.most he (h.bcell a (by omega)) (fun i => h.row.frozen i)).mono ?_
      rintro e w' ⟨rfl, rfl⟩
      refine ⟨rfl, fr_set _ _ _ _ (Fr.refl _ _), ?_⟩
      simp only [bytesOf, putAt]
      exact isRam_step h a v _ rfl
    · rw [show (2 : Int).toNat = 2 from rfl]
      refine (store2 p bf nf a v _ _ w h.hcell h.most he (h.bcell a (by omega)) (h.bcell (a + 1) (by omega)) (fun i => h.row.frozen i)).mono ?_
      rintro e w' ⟨rfl, rfl⟩
      refine ⟨rfl, fr_set _ _ _ _ (fr_set _ _ _ _ (Fr.refl _ _)), ?_⟩
      simp only [bytesOf, putAt]
      exact isRam_step (isRam_step h a v _ rfl) (a + 1) (v / 256) _ (by omega)
    · rw [show (4 : Int).toNat = 4 from rfl]
      refine (store4 p bf nf a v _ _ _ _ w h.hcell h.most he hv (h.bcell a (by omega)) (h.bcell (a + 1) (by omega)) (h.bcell (a + 2) (by omega)) (h.bcell (a + 3) (by omega)) (fun i => h.row.frozen i)).mono ?_
      rintro e w' ⟨rfl, rfl⟩
      refine ⟨rfl, fr_set _ _ _ _ (fr_set _ _ _ _ (fr_set _ _ _ _ (fr_set _ _ _ _ (Fr.refl _ _)))), ?_⟩
      simp only [bytesOf, putAt]
      exact isRam_step (isRam_step (isRam_step (isRam_step h a v _ rfl) (a + 1) (v / 256) _ (by omega)) (a + 1 + 1) (v / 256 / 256) _ (by omega)) (a + 1 + 1 + 1) (v / 256 / 256 / 256) _ (by omega)
  · rw [storeB, if_neg he]
    refine (store_bad p bf nf addr size v w h.hcell he hm).mono ?_
    rintro e w' ⟨rfl, rfl⟩
    exact ⟨rfl, Fr.refl _ _, h⟩

set_option maxHeartbeats 400000 in
theorem new_low (n : Int) (w : World) (h : n < 1) :
    Calls Tryz.prog 29 #[.int .i64 n] w fun e w' => e = .returned (.tuple #[.pointer none, .int .i64 1]) ∧ w = w' := by
  have hd : decide (n < 1) = true := by simpa using h
  go_enter Tryz.func29, Tryz.ntmps29
  go_wp2
  go_ret2
  exact ⟨rfl, rfl⟩

set_option maxHeartbeats 400000 in
theorem new_high (n : Int) (w : World) (h : 1024 < n) :
    Calls Tryz.prog 29 #[.int .i64 n] w fun e w' => e = .returned (.tuple #[.pointer none, .int .i64 1]) ∧ w = w' := by
  have hd : decide (n < 1) = false := by simp; omega
  have hd2 : decide (1024 < n) = true := by simpa using h
  go_enter Tryz.func29, Tryz.ntmps29
  go_wp2
  go_ret2
  exact ⟨rfl, rfl⟩

theorem info59 : (Tryz.prog.info? 154).map (fun i => (i.zero, i.bytes, i.size)) = some (some (.agg (Array.replicate 64 (.int .u8 0))), 64, 64) := by kernel_rfl

theorem made_zeros (n : Nat) : madeCells (Array.replicate 64 (.int .u8 0)) (n * 64) = byteVals (List.replicate (64 * n) 0) := by
  apply Array.ext
  · simp [size_madeCells, size_byteVals, Nat.mul_comm]
  · intro i h1 h2
    have h3 : i % 64 < 64 := Nat.mod_lt _ (by omega)
    simp [madeCells, byteVals, U8, h3]

theorem make_frames (n : Nat) (h2 : n ≤ 1024) (w : World) : (Instr.makeSlice 155 (.int .i64 (n : Int)) (.int .i64 (n : Int))).run Tryz.prog w =
    .ok (.slice (some ⟨w.heap.size, 0, none⟩) n n) (w.alloc (.cells (byteVals (List.replicate (64 * n) 0)) 154)) := by
  have hi := info59
  cases hq : Tryz.prog.info? 154 with
  | none => simp [hq] at hi
  | some i =>
    rw [hq] at hi
    simp only [Option.map_some, Option.some.injEq, Prod.mk.injEq] at hi
    obtain ⟨hz, hb, hs⟩ := hi
    have := run_make (P := Tryz.prog) w 155 154 i _ Tryz.underlying155 hq hz .i64 .i64 n n (by omega) (by omega) (by rw [hb]; omega) (by omega)
    rw [this, hs, Int.toNat_natCast]
    simp only [Value.cells, made_zeros]

set_option maxHeartbeats 400000 in
theorem new_ok (n : Nat) (w : World) (h1 : 1 ≤ n) (h2 : n ≤ 1024) :
    Calls Tryz.prog 29 #[.int .i64 (n : Int)] w fun e w' => e = .returned (.tuple #[.pointer (some ⟨w.heap.size + 1, 0, none⟩), .int .i64 0]) ∧
      (w.alloc (.cells (byteVals (List.replicate (64 * n) 0)) 154)).alloc (.cells #[.slice (some ⟨w.heap.size, 0, none⟩) n n] 157) = w' := by
  have hd : decide ((n : Int) < 1) = false := by simp; omega
  have hd2 : decide (1024 < (n : Int)) = false := by simp; omega
  have hmk := make_frames n h2
  generalize byteVals (List.replicate (64 * n) 0) = zs at *
  go_enter Tryz.func29, Tryz.ntmps29
  go_wp2
  go_ret2
  exact ⟨rfl, rfl⟩

theorem new_any (n : Int) (w : World) (h : 1 ≤ n ∧ n ≤ 1024) :
    Calls Tryz.prog 29 #[.int .i64 n] w fun e w' => e = .returned (.tuple #[.pointer (some ⟨w.heap.size + 1, 0, none⟩), .int .i64 0]) ∧
      Fr none' w w' ∧ IsRam w' (w.heap.size + 1) w.heap.size n.toNat (List.replicate (64 * n.toNat) 0) := by
  obtain ⟨m, rfl⟩ := Int.eq_ofNat_of_zero_le (show 0 ≤ n by omega)
  rw [Int.toNat_natCast]
  refine (new_ok m w (by omega) (by omega)).mono ?_
  rintro e w' ⟨rfl, rfl⟩
  refine ⟨rfl, ((Fr.refl _ w).alloc _).alloc _, ?_, (row_alloc _ _ _).alloc _, by simp, by omega, by omega⟩
  have := row_alloc (w.alloc (.cells (byteVals (List.replicate (64 * m) 0)) 154)) #[.slice (some ⟨w.heap.size, 0, none⟩) m m] 157
  rwa [show (w.alloc (.cells (byteVals (List.replicate (64 * m) 0)) 154)).heap.size = w.heap.size + 1 by simp] at this

theorem new_none (n : Int) (w : World) (h : ¬ (1 ≤ n ∧ n ≤ 1024)) :
    Calls Tryz.prog 29 #[.int .i64 n] w fun e w' => e = .returned (.tuple #[.pointer none, .int .i64 1]) ∧ w = w' := by
  by_cases h1 : n < 1
  · exact new_low n w h1
  · exact new_high n w (by omega)

end Go.Proofs.YtgnoakidjnilpaaGreat
