/-
  Contracts of the document's own memory (package viceroyref01) over the translation, the rest: Store whole, New, Frames. No statement is proved here.
-/
import Derived.Test.YtgnoakidjnilpaaGreatRef
namespace Go.Proofs.YtgnoakidjnilpaaGreat
open Go.RowKit

set_option maxHeartbeats 400000 in
theorem rstore_bad (b bf nf : Nat) (addr size v : Int) (w : World) (h : w.cell? ⟨b, 0, none⟩ = some (.slice (some ⟨bf, 0, none⟩) (64 * nf) (64 * nf))) (he : errOf addr size nf ≠ 0) :
    Calls Tryz.prog 34 #[.pointer (some ⟨b, 0, none⟩), .int .i64 addr, .int .i64 size, .int .u32 v] w fun e w' => e = .returned (.int .i64 (errOf addr size nf)) ∧ w = w' := by
  have hb : (errOf addr size nf != 0) = true := by simpa using he
  go_enter Tryz.func34, Tryz.ntmps34
  go_wp2_with (go_at_call 73; refine (wrong_any _ _ _ _ _ _ h).mono ?_; rintro e w' ⟨rfl, rfl⟩)
  go_ret
  exact ⟨rfl, rfl⟩

theorem rstore_any (w : World) (p bf nf : Nat) (bs : List UInt8) (addr size : Int) (v : Nat) (h : IsRef w p bf nf bs) (hv : v < 4294967296) :
    Calls Tryz.prog 34 #[.pointer (some ⟨p, 0, none⟩), .int .i64 addr, .int .i64 size, .int .u32 (v : Int)] w fun e w' =>
      e = .returned (.int .i64 (errOf addr size nf)) ∧ Fr (at' bf) w w' ∧ IsRef w' p bf nf (storeB bs addr size nf v) := by
  by_cases he : errOf addr size nf = 0
  · obtain ⟨hs, ha, h0, h1⟩ := err_zero he
    obtain ⟨a, rfl⟩ := Int.eq_ofNat_of_zero_le h0
    rw [Int.tmod_eq_emod_of_nonneg h0] at ha
    have hl := h.len
    rw [storeB, if_pos he, he, Int.toNat_natCast]
    rcases hs with rfl | rfl | rfl
    · rw [show (1 : Int).toNat = 1 from rfl]
      refine (rstore1 p bf nf a v _ w h.hcell h.most (by omega) he hv (h.bcell a (by omega)) (fun i => h.row.frozen i)).mono ?_
      rintro e w' ⟨rfl, rfl⟩
      refine ⟨rfl, fr_set _ _ _ _ (Fr.refl _ _), ?_⟩
      simp only [bytesOf, putAt]
      exact isRef_step h a v _ rfl
    · rw [show (2 : Int).toNat = 2 from rfl]
      refine (rstore2 p bf nf a v _ _ w h.hcell h.most (by omega) h.apart he hv (h.bcell a (by omega)) (h.bcell (a + 1) (by omega)) (fun i => h.row.frozen i)).mono ?_
      rintro e w' ⟨rfl, rfl⟩
      refine ⟨rfl, fr_set _ _ _ _ (fr_set _ _ _ _ (Fr.refl _ _)), ?_⟩
      simp only [bytesOf, putAt]
      exact isRef_step (isRef_step h a v _ rfl) (a + 1) (v / 256) _ (by omega)
    · rw [show (4 : Int).toNat = 4 from rfl]
      refine (rstore4 p bf nf a v _ _ _ _ w h.hcell h.most (by omega) h.apart he hv (h.bcell a (by omega)) (h.bcell (a + 1) (by omega)) (h.bcell (a + 2) (by omega)) (h.bcell (a + 3) (by omega)) (fun i => h.row.frozen i)).mono ?_
      rintro e w' ⟨rfl, rfl⟩
      refine ⟨rfl, fr_set _ _ _ _ (fr_set _ _ _ _ (fr_set _ _ _ _ (fr_set _ _ _ _ (Fr.refl _ _)))), ?_⟩
      simp only [bytesOf, putAt]
      exact isRef_step (isRef_step (isRef_step (isRef_step h a v _ rfl) (a + 1) (v / 256) _ (by omega)) (a + 1 + 1) (v / 256 / 256) _ (by omega)) (a + 1 + 1 + 1) (v / 256 / 256 / 256) _ (by omega)
  · rw [storeB, if_neg he]
    refine (rstore_bad p bf nf addr size v w h.hcell he).mono ?_
    rintro e w' ⟨rfl, rfl⟩
    exact ⟨rfl, Fr.refl _ _, h⟩

set_option maxHeartbeats 400000 in
theorem rnew_none (n : Int) (w : World) (h : ¬ (1 ≤ n ∧ n ≤ 1024)) :
    Calls Tryz.prog 30 #[.int .i64 n] w fun e w' => e = .returned (.tuple #[.pointer none, .int .i64 1]) ∧ w = w' := by
  by_cases h1 : n < 1
  · have hd : decide (n < 1) = true := by simpa using h1
    clear h
    go_enter Tryz.func30, Tryz.ntmps30
    go_wp2
    go_ret2
    exact ⟨rfl, rfl⟩
  · have hd : decide (n < 1) = false := by simpa using h1
    have hd2 : decide (1024 < n) = true := by simp; omega
    clear h
    go_enter Tryz.func30, Tryz.ntmps30
    go_wp2
    go_ret2
    exact ⟨rfl, rfl⟩

set_option maxHeartbeats 400000 in
theorem rnew_ok (n : Nat) (w : World) (h1 : 1 ≤ n) (h2 : n ≤ 1024) :
    Calls Tryz.prog 30 #[.int .i64 (n : Int)] w fun e w' => e = .returned (.tuple #[.pointer (some ⟨w.heap.size + 1, 0, none⟩), .int .i64 0]) ∧
      (w.alloc (.cells (byteVals (List.replicate ((n : Int) * 64).toNat 0)) 5)).alloc (.cells #[.slice (some ⟨w.heap.size, 0, none⟩) ((n : Int) * 64).toNat ((n : Int) * 64).toNat] 167) = w' := by
  have hd : decide ((n : Int) < 1) = false := by simp; omega
  have hd2 : decide (1024 < (n : Int)) = false := by simp; omega
  have hmk := make_bytes ((n : Int) * 64) (by omega) (by omega)
  generalize byteVals (List.replicate ((n : Int) * 64).toNat 0) = zs at *
  generalize ((n : Int) * 64).toNat = q at *
  go_enter Tryz.func30, Tryz.ntmps30
  go_wp2
  go_ret2
  exact ⟨rfl, rfl⟩

theorem rnew_any (n : Int) (w : World) (h : 1 ≤ n ∧ n ≤ 1024) :
    Calls Tryz.prog 30 #[.int .i64 n] w fun e w' => e = .returned (.tuple #[.pointer (some ⟨w.heap.size + 1, 0, none⟩), .int .i64 0]) ∧
      Fr none' w w' ∧ IsRef w' (w.heap.size + 1) w.heap.size n.toNat (List.replicate (64 * n.toNat) 0) := by
  obtain ⟨m, rfl⟩ := Int.eq_ofNat_of_zero_le (show 0 ≤ n by omega)
  rw [Int.toNat_natCast]
  refine (rnew_ok m w (by omega) (by omega)).mono ?_
  rintro e w' ⟨rfl, rfl⟩
  rw [show ((m : Int) * 64).toNat = 64 * m by omega]
  refine ⟨rfl, ((Fr.refl _ w).alloc _).alloc _, ?_, (row_alloc _ _ _).alloc _, by simp, by omega, by omega⟩
  have := row_alloc (w.alloc (.cells (byteVals (List.replicate (64 * m) 0)) 5)) #[.slice (some ⟨w.heap.size, 0, none⟩) (64 * m) (64 * m)] 167
  rwa [show (w.alloc (.cells (byteVals (List.replicate (64 * m) 0)) 5)).heap.size = w.heap.size + 1 by simp] at this

set_option maxHeartbeats 400000 in
theorem rframes_any (w : World) (p bf nf : Nat) (bs : List UInt8) (h : IsRef w p bf nf bs) :
    Calls Tryz.prog 102 #[.pointer (some ⟨p, 0, none⟩)] w fun e w' => e = .returned (.int .i64 (nf : Int)) ∧ w = w' := by
  have hc := h.hcell
  have hm := h.most
  clear h
  have hq : ((64 * nf : Nat) : Int) / 64 = nf := by omega
  have hq' : 64 * nf ≤ 65536 := by omega
  generalize 64 * nf = q at *
  have HQ : Hid ((q : Int) / 64 = nf) := hq
  clear hq
  go_enter Tryz.func102, Tryz.ntmps102
  go_wp2
  go_ret
  exact ⟨ret_i64 HQ.out, rfl⟩

set_option maxHeartbeats 400000 in
theorem there_yes (w : World) (p bf nf : Nat) (bs : List UInt8) (n : Int) (h : IsRef w p bf nf bs) (hn : 0 ≤ n) :
    Calls Tryz.prog 112 #[.pointer (some ⟨p, 0, none⟩), .int .i64 n] w fun e w' => e = .returned (.bool (decide (n < (nf : Int)))) ∧ w' = w := by
  have hc := h.hcell
  have hm := h.most
  clear h
  have hq : ((64 * nf : Nat) : Int) / 64 = nf := by omega
  have hq' : 64 * nf ≤ 65536 := by omega
  generalize 64 * nf = q at *
  rw [← hq]
  have HQ : Hid ((q : Int) / 64 = nf) := hq
  clear hq
  go_enter Tryz.func112, Tryz.ntmps112
  go_wp2
  go_ret
  exact ⟨rfl, rfl⟩

set_option maxHeartbeats 400000 in
theorem there_neg (b : Nat) (n : Int) (w : World) (hn : n < 0) :
    Calls Tryz.prog 112 #[.pointer (some ⟨b, 0, none⟩), .int .i64 n] w fun e w' => e = .returned (.bool false) ∧ w' = w := by
  have hg : decide (0 ≤ n) = false := by simpa using hn
  go_enter Tryz.func112, Tryz.ntmps112
  go_wp2
  go_ret
  exact ⟨rfl, rfl⟩

theorem there_no (w : World) (p bf nf : Nat) (bs : List UInt8) (n : Int) (h : IsRef w p bf nf bs) (hn : ¬ (0 ≤ n ∧ n < (nf : Int))) :
    Calls Tryz.prog 112 #[.pointer (some ⟨p, 0, none⟩), .int .i64 n] w fun e w' => e = .returned (.bool false) ∧ w' = w := by
  by_cases h0 : n < 0
  · exact there_neg p n w h0
  · refine (there_yes w p bf nf bs n h (by omega)).mono ?_
    rintro e w' ⟨rfl, rfl⟩
    exact ⟨by rw [decide_eq_false (by omega)], rfl⟩

theorem there_ok (w : World) (p bf nf : Nat) (bs : List UInt8) (n : Nat) (h : IsRef w p bf nf bs) (hn : n < nf) :
    Calls Tryz.prog 112 #[.pointer (some ⟨p, 0, none⟩), .int .i64 (n : Int)] w fun e w' => e = .returned (.bool true) ∧ w' = w := by
  refine (there_yes w p bf nf bs n h (by omega)).mono ?_
  rintro e w' ⟨rfl, rfl⟩
  exact ⟨by rw [decide_eq_true (by omega)], rfl⟩

set_option maxHeartbeats 400000 in
theorem rframe_bad (w : World) (p bf nf : Nat) (bs : List UInt8) (n : Int) (h : IsRef w p bf nf bs) (hn : ¬ (0 ≤ n ∧ n < (nf : Int))) :
    Calls Tryz.prog 52 #[.pointer (some ⟨p, 0, none⟩), .int .i64 n] w fun e w' => e = .returned (.tuple #[.slice none 0 0, .int .i64 10]) ∧ w = w' := by
  have HN : Hid (¬ (0 ≤ n ∧ n < (nf : Int))) := hn
  clear hn
  go_enter Tryz.func52, Tryz.ntmps52
  go_wp2_with (go_at_call 112; refine (there_no _ _ _ _ _ _ h HN).mono ?_; rintro e w' ⟨rfl, rfl⟩)
  go_ret2
  exact ⟨rfl, rfl⟩

end Go.Proofs.YtgnoakidjnilpaaGreat
