/-
  Contracts of package ram's Load over the translation, said of the memory's bytes. No statement is proved here.
-/
import Derived.Test.YtgnoakidjnilpaaGreatPlace
import Derived.Test.YtgnoakidjnilpaaGreatBytes
namespace Go.Proofs.YtgnoakidjnilpaaGreat
open Go.RowKit

/-- A memory of package ram: p its struct's block, bf its frames' block, nf frames, bs all bytes. -/
structure IsRam (w : World) (p bf nf : Nat) (bs : List UInt8) : Prop where
  head : Row w p #[.slice (some ⟨bf, 0, none⟩) nf nf] 157
  row : Row w bf (byteVals bs) 154
  len : bs.length = 64 * nf
  most : nf ≤ 1024
  apart : p ≠ bf

theorem IsRam.hcell {w : World} {p bf nf : Nat} {bs : List UInt8} (h : IsRam w p bf nf bs) : w.cell? ⟨p, 0, none⟩ = some (.slice (some ⟨bf, 0, none⟩) nf nf) := by
  rw [h.head.cell 0]; rfl

theorem IsRam.bcell {w : World} {p bf nf : Nat} {bs : List UInt8} (h : IsRam w p bf nf bs) (i : Nat) (hi : i < bs.length) : w.cell? ⟨bf, i, none⟩ = some (.int .u8 ((bs[i].toNat : Nat) : Int)) := by
  rw [h.row.cell i, byteVals_get bs i hi]; rfl

theorem IsRam.keep {S : Nat → Prop} {w w' : World} {p bf nf : Nat} {bs : List UInt8} (h : IsRam w p bf nf bs) (f : Fr S w w') (hp : ¬ S p) (hb : ¬ S bf) : IsRam w' p bf nf bs :=
  ⟨h.head.keep f hp, h.row.keep f hb, h.len, h.most, h.apart⟩

theorem ret_u32e {a b : Int} (h : a = b) : Ending.returned (.tuple #[.int .u32 a, .int .i64 0]) = .returned (.tuple #[.int .u32 b, .int .i64 0]) := by rw [h]

set_option maxHeartbeats 400000 in
theorem load1 (b bf nf a x0 : Nat) (w : World) (h : w.cell? ⟨b, 0, none⟩ = some (.slice (some ⟨bf, 0, none⟩) nf nf)) (hn : nf ≤ 1024) (he : errOf a 1 nf = 0)
    (c0 : w.cell? ⟨bf, a, none⟩ = some (.int .u8 (x0 : Int))) (h0 : x0 < 256) :
    Calls Tryz.prog 127 #[.pointer (some ⟨b, 0, none⟩), .int .i64 (a : Int), .int .i64 1] w fun e w' => e = .returned (.tuple #[.int .u32 ((x0 + 256 * 0 : Nat) : Int), .int .i64 0]) ∧ w' = w := by
  have HE : Hid (errOf a 1 nf = 0) := he
  clear he
  go_enter Tryz.func127, Tryz.ntmps127
  go_wp2_with (go_at_call 69; refine (place_ok _ _ _ _ _ _ h hn HE).mono ?_; rintro e w' ⟨rfl, rfl⟩)
  refine wp_loop_rounds 2 ?_
  rw [rounds_succ]; go_wp2
  rw [rounds_succ]; go_wp2
  go_ret2
  exact ⟨ret_u32e (or32_one x0 h0), rfl⟩

set_option maxHeartbeats 400000 in
theorem load2 (b bf nf a x0 x1 : Nat) (w : World) (h : w.cell? ⟨b, 0, none⟩ = some (.slice (some ⟨bf, 0, none⟩) nf nf)) (hn : nf ≤ 1024) (he : errOf a 2 nf = 0)
    (c0 : w.cell? ⟨bf, a, none⟩ = some (.int .u8 (x0 : Int))) (c1 : w.cell? ⟨bf, a + 1, none⟩ = some (.int .u8 (x1 : Int))) (h0 : x0 < 256) (h1 : x1 < 256) :
    Calls Tryz.prog 127 #[.pointer (some ⟨b, 0, none⟩), .int .i64 (a : Int), .int .i64 2] w fun e w' => e = .returned (.tuple #[.int .u32 ((x0 + 256 * (x1 + 256 * 0) : Nat) : Int), .int .i64 0]) ∧ w' = w := by
  have HE : Hid (errOf a 2 nf = 0) := he
  clear he
  go_enter Tryz.func127, Tryz.ntmps127
  go_wp2_with (go_at_call 69; refine (place_ok _ _ _ _ _ _ h hn HE).mono ?_; rintro e w' ⟨rfl, rfl⟩)
  refine wp_loop_rounds 3 ?_
  rw [rounds_succ]; go_wp2
  rw [rounds_succ]; go_wp2
  rw [rounds_succ]; go_wp2
  go_ret2
  exact ⟨ret_u32e (or32_two x0 x1 h0 h1), rfl⟩

set_option maxHeartbeats 400000 in
theorem load4 (b bf nf a x0 x1 x2 x3 : Nat) (w : World) (h : w.cell? ⟨b, 0, none⟩ = some (.slice (some ⟨bf, 0, none⟩) nf nf)) (hn : nf ≤ 1024) (he : errOf a 4 nf = 0)
    (c0 : w.cell? ⟨bf, a, none⟩ = some (.int .u8 (x0 : Int))) (c1 : w.cell? ⟨bf, a + 1, none⟩ = some (.int .u8 (x1 : Int))) (c2 : w.cell? ⟨bf, a + 2, none⟩ = some (.int .u8 (x2 : Int))) (c3 : w.cell? ⟨bf, a + 3, none⟩ = some (.int .u8 (x3 : Int)))
    (h0 : x0 < 256) (h1 : x1 < 256) (h2 : x2 < 256) (h3 : x3 < 256) :
    Calls Tryz.prog 127 #[.pointer (some ⟨b, 0, none⟩), .int .i64 (a : Int), .int .i64 4] w fun e w' => e = .returned (.tuple #[.int .u32 ((x0 + 256 * (x1 + 256 * (x2 + 256 * (x3 + 256 * 0))) : Nat) : Int), .int .i64 0]) ∧ w' = w := by
  have HE : Hid (errOf a 4 nf = 0) := he
  clear he
  go_enter Tryz.func127, Tryz.ntmps127
  go_wp2_with (go_at_call 69; refine (place_ok _ _ _ _ _ _ h hn HE).mono ?_; rintro e w' ⟨rfl, rfl⟩)
  refine wp_loop_rounds 5 ?_
  rw [rounds_succ]; go_wp2
  rw [rounds_succ]; go_wp2
  rw [rounds_succ]; go_wp2
  rw [rounds_succ]; go_wp2
  rw [rounds_succ]; go_wp2
  go_ret2
  exact ⟨ret_u32e (or32_four x0 x1 x2 x3 h0 h1 h2 h3), rfl⟩

set_option maxHeartbeats 400000 in
theorem load_bad (b bf nf : Nat) (addr size : Int) (w : World) (h : w.cell? ⟨b, 0, none⟩ = some (.slice (some ⟨bf, 0, none⟩) nf nf)) (he : errOf addr size nf ≠ 0) (hm : addr ≤ 9223372036854775807) :
    Calls Tryz.prog 127 #[.pointer (some ⟨b, 0, none⟩), .int .i64 addr, .int .i64 size] w fun e w' => e = .returned (.tuple #[.int .u32 0, .int .i64 (errOf addr size nf)]) ∧ w' = w := by
  have hb : (errOf addr size nf != 0) = true := by simpa using he
  go_enter Tryz.func127, Tryz.ntmps127
  go_wp2_with (go_at_call 69; refine (place_bad _ _ _ _ _ _ h he hm).mono ?_; rintro e w' ⟨rfl, rfl⟩)
  go_ret2
  exact ⟨rfl, rfl⟩

/-- What a load answers. -/
def loadV (bs : List UInt8) (addr size : Int) (nf : Nat) : Int :=
  if errOf addr size nf = 0 then ((numOf ((bs.drop addr.toNat).take size.toNat) : Nat) : Int) else 0

theorem numOf_1 (bs : List UInt8) (a : Nat) (h : a < bs.length) : numOf ((bs.drop a).take 1) = bs[a].toNat + 256 * 0 := by
  rw [List.drop_eq_getElem_cons h, List.take_succ_cons, List.take_zero]; rfl
theorem numOf_2 (bs : List UInt8) (a : Nat) (h : a + 1 < bs.length) : numOf ((bs.drop a).take 2) = bs[a].toNat + 256 * (bs[a + 1].toNat + 256 * 0) := by
  rw [List.drop_eq_getElem_cons (by omega), List.drop_eq_getElem_cons h, List.take_succ_cons, List.take_succ_cons, List.take_zero]; rfl
theorem numOf_4 (bs : List UInt8) (a : Nat) (h : a + 3 < bs.length) : numOf ((bs.drop a).take 4) = bs[a].toNat + 256 * (bs[a + 1].toNat + 256 * (bs[a + 2].toNat + 256 * (bs[a + 3].toNat + 256 * 0))) := by
  rw [List.drop_eq_getElem_cons (by omega), List.drop_eq_getElem_cons (i := a + 1) (by omega), List.drop_eq_getElem_cons (i := a + 1 + 1) (by omega), List.drop_eq_getElem_cons (i := a + 1 + 1 + 1) h, List.take_succ_cons, List.take_succ_cons, List.take_succ_cons, List.take_succ_cons, List.take_zero]; rfl

theorem load_any (w : World) (p bf nf : Nat) (bs : List UInt8) (addr size : Int) (h : IsRam w p bf nf bs) (hm : addr ≤ 9223372036854775807) :
    Calls Tryz.prog 127 #[.pointer (some ⟨p, 0, none⟩), .int .i64 addr, .int .i64 size] w fun e w' => e = .returned (.tuple #[.int .u32 (loadV bs addr size nf), .int .i64 (errOf addr size nf)]) ∧ w' = w := by
  by_cases he : errOf addr size nf = 0
  · obtain ⟨hs, ha, h0, h1⟩ := err_zero he
    obtain ⟨a, rfl⟩ := Int.eq_ofNat_of_zero_le h0
    rw [Int.tmod_eq_emod_of_nonneg h0] at ha
    have hl := h.len
    rw [loadV, if_pos he, he, Int.toNat_natCast]
    rcases hs with rfl | rfl | rfl
    · rw [show (1 : Int).toNat = 1 from rfl, numOf_1 bs a (by omega)]
      exact load1 p bf nf a _ w h.hcell h.most he (h.bcell a (by omega)) (UInt8.toNat_lt _)
    · rw [show (2 : Int).toNat = 2 from rfl, numOf_2 bs a (by omega)]
      exact load2 p bf nf a _ _ w h.hcell h.most he (h.bcell a (by omega)) (h.bcell (a + 1) (by omega)) (UInt8.toNat_lt _) (UInt8.toNat_lt _)
    · rw [show (4 : Int).toNat = 4 from rfl, numOf_4 bs a (by omega)]
      exact load4 p bf nf a _ _ _ _ w h.hcell h.most he (h.bcell a (by omega)) (h.bcell (a + 1) (by omega)) (h.bcell (a + 2) (by omega)) (h.bcell (a + 3) (by omega)) (UInt8.toNat_lt _) (UInt8.toNat_lt _) (UInt8.toNat_lt _) (UInt8.toNat_lt _)
  · rw [loadV, if_neg he]
    exact load_bad p bf nf addr size w h.hcell he hm

end Go.Proofs.YtgnoakidjnilpaaGreat
