/-
  Contracts of package ram's Load over the translation, said of the memory's bytes. No statement is proved here.
-/
import Derived.Test.YtcmhndkbcfpbbaaPlace
import Derived.Test.YtcmhndkbcfpbbaaBytes
namespace Go.Proofs.Ytcmhndkbcfpbbaa
open Go.RowKit

/-- A memory of package ram: p its struct's block, bf its frames' block, nf frames, bs all bytes. -/
structure IsRam (w : World) (p bf nf : Nat) (bs : List UInt8) : Prop where
  head : Row w p #[.slice (some ⟨bf, 0, none⟩) nf nf] 69
  row : Row w bf (byteVals bs) 85
  len : bs.length = 64 * nf
  most : nf ≤ 1024
  apart : p ≠ bf

theorem IsRam.hcell {w : World} {p bf nf : Nat} {bs : List UInt8} (h : IsRam w p bf nf bs) : w.cell? ⟨p, 0, none⟩ = some (.slice (some ⟨bf, 0, none⟩) nf nf) := by
  rw [h.head.cell 0]; rfl

theorem IsRam.bcell {w : World} {p bf nf : Nat} {bs : List UInt8} (h : IsRam w p bf nf bs) (i : Nat) (hi : i < bs.length) : w.cell? ⟨bf, i, none⟩ = some (.int .u8 ((bs[i].toNat : Nat) : Int)) := by
  rw [h.row.cell i, byteVals_get bs i hi]; rfl

theorem IsRam.keep {S : Nat → Prop} {w w' : World} {p bf nf : Nat} {bs : List UInt8} (h : IsRam w p bf nf bs) (f : Fr S w w') (hp : ¬ S p) (hb : ¬ S bf) : IsRam w' p bf nf bs :=
  ⟨h.head.keep f hp, h.row.keep f hb, h.len, h.most, h.apart⟩

theorem ret_u32e {a b : Int} (h : a = b) : Ending.returned (.tuple #[.int .u32 a, .int .i64 0]) = .returned (.tuple #[.int .u32 b, .int .i64 0]) := by rw [h]

/-- What a load answers. -/
def loadV (bs : List UInt8) (addr size : Int) (nf : Nat) : Int :=
  if errOf addr size nf = 0 then ((numOf ((bs.drop addr.toNat).take size.toNat) : Nat) : Int) else 0

theorem numOf_1 (bs : List UInt8) (a : Nat) (h : a < bs.length) : numOf ((bs.drop a).take 1) = bs[a].toNat + 256 * 0 := by
  rw [List.drop_eq_getElem_cons h, List.take_succ_cons, List.take_zero]; rfl
theorem numOf_2 (bs : List UInt8) (a : Nat) (h : a + 1 < bs.length) : numOf ((bs.drop a).take 2) = bs[a].toNat + 256 * (bs[a + 1].toNat + 256 * 0) := by
  rw [List.drop_eq_getElem_cons (by omega), List.drop_eq_getElem_cons h, List.take_succ_cons, List.take_succ_cons, List.take_zero]; rfl
theorem numOf_4 (bs : List UInt8) (a : Nat) (h : a + 3 < bs.length) : numOf ((bs.drop a).take 4) = bs[a].toNat + 256 * (bs[a + 1].toNat + 256 * (bs[a + 2].toNat + 256 * (bs[a + 3].toNat + 256 * 0))) := by
  rw [List.drop_eq_getElem_cons (by omega), List.drop_eq_getElem_cons (i := a + 1) (by omega), List.drop_eq_getElem_cons (i := a + 1 + 1) (by omega), List.drop_eq_getElem_cons (i := a + 1 + 1 + 1) h, List.take_succ_cons, List.take_succ_cons, List.take_succ_cons, List.take_succ_cons, List.take_zero]; rfl

end Go.Proofs.Ytcmhndkbcfpbbaa
