/-
  Fill and Evict of both sides whatever comes in, and both buffers beside one another. No statement is proved here.
-/
import Derived.Test.YtgnoakidjnilpaaGreatTlbFill
import Derived.Test.YtgnoakidjnilpaaGreatTlbRefM
namespace Go.Proofs.YtgnoakidjnilpaaGreat
open Go.RowKit

/-- What Fill answers, and what it leaves. -/
def fillE (i : Int) (x : Ln) : Int := bif inB i 0 7 then (bif rightL x then 0 else 30) else 1
def fillT (T : Nat → Ln) (i : Int) (x : Ln) : Nat → Ln := bif inB i 0 7 && rightL x then filled T i.toNat x else T
/-- What Evict answers, and what it leaves. -/
def evE (i : Int) : Int := bif inB i 0 7 then 0 else 1
def evT (T : Nat → Ln) (i : Int) : Nat → Ln := bif inB i 0 7 then upd T i.toNat zl else T

theorem inB_nat {i : Int} (h : inB i 0 7 = true) : ∃ k : Nat, i = k ∧ k < 8 := by
  have := inB_iff.mp h
  exact ⟨i.toNat, by omega, by omega⟩

theorem fill_any (w : World) (b : Nat) (T : Nat → Ln) (fo mi : Int) (h : IsTlb w b T fo mi) (i : Int) (x : Ln) :
    Calls Tryz.prog 181 #[.pointer (some ⟨b, 0, none⟩), .int .i64 i, .agg #[.int .i64 x.v, .int .i64 x.a, .int .i64 x.p, .int .i64 x.f, .int .i64 x.r]] w fun e w' =>
      e = .returned (.int .i64 (fillE i x)) ∧ Fr (at' b) w w' ∧ IsTlb w' b (fillT T i x) fo mi := by
  cases hi : inB i 0 7 with
  | false =>
    have := fill_out w (.pointer (some ⟨b, 0, none⟩)) i x hi
    refine this.mono ?_
    rintro e w' ⟨rfl, f⟩
    simp only [fillE, fillT, hi, Bool.false_and, cond_false]
    exact ⟨trivial, f.mono (fun _ _ h => h.elim), h.keep f (fun h => h)⟩
  | true =>
    cases hx : rightL x with
    | false =>
      have := fill_bad w (.pointer (some ⟨b, 0, none⟩)) i x hi hx
      refine this.mono ?_
      rintro e w' ⟨rfl, f⟩
      simp only [fillE, fillT, hi, hx, Bool.and_false, cond_false, cond_true]
      exact ⟨trivial, f.mono (fun _ _ h => h.elim), h.keep f (fun h => h)⟩
    | true =>
      obtain ⟨k, rfl, hk⟩ := inB_nat hi
      refine (fill_ok w b T fo mi h k hk x hx).mono ?_
      rintro e w' ⟨rfl, f, h'⟩
      simp only [fillE, fillT, hi, hx, Bool.and_true, cond_true, Int.toNat_natCast]
      exact ⟨trivial, f, h'⟩

theorem rfill_any (w : World) (b : Nat) (T : Nat → Ln) (fo mi : Int) (h : IsTref w b T fo mi) (hG : GoodT T) (hU : Uniq T) (i : Int) (x : Ln) :
    Calls Tryz.prog 148 #[.pointer (some ⟨b, 0, none⟩), .int .i64 i, .agg #[.int .i64 x.v, .int .i64 x.a, .int .i64 x.p, .int .i64 x.f, .int .i64 x.r]] w fun e w' =>
      e = .returned (.int .i64 (fillE i x)) ∧ Fr (at' b) w w' ∧ IsTref w' b (fillT T i x) fo mi := by
  cases hi : inB i 0 7 with
  | false =>
    have := rfill_out w (.pointer (some ⟨b, 0, none⟩)) i x hi
    refine this.mono ?_
    rintro e w' ⟨rfl, f⟩
    simp only [fillE, fillT, hi, Bool.false_and, cond_false]
    exact ⟨trivial, f.mono (fun _ _ h => h.elim), h.keep f (fun h => h)⟩
  | true =>
    cases hx : rightL x with
    | false =>
      have := rfill_bad w (.pointer (some ⟨b, 0, none⟩)) i x hi hx
      refine this.mono ?_
      rintro e w' ⟨rfl, f⟩
      simp only [fillE, fillT, hi, hx, Bool.and_false, cond_false, cond_true]
      exact ⟨trivial, f.mono (fun _ _ h => h.elim), h.keep f (fun h => h)⟩
    | true =>
      obtain ⟨k, rfl, hk⟩ := inB_nat hi
      refine (rfill_ok w b T fo mi h hG hU k hk x hx).mono ?_
      rintro e w' ⟨rfl, f, h'⟩
      simp only [fillE, fillT, hi, hx, Bool.and_true, cond_true, Int.toNat_natCast]
      exact ⟨trivial, f, h'⟩

theorem evict_any (w : World) (b : Nat) (T : Nat → Ln) (fo mi : Int) (h : IsTlb w b T fo mi) (i : Int) :
    Calls Tryz.prog 15 #[.pointer (some ⟨b, 0, none⟩), .int .i64 i] w fun e w' =>
      e = .returned (.int .i64 (evE i)) ∧ Fr (at' b) w w' ∧ IsTlb w' b (evT T i) fo mi := by
  cases hi : inB i 0 7 with
  | false =>
    refine (evict_out w (.pointer (some ⟨b, 0, none⟩)) i hi).mono ?_
    rintro e w' ⟨rfl, rfl⟩
    simp only [evE, evT, hi, cond_false]
    exact ⟨trivial, Fr.refl _ _, h⟩
  | true =>
    obtain ⟨k, rfl, hk⟩ := inB_nat hi
    refine (evict_in w b T fo mi h k hk).mono ?_
    rintro e w' ⟨rfl, f, h'⟩
    simp only [evE, evT, hi, cond_true, Int.toNat_natCast]
    exact ⟨trivial, f, h'⟩

theorem revict_any (w : World) (b : Nat) (T : Nat → Ln) (fo mi : Int) (h : IsTref w b T fo mi) (i : Int) :
    Calls Tryz.prog 16 #[.pointer (some ⟨b, 0, none⟩), .int .i64 i] w fun e w' =>
      e = .returned (.int .i64 (evE i)) ∧ Fr (at' b) w w' ∧ IsTref w' b (evT T i) fo mi := by
  cases hi : inB i 0 7 with
  | false =>
    refine (revict_out w (.pointer (some ⟨b, 0, none⟩)) i hi).mono ?_
    rintro e w' ⟨rfl, rfl⟩
    simp only [evE, evT, hi, cond_false]
    exact ⟨trivial, Fr.refl _ _, h⟩
  | true =>
    obtain ⟨k, rfl, hk⟩ := inB_nat hi
    refine (revict_in w b T fo mi h k hk).mono ?_
    rintro e w' ⟨rfl, f, h'⟩
    simp only [evE, evT, hi, cond_true, Int.toNat_natCast]
    exact ⟨trivial, f, h'⟩

/-- Both buffers, which hold the same, behind all that was there at first. -/
structure Pair (w : World) (B bt br : Nat) (T : Nat → Ln) (fo mi : Int) : Prop where
  new1 : B ≤ bt
  new2 : B ≤ br
  ne : bt ≠ br
  tlb : IsTlb w bt T fo mi
  ref : IsTref w br T fo mi
  good : GoodT T
  uniq : Uniq T
  fo0 : 0 ≤ fo
  mi0 : 0 ≤ mi

theorem Pair.keep0 {w w' : World} {B bt br : Nat} {T : Nat → Ln} {fo mi : Int} (h : Pair w B bt br T fo mi) (f : Fr none' w w') : Pair w' B bt br T fo mi :=
  ⟨h.new1, h.new2, h.ne, h.tlb.keep f (fun h => h), h.ref.keep f (fun h => h), h.good, h.uniq, h.fo0, h.mi0⟩

/-- What 'does' comes to: true; both buffers hold T', and have counted. -/
def DoneT (w : World) (B bt br : Nat) (T' : Nat → Ln) (fo' mi' : Int) (e : Ending) (w' : World) : Prop :=
  e = .returned (.bool true) ∧ Fr (two bt br) w w' ∧ Pair w' B bt br T' fo' mi'

theorem row10 {w : World} {b : Nat} {c0 c1 c2 c3 c4 c5 c6 c7 c8 c9 : Value} {t : TypeId} (h : Row w b #[c0, c1, c2, c3, c4, c5, c6, c7, c8, c9] t) :
    w.cell? ⟨b, 0, none⟩ = some c0 ∧ w.cell? ⟨b, 1, none⟩ = some c1 ∧ w.cell? ⟨b, 2, none⟩ = some c2 ∧ w.cell? ⟨b, 3, none⟩ = some c3 ∧ w.cell? ⟨b, 4, none⟩ = some c4 ∧ w.cell? ⟨b, 5, none⟩ = some c5 ∧ w.cell? ⟨b, 6, none⟩ = some c6 ∧ w.cell? ⟨b, 7, none⟩ = some c7 ∧ w.cell? ⟨b, 8, none⟩ = some c8 ∧ w.cell? ⟨b, 9, none⟩ = some c9 :=
  ⟨h.cell 0, h.cell 1, h.cell 2, h.cell 3, h.cell 4, h.cell 5, h.cell 6, h.cell 7, h.cell 8, h.cell 9⟩

theorem good_fill {T : Nat → Ln} (h : GoodT T) (i : Int) (x : Ln) : GoodT (fillT T i x) := by
  cases hi : inB i 0 7 <;> cases hx : rightL x <;> simp [fillT, hi, hx]
  · exact h
  · exact h
  · exact h
  · exact good_filled h _ hx

theorem uniq_fill {T : Nat → Ln} (h : Uniq T) (i : Int) (x : Ln) : Uniq (fillT T i x) := by
  cases hi : inB i 0 7 <;> cases hx : rightL x <;> simp [fillT, hi, hx]
  · exact h
  · exact h
  · exact h
  · exact uniq_filled h _ _

theorem good_ev {T : Nat → Ln} (h : GoodT T) (i : Int) : GoodT (evT T i) := by
  cases hi : inB i 0 7 <;> simp [evT, hi]
  · exact h
  · exact good_upd h (Or.inl rfl) _

theorem uniq_ev {T : Nat → Ln} (h : Uniq T) (i : Int) : Uniq (evT T i) := by
  cases hi : inB i 0 7 <;> simp [evT, hi]
  · exact h
  · exact uniq_zl h _

theorem more_bounds (i : Int) : 0 ≤ moreF i ∧ 0 ≤ moreM i ∧ moreF i + moreM i = 1 := by
  cases h : decide (i < 0) <;> simp [moreF, moreM, h]

end Go.Proofs.YtgnoakidjnilpaaGreat
