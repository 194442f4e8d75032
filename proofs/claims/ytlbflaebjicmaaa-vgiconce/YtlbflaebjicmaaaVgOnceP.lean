/-
  VgicOnce over the translation: whatever acts came in, the law returns true, and nothing old turns. No statement is proved here.
-/
import Derived.Test.YtlbflaebjicmaaaVgArr
namespace Go.Proofs.Ytlbflaebjicmaaa
open Go.RowKit

def bit (b : Bool) : Int := if b then 1 else 0

/-- The books balance. -/
def Bal (S : Vg) (I A E : Nat → Int) (m : Int) : Prop := ∀ j, j < 64 → I j = A j + bit (S.pe j).isSome ∧ A j = E j + bit (S.ac j).isSome ∧ 0 ≤ E j ∧ I j ≤ m

theorem bit0 : bit false = 0 := rfl
theorem bit1 : bit true = 1 := rfl
theorem bit_bnd (b : Bool) : 0 ≤ bit b ∧ bit b ≤ 1 := by cases b <;> simp [bit]

theorem bal_zero (lrs : Int) : Bal (zeroV lrs) (fun _ => 0) (fun _ => 0) (fun _ => 0) 0 := fun j _ => by simp [zeroV, bit]

theorem bal_inj {S : Vg} {I A E : Nat → Int} {m : Int} (h : Bal S I A E m) {k : Nat} {p : Int} {on : Bool} (he : injE S k p = 0) : k < 64 ∧ Bal (injS S k p on) (updI I k (I k + 1)) A E (m + 1) := by
  unfold injE at he
  unfold injS
  cases hi : isI (k : Int) with
  | false => rw [hi] at he; simp at he
  | true =>
    cases hp : isP p with
    | false => rw [hi, hp] at he; simp at he
    | true =>
      have hk : k < 64 := by have := isI_iff.mp hi; omega
      rw [hi, hp] at he
      rw [show ((k : Int)).toNat = k by simp] at he ⊢
      cases hs : (S.pe k).isSome with
      | true => rw [hs] at he; simp at he
      | false =>
        refine ⟨hk, fun j hj => ?_⟩
        obtain ⟨h1, h2, h3, h4⟩ := h j hj
        show updI I k (I k + 1) j = A j + bit (set1 S.pe k (some (p, on)) j).isSome ∧ A j = E j + bit (S.ac j).isSome ∧ 0 ≤ E j ∧ updI I k (I k + 1) j ≤ m + 1
        by_cases ej : j = k
        · subst ej
          rw [updI_same, set1_same]
          rw [hs] at h1
          have b1 := bit_bnd (S.ac j).isSome
          have b2 := bit_bnd (S.pe j).isSome
          simp only [Option.isSome_some, bit0, bit1] at *
          omega
        · rw [updI_other _ _ ej, set1_other _ _ ej]
          omega

theorem bal_ack {S : Vg} {I A E : Nat → Int} {m : Int} (h : Bal S I A E m) {k : Nat} (hn : nextO S = some k) : Bal (ackS S) I (updI A k (A k + 1)) E (m + 1) := by
  obtain ⟨p, l, hp, ha, _⟩ := next_some hn
  unfold ackS
  rw [hn]
  intro j hj
  obtain ⟨h1, h2, h3, h4⟩ := h j hj
  show I j = updI A k (A k + 1) j + bit (set1 S.pe k none j).isSome ∧ updI A k (A k + 1) j = E j + bit (set1 S.ac k (S.pe k) j).isSome ∧ 0 ≤ E j ∧ I j ≤ m + 1
  by_cases ej : j = k
  · subst ej
    rw [updI_same, set1_same, set1_same]
    rw [hp] at h1 ⊢
    rw [ha] at h2
    have b1 := bit_bnd (S.ac j).isSome
    have b2 := bit_bnd (S.pe j).isSome
    simp only [Option.isSome_some, Option.isSome_none, bit0, bit1] at *
    omega
  · rw [updI_other _ _ ej, set1_other _ _ ej, set1_other _ _ ej]
    omega

theorem bal_end {S : Vg} {I A E : Nat → Int} {m : Int} (h : Bal S I A E m) {k : Nat} (he : endE S k = 0) : k < 64 ∧ Bal (endS S k) I A (updI E k (E k + 1)) (m + 1) := by
  unfold endE at he
  unfold endS
  cases hi : isI (k : Int) with
  | false => rw [hi] at he; simp at he
  | true =>
    have hk : k < 64 := by have := isI_iff.mp hi; omega
    rw [hi] at he
    rw [show ((k : Int)).toNat = k by simp] at he ⊢
    cases hs : (S.ac k).isSome with
    | false => rw [hs] at he; simp at he
    | true =>
      refine ⟨hk, fun j hj => ?_⟩
      obtain ⟨h1, h2, h3, h4⟩ := h j hj
      show I j = A j + bit (S.pe j).isSome ∧ A j = updI E k (E k + 1) j + bit (set1 S.ac k none j).isSome ∧ 0 ≤ updI E k (E k + 1) j ∧ I j ≤ m + 1
      by_cases ej : j = k
      · subst ej
        rw [updI_same, set1_same]
        rw [hs] at h2
        have b1 := bit_bnd (S.ac j).isSome
        have b2 := bit_bnd (S.pe j).isSome
        simp only [Option.isSome_none, bit0, bit1] at *
        omega
      · rw [updI_other _ _ ej, set1_other _ _ ej]
        omega

theorem bal_same {S : Vg} {I A E : Nat → Int} {m : Int} (h : Bal S I A E m) (d n p : Int) (on : Bool) (h1 : d = 1 → injE S n p ≠ 0) (h4 : d = 4 → nextO S = none) (h5 : d = 5 → endE S n ≠ 0) : Bal (stepS d n p on S) I A E (m + 1) := by
  have e : (stepS d n p on S).pe = S.pe ∧ (stepS d n p on S).ac = S.ac := by
    by_cases d1 : d = 1
    · have := h1 d1
      subst d1
      show (injS S n p on).pe = _ ∧ (injS S n p on).ac = _
      unfold injE at this
      unfold injS
      cases hi : isI n <;> cases hp : isP p <;> cases hs : (S.pe n.toNat).isSome <;> simp [hs, hi, hp] at this ⊢
    by_cases d2 : d = 2
    · subst d2
      show (enaS S n on).pe = _ ∧ (enaS S n on).ac = _
      unfold enaS
      cases isI n <;> exact ⟨rfl, rfl⟩
    by_cases d3 : d = 3
    · subst d3
      show (masS S p).pe = _ ∧ (masS S p).ac = _
      unfold masS
      cases isM p <;> exact ⟨rfl, rfl⟩
    by_cases d4 : d = 4
    · have := h4 d4
      subst d4
      show (ackS S).pe = _ ∧ (ackS S).ac = _
      unfold ackS
      rw [this]
      exact ⟨rfl, rfl⟩
    by_cases d5 : d = 5
    · have := h5 d5
      subst d5
      show (endS S n).pe = _ ∧ (endS S n).ac = _
      unfold endE at this
      unfold endS
      cases hi : isI n <;> cases hs : (S.ac n.toNat).isSome <;> simp [hs, hi] at this ⊢
    · simp [stepS, d1, d2, d3, d4, d5]
  intro j hj
  rw [e.1, e.2]
  obtain ⟨h1, h2, h3, h4⟩ := h j hj
  exact ⟨h1, h2, h3, by omega⟩

/-- Which of those looked at so far are pending, or active. -/
def seenP (L : List Lr) (i : Nat) : Nat → Int := fun j => bit ((L.take i).any fun x => x.id == (j : Int) && x.pe)
def seenA (L : List Lr) (i : Nat) : Nat → Int := fun j => bit ((L.take i).any fun x => x.id == (j : Int) && x.ac)

theorem seen_step {L : List Lr} {i : Nat} {x : Lr} (h : L[i]? = some x) (c : Lr → Bool) (j : Nat) : bit ((L.take (i + 1)).any fun x => x.id == (j : Int) && c x) = if x.id = (j : Int) ∧ c x = true then 1 else bit ((L.take i).any fun x => x.id == (j : Int) && c x) := by
  rw [List.take_add_one, h, List.any_append]
  by_cases e : x.id = (j : Int) ∧ c x = true
  · rw [if_pos e]
    simp [e.1, e.2, bit]
  · rw [if_neg e]
    have : (x.id == (j : Int) && c x) = false := by
      cases hq : (x.id == (j : Int) && c x) with
      | false => rfl
      | true => simp only [Bool.and_eq_true, beq_iff_eq] at hq; exact (e hq).elim
    simp [this]

theorem seen_all {S : Vg} (g : Good S) (j : Nat) (hj : j < 64) : ((allL S).any fun x => x.id == (j : Int) && x.pe) = (S.pe j).isSome ∧ ((allL S).any fun x => x.id == (j : Int) && x.ac) = (S.ac j).isSome := by
  refine ⟨?_, ?_⟩
  · cases hp : (S.pe j).isSome with
    | true => exact List.any_eq_true.mpr ⟨reg S j, (mem_allL g _).mpr ⟨j, hj, by simp [here, hp], rfl⟩, by rw [reg_id, reg_pe, hp]; simp⟩
    | false =>
      rw [List.any_eq_false]
      intro x hx
      obtain ⟨k, hk, _, rfl⟩ := (mem_allL g x).mp hx
      rw [reg_id, reg_pe]
      intro hq
      simp only [Bool.and_eq_true, beq_iff_eq] at hq
      obtain rfl : k = j := by omega
      rw [hp] at hq
      exact absurd hq.2 (by simp)
  · cases hp : (S.ac j).isSome with
    | true => exact List.any_eq_true.mpr ⟨reg S j, (mem_allL g _).mpr ⟨j, hj, by simp [here, hp], rfl⟩, by rw [reg_id, reg_ac, hp]; simp⟩
    | false =>
      rw [List.any_eq_false]
      intro x hx
      obtain ⟨k, hk, _, rfl⟩ := (mem_allL g x).mp hx
      rw [reg_id, reg_ac]
      intro hq
      simp only [Bool.and_eq_true, beq_iff_eq] at hq
      obtain rfl : k = j := by omega
      rw [hp] at hq
      exact absurd hq.2 (by simp)

theorem id_nat {S : Vg} (g : Good S) {x : Lr} (hx : x ∈ allL S) : ∃ k : Nat, k < 64 ∧ x.id = (k : Int) := by
  obtain ⟨k, hk, _, rfl⟩ := (mem_allL g x).mp hx
  exact ⟨k, hk, reg_id S k⟩

/-- The controller and the three books, each a block of its own. -/
structure Books (w : World) (W0 : Nat) (B : Bk) (gi ga ge : Nat) (S : Vg) (I A E : Nat → Int) : Prop where
  vg : IsVg w B S
  i : Arr w gi I
  a : Arr w ga A
  e : Arr w ge E
  new : W0 ≤ gi ∧ W0 ≤ ga ∧ W0 ≤ ge
  ne : gi ≠ ga ∧ gi ≠ ge ∧ ga ≠ ge
  off : ¬ B.s gi ∧ ¬ B.s ga ∧ ¬ B.s ge

theorem Books.keep0 {w w' : World} {W0 : Nat} {B : Bk} {gi ga ge : Nat} {S : Vg} {I A E : Nat → Int} (h : Books w W0 B gi ga ge S I A E) (f : Fr none' w w') : Books w' W0 B gi ga ge S I A E :=
  ⟨h.vg.keep0 f, h.i.keep f (fun h => h), h.a.keep f (fun h => h), h.e.keep f (fun h => h), h.new, h.ne, h.off⟩
theorem Books.chg {w w' : World} {W0 : Nat} {B : Bk} {gi ga ge : Nat} {S S' : Vg} {I A E : Nat → Int} (h : Books w W0 B gi ga ge S I A E) (f : Fr B.s w w') (t : IsVg w' B S') : Books w' W0 B gi ga ge S' I A E :=
  ⟨t, h.i.keep f h.off.1, h.a.keep f h.off.2.1, h.e.keep f h.off.2.2, h.new, h.ne, h.off⟩

theorem fr_cell (w : World) (g j : Nat) (v : Value) : Fr (at' g) w (w.setCell ⟨g, j, none⟩ v) := fr_set w g j v (Fr.refl _ _)

section
variable {w : World} {W0 : Nat} {B : Bk} {gi ga ge : Nat} {S : Vg} {I A E : Nat → Int}
theorem Books.setI (h : Books w W0 B gi ga ge S I A E) {k : Nat} (hk : k < 64) (x : Int) : Books (w.setCell ⟨gi, k, none⟩ (.int .i64 x)) W0 B gi ga ge S (updI I k x) A E :=
  ⟨h.vg.keep (fr_cell w gi k _) (fun q hq e => h.off.1 (by have e' : q = gi := e; rwa [e'] at hq)), h.i.set hk x, h.a.keep (fr_cell w gi k _) (fun e => h.ne.1 e.symm), h.e.keep (fr_cell w gi k _) (fun e => h.ne.2.1 e.symm), h.new, h.ne, h.off⟩
theorem Books.setA (h : Books w W0 B gi ga ge S I A E) {k : Nat} (hk : k < 64) (x : Int) : Books (w.setCell ⟨ga, k, none⟩ (.int .i64 x)) W0 B gi ga ge S I (updI A k x) E :=
  ⟨h.vg.keep (fr_cell w ga k _) (fun q hq e => h.off.2.1 (by have e' : q = ga := e; rwa [e'] at hq)), h.i.keep (fr_cell w ga k _) h.ne.1, h.a.set hk x, h.e.keep (fr_cell w ga k _) (fun e => h.ne.2.2 e.symm), h.new, h.ne, h.off⟩
theorem Books.setE (h : Books w W0 B gi ga ge S I A E) {k : Nat} (hk : k < 64) (x : Int) : Books (w.setCell ⟨ge, k, none⟩ (.int .i64 x)) W0 B gi ga ge S I A (updI E k x) :=
  ⟨h.vg.keep (fr_cell w ge k _) (fun q hq e => h.off.2.2 (by have e' : q = ge := e; rwa [e'] at hq)), h.i.keep (fr_cell w ge k _) h.ne.2.1, h.a.keep (fr_cell w ge k _) h.ne.2.2, h.e.set hk x, h.new, h.ne, h.off⟩
end

end Go.Proofs.Ytlbflaebjicmaaa
