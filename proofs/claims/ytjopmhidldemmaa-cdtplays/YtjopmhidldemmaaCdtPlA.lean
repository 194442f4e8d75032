/-
  The document's Has and Depth over the translation. No statement is proved here.
-/
import Derived.Test.YtjopmhidldemmaaCdtGood
namespace Go.Proofs.Ytjopmhidldemmaa
open Go.RowKit Go.Maps Go.WideMaps

set_option maxRecDepth 100000 in
set_option maxHeartbeats 1000000 in
theorem rhas_any (w : World) (B r : Nat) (q : Qr) (L : List On) (ro : List Nat) (h : IsR w B r q L ro) (a : Rf) :
    Calls Try.prog 25 #[pv r, rfV a] w fun e w' => e = .returned (.bool (fdR a L).isSome) ∧ Fr none' w w' := by
  have f1 := (Fr.refl none' w).alloc (.cells #[.int .i64 a.n, .int .i64 a.i] 33)
  have h1 := h.keep0 f1
  clear h
  go_enter Try.func25, Try.ntmps25
  go_wp2_with fail
  refine (find_any _ B r q L ro h1 a).mono ?_
  rintro e w1 ⟨rfl, f2⟩
  replace f1 := f1.trans f2
  clear f2 h1
  cases hfa : fdR a L with
  | none =>
    rw [fdI_neg hfa]
    go_wp2
    go_ret
    exact ⟨by rw [hfa]; rfl, f1⟩
  | some k =>
    rw [fdI_pos hfa]
    have hk0 : decide (0 ≤ (k : Int)) = true := decide_eq_true (by omega)
    go_wp2
    go_ret
    exact ⟨by rw [hfa]; rfl, f1⟩

/-- How deep each of the document's row stands: a root at 0, else one deeper than who it is under. -/
def Dp (L : List On) (D : Nat → Nat) : Prop := ∀ k o, L[k]? = some o → o.go = false → D k ≤ 1000 ∧ ((o.up < 0 ∧ D k = 0) ∨ ∃ p o', o.up = ((p : Nat) : Int) ∧ L[p]? = some o' ∧ o'.go = false ∧ D k = D p + 1)

def rdepF (D : Nat → Nat) (a : Rf) (L : List On) : Int := match fdR a L with
  | some k => (D k : Int)
  | none => -1

set_option maxRecDepth 100000 in
set_option maxHeartbeats 1000000 in
theorem rdepth_any (w : World) (B r : Nat) (q : Qr) (L : List On) (ro : List Nat) (h : IsR w B r q L ro) (D : Nat → Nat) (hD : Dp L D) (a : Rf) :
    Calls Try.prog 27 #[pv r, rfV a] w fun e w' => e = .returned (.int .i64 (rdepF D a L)) ∧ Fr none' w w' := by
  have f1 := (Fr.refl none' w).alloc (.cells #[.int .i64 a.n, .int .i64 a.i] 33)
  have h1 := h.keep0 f1
  have HD : Hid _ := ⟨hD⟩
  obtain ⟨z, hz⟩ : ∃ z, z = rdepF D a L := ⟨_, rfl⟩
  rw [← hz]
  clear h hD
  go_enter Try.func27, Try.ntmps27
  go_wp2_with fail
  refine (find_any _ B r q L ro h1 a).mono ?_
  rintro e w1 ⟨rfl, f2⟩
  replace h1 := h1.keep0 f2
  have HF : Hid (Fr none' w w1) := ⟨f1.trans f2⟩
  have HI : Hid (IsR w1 B r q L ro) := ⟨h1⟩
  clear f1 f2 h1
  have hst : (∃ (i : Nat) (o : On), fdI a L = (i : Int) ∧ L[i]? = some o ∧ o.go = false ∧ z = (D i : Int)) ∨ (fdI a L = -1 ∧ z = -1) := by
    cases hfa : fdR a L with
    | none => exact Or.inr ⟨fdI_neg hfa, by rw [hz]; simp [rdepF, hfa]⟩
    | some k =>
      obtain ⟨o, ho, hgo, _⟩ := fdR_some hfa
      exact Or.inl ⟨k, o, fdI_pos hfa, ho, hgo, by rw [hz]; simp [rdepF, hfa]⟩
  clear hz
  go_wp2_with fail
  go_loopw [5, 6] (fun k d wr => wr = w1 ∧ ((∃ (i : Nat) (o : On), k = .int .i64 (i : Int) ∧ Hid (L[i]? = some o ∧ o.go = false) ∧ (D i : Int) ≤ z ∧ z ≤ 1000 ∧ d = .int .i64 (z - 1 - (D i : Int))) ∨ ∃ y : Int, y < 0 ∧ k = .int .i64 y ∧ d = .int .i64 z)) (fun k _ _ => if 0 ≤ intOf k then D (intOf k).toNat + 1 else 0)
  case atStart =>
    refine ⟨rfl, ?_⟩
    rcases hst with ⟨i, o, e, ho, hgo, hz⟩ | ⟨e, hz⟩
    · exact Or.inl ⟨i, o, by rw [e], ⟨ho, hgo⟩, by omega, by have := (HD.out i o ho hgo).1; omega, by rw [show z - 1 - (D i : Int) = -1 by omega]⟩
    · exact Or.inr ⟨-1, by omega, by rw [e], by rw [hz]⟩
  case round =>
    clear hst
    obtain ⟨rfl, ⟨i, o, rfl, ho, hz1, hz2, rfl⟩ | ⟨y, hy, rfl, rfl⟩⟩ := hrel
    · obtain ⟨ad0, cap, hv, hn⟩ := HI.out.form
      obtain ⟨g, rfl, d0, d1, d2, _⟩ := hn i o ho.out.1
      have c0 := HI.out.c0
      rw [hv] at c0
      have hil := (List.getElem?_eq_some_iff.1 ho.out.1).1
      have hLL := HI.out.sm
      have i1 : 0 ≤ (i : Int) ∧ (i : Int) < (L.length : Int) := by omega
      have ti : decide (0 ≤ (i : Int)) = true := decide_eq_true (by omega)
      have HU := HD.out i o ho.out.1 ho.out.2
      have HU2 : Hid _ := ⟨HU.2⟩
      clear hn hv HU d0 d1
      generalize L.length = N at *
      go_wp2_with fail
      go_roundw
      case rel =>
        refine ⟨trivial, ?_⟩
        rcases HU2.out with ⟨h1, h2⟩ | ⟨p, o', h1, h2, h3, h4⟩
        · exact Or.inr ⟨o.up, h1, rfl, by rw [h2]; go_num⟩
        · exact Or.inl ⟨p, o', by rw [h1], ⟨h2, h3⟩, by omega, hz2, by rw [h4]; go_num⟩
      case measure =>
        rcases HU2.out with ⟨h1, h2⟩ | ⟨p, o', h1, h2, h3, h4⟩
        · have hn : ¬ 0 ≤ o.up := by omega
          simp [intOf, hn]
        · simp [intOf, h1]; omega
    · have ty : decide (0 ≤ y) = false := decide_eq_false (by omega)
      go_wp2_with fail
      go_ret
      exact ⟨rfl, HF.out⟩

end Go.Proofs.Ytjopmhidldemmaa
