/-
  The document's Below over the translation. No statement is proved here.
-/
import Derived.Test.YtjopmhidldemmaaCdtPlA
namespace Go.Proofs.Ytjopmhidldemmaa
open Go.RowKit Go.Maps Go.WideMaps

/-- Does the way up from y, of so many steps, pass x? -/
def ancB (L : List On) (x : Nat) : Nat → Nat → Bool
  | 0, _ => false
  | n + 1, y => match L[y]? with
    | some o => if o.up < 0 then false else (decide (o.up.toNat = x) || ancB L x n o.up.toNat)
    | none => false
def rbelF (D : Nat → Nat) (L : List On) (a b : Rf) : Bool := match fdR a L, fdR b L with
  | some x, some y => ancB L x (D y) y
  | _, _ => false

theorem anc_step {L : List On} {D : Nat → Nat} (hD : Dp L D) {x y : Nat} {o : On} (ho : L[y]? = some o) (hg : o.go = false) :
    (o.up < 0 ∧ ancB L x (D y) y = false ∧ D y = 0) ∨ ∃ p o', o.up = ((p : Nat) : Int) ∧ L[p]? = some o' ∧ o'.go = false ∧ D y = D p + 1 ∧ ancB L x (D y) y = (decide (p = x) || ancB L x (D p) p) := by
  rcases (hD y o ho hg).2 with ⟨h1, h2⟩ | ⟨p, o', h1, h2, h3, h4⟩
  · exact Or.inl ⟨h1, by rw [h2]; rfl, h2⟩
  · refine Or.inr ⟨p, o', h1, h2, h3, h4, ?_⟩
    rw [h4]
    have hn : ¬ o.up < 0 := by omega
    have ht : o.up.toNat = p := by omega
    simp only [ancB, ho, if_neg hn, ht]

set_option maxRecDepth 100000 in
set_option maxHeartbeats 1000000 in
theorem rbelow_any (w : World) (B r : Nat) (q : Qr) (L : List On) (ro : List Nat) (h : IsR w B r q L ro) (D : Nat → Nat) (hD : Dp L D) (a b : Rf) :
    Calls Try.prog 31 #[pv r, rfV a, rfV b] w fun e w' => e = .returned (.bool (rbelF D L a b)) ∧ Fr none' w w' := by
  have f1 := ((Fr.refl none' w).alloc (.cells #[.int .i64 a.n, .int .i64 a.i] 33)).alloc (.cells #[.int .i64 b.n, .int .i64 b.i] 33)
  have rb := row_alloc1 w (.cells #[.int .i64 a.n, .int .i64 a.i] 33) #[.int .i64 b.n, .int .i64 b.i] 33
  have h1 := h.keep0 f1
  have HD : Hid _ := ⟨hD⟩
  obtain ⟨z, hz⟩ : ∃ z, z = rbelF D L a b := ⟨_, rfl⟩
  rw [← hz]
  clear h hD
  go_enter Try.func31, Try.ntmps31
  go_wp2_with fail
  refine (find_any _ B r q L ro h1 a).mono ?_
  rintro e w1 ⟨rfl, f2⟩
  replace h1 := h1.keep0 f2
  replace rb := rb.keep f2 (fun h => h)
  replace f1 := f1.trans f2
  clear f2
  have b0 := rb.cell 0
  have b1 := rb.cell 1
  go_wp2_with fail
  refine (find_any _ B r q L ro h1 b).mono ?_
  rintro e w2 ⟨rfl, f2⟩
  replace h1 := h1.keep0 f2
  have HF : Hid (Fr none' w w2) := ⟨f1.trans f2⟩
  have HI : Hid (IsR w2 B r q L ro) := ⟨h1⟩
  clear f1 f2 b0 b1 rb h1
  cases hfa : fdR a L with
  | none =>
    rw [fdI_neg hfa]
    obtain rfl : z = false := by rw [hz]; simp [rbelF, hfa]
    clear hz
    go_wp2
    go_ret
    exact ⟨rfl, HF.out⟩
  | some x =>
    rw [fdI_pos hfa]
    have hx0 : decide ((x : Int) < 0) = false := decide_eq_false (by omega)
    cases hfb : fdR b L with
    | none =>
      rw [fdI_neg hfb]
      obtain rfl : z = false := by rw [hz]; simp [rbelF, hfa, hfb]
      clear hz
      go_wp2
      go_ret
      exact ⟨rfl, HF.out⟩
    | some y =>
      rw [fdI_pos hfb]
      have hy0 : decide ((y : Int) < 0) = false := decide_eq_false (by omega)
      obtain ⟨o, ho, hgo, _⟩ := fdR_some hfb
      have HZ : Hid (z = ancB L x (D y) y) := ⟨by rw [hz]; simp [rbelF, hfa, hfb]⟩
      clear hz hfa hfb
      obtain ⟨ad0, cap, hv, hn⟩ := HI.out.form
      obtain ⟨g, rfl, d0, d1, d2, _⟩ := hn y o ho
      have c0 := HI.out.c0
      rw [hv] at c0
      have hil := (List.getElem?_eq_some_iff.1 ho).1
      have hLL := HI.out.sm
      have i1 : 0 ≤ (y : Int) ∧ (y : Int) < (L.length : Int) := by omega
      have HN : Hid (∀ i o, L[i]? = some o → i < L.length ∧ w2.cell? ⟨g, i * 5 + 2, none⟩ = some (.int .i64 o.up)) := ⟨fun i o hi => by
        obtain ⟨g', e, _, _, e2, _⟩ := hn i o hi
        simp only [Option.some.injEq, Addr.mk.injEq, and_true] at e
        subst e
        exact ⟨(List.getElem?_eq_some_iff.1 hi).1, e2⟩⟩
      have HS := anc_step HD.out (x := x) ho hgo
      have HS2 : Hid _ := ⟨HS⟩
      clear hn hv d0 d1 HS ho hgo
      generalize hNL : L.length = N at *
      clear hNL
      go_wp2_with fail
      go_loopw [9] (fun k wr => wr = w2 ∧ ((∃ (i : Nat) (o : On), k = .int .i64 (i : Int) ∧ Hid (L[i]? = some o ∧ o.go = false ∧ z = (decide (i = x) || ancB L x (D i) i))) ∨ ∃ t : Int, t < 0 ∧ k = .int .i64 t ∧ z = false)) (fun k _ => if 0 ≤ intOf k then D (intOf k).toNat + 1 else 0)
      case atStart =>
        refine ⟨rfl, ?_⟩
        rcases HS2.out with ⟨h1, h2, _⟩ | ⟨p, o', h1, h2, h3, h4, h5⟩
        · exact Or.inr ⟨_, h1, rfl, HZ.out.trans h2⟩
        · exact Or.inl ⟨p, o', by rw [h1], ⟨h2, h3, HZ.out.trans h5⟩⟩
      case round =>
        clear d2 HS2 i1 hy0 HZ hil
        obtain ⟨rfl, ⟨i, o', rfl, ho⟩ | ⟨t, ht, rfl, rfl⟩⟩ := hrel
        · obtain ⟨hil, d2⟩ := HN.out i o' ho.out.1
          have i1 : 0 ≤ (i : Int) ∧ (i : Int) < (N : Int) := by omega
          have ti : decide (0 ≤ (i : Int)) = true := decide_eq_true (by omega)
          by_cases hix : i = x
          · subst hix
            have te : ((i : Int) == (i : Int)) = true := by simp
            obtain rfl : z = true := by rw [ho.out.2.2]; simp
            go_wp2_with fail
            go_ret
            exact ⟨rfl, HF.out⟩
          · have te : ((i : Int) == (x : Int)) = false := by simp; omega
            have HS := anc_step HD.out (x := x) ho.out.1 ho.out.2.1
            have HZ : Hid (z = ancB L x (D i) i) := ⟨by rw [ho.out.2.2]; simp [hix]⟩
            have HS2 : Hid _ := ⟨HS⟩
            clear HS
            go_wp2_with fail
            go_roundw
            case rel =>
              refine ⟨trivial, ?_⟩
              rcases HS2.out with ⟨h1, h2, _⟩ | ⟨p, o2, h1, h2, h3, h4, h5⟩
              · exact Or.inr ⟨_, h1, rfl, HZ.out.trans h2⟩
              · exact Or.inl ⟨p, o2, by rw [h1], ⟨h2, h3, HZ.out.trans h5⟩⟩
            case measure =>
              rcases HS2.out with ⟨h1, h2, _⟩ | ⟨p, o2, h1, h2, h3, h4, h5⟩
              · have hn : ¬ 0 ≤ o'.up := by omega
                simp [intOf, hn]
              · simp [intOf, h1]; omega
        · have ty : decide (0 ≤ t) = false := decide_eq_false (by omega)
          go_wp2_with fail
          go_ret
          exact ⟨rfl, HF.out⟩

end Go.Proofs.Ytjopmhidldemmaa
