/-
  Only the slots on an address's way matter: plain. No program, no statement.
-/
import Derived.Test.YtibdkadojoeopaaCsNodeP
namespace Go.Proofs.Ytibdkadojoeopaa
open Go.RowKit

theorem right_x {c : K} (h : rightC c = true) (hk : c.k = 2) : 1 ≤ c.x := by
  simp only [rightC, Bool.and_eq_true] at h
  simp [hk, gOk] at h
  omega

theorem radS_put (L : List Nd) (a : Rf) (c : K) (k : Int) : radS (putS L a c) k = radS L k := by
  unfold putS
  split
  · unfold radS
    rw [fnd_set]
    cases fnd L k with
    | none => rfl
    | some n =>
      by_cases h : (n.id : Int) = a.n
      · simp only [Option.map, if_pos h]
      · simp only [Option.map, if_neg h]
  · rfl

theorem stepE_put (L : List Nd) (a : Rf) (k c : K) (X l : Nat) : stepE (putS L a k) c X l = stepE L c X l := by
  unfold stepE
  rw [radS_put]

/-- A slot that an address goes through, and the bits that are left there. -/
def vis (L : List Nd) : Nat → K → Nat → Nat → Rf → Nat → Prop
  | 0, _, _, _, _, _ => False
  | f + 1, c, X, l, a, s => stepE L c X l = 0 ∧ ((stepA c X l = a ∧ stepL c l = s) ∨ (¬ (stepL c l = 0 ∨ (getC L (stepA c X l)).k ≠ 2) ∧ vis L f (getC L (stepA c X l)) X (stepL c l) a s))

theorem vis_lt {L : List Nd} (gd : GoodL L) {X : Nat} {a : Rf} {s : Nat} : ∀ (f : Nat) (c : K) (l : Nat), rightC c = true → c.k = 2 → vis L f c X l a s → s < l := by
  intro f
  induction f with
  | zero => intro c l _ _ h; exact h.elim
  | succ f ih =>
    intro c l hc hk h
    obtain ⟨hE, h⟩ := h
    obtain ⟨e1, _, e3, _⟩ := stepE_zero hE
    have hx := right_x hc hk
    have hl : stepL c l < l := by unfold stepL; omega
    rcases h with ⟨_, h⟩ | ⟨h2, h⟩
    · omega
    · have := ih _ _ (right_get gd _) (Decidable.byContradiction fun hh => h2 (Or.inr hh)) h
      omega

theorem bitV_pre {X s p q : Nat} (h : s ≤ p) : bitV (X / 2 ^ s) (p - s) q = bitV X p q := by
  unfold bitV
  rw [Nat.div_div_eq_div_mul, ← Nat.pow_add, show s + (p - s) = p by omega]

/-- A slot on the way is what the address means without the bits behind. -/
theorem vis_pre {L : List Nd} (gd : GoodL L) {X : Nat} {a : Rf} {s : Nat} : ∀ (f : Nat) (c : K) (l : Nat), rightC c = true → c.k = 2 → vis L f c X l a s → resF L f c (X / 2 ^ s) (l - s) = ⟨a, 0, 0⟩ := by
  intro f
  induction f with
  | zero => intro c l _ _ h; exact h.elim
  | succ f ih =>
    intro c l hc hk h
    obtain ⟨hE, h⟩ := h
    obtain ⟨e1, e2, e3, e4⟩ := stepE_zero hE
    have hs : s ≤ stepL c l := by
      rcases h with ⟨_, h⟩ | ⟨h2, h⟩
      · omega
      · have := vis_lt gd _ _ _ (right_get gd _) (Decidable.byContradiction fun hh => h2 (Or.inr hh)) h
        omega
    have hs' : s + c.x.toNat + c.n.toNat ≤ l := by unfold stepL at hs; omega
    have eL : stepL c (l - s) = stepL c l - s := by unfold stepL; omega
    have eA : stepA c (X / 2 ^ s) (l - s) = stepA c X l := by
      unfold stepA
      rw [eL, bitV_pre hs]
    have eE : stepE L c (X / 2 ^ s) (l - s) = 0 := by
      unfold stepE
      rw [if_neg (by omega), show l - s - c.n.toNat = l - c.n.toNat - s by omega, bitV_pre (by omega), if_neg (by simpa using e2), if_neg (by omega), if_neg (by simpa using e4)]
    rcases h with ⟨ha, h⟩ | ⟨h2, h⟩
    · rw [resF_end eE (Or.inl (by omega)), eA, eL, ha, h]
      simp
    · have hlt := vis_lt gd _ _ _ (right_get gd _) (Decidable.byContradiction fun hh => h2 (Or.inr hh)) h
      rw [resF_go eE (by
        rw [eA, eL]
        rintro (h' | h')
        · omega
        · exact h2 (Or.inr h')), eA, eL]
      exact ih _ _ (right_get gd _) (Decidable.byContradiction fun hh => h2 (Or.inr hh)) h

theorem resF_same {L : List Nd} {o : Rf} {k : K} {X : Nat} : ∀ (f : Nat) (c : K) (l : Nat), (∀ a s, vis L f c X l a s → a ≠ o) → resF (putS L o k) f c X l = resF L f c X l := by
  intro f
  induction f with
  | zero => intro c l _; rfl
  | succ f ih =>
    intro c l hv
    by_cases hE : stepE L c X l = 0
    · have hE' : stepE (putS L o k) c X l = 0 := (stepE_put L o k c X l).trans hE
      have hn : stepA c X l ≠ o := hv _ _ ⟨hE, Or.inl ⟨rfl, rfl⟩⟩
      have hg := getC_put_other L o k (stepA c X l) (Or.inl hn)
      by_cases h2 : stepL c l = 0 ∨ (getC L (stepA c X l)).k ≠ 2
      · rw [resF_end hE h2, resF_end hE' (by rw [hg]; exact h2)]
      · rw [resF_go hE h2, resF_go hE' (by rw [hg]; exact h2), hg]
        exact ih _ _ (fun a s h => hv a s ⟨hE, Or.inr ⟨h2, h⟩⟩)
    · rw [resF_bad rfl hE, resF_bad (stepE_put L o k c X l) hE]

/-- The slots that an address goes through, by ever more of its bits. -/
def wayF (L : List Nd) (c : K) (X dp : Nat) : Nat → List Rf
  | 0 => []
  | j + 1 => wayF L c X dp j ++ if (resR L c (X / 2 ^ (dp - (j + 1))) ((j + 1 : Nat) : Int)).e = 0 ∧ (resR L c (X / 2 ^ (dp - (j + 1))) ((j + 1 : Nat) : Int)).left = 0 then [(resR L c (X / 2 ^ (dp - (j + 1))) ((j + 1 : Nat) : Int)).at'] else []

theorem mem_wayF {L : List Nd} {c : K} {X dp : Nat} {a : Rf} : ∀ {m d : Nat}, 1 ≤ d → d ≤ m → resR L c (X / 2 ^ (dp - d)) (d : Int) = ⟨a, 0, 0⟩ → a ∈ wayF L c X dp m
  | 0, d, h1, h2, _ => absurd h1 (by omega)
  | m + 1, d, h1, h2, h => by
    unfold wayF
    rw [List.mem_append]
    by_cases e : d = m + 1
    · subst e
      right
      rw [h]
      simp
    · exact Or.inl (mem_wayF h1 (by omega) h)

theorem local_pure {L : List Nd} (gd : GoodL L) {c : K} {X : Nat} {dp : Int} {o : Rf} {k : K} (h : 1 ≤ dp → dp ≤ 16 → o ∉ wayF L c X dp.toNat dp.toNat) : resR (putS L o k) c X dp = resR L c X dp := by
  unfold resR
  by_cases hk : (c.k == 2 && rightC c) = true
  · rw [if_pos hk, if_pos hk]
    by_cases hd : 1 ≤ dp ∧ dp ≤ 16
    · rw [if_pos hd, if_pos hd]
      obtain ⟨h1, h2⟩ := Bool.and_eq_true_iff.mp hk
      have h1' : c.k = 2 := by simpa using h1
      refine resF_same 16 c dp.toNat (fun a s hv e => h hd.1 hd.2 ?_)
      subst e
      have hlt := vis_lt gd _ _ _ h2 h1' hv
      refine mem_wayF (d := dp.toNat - s) (by omega) (by omega) ?_
      rw [show dp.toNat - (dp.toNat - s) = s by omega]
      unfold resR
      rw [if_pos hk, if_pos (by omega), Int.toNat_natCast]
      exact vis_pre gd _ _ _ h2 h1' hv
    · rw [if_neg hd, if_neg hd]
  · rw [if_neg hk, if_neg hk]

end Go.Proofs.Ytibdkadojoeopaa
