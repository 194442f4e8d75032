/-
  A node that comes is empty, and goes when it is empty again: plain; and a program's space beside no other. No statement.
-/
import Derived.Test.YtibdkadojoeopaaCsHoldP
namespace Go.Proofs.Ytibdkadojoeopaa
open Go.RowKit

/-- A program's space whose blocks are all newer than a world. -/
structure NewQ (w wr : World) (p : Pb) (L : List Nd) : Prop where
  pr : IsP wr p L
  fr : Fr none' w wr
  hi : ∀ k, p.s L k → w.heap.size ≤ k
theorem NewQ.keep0 {w wr w' : World} {p : Pb} {L : List Nd} (h : NewQ w wr p L) (f : Fr none' wr w') : NewQ w w' p L := ⟨h.pr.keep0 f, h.fr.trans f, h.hi⟩
theorem NewQ.step {w w1 w2 : World} {p : Pb} {L L' : List Nd} (h : NewQ w w1 p L) (c : Chg w1 p L w2 L') : ∃ p' : Pb, p'.b = p.b ∧ NewQ w w2 p' L' := by
  obtain ⟨p', e1, h1, f, n⟩ := c
  exact ⟨p', e1, h1, fr_two h.fr f (fun k hk => Or.inr (h.hi k hk)), fun k hk => by
    rcases n k hk with h2 | h2
    · exact h.hi k h2
    · have := h.fr.size; omega⟩

theorem fnd_put {L : List Nd} {a : Rf} {n : Nd} (c : K) (h : fnd L a.n = some n) : fnd (putS L a c) a.n = some (if putE L a c = 0 then ⟨n.id, n.rx, updK n.sl a.i.toNat c⟩ else n) := by
  unfold putS
  by_cases h0 : putE L a c = 0
  · rw [if_pos h0, if_pos h0, fnd_set, h]
    simp only [Option.map, if_pos (fnd_mem h).2]
  · rw [if_neg h0, if_neg h0, h]

theorem drop_empty {L : List Nd} {id : Int} {n : Nd} (h : fnd L id = some n) (h0 : ∀ j, j < 2 ^ n.rx → (n.sl j).k = 0) : drE L id = 0 ∧ radS (drS L id) id = 0 := by
  have e : drE L id = 0 := by
    unfold drE
    rw [h]
    dsimp only
    rw [if_neg]
    rw [fulN_iff]
    rintro ⟨j, hj, hk⟩
    exact hk (h0 j hj)
  refine ⟨e, ?_⟩
  unfold drS
  rw [if_pos e]
  unfold radS
  rw [fnd_del, if_pos rfl]

theorem drop_full' {L : List Nd} {id : Int} {n : Nd} (h : fnd L id = some n) {j : Nat} (hj : j < 2 ^ n.rx) (hk : (n.sl j).k ≠ 0) : drE L id = 130 ∧ drS L id = L := by
  have e : drE L id = 130 := by
    unfold drE
    rw [h]
    dsimp only
    rw [if_pos]
    rw [fulN_iff]
    exact ⟨j, hj, hk⟩
  exact ⟨e, by unfold drS; rw [if_neg (by rw [e]; decide)]⟩

theorem add_fnd {L : List Nd} {id rx : Int} (h : addE L id rx = 0) : fnd (addS L id rx) id = some (newN id rx) ∧ 1 ≤ rx ∧ rx ≤ 4 := by
  obtain ⟨h1, h2⟩ := addE_zero h
  have e := newN_id h1
  obtain ⟨_, h3, h4⟩ := okA_iff.mp h1
  refine ⟨?_, h3, h4⟩
  unfold addS
  rw [if_pos h, fnd_ins (by rw [e]; exact h2), if_pos e]

theorem wrap_small {N : Nat} (h : N ≤ 16) : IntKind.i64.wrap (N : Int) = (N : Int) ∧ wrap64 (N : Int) = (N : Int) := ⟨by rw [IntKind.wrap_i64]; omega, by unfold wrap64; omega⟩

/-- What the law asks. -/
theorem nodes_pure {L : List Nd} {id ix : Int} {m : Nat} {c : K} (h : addE L id m = 0) :
    (∀ j : Nat, j < 2 ^ m → getE (addS L id m) ⟨id, j⟩ = 0 ∧ getC (addS L id m) ⟨id, j⟩ = K0) ∧ getE (addS L id m) ⟨id, (2 ^ m : Nat)⟩ = 1
    ∧ (putE (addS L id m) ⟨id, ix⟩ c = 0 → c.k ≠ 0 → drE (putS (addS L id m) ⟨id, ix⟩ c) id = 130 ∧ drS (putS (addS L id m) ⟨id, ix⟩ c) id = putS (addS L id m) ⟨id, ix⟩ c ∧ putE (putS (addS L id m) ⟨id, ix⟩ c) ⟨id, ix⟩ K0 = 0
      ∧ drE (putS (putS (addS L id m) ⟨id, ix⟩ c) ⟨id, ix⟩ K0) id = 0 ∧ radS (drS (putS (putS (addS L id m) ⟨id, ix⟩ c) ⟨id, ix⟩ K0) id) id = 0)
    ∧ (putE (addS L id m) ⟨id, ix⟩ c ≠ 0 ∨ c.k = 0 → drE (putS (addS L id m) ⟨id, ix⟩ c) id = 0 ∧ radS (drS (putS (addS L id m) ⟨id, ix⟩ c) id) id = 0) := by
  obtain ⟨hf, _, _⟩ := add_fnd h
  generalize addS L id m = M at *
  have e2 : ((2 ^ m : Nat) : Int) = (2 : Int) ^ m := Int.natCast_pow 2 m
  have er : (newN id m).rx = m := Int.toNat_natCast m
  have es : ∀ j, (newN id m).sl j = K0 := fun _ => rfl
  generalize newN id m = n at *
  have hf' : ∀ i, fnd M (⟨id, i⟩ : Rf).n = some n := fun _ => hf
  have hg : ∀ i : Int, getE M ⟨id, i⟩ = if 0 ≤ i ∧ i < 2 ^ m then 0 else 1 := fun i => by unfold getE; rw [hf']; dsimp only; rw [er]
  refine ⟨fun j hj => ⟨?_, ?_⟩, ?_, fun h0 hk => ?_, fun h0 => ?_⟩
  · rw [hg, if_pos (by omega)]
  · unfold getC
    rw [hf']
    dsimp only
    rw [er, if_pos (by omega)]
    exact es _
  · rw [hg, if_neg (by omega)]
  · have hp := fnd_put (a := ⟨id, ix⟩) c hf
    rw [if_pos h0] at hp
    obtain ⟨n', hn', i0, i1⟩ := getE_zero (putE_zero h0).1
    rw [hf'] at hn'
    cases hn'
    rw [er] at i1
    have hd := drop_full' (id := id) hp (j := ix.toNat) (by dsimp only; rw [er]; dsimp only at i0 i1; omega) (by show (updK n.sl ix.toNat c ix.toNat).k ≠ 0; rw [updK_same]; exact hk)
    have hE : putE (putS M ⟨id, ix⟩ c) ⟨id, ix⟩ K0 = 0 := by
      unfold putE
      rw [getE_put, (putE_zero h0).1, if_pos rfl, right_K0, if_pos rfl]
    have hp2 := fnd_put (a := ⟨id, ix⟩) K0 hp
    rw [if_pos hE] at hp2
    have hd2 := drop_empty (id := id) hp2 (fun j _ => by
      show (updK (updK n.sl ix.toNat c) ix.toNat K0 j).k = 0
      by_cases e : j = ix.toNat
      · rw [e, updK_same]; rfl
      · rw [updK_other _ _ e, updK_other _ _ e, es]; rfl)
    exact ⟨hd.1, hd.2, hE, hd2.1, hd2.2⟩
  · have hp := fnd_put (a := ⟨id, ix⟩) c hf
    refine drop_empty (id := id) hp (fun j _ => ?_)
    by_cases h1 : putE M ⟨id, ix⟩ c = 0
    · rw [if_pos h1]
      show (updK n.sl ix.toNat c j).k = 0
      have hc : c.k = 0 := h0.resolve_left (fun h => h h1)
      by_cases e : j = ix.toNat
      · rw [e, updK_same]; exact hc
      · rw [updK_other _ _ e, es]; rfl
    · rw [if_neg h1, es]; rfl

end Go.Proofs.Ytibdkadojoeopaa
