/-
  What is put is there, all other slots stay, and the full slots grow by one at most: plain. No program, no statement.
-/
import Derived.Test.YtibdkadojoeopaaCsAwakeB
namespace Go.Proofs.Ytibdkadojoeopaa
open Go.RowKit

theorem getE_set (L : List Nd) (a : Rf) (c : K) (x : Rf) : getE (setN L a c) x = getE L x := by
  unfold getE
  rw [fnd_set]
  cases fnd L x.n with
  | none => rfl
  | some n =>
    by_cases h : (n.id : Int) = a.n
    · simp only [Option.map, if_pos h]
    · simp only [Option.map, if_neg h]

theorem getE_put (L : List Nd) (a : Rf) (c : K) (x : Rf) : getE (putS L a c) x = getE L x := by
  unfold putS
  split
  · exact getE_set L a c x
  · rfl

theorem getC_set_other (L : List Nd) (a : Rf) (c : K) (x : Rf) (hx : x ≠ a) (ha : 0 ≤ a.i) : getC (setN L a c) x = getC L x := by
  unfold getC
  rw [fnd_set]
  cases hf : fnd L x.n with
  | none => rfl
  | some n =>
    obtain ⟨_, hn⟩ := fnd_mem hf
    by_cases h : (n.id : Int) = a.n
    · simp only [Option.map, if_pos h]
      split
      · rename_i hi
        exact updK_other _ _ (fun e => hx (Rf.ext' (by omega) (by omega)))
      · rfl
    · simp only [Option.map, if_neg h]

theorem getC_put_other (L : List Nd) (a : Rf) (c : K) (x : Rf) (hx : x ≠ a ∨ putE L a c ≠ 0) : getC (putS L a c) x = getC L x := by
  unfold putS
  split
  · rename_i h
    rcases hx with hx | hx
    · obtain ⟨n, _, h0, _⟩ := getE_zero (putE_zero h).1
      exact getC_set_other L a c x hx h0
    · exact absurd h hx
  · rfl

theorem getC_put_same (L : List Nd) (a : Rf) (c : K) (h : putE L a c = 0) : getC (putS L a c) a = c := by
  unfold putS
  rw [if_pos h]
  obtain ⟨n, hf, h0, h1⟩ := getE_zero (putE_zero h).1
  unfold getC
  rw [fnd_set, hf]
  simp only [Option.map, if_pos (fnd_mem hf).2]
  rw [if_pos ⟨h0, h1⟩, updK_same]

theorem len_fulR_upd (id rx : Nat) (sl : Nat → K) (j : Nat) (c : K) : ∀ m, (m ≤ j → (fulR ⟨id, rx, updK sl j c⟩ m).length = (fulR ⟨id, rx, sl⟩ m).length) ∧ (fulR ⟨id, rx, updK sl j c⟩ m).length ≤ (fulR ⟨id, rx, sl⟩ m).length + 1 ∧ (fulR ⟨id, rx, sl⟩ m).length ≤ (fulR ⟨id, rx, updK sl j c⟩ m).length + 1
  | 0 => by simp [fulR]
  | m + 1 => by
    obtain ⟨h1, h2, h3⟩ := len_fulR_upd id rx sl j c m
    simp only [fulR, List.length_append]
    by_cases e : m = j
    · have h4 := h1 (by omega)
      rw [h4]
      refine ⟨fun h => absurd h (by omega), ?_, ?_⟩
      · split <;> split <;> simp only [List.length_cons, List.length_nil] <;> omega
      · split <;> split <;> simp only [List.length_cons, List.length_nil] <;> omega
    · rw [updK_other _ _ e]
      refine ⟨fun h => by rw [h1 (by omega)], ?_, ?_⟩
      · omega
      · omega

theorem set_none (a : Rf) (c : K) : ∀ (L : List Nd), (∀ n ∈ L, (n.id : Int) ≠ a.n) → setN L a c = L
  | [], _ => rfl
  | n :: L, h => by
    have ih := set_none a c L (fun m hm => h m (List.mem_cons_of_mem _ hm))
    unfold setN at ih ⊢
    rw [List.map_cons, if_neg (h n List.mem_cons_self), ih]

theorem len_ful_set (a : Rf) (c : K) : ∀ (L : List Nd), L.Pairwise (fun a b => a.id < b.id) → (fulL (setN L a c)).length ≤ (fulL L).length + 1 ∧ (fulL L).length ≤ (fulL (setN L a c)).length + 1
  | [], _ => by simp [setN, fulL]
  | n :: L, g => by
    rw [List.pairwise_cons] at g
    have e : setN (n :: L) a c = (if (n.id : Int) = a.n then ⟨n.id, n.rx, updK n.sl a.i.toNat c⟩ else n) :: setN L a c := rfl
    rw [e, fulL_cons, fulL_cons]
    simp only [List.length_append]
    by_cases h : (n.id : Int) = a.n
    · rw [if_pos h, set_none a c L (fun m hm => by have := g.1 m hm; omega)]
      obtain ⟨_, h2, h3⟩ := len_fulR_upd n.id n.rx n.sl a.i.toNat c (2 ^ n.rx)
      constructor
      · show (fulR ⟨n.id, n.rx, updK n.sl a.i.toNat c⟩ (2 ^ n.rx)).length + _ ≤ (fulR n (2 ^ n.rx)).length + _ + 1
        have h2' : (fulR ⟨n.id, n.rx, updK n.sl a.i.toNat c⟩ (2 ^ n.rx)).length ≤ (fulR n (2 ^ n.rx)).length + 1 := h2
        omega
      · show (fulR n (2 ^ n.rx)).length + _ ≤ (fulR ⟨n.id, n.rx, updK n.sl a.i.toNat c⟩ (2 ^ n.rx)).length + _ + 1
        have h3' : (fulR n (2 ^ n.rx)).length ≤ (fulR ⟨n.id, n.rx, updK n.sl a.i.toNat c⟩ (2 ^ n.rx)).length + 1 := h3
        omega
    · rw [if_neg h]
      have := len_ful_set a c L g.2
      omega

theorem len_ful_put {L : List Nd} (g : GoodL L) (a : Rf) (c : K) : (fulL (putS L a c)).length ≤ (fulL L).length + 1 ∧ (fulL L).length ≤ (fulL (putS L a c)).length + 1 ∧ (putE L a c ≠ 0 → (fulL (putS L a c)).length = (fulL L).length) := by
  unfold putS
  split
  · rename_i h
    have := len_ful_set a c L g.srt
    exact ⟨this.1, this.2, fun h' => absurd h h'⟩
  · exact ⟨by omega, by omega, fun _ => rfl⟩

/-- A full slot is a slot. -/
theorem ful_slot {L : List Nd} (g : GoodL L) {x : Rf} (h : x ∈ fulL L) : getE L x = 0 ∧ I64 x.n := by
  obtain ⟨n, hn, hx⟩ := mem_fulL.1 h
  obtain ⟨j, hj, _, rfl⟩ := mem_fulR.1 hx
  have e : ((2 ^ n.rx : Nat) : Int) = (2 : Int) ^ n.rx := Int.natCast_pow 2 n.rx
  have := (g.all n hn).id
  refine ⟨?_, by unfold I64; dsimp only; omega⟩
  unfold getE
  have hf : fnd L (⟨n.id, j⟩ : Rf).n = some n := fnd_of_mem g.srt hn
  rw [hf]
  dsimp only
  rw [if_pos]
  omega

end Go.Proofs.Ytibdkadojoeopaa
