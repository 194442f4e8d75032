/-
  The laws' own states of a scheduler, over plain data. No program, no statement.
-/
import Derived.Test.YtipfgenbfnkpfaaSdOk
namespace Go.Proofs.Ytipfgenbfnkpfaa
open Go.RowKit

/-- What of a thread neither Tick nor Settle turns. -/
def sta (L : List Tk) (x : Int) : Option (Int × Int × Bool) := (fnd L x).map fun t => (t.p, t.d, t.a)
theorem sta_slice (L : List Tk) (k s x : Int) : sta (upd L k (setSl s)) x = sta L x := by
  unfold sta
  rw [fnd_upd1 L k (f := setSl s) (fun _ => rfl)]
  by_cases e : x = k
  · subst e
    rw [if_pos rfl]
    cases fnd L x <;> rfl
  · rw [if_neg e]
theorem sta_yie (S : Sd) (x : Int) : sta (yieS S).L x = sta S.L x := by
  unfold yieS
  split
  · rfl
  · exact sta_slice S.L S.c 4 x
theorem sta_spe (S : Sd) (x : Int) : sta (speS S).L x = sta S.L x := by
  rw [speS_eq]
  split
  · rfl
  · split
    · exact sta_yie S x
    · exact sta_slice S.L S.c _ x
theorem nexS_L (S : Sd) : (nexS S).L = S.L := by
  unfold nexS
  split <;> rfl
theorem sta_tic (S : Sd) (x : Int) : sta (ticS S).L x = sta S.L x := by
  unfold ticS
  dsimp only
  split
  · rw [nexS_L]; exact sta_spe S x
  · exact sta_spe S x
theorem sta_set (S : Sd) (x : Int) : sta (setS S).L x = sta S.L x := by rw [(setS_rest S).2.2.2]

theorem sta_some {L : List Tk} {x : Int} {p d : Int} {a : Bool} (h : sta L x = some (p, d, a)) : ∃ t, fnd L x = some t ∧ t.p = p ∧ t.d = d ∧ t.a = a := by
  unfold sta at h
  cases hf : fnd L x with
  | none => rw [hf] at h; cases h
  | some t =>
    rw [hf] at h
    simp only [Option.map_some, Option.some.injEq, Prod.mk.injEq] at h
    exact ⟨t, rfl, h.1, h.2.1, h.2.2⟩
theorem sta_of {L : List Tk} {x : Int} {t : Tk} (h : fnd L x = some t) : sta L x = some (t.p, t.d, t.a) := by unfold sta; rw [h]; rfl

theorem pe_eq {A B : Sd} (e1 : A.tb = B.tb) (e2 : A.tn = B.tn) : pe A = pe B := by unfold pe pt; rw [e1, e2]
theorem pe_set (S : Sd) : pe (setS S) = pe S := pe_eq (setS_rest S).1 (setS_rest S).2.1

/-- If somebody of the present domain is awake, one of it is current when it has settled. -/
theorem settled_some {S : Sd} (h : Ok S) {x : Int} {t : Tk} (hf : fnd S.L x = some t) (ha : t.a = true) (hd : t.d = pe S) : (setS S).c ≠ -1 ∧ ∃ t', fnd S.L (setS S).c = some t' ∧ t'.a = true ∧ t'.d = pe S ∧ ∀ p : Int, t'.p < p → p < 64 → (setS S).q (ky (pe S) p) = [] := by
  obtain ⟨h1, h2⟩ := settled h
  have hok := ok_settle h
  rw [pe_set, (setS_rest S).2.2.2] at h2
  rw [pe_set] at h1
  have ht := h.q.gl.all t (fnd_mem hf).1
  have hc : (setS S).c ≠ -1 := by
    intro hc
    have hz := h1 hc t.p ht.p0 (by have := ht.p1; omega)
    have : x ∈ (setS S).q (ky (pe S) t.p) := (hok.q.qi.mem _ x).2 ⟨by rw [hc]; have := fnd_pos h.q.gl hf; omega, t, by rw [(setS_rest S).2.2.2]; exact hf, ha, by rw [hd]⟩
    rw [hz] at this
    cases this
  exact ⟨hc, h2 hc⟩

/-! ### a thread added and woken -/
theorem aw_one {S : Sd} (i p d : Int) (hi : 0 ≤ i ∧ i < 1024) (hp : 0 ≤ p ∧ p < 64) (hd : 0 ≤ d ∧ d < 4) (hn : fnd S.L i = none) :
    addE S i p d = 0 ∧ thrE (addS S i p d) i = 0 ∧ (∀ x, fnd (addS S i p d).L x = if x = i then some ⟨i, p, d, 4, false⟩ else fnd S.L x) ∧ (addS S i p d).c = S.c ∧ (addS S i p d).tb = S.tb ∧ (addS S i p d).tn = S.tn ∧ (addS S i p d).lf = S.lf ∧ (addS S i p d).q = S.q := by
  have e1 : addE S i p d = 0 := by unfold addE; rw [if_pos ⟨hi.1, hi.2, hp.1, hp.2, hd.1, hd.2⟩, hn]
  have e2 : addS S i p d = { S with L := S.L ++ [⟨i, p, d, 4, false⟩] } := by unfold addS; rw [if_pos e1]
  have key : ∀ x, fnd (addS S i p d).L x = if x = i then some ⟨i, p, d, 4, false⟩ else fnd S.L x := fun x => by
    rw [e2]
    show fnd (S.L ++ [⟨i, p, d, 4, false⟩]) x = _
    rw [fnd_append]
    by_cases e : x = i
    · subst e; rw [hn]; simp [fnd]
    · rw [if_neg e]
      cases hx : fnd S.L x with
      | some t => rfl
      | none => simp only [fnd]; rw [if_neg (by omega)]
  refine ⟨e1, ?_, key, by rw [e2], by rw [e2], by rw [e2], by rw [e2], by rw [e2]⟩
  unfold thrE
  rw [key, if_pos rfl]
theorem aw_two {S : Sd} (i p d : Int) (hi : 0 ≤ i ∧ i < 1024) (hp : 0 ≤ p ∧ p < 64) (hd : 0 ≤ d ∧ d < 4) (hn : fnd S.L i = none) :
    (∀ x, fnd (wakS (addS S i p d) i).L x = if x = i then some ⟨i, p, d, 4, true⟩ else fnd S.L x) ∧ (wakS (addS S i p d) i).c = S.c ∧ (wakS (addS S i p d) i).tb = S.tb ∧ (wakS (addS S i p d) i).tn = S.tn ∧ (wakS (addS S i p d) i).lf = S.lf ∧ (wakS (addS S i p d) i).q = uq S.q (ky d p) (gEnd i) := by
  obtain ⟨_, _, k, c1, c2, c3, c4, c5⟩ := aw_one i p d hi hp hd hn
  have hf : fnd (addS S i p d).L i = some ⟨i, p, d, 4, false⟩ := by rw [k, if_pos rfl]
  have e : wakS (addS S i p d) i = app { addS S i p d with L := upd (addS S i p d).L i (setA true) } ⟨i, p, d, 4, false⟩ gEnd := by
    unfold wakS
    rw [hf]
    rfl
  rw [e]
  refine ⟨fun x => ?_, c1, c2, c3, c4, ?_⟩
  · show fnd (upd (addS S i p d).L i (setA true)) x = _
    rw [fnd_upd1 _ _ (f := setA true) (fun _ => rfl), hf]
    by_cases e : x = i
    · rw [if_pos e, if_pos e]; rfl
    · rw [if_neg e, if_neg e, k, if_neg e]
  · show uq (addS S i p d).q (ky d p) (gEnd i) = _
    rw [c5]

/-! ### SchedDomains -/
/-- Which turn it is at the tick i, and how many ticks it has left. -/
structure DomT (f s : Int) (i : Nat) (S : Sd) : Prop where
  tb : S.tb = [⟨0, f⟩, ⟨1, s⟩]
  tn : S.tn = if (i : Int) % (f + s) < f then 0 else 1
  lf : S.lf = if (i : Int) % (f + s) < f then f - (i : Int) % (f + s) else f + s - (i : Int) % (f + s)

theorem DomT.pe {f s : Int} {i : Nat} {S : Sd} (h : DomT f s i S) : pe S = if (i : Int) % (f + s) < f then 0 else 1 := by
  unfold Go.Proofs.Ytipfgenbfnkpfaa.pe pt
  rw [h.tb, h.tn]
  split <;> rfl

theorem mod_next {i n : Int} (hn : 0 < n) : (i + 1) % n = if i % n + 1 = n then 0 else i % n + 1 := by
  have h0 := Int.emod_nonneg i (by omega : n ≠ 0)
  have h1 := Int.emod_lt_of_pos i hn
  have h2 := Int.emod_add_mul_ediv i n
  have e : (i + 1) % n = (i % n + 1) % n := by
    rw [← Int.emod_add_emod]
  rw [e]
  split
  · rename_i h
    rw [h]; exact Int.emod_self
  · exact Int.emod_eq_of_lt (by omega) (by omega)

theorem DomT.step {f s : Int} {i : Nat} {S : Sd} (hf : 1 ≤ f) (hs : 1 ≤ s) (h : DomT f s i S) : DomT f s (i + 1) (ticS (setS S)) := by
  obtain ⟨e1, e2, e3, _⟩ := setS_rest S
  obtain ⟨t1, t2, t3⟩ := ticS_turn (setS S)
  rw [e1] at t1 t3
  rw [e2] at t2
  rw [e3] at t2 t3
  have hm := mod_next (i := (i : Int)) (n := f + s) (by omega)
  have h0 := Int.emod_nonneg (i : Int) (by omega : f + s ≠ 0)
  have h1 := Int.emod_lt_of_pos (i : Int) (by omega : 0 < f + s)
  have hc : ((i + 1 : Nat) : Int) = (i : Int) + 1 := by omega
  have hnx : nexN (setS S) = if (i : Int) % (f + s) < f then 1 else 0 := by
    unfold nexN
    rw [e1, e2, h.tb, h.tn]
    show _ % 2 = _
    split <;> rfl
  have htb := h.tb
  have htn := h.tn
  have hlf := h.lf
  rw [hnx, htb, hlf] at t3
  rw [hnx, htn, hlf] at t2
  clear hnx htn hlf e1 e2 e3 h
  generalize (i : Int) % (f + s) = c at *
  refine ⟨by rw [t1]; exact htb, ?_, ?_⟩
  · rw [t2, hc, hm]
    clear t2 t3 t1 hm hc htb
    by_cases a : c < f
    · simp only [if_pos a]
      by_cases b : c + 1 = f
      · rw [if_pos (by omega), if_neg (by omega : ¬ c + 1 = f + s), if_neg (by omega)]
      · rw [if_neg (by omega : ¬ f - c = 1), if_neg (by omega : ¬ c + 1 = f + s), if_pos (by omega)]
    · simp only [if_neg a]
      by_cases b : c + 1 = f + s
      · rw [if_pos (by omega : f + s - c = 1), if_pos b, if_pos (by omega)]
      · rw [if_neg (by omega : ¬ f + s - c = 1), if_neg b, if_neg (by omega)]
  · rw [t3, hc, hm]
    clear t2 t3 t1 hm hc htb
    by_cases a : c < f
    · simp only [if_pos a]
      by_cases b : c + 1 = f
      · rw [if_pos (by omega : f - c = 1), if_neg (by omega : ¬ c + 1 = f + s), if_neg (by omega)]
        show s = _
        omega
      · rw [if_neg (by omega : ¬ f - c = 1), if_neg (by omega : ¬ c + 1 = f + s), if_pos (by omega)]
        omega
    · simp only [if_neg a]
      by_cases b : c + 1 = f + s
      · rw [if_pos (by omega : f + s - c = 1), if_pos b, if_pos (by omega)]
        show f = _
        omega
      · rw [if_neg (by omega : ¬ f + s - c = 1), if_neg b, if_neg (by omega)]
        omega

/-- Who there is. -/
structure DomL (S : Sd) : Prop where
  z : sta S.L 0 = some (3, 0, true)
  o : sta S.L 1 = some (60, 1, true)
  r : ∀ x p d a, sta S.L x = some (p, d, a) → x ≠ 0 → d = 1

theorem DomL.step {S : Sd} (h : DomL S) : DomL (ticS (setS S)) := by
  have e : ∀ x, sta (ticS (setS S)).L x = sta S.L x := fun x => (sta_tic _ x).trans (sta_set S x)
  exact ⟨by rw [e]; exact h.z, by rw [e]; exact h.o, fun x p d a hx => h.r x p d a (by rw [← e]; exact hx)⟩

theorem dom_cur {f s : Int} {i : Nat} {S : Sd} (ok : Ok S) (h : DomL S) (ht : DomT f s i S) : 0 ≤ (setS S).c ∧ ((setS S).c == 0) = decide ((i : Int) % (f + s) < f) := by
  have hpe := ht.pe
  obtain ⟨t0, f0, _, d0, a0⟩ := sta_some h.z
  obtain ⟨t1, f1, _, d1, a1⟩ := sta_some h.o
  by_cases hc : (i : Int) % (f + s) < f
  · rw [if_pos hc] at hpe
    obtain ⟨_, t, ft, at', dt, _⟩ := settled_some ok f0 a0 (by rw [d0, hpe])
    have hp := fnd_pos ok.q.gl ft
    refine ⟨hp.1, ?_⟩
    have : (setS S).c = 0 := Classical.byContradiction fun hn => by
      have := h.r _ _ _ _ (sta_of ft) hn
      rw [dt, hpe] at this
      omega
    rw [this]
    simp [hc]
  · rw [if_neg hc] at hpe
    obtain ⟨_, t, ft, at', dt, _⟩ := settled_some ok f1 a1 (by rw [d1, hpe])
    have hp := fnd_pos ok.q.gl ft
    refine ⟨hp.1, ?_⟩
    have : (setS S).c ≠ 0 := fun hn => by
      rw [hn, f0] at ft
      cases ft
      rw [d0, hpe] at dt
      omega
    simp [hc, this]

/-- Behind so many threads added. -/
structure DomA (f s : Int) (k : Nat) (S : Sd) : Prop where
  z : fnd S.L 0 = some ⟨0, 3, 0, 4, true⟩
  o : ∀ x : Int, 1 ≤ x → x ≤ k → fnd S.L x = some ⟨x, 60, 1, 4, true⟩
  n : ∀ x : Int, (x < 0 ∨ (k : Int) < x) → fnd S.L x = none
  c : S.c = -1
  tb : S.tb = [⟨0, f⟩, ⟨1, s⟩]
  tn : S.tn = 0
  lf : S.lf = f

theorem domA_one {f s : Int} : DomA f s 0 (wakS (addS (⟨[], fun _ => [], -1, [⟨0, f⟩, ⟨1, s⟩], 0, f⟩ : Sd) 0 3 0) 0) := by
  obtain ⟨k, c1, c2, c3, c4, _⟩ := aw_two (S := (⟨[], fun _ => [], -1, [⟨0, f⟩, ⟨1, s⟩], 0, f⟩ : Sd)) 0 3 0 (by omega) (by omega) (by omega) rfl
  refine ⟨by rw [k, if_pos rfl], fun x h0 h1 => by omega, fun x hx => ?_, c1, c2, c3, c4⟩
  rw [k, if_neg (by omega)]
  rfl
theorem DomA.step {f s : Int} {k : Nat} {S : Sd} (h : DomA f s k S) (hk : k ≤ 6) : addE S (1 + (k : Int)) 60 1 = 0 ∧ thrE (addS S (1 + (k : Int)) 60 1) (1 + (k : Int)) = 0 ∧ DomA f s (k + 1) (wakS (addS S (1 + (k : Int)) 60 1) (1 + (k : Int))) := by
  have hn := h.n (1 + (k : Int)) (by omega)
  obtain ⟨e1, e2, _⟩ := aw_one (1 + (k : Int)) 60 1 (by omega) (by omega) (by omega) hn
  obtain ⟨kk, c1, c2, c3, c4, _⟩ := aw_two (1 + (k : Int)) 60 1 (by omega) (by omega) (by omega) hn
  refine ⟨e1, e2, by rw [kk, if_neg (by omega)]; exact h.z, fun x h0 h1 => ?_, fun x hx => ?_, by rw [c1]; exact h.c, by rw [c2]; exact h.tb, by rw [c3]; exact h.tn, by rw [c4]; exact h.lf⟩
  · rw [kk]
    by_cases e : x = 1 + (k : Int)
    · rw [if_pos e, e]
    · rw [if_neg e]; exact h.o x h0 (by omega)
  · rw [kk, if_neg (by omega)]
    exact h.n x (by omega)
theorem DomA.done {f s : Int} {k : Nat} {S : Sd} (h : DomA f s k S) (hk : 1 ≤ k) (hf : 1 ≤ f) : DomL S ∧ DomT f s 0 S := by
  refine ⟨⟨sta_of h.z, sta_of (h.o 1 (by omega) (by omega)), fun x p d a hx hn => ?_⟩, h.tb, ?_, ?_⟩
  · by_cases hb : x < 0 ∨ (k : Int) < x
    · have := h.n x hb
      unfold sta at hx
      rw [this] at hx
      cases hx
    · have := sta_of (h.o x (by omega) (by omega))
      rw [this] at hx
      simp only [Option.some.injEq, Prod.mk.injEq] at hx
      omega
  · rw [h.tn, show (((0 : Nat) : Int)) % (f + s) = 0 from Int.zero_emod _, if_pos (by omega)]
  · rw [h.lf, show (((0 : Nat) : Int)) % (f + s) = 0 from Int.zero_emod _, if_pos (by omega)]; omega

/-! ### one domain: who wakes, who runs -/
/-- The threads 10, 11, ..: so many. -/
def ids (m : Nat) : List Int := (List.range m).map fun k : Nat => 10 + (k : Int)
theorem mem_ids {m : Nat} {x : Int} : x ∈ ids m ↔ 10 ≤ x ∧ x < 10 + (m : Int) := by
  unfold ids
  rw [List.mem_map]
  constructor
  · rintro ⟨k, hk, rfl⟩
    rw [List.mem_range] at hk
    omega
  · intro h
    exact ⟨(x - 10).toNat, by rw [List.mem_range]; omega, by omega⟩
theorem nodup_ids (m : Nat) : (ids m).Nodup := by
  unfold ids
  rw [List.nodup_iff_pairwise_ne, List.pairwise_map]
  refine (List.nodup_iff_pairwise_ne.1 List.nodup_range).imp fun {a b} h => ?_
  omega
theorem len_of {m : Nat} {l : List Int} (hn : l.Nodup) (h : ∀ x, x ∈ l ↔ x ∈ ids m) : l.length = m := by
  have := ((List.perm_ext_iff_of_nodup hn (nodup_ids m)).2 h).length_eq
  rw [this]
  unfold ids
  simp

/-- One domain, its turn has so many ticks left. -/
structure OneT (i : Nat) (S : Sd) : Prop where
  tb : S.tb = [⟨0, 1000⟩]
  tn : S.tn = 0
  lf : S.lf = 1000 - i
theorem OneT.pe {i : Nat} {S : Sd} (h : OneT i S) : pe S = 0 := by
  unfold Go.Proofs.Ytipfgenbfnkpfaa.pe pt
  rw [h.tb, h.tn]
  rfl
theorem OneT.set {i : Nat} {S : Sd} (h : OneT i S) : OneT i (setS S) := by
  obtain ⟨e1, e2, e3, _⟩ := setS_rest S
  exact ⟨by rw [e1]; exact h.tb, by rw [e2]; exact h.tn, by rw [e3]; exact h.lf⟩
theorem OneT.tic {i : Nat} {S : Sd} (h : OneT i S) (hi : i ≤ 900) : OneT (i + 1) (ticS S) := by
  obtain ⟨e1, e2, e3⟩ := ticS_turn S
  rw [h.lf, if_neg (by omega)] at e2 e3
  exact ⟨by rw [e1]; exact h.tb, by rw [e2]; exact h.tn, by rw [e3]; omega⟩

structure AddA (p : Int) (k : Nat) (S : Sd) : Prop where
  o : ∀ x : Int, 10 ≤ x → x < 10 + (k : Int) → fnd S.L x = some ⟨x, p, 0, 4, true⟩
  n : ∀ x : Int, (x < 10 ∨ 10 + (k : Int) ≤ x) → fnd S.L x = none
  c : S.c = -1
  t : OneT 0 S
  q : S.q (ky 0 p) = ids k
  z : ∀ j, j ≠ ky 0 p → S.q j = []

def one0 : Sd := ⟨[], fun _ => [], -1, [⟨0, 1000⟩], 0, 1000⟩
theorem addA_zero (p : Int) : AddA p 0 one0 := ⟨fun x h0 h1 => by omega, fun x _ => rfl, rfl, ⟨rfl, rfl, rfl⟩, rfl, fun _ _ => rfl⟩
theorem ids_succ (k : Nat) : ids (k + 1) = ids k ++ [10 + (k : Int)] := by
  unfold ids
  rw [List.range_succ, List.map_append]
  rfl
theorem AddA.step {p : Int} {k : Nat} {S : Sd} (h : AddA p k S) (hk : k ≤ 8) (hp : 0 ≤ p ∧ p < 64) : addE S (10 + (k : Int)) p 0 = 0 ∧ thrE (addS S (10 + (k : Int)) p 0) (10 + (k : Int)) = 0 ∧ AddA p (k + 1) (wakS (addS S (10 + (k : Int)) p 0) (10 + (k : Int))) := by
  have hn := h.n (10 + (k : Int)) (by omega)
  obtain ⟨e1, e2, _⟩ := aw_one (10 + (k : Int)) p 0 (by omega) hp (by omega) hn
  obtain ⟨kk, c1, c2, c3, c4, c5⟩ := aw_two (10 + (k : Int)) p 0 (by omega) hp (by omega) hn
  refine ⟨e1, e2, fun x h0 h1 => ?_, fun x hx => ?_, by rw [c1]; exact h.c, ⟨by rw [c2]; exact h.t.tb, by rw [c3]; exact h.t.tn, by rw [c4]; exact h.t.lf⟩, ?_, fun j hj => ?_⟩
  · rw [kk]
    by_cases e : x = 10 + (k : Int)
    · rw [if_pos e, e]
    · rw [if_neg e]; exact h.o x h0 (by omega)
  · rw [kk, if_neg (by omega)]
    exact h.n x (by omega)
  · rw [c5, uq_same, h.q, ids_succ]; rfl
  · rw [c5, uq_other _ _ hj]
    exact h.z j hj

/-! ### SchedDisplaces -/
/-- Equals, and one that is more urgent. -/
structure Dis (p : Int) (m : Nat) (a : Bool) (S : Sd) : Prop where
  o : ∀ x : Int, 10 ≤ x → x < 10 + (m : Int) → sta S.L x = some (p, 0, true)
  u : sta S.L 50 = some (p + 1, 0, a)
  n : ∀ x y, sta S.L x = some y → (10 ≤ x ∧ x < 10 + (m : Int)) ∨ x = 50
theorem Dis.of {p : Int} {m : Nat} {a : Bool} {S S' : Sd} (h : Dis p m a S) (e : ∀ x, sta S'.L x = sta S.L x) : Dis p m a S' := ⟨fun x h0 h1 => by rw [e]; exact h.o x h0 h1, by rw [e]; exact h.u, fun x y hy => h.n x y (by rw [← e]; exact hy)⟩
theorem AddA.dis {p : Int} {m : Nat} {S : Sd} (h : AddA p m S) (hm : m ≤ 8) (hp : 0 ≤ p ∧ p ≤ 62) : addE S 50 (p + 1) 0 = 0 ∧ Dis p m false (addS S 50 (p + 1) 0) ∧ OneT 0 (addS S 50 (p + 1) 0) := by
  obtain ⟨e1, _, kk, _, c2, c3, c4, _⟩ := aw_one (S := S) 50 (p + 1) 0 (by omega) (by omega) (by omega) (h.n 50 (by omega))
  refine ⟨e1, ⟨fun x h0 h1 => ?_, ?_, fun x y hy => ?_⟩, ⟨by rw [c2]; exact h.t.tb, by rw [c3]; exact h.t.tn, by rw [c4]; exact h.t.lf⟩⟩
  · unfold sta
    rw [kk, if_neg (by omega), h.o x h0 h1]
    rfl
  · unfold sta
    rw [kk, if_pos rfl]
    rfl
  · by_cases e : x = 50
    · exact Or.inr e
    · left
      unfold sta at hy
      rw [kk, if_neg e] at hy
      exact Classical.byContradiction fun hh => by
        rw [h.n x (by omega)] at hy
        cases hy
theorem Dis.run {p : Int} {m : Nat} {S : Sd} (h : Dis p m false S) : Dis p m false (ticS (setS S)) := h.of fun x => (sta_tic _ x).trans (sta_set S x)

/-- All that the law asks behind its ticks. -/
theorem dis_end {p : Int} {m : Nat} {i : Nat} {S : Sd} (ok : Ok S) (h : Dis p m false S) (ht : OneT i S) (hm : 1 ≤ m ∧ m ≤ 8) (hp : 0 ≤ p ∧ p ≤ 62) :
    0 ≤ (setS S).c ∧ (setS S).c ≤ 1023 ∧ thrE (setS S) 50 = 0 ∧ (setS (wakS (setS S) 50)).c = 50 ∧ (∃ l, reaL (setS (wakS (setS S) 50)) 0 p = (setS S).c :: l ∧ l.length + 1 = m) ∧ (thrC (setS (wakS (setS S) 50)) (setS S).c).s = (thrC (setS S) (setS S).c).s ∧ thrE (setS (wakS (setS S) 50)) 50 = 0 ∧ (setS (stoS (setS (wakS (setS S) 50)) 50)).c = (setS S).c := by
  have hpe := ht.pe
  obtain ⟨t0, f0, _, d0, a0⟩ := sta_some (h.o 10 (by omega) (by omega))
  obtain ⟨hc, t, ft, at', dt, hz⟩ := settled_some ok f0 a0 (by rw [d0, hpe])
  have ok1 := ok_settle ok
  have h1 : Dis p m false (setS S) := h.of (sta_set S)
  have hpe1 : pe (setS S) = 0 := by rw [pe_set]; exact hpe
  have ft1 : fnd (setS S).L (setS S).c = some t := by rw [(setS_rest S).2.2.2]; exact ft
  rw [hpe] at hz
  clear ok h ft f0 d0 a0 hpe dt ht
  generalize setS S = A at *
  obtain ⟨u, fu, up, ud, ua⟩ := sta_some h1.u
  have cpos := fnd_pos ok1.q.gl ft1
  have hcw : 10 ≤ A.c ∧ A.c < 10 + (m : Int) := by
    rcases h1.n _ _ (sta_of ft1) with e | e
    · exact e
    · rw [e, fu] at ft1
      cases ft1
      rw [ua] at at'
      cases at'
  have tp : t.p = p ∧ t.d = 0 := by
    have := sta_of ft1
    rw [h1.o _ hcw.1 hcw.2] at this
    simp only [Option.some.injEq, Prod.mk.injEq] at this
    exact ⟨this.1.symm, this.2.1.symm⟩
  -- it wakes
  have e2 : wakS A 50 = app { A with L := upd A.L 50 (setA true) } u gEnd := by
    unfold wakS
    rw [fu]
    dsimp only
    rw [ua]
    rfl
  have ok2 := ok_wake ok1 50
  have fnd2 : ∀ x, fnd (wakS A 50).L x = if x = 50 then some (setA true u) else fnd A.L x := fun x => by
    rw [e2]
    show fnd (upd A.L 50 (setA true)) x = _
    rw [fnd_upd1 _ _ (f := setA true) (fun _ => rfl), fu]
    rfl
  have c2 : (wakS A 50).c = A.c := by rw [e2]; rfl
  have pe2 : pe (wakS A 50) = 0 := by rw [e2]; exact hpe1
  have ui : u.i = 50 := fnd_i' fu
  have sta2 : Dis p m true (wakS A 50) := by
    refine ⟨fun x a b => ?_, ?_, fun x y hy => ?_⟩
    · unfold sta
      rw [fnd2, if_neg (by omega)]
      exact h1.o x a b
    · unfold sta
      rw [fnd2, if_pos rfl]
      show some (u.p, u.d, true) = _
      rw [up, ud]
    · by_cases e : x = 50
      · exact Or.inr e
      · unfold sta at hy
        rw [fnd2, if_neg e] at hy
        exact h1.n x y hy
  have thr1 : thrE A 50 = 0 := by unfold thrE; rw [fu]
  have f2c : fnd (wakS A 50).L (wakS A 50).c = some t := by rw [c2, fnd2, if_neg (by omega)]; exact ft1
  have th2 : thrC (wakS A 50) A.c = t ∧ thrC A A.c = t := by
    unfold thrC
    rw [c2] at f2c
    rw [f2c, ft1]
    exact ⟨rfl, rfl⟩
  clear e2
  generalize wakS A 50 = B at *
  have cu2 : curT B = t := by unfold curT; rw [f2c]; rfl
  have u50 : fnd B.L 50 = some (setA true u) := by rw [fnd2, if_pos rfl]
  -- who would run first is it
  have hq50 : (50 : Int) ∈ B.q (ky 0 (p + 1)) := (ok2.q.qi.mem _ _).2 ⟨by rw [c2]; omega, _, u50, rfl, by show ky u.d u.p = _; rw [up, ud]⟩
  have hu : urg B 0 64 = some 50 := by
    cases hh : urg B 0 64 with
    | none =>
      have := urg_none hh (p + 1).toNat (by omega)
      have e : ky 0 (p + 1) = (0 : Int).toNat * 64 + (p + 1).toNat := rfl
      rw [← e] at this
      rw [this] at hq50
      cases hq50
    | some x =>
      obtain ⟨tx, fx, ax, dx, nx, _, zx⟩ := urg_is ok2.q (by omega) hh
      have := sta_of fx
      rcases sta2.n _ _ this with e | e
      · rw [sta2.o x e.1 e.2] at this
        simp only [Option.some.injEq, Prod.mk.injEq] at this
        rw [zx (p + 1) (by omega) (by omega)] at hq50
        cases hq50
      · rw [e]
  have e3 : setS B = { app (back B gFront) (setA true u) gOut with c := 50 } := by
    unfold setS
    rw [if_neg (fun e => e.2 (by rw [cu2, pe2]; exact tp.2))]
    unfold sett
    rw [pe2, hu]
    dsimp only
    rw [if_neg (by rw [c2]; omega), u50]
    have : ¬ (setA true u).p ≤ (curT B).p := by
      rw [cu2, tp.1]
      show ¬ u.p ≤ p
      rw [up]
      omega
    exact if_neg this
  have ok3 := ok_settle ok2
  have c3 : (setS B).c = 50 := by rw [e3]
  have q3 : (setS B).q (ky 0 p) = A.c :: B.q (ky 0 p) := by
    rw [e3]
    show uq (uq B.q (ky (curT B).d (curT B).p) (gFront (curT B).i)) (ky u.d u.p) (gOut u.i) (ky 0 p) = _
    rw [cu2, tp.1, tp.2, up, ud, uq_other, uq_same]
    · unfold gFront
      rw [fnd_i' f2c, c2]
    · intro e
      have := ky_inj (by omega) (by omega) (by omega) (by omega) e
      omega
  have L3 : (setS B).L = B.L := (setS_rest B).2.2.2
  have pe3 : pe (setS B) = 0 := by rw [pe_set]; exact pe2
  clear e3
  generalize setS B = C at *
  have hr : reaL C 0 p = C.q (ky 0 p) := by unfold reaL; rw [if_pos (by omega)]
  have hlen : (C.q (ky 0 p)).length = m := len_of (ok3.q.qi.nd _) fun x => by
    rw [ok3.q.qi.mem, mem_ids, c3]
    unfold rr
    rw [L3]
    constructor
    · rintro ⟨n5, tx, fx, ax, kx⟩
      rcases sta2.n _ _ (sta_of fx) with e | e
      · exact e
      · exact absurd e n5
    · intro e
      obtain ⟨tx, fx, px, dx, ax⟩ := sta_some (sta2.o x e.1 e.2)
      exact ⟨by omega, tx, fx, ax, by rw [px, dx]⟩
  have thC : thrC C A.c = t := by unfold thrC; rw [L3, ← c2, f2c]; rfl
  have f3u : fnd C.L 50 = some (setA true u) := by rw [L3]; exact u50
  -- it stops
  have e4 : stoS C 50 = { C with c := -1, L := upd C.L 50 (setA false) } := by
    unfold stoS
    rw [f3u]
    dsimp only
    have : rdy C (setA true u) = false := by
      unfold rdy
      show (true && !(u.i == C.c)) = false
      rw [ui, c3]
      rfl
    rw [this, if_pos c3]
    rfl
  have ok4 := ok_stop ok3 50
  have fnd4 : ∀ x, fnd (stoS C 50).L x = if x = 50 then some (setA false (setA true u)) else fnd B.L x := fun x => by
    rw [stoS_fnd1, f3u, L3]
    rfl
  have q4 : (stoS C 50).q (ky 0 p) = A.c :: B.q (ky 0 p) := by rw [e4]; exact q3
  have c4 : (stoS C 50).c = -1 := by rw [e4]
  have pe4 : pe (stoS C 50) = 0 := by rw [e4]; exact pe3
  clear e4
  generalize stoS C 50 = D at *
  have hu4 : urg D 0 64 = some A.c := by
    cases hh : urg D 0 64 with
    | none =>
      have := urg_none hh p.toNat (by omega)
      have e : ky 0 p = (0 : Int).toNat * 64 + p.toNat := rfl
      rw [← e, q4] at this
      cases this
    | some x =>
      obtain ⟨tx, fx, ax, dx, nx, ⟨l, ql⟩, zx⟩ := urg_is ok4.q (by omega) hh
      have nx5 : x ≠ 50 := by
        rintro rfl
        rw [fnd4, if_pos rfl] at fx
        cases fx
        cases ax
      rw [fnd4, if_neg nx5] at fx
      have := sta_of fx
      rcases sta2.n _ _ this with e | e
      · rw [sta2.o x e.1 e.2] at this
        simp only [Option.some.injEq, Prod.mk.injEq] at this
        rw [dx, ← this.1, q4] at ql
        simp only [List.cons.injEq] at ql
        rw [ql.1]
      · exact absurd e nx5
  have f4 : fnd D.L A.c = some t := by rw [fnd4, if_neg (by omega), ← c2]; exact f2c
  have c5 : (setS D).c = A.c := by
    unfold setS
    rw [if_neg (fun e => e.1 c4)]
    unfold sett
    rw [pe4, hu4]
    dsimp only
    rw [if_pos c4]
  refine ⟨cpos.1, cpos.2, thr1, c3, ⟨B.q (ky 0 p), by rw [hr]; exact q3, ?_⟩, by rw [thC, th2.2], by unfold thrE; rw [f3u], c5⟩
  rw [← hlen, q3]
  simp

end Go.Proofs.Ytipfgenbfnkpfaa
