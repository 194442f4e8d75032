/-
  What the document's row answers, and what an act does to it, held against the program's list, as plain data. No statement is proved here.
-/
import Derived.Test.YtjopmhidldemmaaCdtPreS
import Derived.Test.YtjopmhidldemmaaCdtBoth
namespace Go.Proofs.Ytjopmhidldemmaa
open Go.RowKit

section
variable {L : List On} {ro : List Nat} {F : List En}
theorem rrem_at {a : Rf} {k : Nat} {ok : On} (hf : fdR a L = some k) (hk : L[k]? = some ok) :
    (∀ (i : Nat) (o : On), L[i]? = some o → (rremL L a)[i]? = some ⟨o.a, if i ∈ ok.ks then ok.up else o.up, if ¬ ok.up < 0 ∧ i = ok.up.toNat then replR k ok.ks o.ks else o.ks, if i = k then true else o.go⟩) ∧ (rremL L a).length = L.length ∧ rremR L ro a = if ok.up < 0 then replR k ok.ks ro else ro := by
  have hU : upAt L k = ok.up := by unfold upAt; rw [hk]
  have hKs : ksAt L k = ok.ks := by unfold ksAt; rw [hk]
  obtain ⟨u, hu⟩ : ∃ u, u = ok.up := ⟨_, rfl⟩
  obtain ⟨p, hp⟩ : ∃ p, p = u.toNat := ⟨_, rfl⟩
  have hM : rremM L k = ups u ok.ks L := by unfold rremM; rw [hU, hKs, hu]
  have hat : ∀ (i : Nat) (o : On), L[i]? = some o → (ups u ok.ks L)[i]? = some (if i ∈ ok.ks then ⟨o.a, u, o.ks, o.go⟩ else o) := fun i o hi => ups_at u hi
  have hkp : ∀ op : On, L[p]? = some op → ksAt (ups u ok.ks L) p = op.ks := fun op hop => by
    unfold ksAt
    rw [hat p op hop]
    by_cases e : p ∈ ok.ks
    · simp only [if_pos e]
    · simp only [if_neg e]
  unfold rremL rremR
  simp only [hf, hU, hKs, hM, ← hu, ← hp]
  refine ⟨fun i o hi => ?_, ?_, trivial⟩
  · by_cases hu0 : u < 0
    · rw [if_pos hu0, setG_at (hat i o hi)]
      have hc : ¬ (¬ u < 0 ∧ i = p) := fun hh => hh.1 hu0
      simp only [if_neg hc]
      by_cases e1 : i ∈ ok.ks <;> by_cases e2 : i = k
      · simp only [if_pos e1, if_pos e2]
      · simp only [if_pos e1, if_neg e2]
      · simp only [if_neg e1, if_pos e2]
      · simp only [if_neg e1, if_neg e2]
    · rw [if_neg hu0, setG_at (setK_at (hat i o hi))]
      by_cases e3 : i = p
      · have hc : ¬ u < 0 ∧ i = p := ⟨hu0, e3⟩
        simp only [if_pos hc, if_pos e3]
        rw [hkp o (by rw [← e3]; exact hi)]
        by_cases e1 : i ∈ ok.ks <;> by_cases e2 : i = k
        · simp only [if_pos e1, if_pos e2]
        · simp only [if_pos e1, if_neg e2]
        · simp only [if_neg e1, if_pos e2]
        · simp only [if_neg e1, if_neg e2]
      · have hc : ¬ (¬ u < 0 ∧ i = p) := fun hh => e3 hh.2
        simp only [if_neg hc, if_neg e3]
        by_cases e1 : i ∈ ok.ks <;> by_cases e2 : i = k
        · simp only [if_pos e1, if_pos e2]
        · simp only [if_pos e1, if_neg e2]
        · simp only [if_neg e1, if_pos e2]
        · simp only [if_neg e1, if_neg e2]
  · rw [setG_len]
    split
    · rw [ups_len]
    · rw [setK_len, ups_len]
theorem Rel.rem (h : Rel L ro F) {a : Rf} {k : Nat} (hf : fdR a L = some k) (hw : ((remF a F).map (·.a)).Nodup) : Rel (rremL L a) (rremR L ro a) (remF a F) := by
  obtain ⟨ok, hk, hkg, rfl, _⟩ := fdR_some hf
  obtain ⟨hL', hlen, hro⟩ := rrem_at (ro := ro) hf hk
  refine ⟨?_, ?_, good_rem h.good ok.a, hw⟩
  · have hL : ∀ (x : Nat) (o : On), L[x]? = some o → o.go = false → x ≠ k → ∃ o' : On, (rremL L ok.a)[x]? = some o' ∧ o'.go = false ∧ o'.ks = replR k ok.ks o.ks ∧ o'.a = o.a := fun x o hx hg hxk => by
      refine ⟨_, hL' x o hx, ?_, ?_, rfl⟩
      · show (if x = k then true else o.go) = false
        rw [if_neg hxk]; exact hg
      · show (if ¬ ok.up < 0 ∧ x = ok.up.toNat then replR k ok.ks o.ks else o.ks) = _
        by_cases hc : ¬ ok.up < 0 ∧ x = ok.up.toNat
        · rw [if_pos hc]
        · rw [if_neg hc, replR_none]
          intro hm
          obtain ⟨c, h1, h2, _⟩ := (h.good.ks x o hx hg).2 k hm
          rw [hk] at h1
          cases h1
          exact hc ⟨by omega, by omega⟩
    have := Pre.remS h.uq hk hkg hL h.pre h.nd
    rw [hro]
    split
    · exact this
    · rename_i hu0
      rw [replR_none (l := ro) (fun hm => by
        obtain ⟨c, h1, h2, _⟩ := h.good.rt.2 k hm
        rw [hk] at h1
        cases h1
        exact hu0 h2)] at this
      exact this
  · refine h.uq.turn id (fun x o' hx hg => ?_) (fun x y o p _ _ _ _ he => he)
    have hi : x < L.length := by rw [← hlen]; exact some_lt hx
    rw [hL' x _ (List.getElem?_eq_getElem hi)] at hx
    cases hx
    refine ⟨L[x], List.getElem?_eq_getElem hi, ?_, rfl⟩
    have hg' : (if x = k then true else L[x].go) = false := hg
    split at hg'
    · cases hg'
    · exact hg'

/-! ### an act by both -/
theorem is_none {α : Type} {o : Option α} (h : o.isSome = false) : o = none := by cases o; rfl; cases h
theorem is_some {α : Type} {o : Option α} (h : o.isSome = true) : ∃ k, o = some k := by cases o; cases h; exact ⟨_, rfl⟩
theorem Rel.addSS (h : Rel L ro F) (a : Rf) : addE F a = raddE L a ∧ Rel (raddL L a) (raddR L ro a) (addS F a) := by
  have hh := h.has a
  unfold addE raddE raddL raddR addS
  cases hf : fdR a L with
  | none =>
    rw [hf] at hh
    have hh' : hasF F a = false := hh
    simp only [hh', if_true, if_false, Bool.false_eq_true]
    exact ⟨trivial, h.add hf⟩
  | some k =>
    rw [hf] at hh
    have hh' : hasF F a = true := hh
    simp only [hh', if_true, if_false, reduceCtorEq]
    exact ⟨trivial, h⟩
theorem Rel.kidSS (h : Rel L ro F) (hwf : Wf F) (p a : Rf) (ha : a.Ok) : kidE F p a = rkidE L p a ∧ Rel (rkidL L p a) ro (kidS F p a) := by
  have hp := h.has p
  have hh := h.has a
  unfold kidE rkidE rkidL kidS
  cases hfp : fdR p L with
  | none =>
    rw [hfp] at hp
    have hp' : hasF F p = false := hp
    simp only [hp', if_true, if_false, Bool.false_eq_true]
    exact ⟨trivial, h⟩
  | some k =>
    rw [hfp] at hp
    have hp' : hasF F p = true := hp
    obtain ⟨ok, hk, hkg, hka, _⟩ := fdR_some hfp
    cases hf : fdR a L with
    | none =>
      rw [hf] at hh
      have hh' : hasF F a = false := hh
      simp only [hp', hh', if_true, if_false, Bool.false_eq_true, reduceCtorEq, hk]
      have hw := (wf_kid hwf ha hp' hh').nd
      rw [← hka] at hw ⊢
      exact ⟨trivial, h.kid hk hkg hf hw⟩
    | some j =>
      rw [hf] at hh
      have hh' : hasF F a = true := hh
      simp only [hp', hh', if_true, if_false, reduceCtorEq]
      exact ⟨trivial, h⟩
theorem Rel.remSS (h : Rel L ro F) (hwf : Wf F) (a : Rf) : remE F a = rremE L a ∧ Rel (rremL L a) (rremR L ro a) (remF a F) := by
  have hh := h.has a
  unfold remE rremE
  cases hf : fdR a L with
  | none =>
    rw [hf] at hh
    have hh' : hasF F a = false := hh
    rw [rem_none hh']
    unfold rremL rremR
    simp only [hf, hh', if_true, if_false, Bool.false_eq_true]
    exact ⟨trivial, h⟩
  | some k =>
    rw [hf] at hh
    have hh' : hasF F a = true := hh
    refine ⟨by simp [hh'], h.rem hf (wf_rem hwf a).nd⟩
theorem Rel.movSS (h : Rel L ro F) (hwf : Wf F) (a b : Rf) (hb : b.Ok) : movE F a b = rmovE L a b ∧ Rel (rmovL L a b) ro (movS F a b) := by
  have hp := h.has a
  have hh := h.has b
  unfold movE rmovE rmovL movS
  cases hfp : fdR a L with
  | none =>
    rw [hfp] at hp
    have hp' : hasF F a = false := hp
    simp only [hp', if_true, if_false, Bool.false_eq_true]
    exact ⟨trivial, h⟩
  | some k =>
    rw [hfp] at hp
    have hp' : hasF F a = true := hp
    obtain ⟨ok, hk, hkg, hka, _⟩ := fdR_some hfp
    cases hf : fdR b L with
    | none =>
      rw [hf] at hh
      have hh' : hasF F b = false := hh
      simp only [hp', hh', if_true, if_false, Bool.false_eq_true, reduceCtorEq]
      have hw := (wf_mov (a := a) hwf hb hh').nd
      rw [← hka] at hw ⊢
      exact ⟨trivial, h.mov hk hkg hf hw⟩
    | some j =>
      rw [hf] at hh
      have hh' : hasF F b = true := hh
      simp only [hp', hh', if_true, if_false, reduceCtorEq]
      exact ⟨trivial, h⟩
theorem Rel.swpSS (h : Rel L ro F) (hwf : Wf F) (a b : Rf) (ha : a.Ok) (hb : b.Ok) : swpE F a b = rswpE L a b ∧ Rel (rswpL L a b) ro (swpS F a b) := by
  have hp := h.has a
  have hh := h.has b
  unfold swpE rswpE rswpL swpS
  cases hfp : fdR a L with
  | none =>
    rw [hfp] at hp
    have hp' : hasF F a = false := hp
    simp only [hp', Bool.false_and, if_true, if_false, Bool.false_eq_true]
    exact ⟨trivial, h⟩
  | some k =>
    rw [hfp] at hp
    have hp' : hasF F a = true := hp
    obtain ⟨ok, hk, hkg, hka, _⟩ := fdR_some hfp
    cases hf : fdR b L with
    | none =>
      rw [hf] at hh
      have hh' : hasF F b = false := hh
      simp only [hp', hh', Bool.and_false, if_true, if_false, Bool.false_eq_true, reduceCtorEq]
      exact ⟨trivial, h⟩
    | some j =>
      rw [hf] at hh
      have hh' : hasF F b = true := hh
      obtain ⟨oj, hj, hjg, hja, _⟩ := fdR_some hf
      simp only [hp', hh', Bool.and_true, if_true, if_false, reduceCtorEq]
      have hw := (wf_swp hwf ha hb).nd
      rw [← hka, ← hja] at hw ⊢
      exact ⟨trivial, h.swp hk hkg hj hjg hw⟩

/-! ### the answers -/
def dpF (L : List On) (F : List En) (x : Nat) : Nat := match L[x]? with
  | some o => (depF o.a F).toNat
  | none => 0
theorem dep_ge (hst : Wf F) {a : Rf} (h : hasF F a = true) : 0 ≤ depF a F ∧ depF a F < F.length := by
  obtain ⟨A, e, C, rfl, rfl, hA⟩ := has_split h
  rw [dep_at hA]
  have h1 := hst.st.ge e (by simp)
  have h2 := hst.st.le e (by simp)
  exact ⟨h1, by omega⟩
theorem Rel.dp (h : Rel L ro F) (hwf : Wf F) (hl : F.length ≤ 1000) : Dp L (dpF L F) := by
  intro k o hk hg
  have hh := h.all hk hg
  have hge := dep_ge hwf hh
  have e1 : dpF L F k = (depF o.a F).toNat := by unfold dpF; rw [hk]
  refine ⟨by omega, ?_⟩
  by_cases hu : o.up < 0
  · refine Or.inl ⟨hu, ?_⟩
    rw [e1, h.pre.dep h.nd k o (h.good.cr k o hk hg hu) hk]
    rfl
  · obtain ⟨c, hc, hcg, hck⟩ := h.good.pa k o hk hg (by omega)
    refine Or.inr ⟨o.up.toNat, c, by omega, hc, hcg, ?_⟩
    have e2 : dpF L F o.up.toNat = (depF c.a F).toNat := by unfold dpF; rw [hc]
    have e3 := h.pre.depk h.nd h.uq hc hcg hck hk (h.all hc hcg)
    have := dep_ge hwf (h.all hc hcg)
    omega
theorem Rel.depth (h : Rel L ro F) (hwf : Wf F) (a : Rf) : rdepF (dpF L F) a L = depF a F := by
  unfold rdepF
  cases hf : fdR a L with
  | none => exact (dep_none (h.no hf)).symm
  | some k =>
    obtain ⟨o, hk, hg, rfl, _⟩ := fdR_some hf
    have e1 : dpF L F k = (depF o.a F).toNat := by unfold dpF; rw [hk]
    have := dep_ge hwf (h.all hk hg)
    show ((dpF L F k : Nat) : Int) = _
    omega

def rparF (L : List On) (a : Rf) : Rf × Bool := match fdR a L with
  | none => (rf0, false)
  | some k => if upAt L k < 0 then (rf0, false) else match L[(upAt L k).toNat]? with
    | some c => (c.a, true)
    | none => (rf0, false)
theorem Rel.parent (h : Rel L ro F) (a : Rf) : rparF L a = parF a [] F := by
  unfold rparF
  cases hf : fdR a L with
  | none => exact (par_none [] (h.no hf)).symm
  | some k =>
    obtain ⟨o, hk, hg, rfl, _⟩ := fdR_some hf
    have hU : upAt L k = o.up := by unfold upAt; rw [hk]
    show (if upAt L k < 0 then (rf0, false) else match L[(upAt L k).toNat]? with | some c => (c.a, true) | none => (rf0, false)) = _
    rw [hU]
    by_cases hu : o.up < 0
    · rw [if_pos hu, h.pre.par h.nd [] k o (h.good.cr k o hk hg hu) hk]
      rfl
    · obtain ⟨c, hc, hcg, hck⟩ := h.good.pa k o hk hg (by omega)
      rw [if_neg hu, hc, h.pre.park h.nd h.uq hc hcg hck hk (h.all hc hcg) [] (Int.le_refl _)]
theorem anc_has (h : Rel L ro F) {D : Nat → Nat} (hD : Dp L D) {x : Nat} {ox : On} (hx : L[x]? = some ox) (hxg : ox.go = false) {d' : Int} {G : List En} (hG : Pre L d' ox.ks G) :
    ∀ (n y : Nat) (oy : On), D y = n → L[y]? = some oy → oy.go = false → (ancB L x (D y) y = true ↔ hasF G oy.a = true) := by
  intro n
  induction n with
  | zero =>
    intro y oy hn hy hyg
    rcases anc_step hD (x := x) hy hyg with ⟨h1, h2, _⟩ | ⟨p, o', h1, h2, h3, h4, h5⟩
    · rw [h2]
      refine ⟨fun hh => (by cases hh), fun hh => ?_⟩
      exfalso
      rcases hG.kin h.uq hy hyg hh with hm | ⟨p, op, g1, g2, g3, _⟩
      · obtain ⟨c, hc, hcu, _⟩ := (h.good.ks x ox hx hxg).2 y hm
        rw [hy] at hc
        cases hc
        omega
      · obtain ⟨c, hc, hcu, _⟩ := (h.good.ks p op g1 g2).2 y g3
        rw [hy] at hc
        cases hc
        omega
    · omega
  | succ n ih =>
    intro y oy hn hy hyg
    rcases anc_step hD (x := x) hy hyg with ⟨h1, h2, h3⟩ | ⟨p, o', h1, h2, h3, h4, h5⟩
    · omega
    · have hip := ih p o' (by omega) h2 h3
      obtain ⟨c, hc, hcg, hck⟩ := h.good.pa y oy hy hyg (by omega)
      have ep : oy.up.toNat = p := by omega
      rw [ep, h2] at hc
      cases hc
      rw [h5, Bool.or_eq_true, decide_eq_true_eq]
      constructor
      · rintro (rfl | hh)
        · rw [hx] at h2
          cases h2
          exact hG.has hck hy
        · exact hG.kid h.uq h2 h3 hck hy (hip.1 hh)
      · intro hh
        rcases hG.kin h.uq hy hyg hh with hm | ⟨q, oq, g1, g2, g3, g4⟩
        · obtain ⟨c, hc, hcu, _⟩ := (h.good.ks x ox hx hxg).2 y hm
          rw [hy] at hc
          cases hc
          exact Or.inl (by omega)
        · obtain ⟨c, hc, hcu, _⟩ := (h.good.ks q oq g1 g2).2 y g3
          rw [hy] at hc
          cases hc
          obtain rfl : q = p := by omega
          rw [h2] at g1
          cases g1
          exact Or.inr (hip.2 g4)
theorem Rel.below (h : Rel L ro F) (hwf : Wf F) (hl : F.length ≤ 1000) (a b : Rf) : rbelF (dpF L F) L a b = belF a b F := by
  unfold rbelF belF
  cases hfa : fdR a L with
  | none =>
    rw [des_none (h.no hfa)]
    simp
  | some x =>
    obtain ⟨ox, hx, hxg, rfl, _⟩ := fdR_some hfa
    obtain ⟨d', G, g1, g2, _⟩ := h.pre.des h.nd h.uq hx hxg (h.all hx hxg)
    rw [g2]
    cases hfb : fdR b L with
    | none =>
      show false = _
      symm
      rw [decide_eq_false_iff_not, ← has_mem]
      intro hh
      obtain ⟨y, oy, h1, h2, rfl⟩ := g1.live b hh
      rw [h.fd h1 h2] at hfb
      cases hfb
    | some y =>
      obtain ⟨oy, hy, hyg, rfl, _⟩ := fdR_some hfb
      have := anc_has h (h.dp hwf hl) hx hxg g1 _ y oy rfl hy hyg
      show ancB L x (dpF L F y) y = _
      rw [has_mem] at this
      by_cases e : ancB L x (dpF L F y) y = true
      · rw [e]; symm; exact decide_eq_true (this.1 e)
      · have e' : ancB L x (dpF L F y) y = false := by simpa using e
        rw [e']; symm; exact decide_eq_false (fun hh => e (this.2 hh))
end

end Go.Proofs.Ytjopmhidldemmaa
