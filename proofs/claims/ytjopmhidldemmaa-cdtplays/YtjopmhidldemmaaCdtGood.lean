/-
  The document's row stays right behind every act, as plain data. No statement is proved here.
-/
import Derived.Test.YtjopmhidldemmaaCdtRefD
import Derived.Test.YtjopmhidldemmaaCdtRefAdd
import Derived.Test.YtjopmhidldemmaaCdtSwA
namespace Go.Proofs.Ytjopmhidldemmaa
open Go.RowKit

/-- A right row: children and parents tell the same; a parent stands ahead of its children. -/
structure GoodR (L : List On) (ro : List Nat) : Prop where
  up : ∀ (x : Nat) (o : On), L[x]? = some o → o.up < (x : Int)
  ks : ∀ (p : Nat) (o : On), L[p]? = some o → o.go = false → o.ks.Nodup ∧ ∀ x ∈ o.ks, ∃ c : On, L[x]? = some c ∧ c.up = (p : Int) ∧ c.go = false
  rt : ro.Nodup ∧ ∀ x ∈ ro, ∃ c : On, L[x]? = some c ∧ c.up < 0 ∧ c.go = false
  pa : ∀ (x : Nat) (o : On), L[x]? = some o → o.go = false → 0 ≤ o.up → ∃ c : On, L[o.up.toNat]? = some c ∧ c.go = false ∧ x ∈ c.ks
  cr : ∀ (x : Nat) (o : On), L[x]? = some o → o.go = false → o.up < 0 → x ∈ ro

theorem good_nil : GoodR [] [] := ⟨fun _ _ h => by simp at h, fun _ _ h => by simp at h, ⟨List.nodup_nil, fun _ h => by cases h⟩, fun _ _ h => by simp at h, fun _ _ h => by simp at h⟩
theorem nodup_len : ∀ {n : Nat} {l : List Nat}, l.Nodup → (∀ x ∈ l, x < n) → l.length ≤ n
  | 0, l, _, hl => by
    cases l with
    | nil => simp
    | cons x l => have := hl x (by simp); omega
  | n + 1, l, h, hl => by
    by_cases hm : n ∈ l
    · have hp := List.perm_cons_erase hm
      have h1 : (l.erase n).length ≤ n := nodup_len (h.erase n) (fun x hx => by
        have h2 := hl x (List.mem_of_mem_erase hx)
        have h3 : x ≠ n := fun e => by subst e; exact h.not_mem_erase hx
        omega)
      have := hp.length_eq
      simp at this
      omega
    · have := nodup_len (n := n) h (fun x hx => by
        have h2 := hl x hx
        have h3 : x ≠ n := fun e => hm (by rw [← e]; exact hx)
        omega)
      omega

theorem some_lt {L : List On} {i : Nat} {o : On} (h : L[i]? = some o) : i < L.length := (List.getElem?_eq_some_iff.1 h).1
theorem GoodR.kl {L : List On} {ro : List Nat} (h : GoodR L ro) {p : Nat} {o : On} (hp : L[p]? = some o) (hg : o.go = false) : o.ks.length ≤ L.length :=
  nodup_len (h.ks p o hp hg).1 (fun x hx => by obtain ⟨c, hc, _⟩ := (h.ks p o hp hg).2 x hx; exact some_lt hc)
theorem GoodR.rl {L : List On} {ro : List Nat} (h : GoodR L ro) : ro.length ≤ L.length :=
  nodup_len h.rt.1 (fun x hx => by obtain ⟨c, hc, _⟩ := h.rt.2 x hx; exact some_lt hc)
theorem GoodR.rem {L : List On} {ro : List Nat} (h : GoodR L ro) (hL : L.length ≤ 1000) (a : Rf) : RemOk L ro a where
  up k o hf ho := by
    obtain ⟨o', ho', hg, _⟩ := fdR_some hf
    rw [ho] at ho'
    cases ho'
    have h1 := h.up k o ho
    have h2 := some_lt ho
    refine ⟨by omega, by have := h.kl ho hg; omega, fun x hx => ?_⟩
    obtain ⟨c, hc, _⟩ := (h.ks k o ho hg).2 x hx
    exact some_lt hc
  pk k o p hf ho hu hp := by
    obtain ⟨o', ho', hg, _⟩ := fdR_some hf
    rw [ho] at ho'
    cases ho'
    obtain ⟨c, hc, hcg, _⟩ := h.pa k o ho hg hu
    rw [hp] at hc
    cases hc
    have := h.kl hp hcg
    omega
  ro := by have := h.rl; omega

/-- Names alone turned. -/
theorem good_names {L L' : List On} {ro : List Nat} (h : GoodR L ro) (hb : ∀ (i : Nat) (o : On), L[i]? = some o → ∃ o' : On, L'[i]? = some o' ∧ o'.up = o.up ∧ o'.ks = o.ks ∧ o'.go = o.go) (hl : L'.length = L.length) : GoodR L' ro := by
  have hf : ∀ (i : Nat) (o' : On), L'[i]? = some o' → ∃ o : On, L[i]? = some o ∧ o'.up = o.up ∧ o'.ks = o.ks ∧ o'.go = o.go := fun i o' ho' => by
    have hi : i < L.length := by rw [← hl]; exact some_lt ho'
    obtain ⟨o2, h2, r⟩ := hb i L[i] (List.getElem?_eq_getElem hi)
    rw [ho'] at h2
    cases h2
    exact ⟨L[i], List.getElem?_eq_getElem hi, r⟩
  refine ⟨fun x o' ho' => ?_, fun p o' ho' hg => ?_, ⟨h.rt.1, fun x hx => ?_⟩, fun x o' ho' hg hu => ?_, fun x o' ho' hg hu => ?_⟩
  · obtain ⟨o, ho, e, _⟩ := hf x o' ho'
    rw [e]
    exact h.up x o ho
  · obtain ⟨o, ho, _, e2, e3⟩ := hf p o' ho'
    rw [e2]
    refine ⟨(h.ks p o ho (by rw [← e3]; exact hg)).1, fun x hx => ?_⟩
    obtain ⟨c, hc, hcu, hcg⟩ := (h.ks p o ho (by rw [← e3]; exact hg)).2 x hx
    obtain ⟨c', hc', e5, _, e7⟩ := hb x c hc
    exact ⟨c', hc', by rw [e5]; exact hcu, by rw [e7]; exact hcg⟩
  · obtain ⟨c, hc, hcu, hcg⟩ := h.rt.2 x hx
    obtain ⟨c', hc', e5, _, e7⟩ := hb x c hc
    exact ⟨c', hc', by rw [e5]; exact hcu, by rw [e7]; exact hcg⟩
  · obtain ⟨o, ho, e1, _, e3⟩ := hf x o' ho'
    obtain ⟨c, hc, hcg, hcx⟩ := h.pa x o ho (by rw [← e3]; exact hg) (by rw [← e1]; exact hu)
    obtain ⟨c', hc', _, e6, e7⟩ := hb _ c hc
    exact ⟨c', by rw [e1]; exact hc', by rw [e7]; exact hcg, by rw [e6]; exact hcx⟩
  · obtain ⟨o, ho, e1, _, e3⟩ := hf x o' ho'
    exact h.cr x o ho (by rw [← e3]; exact hg) (by rw [← e1]; exact hu)
theorem ren_names {L : List On} (k : Nat) (b : Rf) : ∀ (i : Nat) (o : On), L[i]? = some o → ∃ o' : On, (renR L k b)[i]? = some o' ∧ o'.up = o.up ∧ o'.ks = o.ks ∧ o'.go = o.go := by
  intro i o hi
  unfold renR
  split
  · rename_i ok hk
    by_cases e : k = i
    · subst e
      rw [hi] at hk
      cases hk
      exact ⟨_, List.getElem?_set_self (some_lt hi), rfl, rfl, rfl⟩
    · exact ⟨o, by rw [List.getElem?_set_ne e]; exact hi, rfl, rfl, rfl⟩
  · exact ⟨o, hi, rfl, rfl, rfl⟩
theorem good_ren {L : List On} {ro : List Nat} (h : GoodR L ro) (k : Nat) (b : Rf) : GoodR (renR L k b) ro := good_names h (ren_names k b) (renR_len L k b)

theorem good_add {L : List On} {ro : List Nat} (h : GoodR L ro) (a : Rf) : GoodR (L ++ [⟨a, -1, [], false⟩]) (L.length :: ro) := by
  have hb : ∀ (i : Nat) (o : On), L[i]? = some o → (L ++ [⟨a, -1, [], false⟩] : List On)[i]? = some o := fun i o hi => by rw [List.getElem?_append_left (some_lt hi)]; exact hi
  have hf : ∀ (i : Nat) (o : On), (L ++ [⟨a, -1, [], false⟩] : List On)[i]? = some o → L[i]? = some o ∨ (i = L.length ∧ o = ⟨a, -1, [], false⟩) := fun i o hi => by
    by_cases e : i < L.length
    · rw [List.getElem?_append_left e] at hi; exact Or.inl hi
    · have : i = L.length := by have := some_lt hi; simp at this; omega
      subst this
      rw [List.getElem?_append_right (Nat.le_refl _), Nat.sub_self] at hi
      cases hi
      exact Or.inr ⟨rfl, rfl⟩
  refine ⟨fun x o ho => ?_, fun p o ho hg => ?_, ⟨List.nodup_cons.2 ⟨fun hm => ?_, h.rt.1⟩, fun x hx => ?_⟩, fun x o ho hg hu => ?_, fun x o ho hg hu => ?_⟩
  · rcases hf x o ho with ho | ⟨rfl, rfl⟩
    · exact h.up x o ho
    · show (-1 : Int) < _; omega
  · rcases hf p o ho with ho | ⟨rfl, rfl⟩
    · refine ⟨(h.ks p o ho hg).1, fun x hx => ?_⟩
      obtain ⟨c, hc, r⟩ := (h.ks p o ho hg).2 x hx
      exact ⟨c, hb x c hc, r⟩
    · exact ⟨List.nodup_nil, fun x hx => by cases hx⟩
  · obtain ⟨c, hc, _⟩ := h.rt.2 _ hm
    have := some_lt hc
    omega
  · rcases List.mem_cons.1 hx with rfl | hx
    · exact ⟨_, by rw [List.getElem?_append_right (Nat.le_refl _), Nat.sub_self]; rfl, by show (-1 : Int) < 0; omega, rfl⟩
    · obtain ⟨c, hc, r⟩ := h.rt.2 x hx
      exact ⟨c, hb x c hc, r⟩
  · rcases hf x o ho with ho | ⟨rfl, rfl⟩
    · obtain ⟨c, hc, r⟩ := h.pa x o ho hg hu
      exact ⟨c, hb _ c hc, r⟩
    · have : (0 : Int) ≤ -1 := hu
      omega
  · rcases hf x o ho with ho | ⟨rfl, rfl⟩
    · exact List.mem_cons_of_mem _ (h.cr x o ho hg hu)
    · exact List.mem_cons_self

theorem setK_at {L : List On} {k : Nat} {l : List Nat} {i : Nat} {o : On} (h : L[i]? = some o) : (setK L k l)[i]? = some (if i = k then ⟨o.a, o.up, l, o.go⟩ else o) := by
  unfold setK
  by_cases e : i = k
  · subst e
    rw [h, if_pos rfl]
    show (L.set i _)[i]? = _
    rw [List.getElem?_set_self (some_lt h)]
  · rw [if_neg e]
    split
    · rw [List.getElem?_set_ne (fun h => e h.symm)]; exact h
    · exact h
theorem setG_at {L : List On} {k : Nat} {i : Nat} {o : On} (h : L[i]? = some o) : (setG L k)[i]? = some (if i = k then ⟨o.a, o.up, o.ks, true⟩ else o) := by
  unfold setG
  by_cases e : i = k
  · subst e
    rw [h, if_pos rfl]
    show (L.set i _)[i]? = _
    rw [List.getElem?_set_self (some_lt h)]
  · rw [if_neg e]
    split
    · rw [List.getElem?_set_ne (fun h => e h.symm)]; exact h
    · exact h

theorem good_kid {L : List On} {ro : List Nat} (h : GoodR L ro) {k : Nat} {ok : On} (hk : L[k]? = some ok) (hkg : ok.go = false) (a : Rf) : GoodR (setK (L ++ [⟨a, (k : Int), [], false⟩]) k (L.length :: ok.ks)) ro := by
  have hkl := some_lt hk
  have hb : ∀ (i : Nat) (o : On), L[i]? = some o → (setK (L ++ [⟨a, (k : Int), [], false⟩]) k (L.length :: ok.ks))[i]? = some (if i = k then ⟨o.a, o.up, L.length :: ok.ks, o.go⟩ else o) := fun i o hi => setK_at (by rw [List.getElem?_append_left (some_lt hi)]; exact hi)
  have hn : (setK (L ++ [⟨a, (k : Int), [], false⟩]) k (L.length :: ok.ks))[L.length]? = some ⟨a, (k : Int), [], false⟩ := by
    have := setK_at (L := L ++ [⟨a, (k : Int), [], false⟩]) (k := k) (l := L.length :: ok.ks) (i := L.length) (o := ⟨a, (k : Int), [], false⟩) (by rw [List.getElem?_append_right (Nat.le_refl _), Nat.sub_self]; rfl)
    rw [if_neg (by omega)] at this
    exact this
  have hf : ∀ (i : Nat) (o : On), (setK (L ++ [⟨a, (k : Int), [], false⟩]) k (L.length :: ok.ks))[i]? = some o → (∃ o', L[i]? = some o' ∧ o = (if i = k then ⟨o'.a, o'.up, L.length :: ok.ks, o'.go⟩ else o')) ∨ (i = L.length ∧ o = ⟨a, (k : Int), [], false⟩) := fun i o hi => by
    by_cases e : i < L.length
    · refine Or.inl ⟨L[i], List.getElem?_eq_getElem e, ?_⟩
      rw [hb i _ (List.getElem?_eq_getElem e)] at hi
      exact (Option.some.inj hi).symm
    · have : i = L.length := by have := some_lt hi; rw [setK_len] at this; simp at this; omega
      subst this
      rw [hn] at hi
      cases hi
      exact Or.inr ⟨rfl, rfl⟩
  have keep : ∀ (x : Nat) (c : On), L[x]? = some c → ∃ c' : On, (setK (L ++ [⟨a, (k : Int), [], false⟩]) k (L.length :: ok.ks))[x]? = some c' ∧ c'.up = c.up ∧ c'.go = c.go := fun x c hc => by
    refine ⟨_, hb x c hc, ?_, ?_⟩ <;> split <;> rfl
  refine ⟨fun x o ho => ?_, fun p o ho hg => ?_, ⟨h.rt.1, fun x hx => ?_⟩, fun x o ho hg hu => ?_, fun x o ho hg hu => ?_⟩
  · rcases hf x o ho with ⟨o', ho', rfl⟩ | ⟨rfl, rfl⟩
    · have := h.up x o' ho'
      split <;> exact this
    · show (k : Int) < _; omega
  · rcases hf p o ho with ⟨o', ho', rfl⟩ | ⟨rfl, rfl⟩
    · by_cases e : p = k
      · subst e
        rw [if_pos rfl] at hg ⊢
        rw [hk] at ho'
        cases ho'
        have hh := h.ks p ok hk hkg
        refine ⟨List.nodup_cons.2 ⟨fun hm => ?_, hh.1⟩, fun x hx => ?_⟩
        · obtain ⟨c, hc, _⟩ := hh.2 _ hm
          have := some_lt hc
          omega
        · rcases List.mem_cons.1 hx with rfl | hx
          · exact ⟨_, hn, rfl, rfl⟩
          · obtain ⟨c, hc, h1, h2⟩ := hh.2 x hx
            obtain ⟨c', hc', e1, e2⟩ := keep x c hc
            exact ⟨c', hc', by rw [e1]; exact h1, by rw [e2]; exact h2⟩
      · rw [if_neg e] at hg ⊢
        refine ⟨(h.ks p o' ho' hg).1, fun x hx => ?_⟩
        obtain ⟨c, hc, h1, h2⟩ := (h.ks p o' ho' hg).2 x hx
        obtain ⟨c', hc', e1, e2⟩ := keep x c hc
        exact ⟨c', hc', by rw [e1]; exact h1, by rw [e2]; exact h2⟩
    · exact ⟨List.nodup_nil, fun x hx => by cases hx⟩
  · obtain ⟨c, hc, h1, h2⟩ := h.rt.2 x hx
    obtain ⟨c', hc', e1, e2⟩ := keep x c hc
    exact ⟨c', hc', by rw [e1]; exact h1, by rw [e2]; exact h2⟩
  · rcases hf x o ho with ⟨o', ho', rfl⟩ | ⟨rfl, rfl⟩
    · have q1 : o'.go = false := by split at hg <;> exact hg
      have q2 : 0 ≤ o'.up := by split at hu <;> exact hu
      obtain ⟨c, hc, r, rx⟩ := h.pa x o' ho' q1 q2
      have hc' := hb _ c hc
      have eu : (if x = k then (⟨o'.a, o'.up, L.length :: ok.ks, o'.go⟩ : On) else o').up = o'.up := by split <;> rfl
      rw [eu]
      refine ⟨_, hc', ?_, ?_⟩
      · split <;> exact r
      · by_cases e : o'.up.toNat = k
        · rw [if_pos e]
          rw [e, hk] at hc
          cases hc
          exact List.mem_cons_of_mem _ rx
        · rw [if_neg e]
          exact rx
    · have hc' := hb k ok hk
      rw [if_pos rfl] at hc'
      exact ⟨⟨ok.a, ok.up, L.length :: ok.ks, ok.go⟩, by simpa using hc', hkg, List.mem_cons_self⟩
  · rcases hf x o ho with ⟨o', ho', rfl⟩ | ⟨rfl, rfl⟩
    · exact h.cr x o' ho' (by split at hg <;> exact hg) (by split at hu <;> exact hu)
    · have : (k : Int) < 0 := hu
      omega

theorem repl_mem {k : Nat} {m l : List Nat} {x : Nat} : x ∈ replR k m l ↔ (x ∈ l ∧ x ≠ k) ∨ (k ∈ l ∧ x ∈ m) := by
  unfold replR
  rw [List.mem_flatMap]
  constructor
  · rintro ⟨y, hy, hx⟩
    split at hx
    · rename_i e
      subst e
      exact Or.inr ⟨hy, hx⟩
    · rename_i e
      rw [List.mem_singleton] at hx
      subst hx
      exact Or.inl ⟨hy, e⟩
  · rintro (⟨h1, h2⟩ | ⟨h1, h2⟩)
    · exact ⟨x, h1, by rw [if_neg h2]; exact List.mem_singleton.2 rfl⟩
    · exact ⟨k, h1, by rw [if_pos rfl]; exact h2⟩
theorem repl_nodup {k : Nat} {m : List Nat} (hm : m.Nodup) : ∀ {l : List Nat}, l.Nodup → (∀ x ∈ l, x ≠ k → x ∉ m) → (replR k m l).Nodup
  | [], _, _ => List.nodup_nil
  | y :: l, hl, h => by
    obtain ⟨h1, h2⟩ := List.nodup_cons.1 hl
    have ih := repl_nodup hm h2 (fun x hx => h x (List.mem_cons_of_mem _ hx))
    have e : replR k m (y :: l) = (if y = k then m else [y]) ++ replR k m l := by simp [replR]
    rw [e, List.nodup_append]
    refine ⟨by split; exact hm; simp, ih, fun a ha b hb => ?_⟩
    rintro rfl
    rw [repl_mem] at hb
    split at ha
    · rename_i e
      subst e
      rcases hb with ⟨h3, h4⟩ | ⟨h3, _⟩
      · exact h a (List.mem_cons_of_mem _ h3) h4 ha
      · exact h1 h3
    · rename_i e
      rw [List.mem_singleton] at ha
      subst ha
      rcases hb with ⟨h3, _⟩ | ⟨_, h4⟩
      · exact h1 h3
      · exact h a List.mem_cons_self e h4

theorem good_rem {L : List On} {ro : List Nat} (h : GoodR L ro) (a : Rf) : GoodR (rremL L a) (rremR L ro a) := by
  unfold rremL rremR
  cases hfa : fdR a L with
  | none => exact h
  | some k =>
    obtain ⟨ok, hk, hkg, _⟩ := fdR_some hfa
    have hU : upAt L k = ok.up := by unfold upAt; rw [hk]
    have hKs : ksAt L k = ok.ks := by unfold ksAt; rw [hk]
    have hku := h.up k ok hk
    have hkk := h.ks k ok hk hkg
    obtain ⟨u, hu⟩ : ∃ u, u = ok.up := ⟨_, rfl⟩
    obtain ⟨p, hp⟩ : ∃ p, p = ok.up.toNat := ⟨_, rfl⟩
    -- what stands where
    have hat : ∀ (i : Nat) (o : On), L[i]? = some o → (ups u ok.ks L)[i]? = some (if i ∈ ok.ks then ⟨o.a, u, o.ks, o.go⟩ else o) := fun i o hi => ups_at u hi
    have hM : rremM L k = ups u ok.ks L := by unfold rremM; rw [hU, hKs, hu]
    have hkp : ∀ op : On, L[p]? = some op → ksAt (ups u ok.ks L) p = op.ks := fun op hop => by
      unfold ksAt
      rw [hat p op hop]
      by_cases e : p ∈ ok.ks
      · simp only [if_pos e]
      · simp only [if_neg e]
    have hp' : p = u.toNat := by rw [hp, hu]
    simp only [hU, hKs, hM, ← hu, ← hp']
    have hL' : ∀ (i : Nat) (o : On), L[i]? = some o → (setG (if u < 0 then ups u ok.ks L else setK (ups u ok.ks L) p (replR k ok.ks (ksAt (ups u ok.ks L) p))) k)[i]? = some ⟨o.a, if i ∈ ok.ks then u else o.up, if ¬ u < 0 ∧ i = p then replR k ok.ks o.ks else o.ks, if i = k then true else o.go⟩ := fun i o hi => by
      by_cases hu0 : u < 0
      · rw [if_pos hu0, setG_at (hat i o hi)]
        have hc : ¬ (¬ u < 0 ∧ i = p) := fun hh => hh.1 hu0
        simp only [if_neg hc]
        by_cases e1 : i ∈ ok.ks <;> by_cases e2 : i = k
        · simp only [if_pos e1, if_pos e2]
        · simp only [if_pos e1, if_neg e2]
        · simp only [if_neg e1, if_pos e2]
        · simp only [if_neg e1, if_neg e2]
      · rw [if_neg hu0, setG_at (setK_at (hat i o hi))]
        by_cases e3 : i = p
        · have hc : ¬ u < 0 ∧ i = p := ⟨hu0, e3⟩
          simp only [if_pos hc, if_pos e3]
          rw [hkp o (by rw [← e3]; exact hi)]
          by_cases e1 : i ∈ ok.ks <;> by_cases e2 : i = k
          · simp only [if_pos e1, if_pos e2]
          · simp only [if_pos e1, if_neg e2]
          · simp only [if_neg e1, if_pos e2]
          · simp only [if_neg e1, if_neg e2]
        · have hc : ¬ (¬ u < 0 ∧ i = p) := fun hh => e3 hh.2
          simp only [if_neg hc, if_neg e3]
          by_cases e1 : i ∈ ok.ks <;> by_cases e2 : i = k
          · simp only [if_pos e1, if_pos e2]
          · simp only [if_pos e1, if_neg e2]
          · simp only [if_neg e1, if_pos e2]
          · simp only [if_neg e1, if_neg e2]
    have hlen : (setG (if u < 0 then ups u ok.ks L else setK (ups u ok.ks L) p (replR k ok.ks (ksAt (ups u ok.ks L) p))) k).length = L.length := by
      rw [setG_len]
      split
      · rw [ups_len]
      · rw [setK_len, ups_len]
    generalize (setG (if u < 0 then ups u ok.ks L else setK (ups u ok.ks L) p (replR k ok.ks (ksAt (ups u ok.ks L) p))) k) = L' at hL' hlen ⊢
    have hinv : ∀ (i : Nat) (o' : On), L'[i]? = some o' → ∃ o : On, L[i]? = some o ∧ o' = ⟨o.a, if i ∈ ok.ks then u else o.up, if ¬ u < 0 ∧ i = p then replR k ok.ks o.ks else o.ks, if i = k then true else o.go⟩ := fun i o' hi => by
      have hil : i < L.length := by rw [← hlen]; exact some_lt hi
      refine ⟨L[i], List.getElem?_eq_getElem hil, ?_⟩
      rw [hL' i _ (List.getElem?_eq_getElem hil)] at hi
      exact (Option.some.inj hi).symm
    -- of the children of k
    have hkid : ∀ x : Nat, x ∈ ok.ks → ∃ c : On, L[x]? = some c ∧ c.up = (k : Int) ∧ c.go = false ∧ x ≠ k ∧ k < x := fun x hx => by
      obtain ⟨c, hc, h1, h2⟩ := hkk.2 x hx
      have := h.up x c hc
      exact ⟨c, hc, h1, h2, by omega, by omega⟩
    have notkid : ∀ (x : Nat) (c : On), L[x]? = some c → c.up ≠ (k : Int) → x ∉ ok.ks := fun x c hc hn hx => by
      obtain ⟨c', hc', h1, _⟩ := hkid x hx
      rw [hc] at hc'
      cases hc'
      exact hn h1
    have hpk : ¬ u < 0 → (p : Int) = u := fun hu0 => by rw [hp, ← hu]; omega
    refine ⟨fun x o' ho' => ?_, fun q o' ho' hg => ?_, ?_, fun x o' ho' hg hx0 => ?_, fun x o' ho' hg hx0 => ?_⟩
    · obtain ⟨o, ho, rfl⟩ := hinv x o' ho'
      show (if x ∈ ok.ks then u else o.up) < (x : Int)
      split
      · rename_i hx
        obtain ⟨_, _, _, _, _, hlt⟩ := hkid x hx
        omega
      · exact h.up x o ho
    · obtain ⟨o, ho, rfl⟩ := hinv q o' ho'
      have hqk : q ≠ k := fun e => by simp [e] at hg
      have hog : o.go = false := by simpa [hqk] using hg
      have hq := h.ks q o ho hog
      show (if ¬ u < 0 ∧ q = p then replR k ok.ks o.ks else o.ks).Nodup ∧ ∀ x ∈ (if ¬ u < 0 ∧ q = p then replR k ok.ks o.ks else o.ks), _
      by_cases hc : ¬ u < 0 ∧ q = p
      · rw [if_pos hc]
        obtain ⟨hu0, rfl⟩ := hc
        have hpu := hpk hu0
        refine ⟨repl_nodup hkk.1 hq.1 (fun x hx hxk => ?_), fun x hx => ?_⟩
        · obtain ⟨c, hc, h1, _⟩ := hq.2 x hx
          exact notkid x c hc (by rw [h1]; omega)
        · rcases repl_mem.1 hx with ⟨hx1, hxk⟩ | ⟨_, hx1⟩
          · obtain ⟨c, hc, h1, h2⟩ := hq.2 x hx1
            have := notkid x c hc (by rw [h1]; omega)
            exact ⟨_, hL' x c hc, by simp [this, h1], by simp [hxk, h2]⟩
          · obtain ⟨c, hc, h1, h2, hxk, _⟩ := hkid x hx1
            exact ⟨_, hL' x c hc, by simp [hx1]; omega, by simp [hxk, h2]⟩
      · rw [if_neg hc]
        refine ⟨hq.1, fun x hx => ?_⟩
        obtain ⟨c, hcc, h1, h2⟩ := hq.2 x hx
        have h3 := notkid x c hcc (by rw [h1]; omega)
        have hxk : x ≠ k := fun e => by
          subst e
          rw [hk] at hcc
          cases hcc
          apply hc
          refine ⟨by omega, by omega⟩
        exact ⟨_, hL' x c hcc, by simp [h3, h1], by simp [hxk, h2]⟩
    · by_cases hu0 : u < 0
      · rw [if_pos hu0]
        refine ⟨repl_nodup hkk.1 h.rt.1 (fun x hx hxk => ?_), fun x hx => ?_⟩
        · obtain ⟨c, hc, h1, _⟩ := h.rt.2 x hx
          exact notkid x c hc (by omega)
        · rcases repl_mem.1 hx with ⟨hx1, hxk⟩ | ⟨_, hx1⟩
          · obtain ⟨c, hc, h1, h2⟩ := h.rt.2 x hx1
            have := notkid x c hc (by omega)
            exact ⟨_, hL' x c hc, by simp [this, h1], by simp [hxk, h2]⟩
          · obtain ⟨c, hc, h1, h2, hxk, _⟩ := hkid x hx1
            exact ⟨_, hL' x c hc, by simp [hx1, hu0], by simp [hxk, h2]⟩
      · rw [if_neg hu0]
        refine ⟨h.rt.1, fun x hx => ?_⟩
        obtain ⟨c, hc, h1, h2⟩ := h.rt.2 x hx
        have h3 := notkid x c hc (by omega)
        have hxk : x ≠ k := fun e => by
          subst e
          rw [hk] at hc
          cases hc
          omega
        exact ⟨_, hL' x c hc, by simp [h3, h1], by simp [hxk, h2]⟩
    · obtain ⟨o, ho, rfl⟩ := hinv x o' ho'
      have hxk : x ≠ k := fun e => by simp [e] at hg
      have hog : o.go = false := by simpa [hxk] using hg
      by_cases hx : x ∈ ok.ks
      · have hu0 : 0 ≤ u := by simpa [hx] using hx0
        obtain ⟨c, hc, hcg, hck⟩ := h.pa k ok hk hkg (by omega)
        rw [← hp] at hc
        have hpne : p ≠ k := by have := hpk (by omega); omega
        have e1 : (if x ∈ ok.ks then u else o.up).toNat = p := by rw [if_pos hx]; exact hp'.symm
        refine ⟨_, by show L'[(if x ∈ ok.ks then u else o.up).toNat]? = _; rw [e1]; exact hL' p c hc, by simp [hpne, hcg], ?_⟩
        show x ∈ (if ¬ u < 0 ∧ p = p then replR k ok.ks c.ks else c.ks)
        rw [if_pos ⟨by omega, rfl⟩]
        exact repl_mem.2 (Or.inr ⟨hck, hx⟩)
      · have hu0 : 0 ≤ o.up := by simpa [hx] using hx0
        obtain ⟨c, hc, hcg, hck⟩ := h.pa x o ho hog hu0
        have hne : o.up.toNat ≠ k := fun e => by
          rw [e, hk] at hc
          cases hc
          exact hx hck
        have e1 : (if x ∈ ok.ks then u else o.up).toNat = o.up.toNat := by rw [if_neg hx]
        refine ⟨_, by show L'[(if x ∈ ok.ks then u else o.up).toNat]? = _; rw [e1]; exact hL' _ c hc, by simp [hne, hcg], ?_⟩
        show x ∈ (if ¬ u < 0 ∧ o.up.toNat = p then replR k ok.ks c.ks else c.ks)
        split
        · exact repl_mem.2 (Or.inl ⟨hck, hxk⟩)
        · exact hck
    · obtain ⟨o, ho, rfl⟩ := hinv x o' ho'
      have hxk : x ≠ k := fun e => by simp [e] at hg
      have hog : o.go = false := by simpa [hxk] using hg
      by_cases hx : x ∈ ok.ks
      · have hu0 : u < 0 := by simpa [hx] using hx0
        rw [if_pos hu0]
        exact repl_mem.2 (Or.inr ⟨h.cr k ok hk hkg (by omega), hx⟩)
      · have hu0 : o.up < 0 := by simpa [hx] using hx0
        have := h.cr x o ho hog hu0
        split
        · exact repl_mem.2 (Or.inl ⟨this, hxk⟩)
        · exact this

end Go.Proofs.Ytjopmhidldemmaa
