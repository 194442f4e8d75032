/-
  The document's row and the program's list tell one forest behind every act, and answer alike, as plain data. No statement is proved here.
-/
import Derived.Test.YtjopmhidldemmaaCdtPre
import Derived.Test.YtjopmhidldemmaaCdtRem
import Derived.Test.YtjopmhidldemmaaCdtFirst
namespace Go.Proofs.Ytjopmhidldemmaa
open Go.RowKit

section
variable {L L' : List On} {d : Int} {l : List Nat} {F : List En}
theorem Pre.turn (f : Rf → Rf) (hf : ∀ (x : Nat) (o : On), L[x]? = some o → o.go = false → ∃ o' : On, L'[x]? = some o' ∧ o'.go = false ∧ o'.ks = o.ks ∧ o'.a = f o.a) (h : Pre L d l F) : Pre L' d l (F.map fun e => ⟨f e.a, e.d⟩) := by
  induction h with
  | nil d => exact Pre.nil d
  | @cons d x0 o0 l G H hx0 hg h1 h2 i1 i2 =>
    obtain ⟨o', g1, g2, g3, g4⟩ := hf _ _ hx0 hg
    rw [List.map_cons, List.map_append, ← g4]
    exact Pre.cons g1 g2 (by rw [g3]; exact i1) i2
theorem Pre.same (hf : ∀ (x : Nat) (o : On), L[x]? = some o → o.go = false → ∃ o' : On, L'[x]? = some o' ∧ o'.go = false ∧ o'.ks = o.ks ∧ o'.a = o.a) (h : Pre L d l F) : Pre L' d l F := by
  have := h.turn (L' := L') id hf
  rw [show (fun e : En => (⟨id e.a, e.d⟩ : En)) = id from rfl, List.map_id] at this
  exact this
theorem Pre.shift (h : Pre L d l F) : Pre L (d - 1) l (F.map up1) := by
  induction h with
  | nil d => exact Pre.nil _
  | @cons d x0 o0 l G H hx0 hg h1 h2 i1 i2 =>
    rw [List.map_cons, List.map_append]
    exact Pre.cons hx0 hg (by rw [show d - 1 + 1 = d + 1 - 1 by omega]; exact i1) i2
theorem Pre.app (h : Pre L d l F) {m : List Nat} {G : List En} (h' : Pre L d m G) : Pre L d (l ++ m) (F ++ G) := by
  induction h with
  | nil d => exact h'
  | @cons d x0 o0 l G' H hx0 hg h1 h2 i1 i2 =>
    rw [List.cons_append, List.cons_append, List.append_assoc]
    exact Pre.cons hx0 hg h1 (i2 h')
theorem kid_left {p a : Rf} {H : List En} : ∀ {G : List En}, hasF G p = true → kidF p a (G ++ H) = kidF p a G ++ H
  | [], h => by cases h
  | x :: G, h => by
    rw [List.cons_append, kidF, kidF]
    split
    · rfl
    · rename_i hx
      rw [has_cons, decide_eq_false hx, Bool.false_or] at h
      rw [kid_left h]
      rfl
theorem kid_right {p a : Rf} {H : List En} : ∀ {G : List En}, hasF G p = false → kidF p a (G ++ H) = G ++ kidF p a H
  | [], _ => rfl
  | x :: G, h => by
    rw [has_cons, Bool.or_eq_false_iff, decide_eq_false_iff_not] at h
    rw [List.cons_append, kidF, if_neg h.1, kid_right h.2]
    rfl
theorem rem_left {a : Rf} {H : List En} : ∀ {G : List En}, hasF G a = true → (∀ e ∈ G, runF e.d H = [] ∧ restF e.d H = H) → remF a (G ++ H) = remF a G ++ H
  | [], h, _ => by cases h
  | x :: G, h, hr => by
    rw [List.cons_append, remF, remF]
    split
    · rw [(run_app2 (hr x (by simp)).1 (hr x (by simp)).2 G).1, (run_app2 (hr x (by simp)).1 (hr x (by simp)).2 G).2, List.append_assoc]
    · rename_i hx
      rw [has_cons, decide_eq_false hx, Bool.false_or] at h
      rw [rem_left h (fun e he => hr e (by simp [he]))]
      rfl
theorem rem_right {a : Rf} {H : List En} : ∀ {G : List En}, hasF G a = false → remF a (G ++ H) = G ++ remF a H
  | [], _ => rfl
  | x :: G, h => by
    rw [has_cons, Bool.or_eq_false_iff, decide_eq_false_iff_not] at h
    rw [List.cons_append, remF, if_neg h.1, rem_right h.2]
    rfl

theorem Pre.kidS (hu : Uq L) {k n : Nat} {ok : On} {a : Rf} (hk : L[k]? = some ok) (hkg : ok.go = false) (hL : ∀ (x : Nat) (o : On), L[x]? = some o → o.go = false → ∃ o' : On, L'[x]? = some o' ∧ o'.go = false ∧ o'.ks = (if x = k then n :: o.ks else o.ks) ∧ o'.a = o.a)
    (hN : ∃ o' : On, L'[n]? = some o' ∧ o'.go = false ∧ o'.ks = [] ∧ o'.a = a) (h : Pre L d l F) (hn : (F.map (·.a)).Nodup) : Pre L' d l (kidF ok.a a F) := by
  induction h with
  | nil d => exact Pre.nil _
  | @cons d x0 o0 l G H hx0 hg h1 h2 i1 i2 =>
    have n3 := nd3 hn
    have j1 := i1 n3.g
    have j2 := i2 n3.h
    obtain ⟨o', g1, g2, g3, g4⟩ := hL _ _ hx0 hg
    by_cases e : o0.a = ok.a
    · obtain rfl := hu _ _ _ _ hx0 hk hg hkg e
      rw [hk] at hx0
      cases hx0
      rw [kid_none n3.eg] at j1
      rw [kid_none n3.eh] at j2
      rw [if_pos rfl] at g3
      rw [kidF, if_pos rfl, ← g4]
      obtain ⟨on, m1, m2, m3, m4⟩ := hN
      have := Pre.cons g1 g2 (by rw [g3]; exact Pre.cons m1 m2 (by rw [m3]; exact Pre.nil _) j1) j2
      rw [m4, List.nil_append, List.cons_append] at this
      exact this
    · have hxk : x0 ≠ k := fun h => by
        subst h
        rw [hk] at hx0
        cases hx0
        exact e rfl
      rw [if_neg hxk] at g3
      have hs : kidF ok.a a (G ++ H) = kidF ok.a a G ++ kidF ok.a a H := by
        cases hh : hasF G ok.a with
        | true => rw [kid_left hh, kid_none (n3.d _ hh)]
        | false => rw [kid_right hh, kid_none hh]
      rw [kidF, if_neg e, hs, ← g4]
      exact Pre.cons g1 g2 (by rw [g3]; exact j1) j2
theorem replR_none {k : Nat} {m l : List Nat} (h : k ∉ l) : replR k m l = l := by
  induction l with
  | nil => rfl
  | cons x l ih =>
    have e : replR k m (x :: l) = (if x = k then m else [x]) ++ replR k m l := by simp [replR]
    rw [e, if_neg (fun hh => h (by simp [hh])), ih (fun hh => h (by simp [hh]))]
    rfl
theorem Pre.remS (hu : Uq L) {k : Nat} {ok : On} (hk : L[k]? = some ok) (hkg : ok.go = false) (hL : ∀ (x : Nat) (o : On), L[x]? = some o → o.go = false → x ≠ k → ∃ o' : On, L'[x]? = some o' ∧ o'.go = false ∧ o'.ks = replR k ok.ks o.ks ∧ o'.a = o.a)
    (h : Pre L d l F) (hn : (F.map (·.a)).Nodup) : Pre L' d (replR k ok.ks l) (remF ok.a F) := by
  induction h with
  | nil d => exact Pre.nil _
  | @cons d x0 o0 l G H hx0 hg h1 h2 i1 i2 =>
    have n3 := nd3 hn
    have j1 := i1 n3.g
    have j2 := i2 n3.h
    have er : replR k ok.ks (x0 :: l) = (if x0 = k then ok.ks else [x0]) ++ replR k ok.ks l := by simp [replR]
    rw [er]
    by_cases e : o0.a = ok.a
    · obtain rfl := hu _ _ _ _ hx0 hk hg hkg e
      rw [hk] at hx0
      cases hx0
      rw [rem_none n3.eg, replR_none (fun hm => by have := h1.has hm hk; rw [n3.eg] at this; cases this)] at j1
      rw [rem_none n3.eh] at j2
      have j3 := j1.shift
      rw [show d + 1 - 1 = d by omega] at j3
      rw [if_pos rfl, remF, if_pos rfl, run_app (fun e he => by have := h1.deep e he; show d < e.d; omega), rest_app (fun e he => by have := h1.deep e he; show d < e.d; omega), (h2.stop (Int.le_refl _)).1, (h2.stop (Int.le_refl _)).2, List.append_nil]
      exact j3.app j2
    · have hxk : x0 ≠ k := fun h => by
        subst h
        rw [hk] at hx0
        cases hx0
        exact e rfl
      obtain ⟨o', g1, g2, g3, g4⟩ := hL _ _ hx0 hg hxk
      have hs : remF ok.a (G ++ H) = remF ok.a G ++ remF ok.a H := by
        cases hh : hasF G ok.a with
        | true => rw [rem_left hh (fun e he => h2.stop (by have := h1.deep e he; omega)), rem_none (n3.d _ hh)]
        | false => rw [rem_right hh, rem_none hh]
      rw [if_neg hxk, remF, if_neg e, hs, ← g4]
      exact Pre.cons g1 g2 (by rw [g3]; exact j1) j2

theorem Uq.turn (hu : Uq L) (f : Rf → Rf) (hb : ∀ (x : Nat) (o' : On), L'[x]? = some o' → o'.go = false → ∃ o : On, L[x]? = some o ∧ o.go = false ∧ o'.a = f o.a) (hi : ∀ (x y : Nat) (o p : On), L[x]? = some o → L[y]? = some p → o.go = false → p.go = false → f o.a = f p.a → o.a = p.a) : Uq L' := by
  intro x y o p hx hy ho hp he
  obtain ⟨o1, a1, a2, a3⟩ := hb x o hx ho
  obtain ⟨p1, b1, b2, b3⟩ := hb y p hy hp
  rw [a3, b3] at he
  exact hu x y o1 p1 a1 b1 a2 b2 (hi x y o1 p1 a1 b1 a2 b2 he)
end

/-- Both tell one forest. -/
structure Rel (L : List On) (ro : List Nat) (F : List En) : Prop where
  pre : Pre L 0 ro F
  uq : Uq L
  good : GoodR L ro
  nd : (F.map (·.a)).Nodup

section
variable {L : List On} {ro : List Nat} {F : List En}
theorem rel_nil : Rel [] [] [] := ⟨Pre.nil 0, fun x y o p h => by simp at h, good_nil, List.nodup_nil⟩
theorem Rel.all (h : Rel L ro F) {x : Nat} {o : On} (hx : L[x]? = some o) (hg : o.go = false) : hasF F o.a = true := h.pre.all h.good h.uq (x + 1) x o (by omega) hx hg
theorem Rel.fd (h : Rel L ro F) {x : Nat} {o : On} (hx : L[x]? = some o) (hg : o.go = false) : fdR o.a L = some x := by
  cases hf : fdR o.a L with
  | none =>
    exfalso
    have : ∀ {M : List On}, fdR o.a M = none → ∀ (j : Nat) (o' : On), M[j]? = some o' → o'.go = false → o'.a ≠ o.a := by
      intro M
      induction M with
      | nil => intro _ j o' hj; simp at hj
      | cons z M ih =>
        intro hM j o' hj hg' ha
        unfold fdR at hM
        split at hM
        · cases hM
        · rename_i hz
          cases j with
          | zero => simp at hj; subst hj; exact hz ⟨hg', ha⟩
          | succ j =>
            refine ih ?_ j o' (by simpa using hj) hg' ha
            cases hq : fdR o.a M with
            | none => rfl
            | some q => rw [hq] at hM; cases hM
    exact this hf x o hx hg rfl
  | some k =>
    obtain ⟨o', h1, h2, h3, _⟩ := fdR_some hf
    rw [h.uq k x o' o h1 hx h2 hg h3]
theorem Rel.no (h : Rel L ro F) {a : Rf} (hf : fdR a L = none) : hasF F a = false := by
  cases hh : hasF F a with
  | false => rfl
  | true =>
    obtain ⟨x, o, h1, h2, rfl⟩ := h.pre.live a hh
    rw [h.fd h1 h2] at hf
    cases hf
theorem Rel.has (h : Rel L ro F) (a : Rf) : hasF F a = (fdR a L).isSome := by
  cases hf : fdR a L with
  | none => exact h.no hf
  | some k =>
    obtain ⟨o, h1, h2, rfl, _⟩ := fdR_some hf
    exact h.all h1 h2

theorem Rel.add (h : Rel L ro F) {a : Rf} (hf : fdR a L = none) : Rel (L ++ [⟨a, -1, [], false⟩]) (L.length :: ro) (addF a F) := by
  have hb : ∀ (i : Nat) (o : On), L[i]? = some o → (L ++ [⟨a, -1, [], false⟩] : List On)[i]? = some o := fun i o hi => by rw [List.getElem?_append_left (some_lt hi)]; exact hi
  have hnew : (L ++ [⟨a, -1, [], false⟩] : List On)[L.length]? = some ⟨a, -1, [], false⟩ := by rw [List.getElem?_append_right (Nat.le_refl _), Nat.sub_self]; rfl
  refine ⟨?_, ?_, good_add h.good a, List.nodup_cons.2 ⟨has_false.1 (h.no hf), h.nd⟩⟩
  · have := Pre.cons (d := 0) (G := []) hnew rfl (Pre.nil _) (h.pre.same (fun x o hx hg => ⟨o, hb x o hx, hg, rfl, rfl⟩))
    exact this
  · intro x y o p hx hy ho hp he
    have key : ∀ (z : Nat) (q : On), (L ++ [⟨a, -1, [], false⟩] : List On)[z]? = some q → (L[z]? = some q) ∨ (z = L.length ∧ q.a = a) := fun z q hz => by
      by_cases e : z < L.length
      · rw [List.getElem?_append_left e] at hz; exact Or.inl hz
      · have hzl := some_lt hz
        simp at hzl
        obtain rfl : z = L.length := by omega
        rw [hnew] at hz
        cases hz
        exact Or.inr ⟨rfl, rfl⟩
    rcases key x o hx with h1 | ⟨rfl, h1⟩ <;> rcases key y p hy with h2 | ⟨rfl, h2⟩
    · exact h.uq x y o p h1 h2 ho hp he
    · have := h.fd h1 ho
      rw [he, h2, hf] at this
      cases this
    · have := h.fd h2 hp
      rw [← he, h1, hf] at this
      cases this
    · rfl
theorem Rel.kid (h : Rel L ro F) {k : Nat} {ok : On} (hk : L[k]? = some ok) (hkg : ok.go = false) {a : Rf} (hf : fdR a L = none) (hw : ((kidF ok.a a F).map (·.a)).Nodup) : Rel (setK (L ++ [⟨a, (k : Int), [], false⟩]) k (L.length :: ok.ks)) ro (kidF ok.a a F) := by
  have hkl := some_lt hk
  have hb : ∀ (i : Nat) (o : On), L[i]? = some o → (setK (L ++ [⟨a, (k : Int), [], false⟩]) k (L.length :: ok.ks))[i]? = some (if i = k then ⟨o.a, o.up, L.length :: ok.ks, o.go⟩ else o) := fun i o hi => setK_at (by rw [List.getElem?_append_left (some_lt hi)]; exact hi)
  have hn : (setK (L ++ [⟨a, (k : Int), [], false⟩]) k (L.length :: ok.ks))[L.length]? = some ⟨a, (k : Int), [], false⟩ := by
    have := setK_at (L := L ++ [⟨a, (k : Int), [], false⟩]) (k := k) (l := L.length :: ok.ks) (i := L.length) (o := ⟨a, (k : Int), [], false⟩) (by rw [List.getElem?_append_right (Nat.le_refl _), Nat.sub_self]; rfl)
    rw [if_neg (by omega)] at this
    exact this
  refine ⟨Pre.kidS h.uq hk hkg (n := L.length) (fun x o hx hg => ⟨_, hb x o hx, ?_, ?_, ?_⟩) ⟨_, hn, rfl, rfl, rfl⟩ h.pre h.nd, ?_, good_kid h.good hk hkg a, hw⟩
  · split <;> exact hg
  · by_cases e : x = k
    · subst e
      rw [hk] at hx
      cases hx
      rw [if_pos rfl, if_pos rfl]
    · rw [if_neg e, if_neg e]
  · split <;> rfl
  · intro x y o p hx hy ho hp he
    have key : ∀ (z : Nat) (q : On), (setK (L ++ [⟨a, (k : Int), [], false⟩]) k (L.length :: ok.ks))[z]? = some q → (∃ q' : On, L[z]? = some q' ∧ q.a = q'.a ∧ q.go = q'.go) ∨ (z = L.length ∧ q.a = a) := fun z q hz => by
      by_cases e : z < L.length
      · rw [hb z _ (List.getElem?_eq_getElem e)] at hz
        refine Or.inl ⟨L[z], List.getElem?_eq_getElem e, ?_, ?_⟩ <;> (cases hz; split <;> rfl)
      · have hzl := some_lt hz
        rw [setK_len] at hzl
        simp at hzl
        obtain rfl : z = L.length := by omega
        rw [hn] at hz
        cases hz
        exact Or.inr ⟨rfl, rfl⟩
    rcases key x o hx with ⟨o', h1, e1, e2⟩ | ⟨rfl, h1⟩ <;> rcases key y p hy with ⟨p', h2, e3, e4⟩ | ⟨rfl, h2⟩
    · exact h.uq x y o' p' h1 h2 (by rw [← e2]; exact ho) (by rw [← e4]; exact hp) (by rw [← e1, ← e3]; exact he)
    · have := h.fd h1 (by rw [← e2]; exact ho)
      rw [← e1, he, h2, hf] at this
      cases this
    · have := h.fd h2 (by rw [← e4]; exact hp)
      rw [← e3, ← he, h1, hf] at this
      cases this
    · rfl
theorem nm1_f (a b : Rf) : nm1 a b = fun e : En => (⟨if e.a = a then b else e.a, e.d⟩ : En) := by
  funext e
  unfold nm1
  split <;> rfl
theorem nm2_f (a b : Rf) : nm2 a b = fun e : En => (⟨if e.a = a then b else if e.a = b then a else e.a, e.d⟩ : En) := by
  funext e
  unfold nm2
  repeat' split
  all_goals rfl
theorem ren_at {k : Nat} {b : Rf} {i : Nat} {o : On} (h : L[i]? = some o) : (renR L k b)[i]? = some (if i = k then ⟨b, o.up, o.ks, o.go⟩ else o) := by
  unfold renR
  by_cases e : i = k
  · subst e
    rw [h, if_pos rfl]
    show (L.set i _)[i]? = _
    rw [List.getElem?_set_self (some_lt h)]
  · rw [if_neg e]
    split
    · rw [List.getElem?_set_ne (fun h => e h.symm)]; exact h
    · exact h
theorem ren_back {k : Nat} {b : Rf} {i : Nat} {o' : On} (h : (renR L k b)[i]? = some o') : ∃ o : On, L[i]? = some o ∧ o' = (if i = k then ⟨b, o.up, o.ks, o.go⟩ else o) := by
  have hi : i < L.length := by rw [← renR_len L k b]; exact some_lt h
  refine ⟨L[i], List.getElem?_eq_getElem hi, ?_⟩
  rw [ren_at (List.getElem?_eq_getElem hi)] at h
  exact (Option.some.inj h).symm
theorem Rel.mov (h : Rel L ro F) {k : Nat} {ok : On} (hk : L[k]? = some ok) (hkg : ok.go = false) {b : Rf} (hf : fdR b L = none) (hw : ((movF ok.a b F).map (·.a)).Nodup) : Rel (renR L k b) ro (movF ok.a b F) := by
  have hnb : ∀ (x : Nat) (o : On), L[x]? = some o → o.go = false → o.a ≠ b := fun x o hx hg e => by
    have := h.fd hx hg
    rw [e, hf] at this
    cases this
  have hx2 : ∀ (x : Nat) (o : On), L[x]? = some o → o.go = false → (o.a = ok.a ↔ x = k) := fun x o hx hg => ⟨fun e => h.uq x k o ok hx hk hg hkg e, fun e => by subst e; rw [hk] at hx; cases hx; rfl⟩
  refine ⟨?_, ?_, good_ren h.good k b, hw⟩
  · unfold movF
    rw [nm1_f]
    refine h.pre.turn (fun c => if c = ok.a then b else c) (fun x o hx hg => ⟨_, ren_at hx, ?_, ?_, ?_⟩)
    · split <;> exact hg
    · split <;> rfl
    · by_cases e : x = k
      · rw [if_pos e, if_pos ((hx2 x o hx hg).2 e)]
      · rw [if_neg e, if_neg (fun hh => e ((hx2 x o hx hg).1 hh))]
  · refine h.uq.turn (fun c => if c = ok.a then b else c) (fun x o' hx hg => ?_) (fun x y o p hx hy ho hp he => ?_)
    · obtain ⟨o, h1, rfl⟩ := ren_back hx
      have hg' : o.go = false := by split at hg <;> exact hg
      refine ⟨o, h1, hg', ?_⟩
      by_cases e : x = k
      · rw [if_pos e, if_pos ((hx2 x o h1 hg').2 e)]
      · rw [if_neg e, if_neg (fun hh => e ((hx2 x o h1 hg').1 hh))]
    · have n1 := hnb x o hx ho
      have n2 := hnb y p hy hp
      by_cases e1 : o.a = ok.a <;> by_cases e2 : p.a = ok.a
      · rw [e1, e2]
      · simp only [e1, e2, if_true, if_false] at he
        exact absurd he.symm n2
      · simp only [e1, e2, if_true, if_false] at he
        exact absurd he n1
      · simp only [e1, e2, if_false] at he
        exact he
theorem Rel.swp (h : Rel L ro F) {k j : Nat} {ok oj : On} (hk : L[k]? = some ok) (hkg : ok.go = false) (hj : L[j]? = some oj) (hjg : oj.go = false) (hw : ((swpF ok.a oj.a F).map (·.a)).Nodup) : Rel (renR (renR L k oj.a) j ok.a) ro (swpF ok.a oj.a F) := by
  have hx2 : ∀ (x : Nat) (o : On), L[x]? = some o → o.go = false → (o.a = ok.a ↔ x = k) := fun x o hx hg => ⟨fun e => h.uq x k o ok hx hk hg hkg e, fun e => by subst e; rw [hk] at hx; cases hx; rfl⟩
  have hx3 : ∀ (x : Nat) (o : On), L[x]? = some o → o.go = false → (o.a = oj.a ↔ x = j) := fun x o hx hg => ⟨fun e => h.uq x j o oj hx hj hg hjg e, fun e => by subst e; rw [hj] at hx; cases hx; rfl⟩
  have hn : ∀ (x : Nat) (o : On), L[x]? = some o → o.go = false → (if x = j then ok.a else if x = k then oj.a else o.a) = (if o.a = ok.a then oj.a else if o.a = oj.a then ok.a else o.a) := fun x o hx hg => by
    by_cases e1 : x = k <;> by_cases e2 : x = j
    · have hkj : k = j := e1.symm.trans e2
      have : ok.a = oj.a := by subst hkj; rw [hk] at hj; cases hj; rfl
      rw [if_pos e2, if_pos ((hx2 x o hx hg).2 e1), this]
    · rw [if_neg e2, if_pos e1, if_pos ((hx2 x o hx hg).2 e1)]
    · rw [if_pos e2, if_neg (fun hh => e1 ((hx2 x o hx hg).1 hh)), if_pos ((hx3 x o hx hg).2 e2)]
    · rw [if_neg e2, if_neg e1, if_neg (fun hh => e1 ((hx2 x o hx hg).1 hh)), if_neg (fun hh => e2 ((hx3 x o hx hg).1 hh))]
  refine ⟨?_, ?_, good_ren (good_ren h.good k oj.a) j ok.a, hw⟩
  · unfold swpF
    rw [nm2_f]
    refine h.pre.turn (fun c => if c = ok.a then oj.a else if c = oj.a then ok.a else c) (fun x o hx hg => ⟨_, ren_at (ren_at hx), ?_, ?_, ?_⟩)
    · repeat' split
      all_goals exact hg
    · repeat' split
      all_goals rfl
    · rw [← hn x o hx hg]
      repeat' split
      all_goals rfl
  · refine h.uq.turn (fun c => if c = ok.a then oj.a else if c = oj.a then ok.a else c) (fun x o' hx hg => ?_) (fun x y o p hx hy ho hp he => ?_)
    · obtain ⟨o1, h1, rfl⟩ := ren_back hx
      obtain ⟨o, h2, rfl⟩ := ren_back h1
      have hg' : o.go = false := by
        repeat' split at hg
        all_goals exact hg
      refine ⟨o, h2, hg', ?_⟩
      rw [← hn x o h2 hg']
      repeat' split
      all_goals rfl
    · by_cases e1 : o.a = ok.a <;> by_cases e2 : p.a = ok.a <;> by_cases e3 : o.a = oj.a <;> by_cases e4 : p.a = oj.a <;> simp_all
end

end Go.Proofs.Ytjopmhidldemmaa
