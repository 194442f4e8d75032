/-
  What every call of a scheduler keeps, over plain data: who is awake stands once in its own queue, or is the current one. No program, no statement.
-/
import Derived.Test.YtipfgenbfnkpfaaSdDefs
namespace Go.Proofs.Ytipfgenbfnkpfaa
open Go.RowKit

/-- Queues told by who stands in them. -/
structure QI (q : Nat → List Int) (R : Nat → Int → Prop) : Prop where
  nd : ∀ j, (q j).Nodup
  mem : ∀ j x, x ∈ q j ↔ R j x

theorem QI.congr {q : Nat → List Int} {R R' : Nat → Int → Prop} (h : QI q R) (e : ∀ j x, R j x ↔ R' j x) : QI q R' := ⟨h.nd, fun j x => (h.mem j x).trans (e j x)⟩

theorem QI.end {q : Nat → List Int} {R : Nat → Int → Prop} (h : QI q R) {k : Nat} {i : Int} (hn : ¬ R k i) : QI (uq q k (gEnd i)) (fun j x => R j x ∨ (j = k ∧ x = i)) := by
  refine ⟨fun j => ?_, fun j x => ?_⟩
  · by_cases e : j = k
    · subst e
      rw [uq_same]
      unfold gEnd
      rw [List.nodup_append]
      refine ⟨h.nd j, by simp, fun a ha b hb => ?_⟩
      rw [List.mem_singleton] at hb
      subst hb
      intro e
      subst e
      exact hn ((h.mem j a).1 ha)
    · rw [uq_other _ _ e]; exact h.nd j
  · by_cases e : j = k
    · subst e
      rw [uq_same]
      unfold gEnd
      rw [List.mem_append, h.mem, List.mem_singleton]
      simp
    · rw [uq_other _ _ e, h.mem]
      simp [e]

theorem QI.front {q : Nat → List Int} {R : Nat → Int → Prop} (h : QI q R) {k : Nat} {i : Int} (hn : ¬ R k i) : QI (uq q k (gFront i)) (fun j x => R j x ∨ (j = k ∧ x = i)) := by
  refine ⟨fun j => ?_, fun j x => ?_⟩
  · by_cases e : j = k
    · subst e
      rw [uq_same]
      unfold gFront
      rw [List.nodup_cons]
      exact ⟨fun hi => hn ((h.mem j i).1 hi), h.nd j⟩
    · rw [uq_other _ _ e]; exact h.nd j
  · by_cases e : j = k
    · subst e
      rw [uq_same]
      unfold gFront
      rw [List.mem_cons, h.mem]
      simp [or_comm]
    · rw [uq_other _ _ e, h.mem]
      simp [e]

theorem QI.out {q : Nat → List Int} {R : Nat → Int → Prop} (h : QI q R) (k : Nat) (i : Int) : QI (uq q k (gOut i)) (fun j x => R j x ∧ ¬ (j = k ∧ x = i)) := by
  refine ⟨fun j => ?_, fun j x => ?_⟩
  · by_cases e : j = k
    · subst e
      rw [uq_same]
      exact (h.nd j).filter _
    · rw [uq_other _ _ e]; exact h.nd j
  · by_cases e : j = k
    · subst e
      rw [uq_same]
      unfold gOut
      rw [List.mem_filter, h.mem]
      simp
    · rw [uq_other _ _ e, h.mem]
      simp [e]

/-- Ready: awake, not the current one, of that queue. -/
def rr (L : List Tk) (c : Int) : Nat → Int → Prop := fun j x => x ≠ c ∧ ∃ t, fnd L x = some t ∧ t.a = true ∧ ky t.d t.p = j

theorem fnd_i' {L : List Tk} {k : Int} {t : Tk} (h : fnd L k = some t) : t.i = k := (fnd_mem h).2
theorem fnd_upd1 (L : List Tk) (k : Int) {f : Tk → Tk} (hf : ∀ t, (f t).i = t.i) (x : Int) : fnd (upd L k f) x = if x = k then (fnd L k).map f else fnd L x := by
  rw [fnd_upd hf]
  cases hx : fnd L x with
  | none =>
    by_cases e : x = k
    · subst e; rw [hx]; simp
    · simp [e]
  | some t =>
    have := fnd_i' hx
    by_cases e : x = k
    · subst e
      rw [hx]; simp [this]
    · rw [Option.map_some, if_neg (by rw [this]; exact e), if_neg e]

structure OkQ (S : Sd) : Prop where
  gl : GoodL S.L
  sl : ∀ t ∈ S.L, 1 ≤ t.s
  cu : S.c = -1 ∨ ∃ t, fnd S.L S.c = some t ∧ t.a = true
  qi : QI S.q (rr S.L S.c)

theorem fnd_pos {L : List Tk} (g : GoodL L) {x : Int} {t : Tk} (h : fnd L x = some t) : 0 ≤ x ∧ x ≤ 1023 := by
  have := fnd_mem h
  have h1 := (g.all t this.1).i0
  have h2 := (g.all t this.1).i1
  rw [this.2] at h1 h2
  exact ⟨h1, h2⟩

theorem OkQ.len {S : Sd} (h : OkQ S) (j : Nat) : (S.q j).length ≤ 1024 := by
  refine len_ids 1024 (S.q j) (h.qi.nd j) fun x hx => ?_
  obtain ⟨_, t, ht, _⟩ := (h.qi.mem j x).1 hx
  have := fnd_pos h.gl ht
  omega

theorem mem_upd_s {L : List Tk} {k : Int} {f : Tk → Tk} (h : ∀ t ∈ L, 1 ≤ t.s) (hf : ∀ t ∈ L, t.i = k → 1 ≤ (f t).s) : ∀ t ∈ upd L k f, 1 ≤ t.s := by
  intro x hx
  obtain ⟨t, ht, rfl⟩ := mem_upd hx
  split
  · exact hf t ht (by assumption)
  · exact h t ht

theorem OkQ.get {S : Sd} (h : OkQ S) (hc : S.c ≠ -1) : fnd S.L S.c = some (curT S) ∧ (curT S).a = true ∧ (curT S).i = S.c := by
  rcases h.cu with e | ⟨t, e1, e2⟩
  · exact absurd e hc
  · have : curT S = t := by unfold curT; rw [e1]; rfl
    rw [this]
    exact ⟨e1, e2, fnd_i' e1⟩

theorem okq_add {S : Sd} (h : OkQ S) (i p d : Int) : OkQ (addS S i p d) := by
  unfold addS
  split
  · rename_i e
    unfold addE at e
    split at e
    · rename_i hb
      cases hf : fnd S.L i with
      | some t => rw [hf] at e; simp at e
      | none =>
        have hno := fnd_none hf
        have key : ∀ x, fnd (S.L ++ [⟨i, p, d, 4, false⟩]) x = if x = i then some ⟨i, p, d, 4, false⟩ else fnd S.L x := fun x => by
          rw [fnd_append]
          by_cases e : x = i
          · subst e; rw [hf]; simp [fnd]
          · rw [if_neg e]
            cases hx : fnd S.L x with
            | some t => rfl
            | none => simp only [fnd]; rw [if_neg (by omega)]
        refine ⟨⟨?_, ?_⟩, ?_, ?_, ?_⟩
        · intro n hn
          rcases List.mem_append.mp hn with hn | hn
          · exact h.gl.all n hn
          · rw [List.mem_singleton] at hn
            subst hn
            exact ⟨hb.1, by show i ≤ 1023; omega, hb.2.2.1, by show p ≤ 63; omega, hb.2.2.2.2.1, by show d ≤ 3; omega, by show (0 : Int) ≤ 4; omega, by show (4 : Int) ≤ 4; omega⟩
        · rw [List.pairwise_append]
          refine ⟨h.gl.one, by simp, fun a ha b hb => ?_⟩
          rw [List.mem_singleton] at hb
          subst hb
          exact hno a ha
        · intro n hn
          rcases List.mem_append.mp hn with hn | hn
          · exact h.sl n hn
          · rw [List.mem_singleton] at hn
            subst hn
            show (1 : Int) ≤ 4
            omega
        · rcases h.cu with e | ⟨t, e1, e2⟩
          · exact Or.inl e
          · refine Or.inr ⟨t, ?_, e2⟩
            rw [key, if_neg (fun e' => by rw [e'] at e1; rw [e1] at hf; cases hf)]
            exact e1
        · refine h.qi.congr fun j x => ?_
          unfold rr
          show _ ↔ x ≠ S.c ∧ ∃ t, fnd (S.L ++ [⟨i, p, d, 4, false⟩]) x = some t ∧ _
          rw [key]
          by_cases e : x = i
          · subst e
            rw [if_pos rfl, hf]
            simp
          · rw [if_neg e]
    · omega
  · exact h

theorem okq_wake {S : Sd} (h : OkQ S) (i : Int) : OkQ (wakS S i) := by
  unfold wakS
  cases hf : fnd S.L i with
  | none => exact h
  | some t =>
    dsimp only
    split
    · exact h
    · rename_i ha
      have hi := fnd_i' hf
      have hm := (fnd_mem hf).1
      have hic : i ≠ S.c := by
        rintro rfl
        rcases h.cu with e | ⟨t', e1, e2⟩
        · have := fnd_pos h.gl hf; omega
        · rw [hf] at e1; cases e1; exact ha e2
      have key := fnd_upd1 S.L i (f := setA true) (fun _ => rfl)
      refine ⟨good_upd h.gl (fun _ => rfl) (fun t ht _ => ?_), mem_upd_s h.sl (fun t ht _ => h.sl t ht), ?_, ?_⟩
      · have := h.gl.all t ht; exact ⟨this.i0, this.i1, this.p0, this.p1, this.d0, this.d1, this.s0, this.s1⟩
      · rcases h.cu with e | ⟨t', e1, e2⟩
        · exact Or.inl e
        · refine Or.inr ⟨t', ?_, e2⟩
          show fnd (upd S.L i (setA true)) S.c = _
          rw [key, if_neg (fun e => hic e.symm)]
          exact e1
      · show QI (uq S.q (ky t.d t.p) (gEnd t.i)) (rr (upd S.L i (setA true)) S.c)
        rw [hi]
        refine (h.qi.end (k := ky t.d t.p) (i := i) ?_).congr fun j x => ?_
        · rintro ⟨_, t', e1, e2, _⟩
          rw [hf] at e1; cases e1; exact ha e2
        · unfold rr
          rw [key]
          by_cases e : x = i
          · subst e
            rw [if_pos rfl, hf]
            constructor
            · rintro (⟨_, t', e1, e2, _⟩ | ⟨rfl, _⟩)
              · cases e1; exact absurd e2 ha
              · exact ⟨hic, _, rfl, rfl, rfl⟩
            · rintro ⟨_, t', e1, _, e3⟩
              cases e1
              exact Or.inr ⟨e3.symm, rfl⟩
          · rw [if_neg e]
            simp [e]

theorem rdy_iff {S : Sd} {t : Tk} : rdy S t = true ↔ t.a = true ∧ t.i ≠ S.c := by unfold rdy; simp

theorem okq_stop {S : Sd} (h : OkQ S) (i : Int) : OkQ (stoS S i) ∧ ((fnd S.L i).isSome → (stoS S i).c ≠ i) := by
  unfold stoS
  cases hf : fnd S.L i with
  | none => exact ⟨h, fun e => by simp at e⟩
  | some t =>
    dsimp only
    have hi := fnd_i' hf
    have hp := fnd_pos h.gl hf
    have key := fnd_upd1 S.L i (f := setA false) (fun _ => rfl)
    refine ⟨⟨good_upd h.gl (fun _ => rfl) (fun t ht _ => ?_), mem_upd_s h.sl (fun t ht _ => h.sl t ht), ?_, ?_⟩, fun _ => ?_⟩
    · have := h.gl.all t ht; exact ⟨this.i0, this.i1, this.p0, this.p1, this.d0, this.d1, this.s0, this.s1⟩
    · show (if S.c = i then -1 else S.c) = -1 ∨ ∃ t, fnd (upd S.L i (setA false)) (if S.c = i then -1 else S.c) = some t ∧ _
      by_cases e : S.c = i
      · rw [if_pos e]; exact Or.inl rfl
      · rw [if_neg e]
        rcases h.cu with e' | ⟨t', e1, e2⟩
        · exact Or.inl e'
        · exact Or.inr ⟨t', by rw [key, if_neg e]; exact e1, e2⟩
    · have hR : ∀ j x, rr (upd S.L i (setA false)) (if S.c = i then -1 else S.c) j x ↔ rr S.L S.c j x ∧ x ≠ i := fun j x => by
        unfold rr
        rw [key]
        by_cases e : x = i
        · subst e
          rw [if_pos rfl, hf]
          constructor
          · rintro ⟨_, t', e1, e2, _⟩
            cases e1
            cases e2
          · rintro ⟨_, e⟩; exact absurd rfl e
        · rw [if_neg e]
          constructor
          · rintro ⟨e0, t', e1, e2, e3⟩
            refine ⟨⟨?_, t', e1, e2, e3⟩, e⟩
            rintro rfl
            rw [if_neg e] at e0
            exact e0 rfl
          · rintro ⟨⟨e0, t', e1, e2, e3⟩, _⟩
            refine ⟨?_, t', e1, e2, e3⟩
            have := fnd_pos h.gl e1
            split
            · omega
            · exact e0
      cases hr : rdy S t with
      | true =>
        simp only [if_true]
        show QI (uq S.q (ky t.d t.p) (gOut t.i)) _
        rw [hi]
        refine (h.qi.out (ky t.d t.p) i).congr fun j x => ?_
        rw [hR]
        constructor
        · rintro ⟨a, b⟩
          refine ⟨a, ?_⟩
          rintro rfl
          obtain ⟨_, t', e1, _, e3⟩ := a
          rw [hf] at e1; cases e1
          exact b ⟨e3.symm, rfl⟩
        · rintro ⟨a, b⟩
          exact ⟨a, fun e => b e.2⟩
      | false =>
        simp only [Bool.false_eq_true, if_false]
        refine h.qi.congr fun j x => ?_
        rw [hR]
        constructor
        · intro a
          refine ⟨a, ?_⟩
          rintro rfl
          obtain ⟨e0, t', e1, e2, e3⟩ := a
          rw [hf] at e1; cases e1
          have : rdy S t = true := rdy_iff.2 ⟨e2, by rw [hi]; exact e0⟩
          rw [this] at hr; cases hr
        · exact fun a => a.1
    · show (if S.c = i then -1 else S.c) ≠ i
      split
      · omega
      · assumption

theorem del_self {L : List Tk} {i : Int} (hf : fnd L i = none) : del L i = L := by
  unfold del
  exact List.filter_eq_self.2 fun x hx => by
    have := fnd_none hf x hx
    simpa using this

theorem stoS_fnd1 (S : Sd) (i x : Int) : fnd (stoS S i).L x = if x = i then (fnd S.L i).map (setA false) else fnd S.L x := by
  unfold stoS
  cases hf : fnd S.L i with
  | none =>
    dsimp only
    by_cases e : x = i
    · subst e; rw [if_pos rfl, hf]; rfl
    · rw [if_neg e]
  | some t =>
    show fnd (upd S.L i (setA false)) x = _
    rw [fnd_upd1 S.L i (f := setA false) (fun _ => rfl), hf]

theorem okq_drop {S : Sd} (h : OkQ S) (i : Int) : OkQ (droS S i) := by
  obtain ⟨g, hc⟩ := okq_stop h i
  have k1 := stoS_fnd1 S i
  unfold droS
  cases hf : fnd S.L i with
  | none =>
    have e2 : stoS S i = S := by unfold stoS; rw [hf]
    rw [e2, del_self hf]
    exact h
  | some t =>
    rw [hf] at hc k1
    have hc' := hc rfl
    generalize stoS S i = T at *
    refine ⟨good_del g.gl i, fun t ht => g.sl t (mem_del.mp ht).1, ?_, ?_⟩
    · rcases g.cu with e | ⟨t', e1, e2⟩
      · exact Or.inl e
      · refine Or.inr ⟨t', ?_, e2⟩
        show fnd (del T.L i) T.c = _
        rw [fnd_del, if_neg hc']
        exact e1
    · refine g.qi.congr fun j x => ?_
      unfold rr
      show _ ↔ x ≠ T.c ∧ ∃ t, fnd (del T.L i) x = some t ∧ _
      rw [fnd_del]
      by_cases e : x = i
      · subst e
        rw [if_pos rfl, k1, if_pos rfl]
        constructor
        · rintro ⟨_, t', e1, e2, _⟩
          cases e1
          cases e2
        · rintro ⟨_, t', e1, _⟩
          cases e1
      · rw [if_neg e]

theorem okq_place {S : Sd} (h : OkQ S) {i : Int} {t : Tk} (hf : fnd S.L i = some t) {p d : Int} (hp : 0 ≤ p ∧ p < 64) (hd : 0 ≤ d ∧ d < 4) : OkQ (plaS S t p d) := by
  have hi := fnd_i' hf
  have key := fnd_upd1 S.L i (f := setPD p d) (fun _ => rfl)
  have hg : GoodL (upd S.L i (setPD p d)) := good_upd h.gl (fun _ => rfl) (fun t ht _ => by
    have := h.gl.all t ht
    exact ⟨this.i0, this.i1, hp.1, by show p ≤ 63; omega, hd.1, by show d ≤ 3; omega, this.s0, this.s1⟩)
  have hsl : ∀ t ∈ upd S.L i (setPD p d), 1 ≤ t.s := mem_upd_s h.sl (fun t ht _ => h.sl t ht)
  have hcu : S.c = -1 ∨ ∃ t, fnd (upd S.L i (setPD p d)) S.c = some t ∧ t.a = true := by
    rcases h.cu with e | ⟨t', e1, e2⟩
    · exact Or.inl e
    · by_cases e : S.c = i
      · refine Or.inr ⟨setPD p d t', ?_, e2⟩
        rw [key, if_pos e, ← e, e1]; rfl
      · exact Or.inr ⟨t', by rw [key, if_neg e]; exact e1, e2⟩
  unfold plaS
  rw [hi]
  split
  · rename_i hr
    have hr' := rdy_iff.1 hr
    refine ⟨hg, hsl, hcu, ?_⟩
    show QI (uq (uq S.q (ky t.d t.p) (gOut t.i)) (ky d p) (gEnd t.i)) (rr (upd S.L i (setPD p d)) S.c)
    rw [hi]
    refine ((h.qi.out (ky t.d t.p) i).end (k := ky d p) (i := i) ?_).congr fun j x => ?_
    · rintro ⟨⟨_, t', e1, _, e3⟩, e4⟩
      rw [hf] at e1; cases e1
      exact e4 ⟨e3.symm, rfl⟩
    · unfold rr
      rw [key]
      by_cases e : x = i
      · subst e
        rw [if_pos rfl, hf]
        constructor
        · rintro (⟨⟨_, t', e1, _, e3⟩, e4⟩ | ⟨rfl, _⟩)
          · cases e1
            exact absurd ⟨e3.symm, rfl⟩ e4
          · exact ⟨by rw [← hi]; exact hr'.2, _, rfl, hr'.1, rfl⟩
        · rintro ⟨_, t', e1, _, e3⟩
          cases e1
          exact Or.inr ⟨e3.symm, rfl⟩
      · rw [if_neg e]
        simp [e]
  · rename_i hr
    refine ⟨hg, hsl, hcu, h.qi.congr fun j x => ?_⟩
    unfold rr
    show _ ↔ x ≠ S.c ∧ ∃ t, fnd (upd S.L i (setPD p d)) x = some t ∧ _
    rw [key]
    by_cases e : x = i
    · subst e
      rw [if_pos rfl, hf]
      have : ∀ {c : Prop}, t.a = true → x ≠ S.c → c := fun a b => absurd (rdy_iff.2 ⟨a, by rw [hi]; exact b⟩) hr
      constructor
      · rintro ⟨a, t', e1, b, _⟩
        cases e1
        exact this b a
      · rintro ⟨a, t', e1, b, _⟩
        cases e1
        exact this b a
    · rw [if_neg e]

theorem okq_pri {S : Sd} (h : OkQ S) (i p : Int) : OkQ (priS S i p) := by
  unfold priS
  cases hf : fnd S.L i with
  | none => exact h
  | some t =>
    dsimp only
    split
    · rename_i hp
      have := h.gl.all t (fnd_mem hf).1
      exact okq_place h hf hp ⟨this.d0, by have := this.d1; omega⟩
    · exact h
theorem okq_dom {S : Sd} (h : OkQ S) (i d : Int) : OkQ (domS S i d) := by
  unfold domS
  cases hf : fnd S.L i with
  | none => exact h
  | some t =>
    dsimp only
    split
    · rename_i hd
      have := h.gl.all t (fnd_mem hf).1
      exact okq_place h hf ⟨this.p0, by have := this.p1; omega⟩ hd
    · exact h

/-- The current one put back, at either end. -/
theorem rr_back {L : List Tk} (g : GoodL L) {c : Int} {t : Tk} (hf : fnd L c = some t) (ha : t.a = true) : (¬ rr L c (ky t.d t.p) c) ∧ ∀ j x, (rr L c j x ∨ (j = ky t.d t.p ∧ x = c)) ↔ rr L (-1) j x := by
  refine ⟨fun e => e.1 rfl, fun j x => ?_⟩
  constructor
  · rintro (⟨_, t', e1, e2, e3⟩ | ⟨rfl, rfl⟩)
    · exact ⟨by have := fnd_pos g e1; omega, t', e1, e2, e3⟩
    · exact ⟨by have := fnd_pos g hf; omega, t, hf, ha, rfl⟩
  · rintro ⟨_, t', e1, e2, e3⟩
    by_cases e : x = c
    · subst e
      rw [hf] at e1; cases e1
      exact Or.inr ⟨e3.symm, rfl⟩
    · exact Or.inl ⟨e, t', e1, e2, e3⟩
theorem okq_backE {S : Sd} (h : OkQ S) (hc : S.c ≠ -1) : OkQ (back S gEnd) := by
  obtain ⟨hf, ha, hi⟩ := h.get hc
  have k := rr_back h.gl hf ha
  refine ⟨h.gl, h.sl, Or.inl rfl, ?_⟩
  show QI (uq S.q (ky (curT S).d (curT S).p) (gEnd (curT S).i)) (rr S.L (-1))
  rw [hi]
  exact (h.qi.end k.1).congr k.2
theorem okq_backF {S : Sd} (h : OkQ S) (hc : S.c ≠ -1) : OkQ (back S gFront) := by
  obtain ⟨hf, ha, hi⟩ := h.get hc
  have k := rr_back h.gl hf ha
  refine ⟨h.gl, h.sl, Or.inl rfl, ?_⟩
  show QI (uq S.q (ky (curT S).d (curT S).p) (gFront (curT S).i)) (rr S.L (-1))
  rw [hi]
  exact (h.qi.front k.1).congr k.2

/-- A slice turned. -/
theorem okq_slice {S : Sd} (h : OkQ S) {s : Int} (h0 : 1 ≤ s) (h1 : s ≤ 4) (k : Int) : OkQ { S with L := upd S.L k (setSl s) } := by
  have key := fnd_upd1 S.L k (f := setSl s) (fun _ => rfl)
  refine ⟨good_upd h.gl (fun _ => rfl) (fun t ht _ => ?_), mem_upd_s h.sl (fun t ht _ => h0), ?_, h.qi.congr fun j x => ?_⟩
  · have := h.gl.all t ht; exact ⟨this.i0, this.i1, this.p0, this.p1, this.d0, this.d1, by show 0 ≤ s; omega, h1⟩
  · rcases h.cu with e | ⟨t', e1, e2⟩
    · exact Or.inl e
    · by_cases e : S.c = k
      · refine Or.inr ⟨setSl s t', ?_, e2⟩
        show fnd (upd S.L k (setSl s)) S.c = _
        rw [key, if_pos e, ← e, e1]; rfl
      · refine Or.inr ⟨t', ?_, e2⟩
        show fnd (upd S.L k (setSl s)) S.c = _
        rw [key, if_neg e]
        exact e1
  · unfold rr
    show _ ↔ x ≠ S.c ∧ ∃ t, fnd (upd S.L k (setSl s)) x = some t ∧ _
    rw [key]
    by_cases e : x = k
    · subst e
      rw [if_pos rfl]
      cases hf : fnd S.L x with
      | none => simp
      | some t =>
        simp only [Option.map_some, Option.some.injEq]
        constructor
        · rintro ⟨a, t', rfl, b, c⟩
          exact ⟨a, _, rfl, b, c⟩
        · rintro ⟨a, t', rfl, b, c⟩
          exact ⟨a, _, rfl, b, c⟩
    · rw [if_neg e]

theorem okq_yield {S : Sd} (h : OkQ S) : OkQ (yieS S) := by
  unfold yieS
  split
  · exact h
  · rename_i hc
    exact okq_backE (okq_slice h (by omega) (by omega) S.c) hc

theorem upd_upd (L : List Tk) (k a b : Int) : upd (upd L k (setSl a)) k (setSl b) = upd L k (setSl b) := by
  unfold upd
  rw [List.map_map]
  apply List.map_congr_left
  intro t _
  show (if (if t.i = k then setSl a t else t).i = k then setSl b (if t.i = k then setSl a t else t) else (if t.i = k then setSl a t else t)) = _
  by_cases e : t.i = k
  · rw [if_pos e, if_pos (show (setSl a t).i = k from e), if_pos e]; rfl
  · rw [if_neg e, if_neg e]

theorem speS_eq (S : Sd) : speS S = if S.c = -1 then S else if (curT S).s = 1 then yieS S else { S with L := upd S.L S.c (setSl ((curT S).s - 1)) } := by
  unfold speS
  split
  · rfl
  · rename_i hc
    dsimp only
    split
    · unfold yieS
      dsimp only
      rw [if_neg hc, if_neg hc, upd_upd]
    · rfl

theorem okq_spend {S : Sd} (h : OkQ S) : OkQ (speS S) := by
  rw [speS_eq]
  split
  · exact h
  · rename_i hc
    split
    · exact okq_yield h
    · rename_i h1
      have hm := (fnd_mem (h.get hc).1).1
      have a := h.sl _ hm
      have b := (h.gl.all _ hm).s1
      exact okq_slice h (by omega) (by omega) S.c

theorem speS_rest (S : Sd) : (speS S).tb = S.tb ∧ (speS S).tn = S.tn ∧ (speS S).lf = S.lf := by
  rw [speS_eq]
  split
  · exact ⟨rfl, rfl, rfl⟩
  · split
    · unfold yieS
      split <;> exact ⟨rfl, rfl, rfl⟩
    · exact ⟨rfl, rfl, rfl⟩

structure Ok (S : Sd) : Prop where
  q : OkQ S
  t : GoodT S

theorem okq_turn {S : Sd} (h : OkQ S) : OkQ (turS S) := ⟨h.gl, h.sl, h.cu, h.qi⟩
theorem okq_next {S : Sd} (h : OkQ S) : OkQ (nexS S) := by
  unfold nexS
  split
  · rename_i e
    exact okq_backF (okq_turn h) e.1
  · exact okq_turn h
theorem okq_lf {S : Sd} (h : OkQ S) (n : Int) : OkQ { S with lf := n } := ⟨h.gl, h.sl, h.cu, h.qi⟩
theorem okq_tick {S : Sd} (h : OkQ S) : OkQ (ticS S) := by
  unfold ticS
  dsimp only
  split
  · exact okq_next (okq_lf (okq_spend h) _)
  · exact okq_lf (okq_spend h) _

theorem goodT_turn {S : Sd} (hb : ∀ t ∈ S.tb, okN t) (hl : S.tb.length ≤ 8) (ht : S.tn < S.tb.length) : GoodT (turS S) := by
  have hlt : nexN S < S.tb.length := Nat.mod_lt _ (by omega)
  have he : S.tb[nexN S]? = some S.tb[nexN S] := List.getElem?_eq_getElem hlt
  have hk := hb _ (List.mem_of_getElem? he)
  refine ⟨hb, hl, hlt, ?_, ?_⟩
  · show 1 ≤ ((S.tb[nexN S]?).getD ⟨0, 1000⟩).n
    rw [he]
    exact hk.n0
  · show ((S.tb[nexN S]?).getD ⟨0, 1000⟩).n ≤ 1000
    rw [he]
    exact hk.n1

theorem ticS_turn (S : Sd) : (ticS S).tb = S.tb ∧ (ticS S).tn = (if S.lf = 1 then nexN S else S.tn) ∧ (ticS S).lf = (if S.lf = 1 then ((S.tb[nexN S]?).getD ⟨0, 1000⟩).n else S.lf - 1) := by
  obtain ⟨e1, e2, e3⟩ := speS_rest S
  unfold ticS
  dsimp only
  rw [e3]
  by_cases h : S.lf = 1
  · rw [if_pos h, if_pos h, if_pos h]
    unfold nexS
    have hn : nexN { speS S with lf := 0 } = nexN S := by unfold nexN; dsimp only; rw [e1, e2]
    split
    · refine ⟨e1, hn, ?_⟩
      show (((speS S).tb[nexN { speS S with lf := 0 }]?).getD ⟨0, 1000⟩).n = _
      rw [hn, e1]
    · refine ⟨e1, hn, ?_⟩
      show (((speS S).tb[nexN { speS S with lf := 0 }]?).getD ⟨0, 1000⟩).n = _
      rw [hn, e1]
  · rw [if_neg h, if_neg h, if_neg h]
    exact ⟨e1, e2, rfl⟩

theorem ok_tick {S : Sd} (h : Ok S) : Ok (ticS S) := by
  refine ⟨okq_tick h.q, ?_⟩
  obtain ⟨e1, e2, e3⟩ := ticS_turn S
  have g := goodT_turn h.t.ok h.t.len h.t.tn
  refine ⟨by rw [e1]; exact h.t.ok, by rw [e1]; exact h.t.len, ?_, ?_, ?_⟩
  · rw [e1, e2]
    split
    · exact g.tn
    · exact h.t.tn
  · rw [e3]
    have := h.t.l0
    split
    · exact g.l0
    · omega
  · rw [e3]
    have := h.t.l1
    split
    · exact g.l1
    · omega

/-! ### who would run first -/
theorem urg_none {S : Sd} {d : Int} : ∀ {k : Nat}, urg S d k = none → ∀ p, p < k → S.q (d.toNat * 64 + p) = []
  | 0, _, p, hp => by omega
  | k + 1, h, p, hp => by
    unfold urg at h
    cases hq : S.q (d.toNat * 64 + k) with
    | cons i l => rw [hq] at h; cases h
    | nil =>
      rw [hq] at h
      by_cases e : p = k
      · subst e; exact hq
      · exact urg_none h p (by omega)
theorem urg_some {S : Sd} {d : Int} {x : Int} : ∀ {k : Nat}, urg S d k = some x → ∃ p, p < k ∧ (∃ l, S.q (d.toNat * 64 + p) = x :: l) ∧ ∀ p', p < p' → p' < k → S.q (d.toNat * 64 + p') = []
  | 0, h => by cases h
  | k + 1, h => by
    unfold urg at h
    cases hq : S.q (d.toNat * 64 + k) with
    | cons i l =>
      rw [hq] at h
      cases h
      exact ⟨k, by omega, ⟨l, hq⟩, fun p' h1 h2 => by omega⟩
    | nil =>
      rw [hq] at h
      obtain ⟨p, a, b, c⟩ := urg_some h
      refine ⟨p, by omega, b, fun p' h1 h2 => ?_⟩
      by_cases e : p' = k
      · subst e; exact hq
      · exact c p' h1 (by omega)

theorem ky_inj {d p d' p' : Int} (h0 : 0 ≤ d) (h1 : 0 ≤ p ∧ p < 64) (h2 : 0 ≤ d') (h3 : 0 ≤ p' ∧ p' < 64) (e : ky d p = ky d' p') : d = d' ∧ p = p' := by
  unfold ky at e
  omega

/-- Who would run first is a thread, of that domain, ready. -/
theorem urg_is {S : Sd} (h : OkQ S) {d : Int} (hd : 0 ≤ d ∧ d ≤ 3) {x : Int} (hu : urg S d 64 = some x) : ∃ t, fnd S.L x = some t ∧ t.a = true ∧ t.d = d ∧ x ≠ S.c ∧ (∃ l, S.q (ky t.d t.p) = x :: l) ∧ ∀ p : Int, t.p < p → p < 64 → S.q (ky d p) = [] := by
  obtain ⟨p, hp, ⟨l, hq⟩, hz⟩ := urg_some hu
  obtain ⟨hc, t, ht, ha, hk⟩ := (h.qi.mem _ x).1 (show x ∈ S.q (d.toNat * 64 + p) by rw [hq]; exact List.mem_cons_self)
  have ok := h.gl.all t (fnd_mem ht).1
  have := ok.p0; have := ok.p1; have := ok.d0; have := ok.d1
  have e : ky t.d t.p = ky d (p : Int) := by rw [hk]; unfold ky; simp
  obtain ⟨e1, e2⟩ := ky_inj ok.d0 ⟨ok.p0, by omega⟩ hd.1 ⟨by omega, by omega⟩ e
  refine ⟨t, ht, ha, e1, hc, ⟨l, by rw [hk]; exact hq⟩, fun p' a b => ?_⟩
  have := hz p'.toNat (by omega) (by omega)
  unfold ky
  exact this

/-- A ready one becomes the current one. -/
theorem okq_take {S : Sd} (h : OkQ S) (hc : S.c = -1) {x : Int} {t : Tk} (hf : fnd S.L x = some t) (ha : t.a = true) : OkQ { app S t gOut with c := x } := by
  have hi := fnd_i' hf
  refine ⟨h.gl, h.sl, Or.inr ⟨t, hf, ha⟩, ?_⟩
  show QI (uq S.q (ky t.d t.p) (gOut t.i)) (rr S.L x)
  rw [hi]
  refine (h.qi.out (ky t.d t.p) x).congr fun j y => ?_
  rw [hc]
  unfold rr
  constructor
  · rintro ⟨⟨_, t', e1, e2, e3⟩, e4⟩
    refine ⟨?_, t', e1, e2, e3⟩
    rintro rfl
    rw [hf] at e1; cases e1
    exact e4 ⟨e3.symm, rfl⟩
  · rintro ⟨e0, t', e1, e2, e3⟩
    exact ⟨⟨by have := fnd_pos h.gl e1; omega, t', e1, e2, e3⟩, fun e => e0 e.2⟩

theorem okq_sett {S : Sd} (h : OkQ S) (gt : GoodT S) : OkQ (sett S) := by
  unfold sett
  cases hu : urg S (pe S) 64 with
  | none => exact h
  | some x =>
    obtain ⟨t, hf, ha, hd, hx, hq, _⟩ := urg_is h ⟨gt.pt.d0, gt.pt.d1⟩ hu
    dsimp only
    rw [hf]
    show OkQ (if S.c = -1 then { app S t gOut with c := x } else if t.p ≤ (curT S).p then S else { app (back S gFront) t gOut with c := x })
    split
    · rename_i hc
      exact okq_take h hc hf ha
    · rename_i hc
      split
      · exact h
      · exact okq_take (S := back S gFront) (okq_backF h hc) rfl hf ha

theorem goodT_of {S S' : Sd} (g : GoodT S) (e1 : S'.tb = S.tb) (e2 : S'.tn = S.tn) (e3 : S'.lf = S.lf) : GoodT S' := ⟨by rw [e1]; exact g.ok, by rw [e1]; exact g.len, by rw [e1, e2]; exact g.tn, by rw [e3]; exact g.l0, by rw [e3]; exact g.l1⟩
theorem sett_rest (S : Sd) : (sett S).tb = S.tb ∧ (sett S).tn = S.tn ∧ (sett S).lf = S.lf ∧ (sett S).L = S.L := by
  unfold sett
  cases urg S (pe S) 64 with
  | none => exact ⟨rfl, rfl, rfl, rfl⟩
  | some x =>
    dsimp only
    split
    · exact ⟨rfl, rfl, rfl, rfl⟩
    · split <;> exact ⟨rfl, rfl, rfl, rfl⟩
theorem setS_rest (S : Sd) : (setS S).tb = S.tb ∧ (setS S).tn = S.tn ∧ (setS S).lf = S.lf ∧ (setS S).L = S.L := by
  unfold setS
  split
  · exact sett_rest (back S gEnd)
  · exact sett_rest S
theorem goodT_back {S : Sd} (g : GoodT S) (f : Int → List Int → List Int) : GoodT (back S f) := goodT_of g rfl rfl rfl
theorem ok_settle {S : Sd} (h : Ok S) : Ok (setS S) := by
  obtain ⟨e1, e2, e3, _⟩ := setS_rest S
  refine ⟨?_, goodT_of h.t e1 e2 e3⟩
  unfold setS
  split
  · rename_i e
    exact okq_sett (okq_backE h.q e.1) (goodT_back h.t _)
  · exact okq_sett h.q h.t

theorem ok_of {S S' : Sd} (h : OkQ S') (g : GoodT S) (e1 : S'.tb = S.tb) (e2 : S'.tn = S.tn) (e3 : S'.lf = S.lf) : Ok S' := ⟨h, goodT_of g e1 e2 e3⟩
theorem ok_add {S : Sd} (h : Ok S) (i p d : Int) : Ok (addS S i p d) := by
  refine ok_of (okq_add h.q i p d) h.t ?_ ?_ ?_ <;> (unfold addS; split <;> rfl)
theorem ok_wake {S : Sd} (h : Ok S) (i : Int) : Ok (wakS S i) := by
  refine ok_of (okq_wake h.q i) h.t ?_ ?_ ?_ <;> (unfold wakS; cases fnd S.L i <;> first | rfl | (dsimp only; split <;> rfl))
theorem stoS_rest (S : Sd) (i : Int) : (stoS S i).tb = S.tb ∧ (stoS S i).tn = S.tn ∧ (stoS S i).lf = S.lf := by
  unfold stoS
  cases fnd S.L i with
  | none => exact ⟨rfl, rfl, rfl⟩
  | some t => dsimp only; split <;> exact ⟨rfl, rfl, rfl⟩
theorem ok_stop {S : Sd} (h : Ok S) (i : Int) : Ok (stoS S i) := ok_of (okq_stop h.q i).1 h.t (stoS_rest S i).1 (stoS_rest S i).2.1 (stoS_rest S i).2.2
theorem ok_drop {S : Sd} (h : Ok S) (i : Int) : Ok (droS S i) := ok_of (okq_drop h.q i) h.t (stoS_rest S i).1 (stoS_rest S i).2.1 (stoS_rest S i).2.2
theorem plaS_rest (S : Sd) (t : Tk) (p d : Int) : (plaS S t p d).tb = S.tb ∧ (plaS S t p d).tn = S.tn ∧ (plaS S t p d).lf = S.lf := by
  unfold plaS
  split <;> exact ⟨rfl, rfl, rfl⟩
theorem ok_pri {S : Sd} (h : Ok S) (i p : Int) : Ok (priS S i p) := by
  have : (priS S i p).tb = S.tb ∧ (priS S i p).tn = S.tn ∧ (priS S i p).lf = S.lf := by
    unfold priS
    cases fnd S.L i with
    | none => exact ⟨rfl, rfl, rfl⟩
    | some t => dsimp only; split; exact plaS_rest _ _ _ _; exact ⟨rfl, rfl, rfl⟩
  exact ok_of (okq_pri h.q i p) h.t this.1 this.2.1 this.2.2
theorem ok_dom {S : Sd} (h : Ok S) (i d : Int) : Ok (domS S i d) := by
  have : (domS S i d).tb = S.tb ∧ (domS S i d).tn = S.tn ∧ (domS S i d).lf = S.lf := by
    unfold domS
    cases fnd S.L i with
    | none => exact ⟨rfl, rfl, rfl⟩
    | some t => dsimp only; split; exact plaS_rest _ _ _ _; exact ⟨rfl, rfl, rfl⟩
  exact ok_of (okq_dom h.q i d) h.t this.1 this.2.1 this.2.2
theorem ok_yield {S : Sd} (h : Ok S) : Ok (yieS S) := by
  refine ok_of (okq_yield h.q) h.t ?_ ?_ ?_ <;> (unfold yieS; split <;> rfl)

/-- When it has settled. -/
theorem settled {S : Sd} (h : Ok S) : ((setS S).c = -1 → ∀ p : Int, 0 ≤ p → p < 64 → (setS S).q (ky (pe (setS S)) p) = []) ∧
    ((setS S).c ≠ -1 → ∃ t, fnd (setS S).L (setS S).c = some t ∧ t.a = true ∧ t.d = pe (setS S) ∧ ∀ p : Int, t.p < p → p < 64 → (setS S).q (ky (pe (setS S)) p) = []) := by
  have key : ∀ S : Sd, OkQ S → GoodT S → (S.c = -1 ∨ (curT S).d = pe S) → ((sett S).c = -1 → ∀ p : Int, 0 ≤ p → p < 64 → (sett S).q (ky (pe S) p) = []) ∧
    ((sett S).c ≠ -1 → ∃ t, fnd S.L (sett S).c = some t ∧ t.a = true ∧ t.d = pe S ∧ ∀ p : Int, t.p < p → p < 64 → (sett S).q (ky (pe S) p) = []) := by
    intro S h gt hd
    have hb := gt.pt
    have hb0 : 0 ≤ pe S := hb.d0
    have hb1 : pe S ≤ 3 := hb.d1
    unfold sett
    cases hu : urg S (pe S) 64 with
    | none =>
      have hz := urg_none hu
      have hz' : ∀ p : Int, 0 ≤ p → p < 64 → S.q (ky (pe S) p) = [] := fun p a b => by
        have := hz p.toNat (by omega)
        unfold ky
        exact this
      refine ⟨fun _ => hz', fun hc => ?_⟩
      obtain ⟨hf, ha, _⟩ := h.get hc
      have ok := h.gl.all _ (fnd_mem hf).1
      refine ⟨curT S, hf, ha, by rcases hd with e | e; exact absurd e hc; exact e, fun p a b => hz' p (by have := ok.p0; omega) b⟩
    | some x =>
      obtain ⟨t, hf, ha, hd', hx, ⟨l, hq⟩, hz⟩ := urg_is h ⟨hb0, hb1⟩ hu
      have hpos := fnd_pos h.gl hf
      have okt := h.gl.all t (fnd_mem hf).1
      have e0 := okt.p0
      have e1 := okt.p1
      have hne : ∀ p : Int, t.p < p → p < 64 → ky (pe S) p ≠ ky t.d t.p := fun p a b e => by
        have := ky_inj hb0 ⟨by omega, b⟩ okt.d0 ⟨by omega, by omega⟩ e
        omega
      dsimp only
      rw [hf]
      show ((if S.c = -1 then { app S t gOut with c := x } else if t.p ≤ (curT S).p then S else { app (back S gFront) t gOut with c := x } : Sd).c = -1 → ∀ p : Int, 0 ≤ p → p < 64 → (if S.c = -1 then { app S t gOut with c := x } else if t.p ≤ (curT S).p then S else { app (back S gFront) t gOut with c := x } : Sd).q (ky (pe S) p) = []) ∧ ((if S.c = -1 then { app S t gOut with c := x } else if t.p ≤ (curT S).p then S else { app (back S gFront) t gOut with c := x } : Sd).c ≠ -1 → ∃ t', fnd S.L (if S.c = -1 then { app S t gOut with c := x } else if t.p ≤ (curT S).p then S else { app (back S gFront) t gOut with c := x } : Sd).c = some t' ∧ t'.a = true ∧ t'.d = pe S ∧ ∀ p : Int, t'.p < p → p < 64 → (if S.c = -1 then { app S t gOut with c := x } else if t.p ≤ (curT S).p then S else { app (back S gFront) t gOut with c := x } : Sd).q (ky (pe S) p) = [])
      split
      · refine ⟨fun e => ?_, fun _ => ⟨t, hf, ha, hd', fun p a b => ?_⟩⟩
        · have : x = -1 := e
          omega
        · show uq S.q (ky t.d t.p) (gOut t.i) (ky (pe S) p) = []
          rw [uq_other _ _ (hne p a b)]
          exact hz p a b
      · rename_i hc
        obtain ⟨hf2, ha2, hi2⟩ := h.get hc
        have ok2 := h.gl.all _ (fnd_mem hf2).1
        have hdc : (curT S).d = pe S := by rcases hd with e | e; exact absurd e hc; exact e
        split
        · rename_i hle
          refine ⟨fun e => absurd e hc, fun _ => ⟨curT S, hf2, ha2, hdc, fun p a b => hz p (by omega) b⟩⟩
        · rename_i hgt
          refine ⟨fun e => ?_, fun _ => ⟨t, hf, ha, hd', fun p a b => ?_⟩⟩
          · have : x = -1 := e
            omega
          · show uq (uq S.q (ky (curT S).d (curT S).p) (gFront (curT S).i)) (ky t.d t.p) (gOut t.i) (ky (pe S) p) = []
            rw [uq_other _ _ (hne p a b), uq_other]
            · exact hz p a b
            · intro e
              have := ky_inj hb0 ⟨by omega, b⟩ ok2.d0 ⟨ok2.p0, by have := ok2.p1; omega⟩ e
              omega
  have hpe : ∀ {A B : Sd}, A.tb = B.tb → A.tn = B.tn → pe A = pe B := fun e1 e2 => by unfold pe pt; rw [e1, e2]
  obtain ⟨r1, r2, r3, r4⟩ := setS_rest S
  rw [hpe r1 r2, r4]
  unfold setS
  split
  · rename_i e
    have := key (back S gEnd) (okq_backE h.q e.1) (goodT_back h.t _) (Or.inl rfl)
    exact this
  · rename_i e
    refine key S h.q h.t ?_
    by_cases hc : S.c = -1
    · exact Or.inl hc
    · exact Or.inr (Classical.byContradiction fun hn => e ⟨hc, hn⟩)

end Go.Proofs.Ytipfgenbfnkpfaa
