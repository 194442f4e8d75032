/-
  What every call of package ipc keeps, over plain data: a thread stands once in the queue of the place where it waits, and in no other. No program, no statement.
-/
import Derived.Test.YtjobdfkfongjaaaIpDefs
namespace Go.Proofs.Ytjobdfkfongjaaa
open Go.RowKit

theorem fnd_mem {L : List Th} {k : Int} {n : Th} (h : fnd L k = some n) : n ∈ L ∧ n.i = k := by
  induction L with
  | nil => cases h
  | cons a L ih =>
    unfold fnd at h
    split at h
    · cases h; rename_i e; exact ⟨List.mem_cons_self, e⟩
    · exact ⟨List.mem_cons_of_mem _ (ih h).1, (ih h).2⟩

theorem fnd_none {L : List Th} {k : Int} (h : fnd L k = none) : ∀ n ∈ L, n.i ≠ k := by
  induction L with
  | nil => simp
  | cons a L ih =>
    unfold fnd at h
    split at h
    · cases h
    · intro n hn
      rcases List.mem_cons.mp hn with rfl | hn
      · assumption
      · exact ih h n hn

theorem fnd_of_mem {L : List Th} (g : L.Pairwise (fun a b => a.i ≠ b.i)) {n : Th} (h : n ∈ L) : fnd L n.i = some n := by
  induction L with
  | nil => cases h
  | cons a L ih =>
    unfold fnd
    rw [List.pairwise_cons] at g
    rcases List.mem_cons.mp h with rfl | h'
    · rw [if_pos rfl]
    · rw [if_neg (g.1 n h')]; exact ih g.2 h'

theorem fnd_none_of {L : List Th} {k : Int} (h : ∀ n ∈ L, n.i ≠ k) : fnd L k = none := by
  cases hf : fnd L k with
  | none => rfl
  | some n => exact absurd (fnd_mem hf).2 (h n (fnd_mem hf).1)

theorem fnd_append (L M : List Th) (k : Int) : fnd (L ++ M) k = match fnd L k with | some t => some t | none => fnd M k := by
  induction L with
  | nil => rfl
  | cons a L ih =>
    simp only [List.cons_append, fnd]
    split
    · rfl
    · exact ih

theorem upd_len (L : List Th) (k : Int) (f : Th → Th) : (upd L k f).length = L.length := by simp [upd]
theorem fnd_upd {L : List Th} {k : Int} {f : Th → Th} (hf : ∀ t, (f t).i = t.i) (j : Int) : fnd (upd L k f) j = (fnd L j).map fun t => if t.i = k then f t else t := by
  induction L with
  | nil => rfl
  | cons a L ih =>
    have e : (if a.i = k then f a else a).i = a.i := by split; exact hf a; rfl
    simp only [upd, List.map_cons, fnd] at ih ⊢
    rw [e]
    split
    · rfl
    · exact ih
theorem mem_upd {L : List Th} {k : Int} {f : Th → Th} {x : Th} (h : x ∈ upd L k f) : ∃ t ∈ L, x = if t.i = k then f t else t := by
  obtain ⟨t, ht, e⟩ := List.mem_map.mp h
  exact ⟨t, ht, e.symm⟩
theorem len_ids : ∀ (N : Nat) (l : List Int), l.Nodup → (∀ x ∈ l, 0 ≤ x ∧ x < (N : Int)) → l.length ≤ N
  | 0, l, _, h => by
    cases l with
    | nil => simp
    | cons x l => have := h x List.mem_cons_self; omega
  | N + 1, l, hn, h => by
    have h1 := len_ids N (l.filter fun x => !(x == (N : Int))) (hn.filter _) (fun x hx => by
      have := List.mem_filter.mp hx
      have h2 := h x this.1
      have h3 : x ≠ (N : Int) := by simpa using this.2
      omega)
    have h2 : l.length ≤ (l.filter fun x => !(x == (N : Int))).length + 1 := by
      clear h h1
      induction l with
      | nil => simp
      | cons a l ih =>
        rw [List.nodup_cons] at hn
        rw [List.filter_cons]
        by_cases e : a = (N : Int)
        · rw [if_neg (by simp [e])]
          have : l.filter (fun x => !(x == (N : Int))) = l := List.filter_eq_self.2 fun x hx => by
            have : x ≠ (N : Int) := fun h' => hn.1 (by rw [e, ← h']; exact hx)
            simpa using this
          rw [this]; simp
        · rw [if_pos (by simp [e])]
          have := ih hn.2
          simp only [List.length_cons]
          omega
    omega
theorem fnd_i {L : List Th} {k : Int} {t : Th} (h : fnd L k = some t) : t.i = k := (fnd_mem h).2
theorem fnd_upd1 (L : List Th) (k : Int) {f : Th → Th} (hf : ∀ t, (f t).i = t.i) (x : Int) : fnd (upd L k f) x = if x = k then (fnd L k).map f else fnd L x := by
  rw [fnd_upd hf]
  cases hx : fnd L x with
  | none =>
    by_cases e : x = k
    · subst e; rw [hx]; simp
    · simp [e]
  | some t =>
    have := fnd_i hx
    by_cases e : x = k
    · subst e
      rw [hx]; simp [this]
    · rw [Option.map_some, if_neg (by rw [this]; exact e), if_neg e]

structure GoodL (L : List Th) : Prop where
  all : ∀ t ∈ L, 0 ≤ t.i ∧ t.i ≤ 1023
  one : L.Pairwise (fun a b => a.i ≠ b.i)
theorem good_upd {L : List Th} {k : Int} {f : Th → Th} (g : GoodL L) (hf : ∀ t, (f t).i = t.i) : GoodL (upd L k f) := by
  refine ⟨fun x hx => ?_, ?_⟩
  · obtain ⟨t, ht, rfl⟩ := mem_upd hx
    have := g.all t ht
    split
    · rw [hf]; exact this
    · exact this
  · unfold upd
    rw [List.pairwise_map]
    refine g.one.imp ?_
    intro a b hab
    have e : ∀ t : Th, (if t.i = k then f t else t).i = t.i := fun t => by split; exact hf t; rfl
    rw [e, e]
    exact hab
theorem good_new {L : List Th} {k : Int} (g : GoodL L) (hk : numB k = true) (hn : fnd L k = none) : GoodL (L ++ [newTh k]) := by
  have hk' : 0 ≤ k ∧ k < 1024 := by simpa [numB] using hk
  refine ⟨fun x hx => ?_, ?_⟩
  · rcases List.mem_append.1 hx with h | h
    · exact g.all x h
    · rw [List.mem_singleton] at h
      subst h
      show 0 ≤ k ∧ k ≤ 1023
      omega
  · rw [List.pairwise_append]
    refine ⟨g.one, List.pairwise_singleton _ _, fun a ha b hb => ?_⟩
    rw [List.mem_singleton] at hb
    subst hb
    exact fnd_none hn a ha
theorem fnd_pos {L : List Th} (g : GoodL L) {x : Int} {t : Th} (h : fnd L x = some t) : 0 ≤ x ∧ x ≤ 1023 := by
  have h1 := fnd_mem h
  have h2 := g.all t h1.1
  rw [h1.2] at h2
  exact h2
theorem len_le {L : List Th} (g : GoodL L) : L.length ≤ 1024 := by
  have h : (L.map (·.i)).length ≤ 1024 := by
    refine len_ids 1024 _ ?_ fun x hx => ?_
    · unfold List.Nodup
      rw [List.pairwise_map]
      exact g.one
    · obtain ⟨t, ht, rfl⟩ := List.mem_map.1 hx
      have := g.all t ht
      omega
  simpa using h

/-- Where a thread may wait. -/
def okP (s o : Int) : Prop := (s = 0 ∧ o = -1) ∨ ((s = 2 ∨ s = 3 ∨ s = 5) ∧ 0 ≤ o ∧ o < 1024) ∨ (s = 4 ∧ -1 ≤ o ∧ o < 1024)

structure Ok (S : Ip) : Prop where
  gl : GoodL S.L
  nd : ∀ s o, (S.q s o).Nodup
  mem : ∀ s o x, x ∈ S.q s o ↔ ∃ t, fnd S.L x = some t ∧ t.st = s ∧ t.on = o ∧ s ≠ 0
  pl : ∀ x t, fnd S.L x = some t → okP t.st t.on
  nt : ∀ x t, fnd S.L x = some t → t.nt = -1 ∨ (0 ≤ t.nt ∧ t.nt < 1024)
  bd : ∀ n x, S.bd n = some x ↔ ∃ t, fnd S.L x = some t ∧ t.nt = n ∧ n ≠ -1
  lt : ∀ n b, S.lt n = some b → 0 ≤ n ∧ n < 1024 ∧ mrkB b = true
  ms : ∀ x t, fnd S.L x = some t → mayM t.sd = true ∧ mayM t.ib = true

theorem ok_0 : Ok ip0 where
  gl := ⟨by simp [ip0], List.Pairwise.nil⟩
  nd _ _ := List.Pairwise.nil
  mem s o x := by simp [ip0, fnd]
  pl x t h := by cases h
  nt x t h := by cases h
  bd n x := by simp [ip0, fnd]
  lt n b h := by cases h
  ms x t h := by cases h

theorem Ok.len {S : Ip} (h : Ok S) (s o : Int) : (S.q s o).length ≤ 1024 := by
  refine len_ids 1024 _ (h.nd s o) fun x hx => ?_
  obtain ⟨t, ht, _⟩ := (h.mem s o x).1 hx
  have := fnd_pos h.gl ht
  omega
/-- Who stands first is a thread that waits there. -/
theorem Ok.first {S : Ip} (h : Ok S) {s o x : Int} (e : firO S s o = some x) : ∃ t, fnd S.L x = some t ∧ t.st = s ∧ t.on = o ∧ s ≠ 0 :=
  (h.mem s o x).1 (List.mem_of_mem_head? (by unfold firO at e; rw [e]; rfl))
theorem Ok.at {S : Ip} (h : Ok S) {s o x : Int} {t : Th} (e : fnd S.L x = some t) (e1 : x ∈ S.q s o) : t.st = s ∧ t.on = o := by
  obtain ⟨t', h1, h2, h3, _⟩ := (h.mem s o x).1 e1
  rw [e] at h1
  cases h1
  exact ⟨h2, h3⟩
theorem wai_iff {S : Ip} (h : Ok S) {x : Int} {t : Th} (e : fnd S.L x = some t) : waiB S x = false ↔ t.st = 0 := by
  have hp := h.pl x t e
  have et : thrT S x = t := by unfold thrT; rw [e]; rfl
  unfold waiB plcS plcO
  rw [et]
  unfold okP at hp
  simp
  omega

/-- A thread turned, its place and its notification left. -/
theorem ok_upd {S : Ip} (h : Ok S) (k : Int) {f : Th → Th} (hi : ∀ t, (f t).i = t.i) (h1 : ∀ t, (f t).st = t.st) (h2 : ∀ t, (f t).on = t.on) (h3 : ∀ t, (f t).nt = t.nt) (hm : ∀ t, mayM t.sd = true ∧ mayM t.ib = true → mayM (f t).sd = true ∧ mayM (f t).ib = true) : Ok { S with L := upd S.L k f } := by
  have F : ∀ x t, fnd (upd S.L k f) x = some t → ∃ u, fnd S.L x = some u ∧ (t = f u ∨ t = u) := fun x t e => by
    rw [fnd_upd1 _ _ hi] at e
    split at e
    · rename_i ex
      subst ex
      obtain ⟨u, hu, rfl⟩ := Option.map_eq_some_iff.1 e
      exact ⟨u, hu, Or.inl rfl⟩
    · exact ⟨t, e, Or.inr rfl⟩
  have G : ∀ x u, fnd S.L x = some u → ∃ t, fnd (upd S.L k f) x = some t ∧ t.st = u.st ∧ t.on = u.on ∧ t.nt = u.nt := fun x u e => by
    rw [fnd_upd1 _ _ hi]
    split
    · rename_i ex
      subst ex
      rw [e]
      exact ⟨f u, rfl, h1 u, h2 u, h3 u⟩
    · exact ⟨u, e, rfl, rfl, rfl⟩
  have F' : ∀ x t, fnd (upd S.L k f) x = some t → ∃ u, fnd S.L x = some u ∧ t.st = u.st ∧ t.on = u.on ∧ t.nt = u.nt := fun x t e => by
    obtain ⟨u, hu, rfl | rfl⟩ := F x t e
    · exact ⟨u, hu, h1 u, h2 u, h3 u⟩
    · exact ⟨t, hu, rfl, rfl, rfl⟩
  refine ⟨good_upd h.gl hi, h.nd, fun s o x => ?_, fun x t e => ?_, fun x t e => ?_, fun n x => ?_, h.lt, fun x t e => ?_⟩
  · rw [h.mem]
    constructor
    · rintro ⟨u, hu, e1, e2, e3⟩
      obtain ⟨t, ht, g1, g2, _⟩ := G x u hu
      exact ⟨t, ht, g1.trans e1, g2.trans e2, e3⟩
    · rintro ⟨t, ht, e1, e2, e3⟩
      obtain ⟨u, hu, g1, g2, _⟩ := F' x t ht
      exact ⟨u, hu, g1.symm.trans e1, g2.symm.trans e2, e3⟩
  · obtain ⟨u, hu, g1, g2, _⟩ := F' x t e
    rw [g1, g2]
    exact h.pl x u hu
  · obtain ⟨u, hu, _, _, g3⟩ := F' x t e
    rw [g3]
    exact h.nt x u hu
  · rw [h.bd]
    constructor
    · rintro ⟨u, hu, e1, e2⟩
      obtain ⟨t, ht, _, _, g3⟩ := G x u hu
      exact ⟨t, ht, g3.trans e1, e2⟩
    · rintro ⟨t, ht, e1, e2⟩
      obtain ⟨u, hu, _, _, g3⟩ := F' x t ht
      exact ⟨u, hu, g3.symm.trans e1, e2⟩
  · obtain ⟨u, hu, rfl | rfl⟩ := F x t e
    · exact hm u (h.ms x u hu)
    · exact h.ms x t hu

theorem ok_del {S : Ip} (h : Ok S) (t : Int) {m : Ms} (hm : mayM m = true) : Ok (delS S t m) :=
  ok_upd h t (fun _ => rfl) (fun _ => rfl) (fun _ => rfl) (fun _ => rfl) fun _ e => ⟨e.1, hm⟩
theorem ok_sd {S : Ip} (h : Ok S) (t : Int) {m : Ms} (c : Bool) (hm : mayM m = true) : Ok { S with L := upd S.L t (setD m c) } :=
  ok_upd h t (fun _ => rfl) (fun _ => rfl) (fun _ => rfl) (fun _ => rfl) fun _ e => ⟨hm, e.2⟩
theorem may0 : mayM M0 = true := by decide
theorem may_bad {b : Int} (h : mrkB b = true) : mayM (badM b) = true := by
  have h0 : mrkB 0 = true := by decide
  simp [mayM, badM, wrdB, h, h0]
theorem ok_inb {S : Ip} (h : Ok S) (t : Int) : Ok (inbS S t) := by
  unfold inbS
  split
  · exact ok_upd h t (fun _ => rfl) (fun _ => rfl) (fun _ => rfl) (fun _ => rfl) fun _ e => ⟨e.1, may0⟩
  · exact h

/-! ### a thread that is there from now on -/
theorem fnd_new {L : List Th} {k : Int} (hn : fnd L k = none) (x : Int) : fnd (L ++ [newTh k]) x = if x = k then some (newTh k) else fnd L x := by
  rw [fnd_append]
  by_cases e : x = k
  · subst e; rw [hn, if_pos rfl]; simp [fnd, newTh]
  · rw [if_neg e]
    cases hx : fnd L x with
    | some t => rfl
    | none =>
      have : ¬ k = x := fun e' => e e'.symm
      simp [fnd, newTh, this]
theorem thr_at (S : Ip) (t : Int) : fnd (thrS S t).L t = some (thrT S t) := by
  unfold thrS thrT
  cases e : fnd S.L t with
  | some x => exact e
  | none => show fnd (S.L ++ [newTh t]) t = _; rw [fnd_new e, if_pos rfl]; rfl
theorem ok_thr {S : Ip} (h : Ok S) {k : Int} (hk : numB k = true) : Ok (thrS S k) := by
  unfold thrS
  cases hn : fnd S.L k with
  | some x => exact h
  | none =>
    have F : ∀ x t, fnd (S.L ++ [newTh k]) x = some t → (x = k ∧ t = newTh k) ∨ fnd S.L x = some t := fun x t e => by
      rw [fnd_new hn] at e
      split at e
      · cases e; left; exact ⟨by assumption, rfl⟩
      · right; exact e
    have G : ∀ x t, fnd S.L x = some t → fnd (S.L ++ [newTh k]) x = some t := fun x t e => by
      rw [fnd_new hn]
      split
      · rename_i ex; subst ex; rw [hn] at e; cases e
      · exact e
    refine ⟨good_new h.gl hk hn, h.nd, fun s o x => ?_, fun x t e => ?_, fun x t e => ?_, fun n x => ?_, h.lt, fun x t e => ?_⟩
    · show x ∈ S.q s o ↔ ∃ t, fnd (S.L ++ [newTh k]) x = some t ∧ _
      rw [h.mem]
      constructor
      · rintro ⟨u, hu, r⟩
        exact ⟨u, G x u hu, r⟩
      · rintro ⟨t, ht, e1, e2, e3⟩
        rcases F x t ht with ⟨_, rfl⟩ | hu
        · exact absurd e1.symm e3
        · exact ⟨t, hu, e1, e2, e3⟩
    · rcases F x t e with ⟨_, rfl⟩ | hu
      · exact Or.inl ⟨rfl, rfl⟩
      · exact h.pl x t hu
    · rcases F x t e with ⟨_, rfl⟩ | hu
      · exact Or.inl rfl
      · exact h.nt x t hu
    · show S.bd n = some x ↔ ∃ t, fnd (S.L ++ [newTh k]) x = some t ∧ _
      rw [h.bd]
      constructor
      · rintro ⟨u, hu, r⟩
        exact ⟨u, G x u hu, r⟩
      · rintro ⟨t, ht, e1, e2⟩
        rcases F x t ht with ⟨_, rfl⟩ | hu
        · exact absurd e1.symm e2
        · exact ⟨t, hu, e1, e2⟩
    · rcases F x t e with ⟨_, rfl⟩ | hu
      · exact ⟨may0, may0⟩
      · exact h.ms x t hu

/-! ### entering and leaving -/
theorem ok_ent {S : Ip} (h : Ok S) {k s o : Int} {u : Th} (hu : fnd S.L k = some u) (h0 : u.st = 0) (hp : okP s o) (hs : s ≠ 0) : Ok (entS S k s o) := by
  have hi : ∀ t, (setP s o t).i = t.i := fun _ => rfl
  have F : ∀ x t, fnd (upd S.L k (setP s o)) x = some t ↔ (x = k ∧ t = setP s o u) ∨ (x ≠ k ∧ fnd S.L x = some t) := fun x t => by
    rw [fnd_upd1 _ _ hi]
    by_cases e : x = k
    · subst e
      rw [if_pos rfl, hu]
      simp [eq_comm]
    · simp [e]
  have hno : ∀ a b, k ∉ S.q a b := fun a b hk => by
    obtain ⟨t, ht, e1, _, e3⟩ := (h.mem a b k).1 hk
    rw [hu] at ht
    cases ht
    exact e3 (e1.symm.trans h0)
  refine ⟨good_upd h.gl hi, fun a b => ?_, fun a b x => ?_, fun x t e => ?_, fun x t e => ?_, fun n x => ?_, h.lt, fun x t e => ?_⟩
  · show (uq S.q s o (· ++ [k]) a b).Nodup
    unfold uq
    split
    · rw [List.nodup_append]
      refine ⟨h.nd a b, by simp, fun y hy z hz => ?_⟩
      rw [List.mem_singleton] at hz
      subst hz
      intro e
      subst e
      exact hno a b hy
    · exact h.nd a b
  · show x ∈ uq S.q s o (· ++ [k]) a b ↔ ∃ t, fnd (upd S.L k (setP s o)) x = some t ∧ _
    simp only [F]
    have base := h.mem a b x
    have hx : x = k → x ∉ S.q a b := fun e => by rw [e]; exact hno a b
    unfold uq
    split
    · rename_i e
      obtain ⟨rfl, rfl⟩ := e
      rw [List.mem_append, List.mem_singleton]
      constructor
      · rintro (e | rfl)
        · obtain ⟨t, ht, r⟩ := base.1 e
          exact ⟨t, Or.inr ⟨fun e' => hx e' e, ht⟩, r⟩
        · exact ⟨_, Or.inl ⟨rfl, rfl⟩, rfl, rfl, hs⟩
      · rintro ⟨t, ⟨rfl, rfl⟩ | ⟨_, ht⟩, r⟩
        · exact Or.inr rfl
        · exact Or.inl (base.2 ⟨t, ht, r⟩)
    · rename_i e
      constructor
      · intro e'
        obtain ⟨t, ht, r⟩ := base.1 e'
        exact ⟨t, Or.inr ⟨fun e2 => hx e2 e', ht⟩, r⟩
      · rintro ⟨t, ⟨rfl, rfl⟩ | ⟨_, ht⟩, r⟩
        · exact absurd ⟨r.1.symm, r.2.1.symm⟩ e
        · exact base.2 ⟨t, ht, r⟩
  · rcases (F x t).1 e with ⟨_, rfl⟩ | ⟨_, e⟩
    · exact hp
    · exact h.pl x t e
  · rcases (F x t).1 e with ⟨_, rfl⟩ | ⟨_, e⟩
    · exact h.nt k u hu
    · exact h.nt x t e
  · show S.bd n = some x ↔ ∃ t, fnd (upd S.L k (setP s o)) x = some t ∧ _
    simp only [F]
    rw [h.bd]
    constructor
    · rintro ⟨t, ht, r⟩
      by_cases e : x = k
      · subst e
        rw [hu] at ht
        cases ht
        exact ⟨_, Or.inl ⟨rfl, rfl⟩, r⟩
      · exact ⟨t, Or.inr ⟨e, ht⟩, r⟩
    · rintro ⟨t, ⟨rfl, rfl⟩ | ⟨_, ht⟩, r⟩
      · exact ⟨u, hu, r⟩
      · exact ⟨t, ht, r⟩
  · rcases (F x t).1 e with ⟨_, rfl⟩ | ⟨_, e⟩
    · exact h.ms k u hu
    · exact h.ms x t e

theorem ok_lea {S : Ip} (h : Ok S) {k : Int} {u : Th} (hu : fnd S.L k = some u) : Ok (leaS S k) := by
  have hi : ∀ t, (setP 0 (-1) t).i = t.i := fun _ => rfl
  have et : thrT S k = u := by unfold thrT; rw [hu]; rfl
  have F : ∀ x t, fnd (upd S.L k (setP 0 (-1))) x = some t ↔ (x = k ∧ t = setP 0 (-1) u) ∨ (x ≠ k ∧ fnd S.L x = some t) := fun x t => by
    rw [fnd_upd1 _ _ hi]
    by_cases e : x = k
    · subst e
      rw [if_pos rfl, hu]
      simp [eq_comm]
    · simp [e]
  refine ⟨good_upd h.gl hi, fun a b => ?_, fun a b x => ?_, fun x t e => ?_, fun x t e => ?_, fun n x => ?_, h.lt, fun x t e => ?_⟩
  · show (uq S.q (plcS S k) (plcO S k) (List.filter fun x => !(x == k)) a b).Nodup
    unfold uq
    split
    · exact (h.nd a b).filter _
    · exact h.nd a b
  · show x ∈ uq S.q (plcS S k) (plcO S k) (List.filter fun x => !(x == k)) a b ↔ ∃ t, fnd (upd S.L k (setP 0 (-1))) x = some t ∧ _
    simp only [F]
    have base := h.mem a b x
    unfold uq plcS plcO
    rw [et]
    split
    · rename_i e
      rw [List.mem_filter]
      constructor
      · rintro ⟨e1, e2⟩
        have e2 : x ≠ k := by simpa using e2
        obtain ⟨t, ht, r⟩ := base.1 e1
        exact ⟨t, Or.inr ⟨e2, ht⟩, r⟩
      · rintro ⟨t, ⟨rfl, rfl⟩ | ⟨e2, ht⟩, r⟩
        · exact absurd r.1.symm r.2.2
        · exact ⟨base.2 ⟨t, ht, r⟩, by simpa using e2⟩
    · rename_i e
      constructor
      · intro e'
        obtain ⟨t, ht, r⟩ := base.1 e'
        by_cases e2 : x = k
        · subst e2
          rw [hu] at ht
          cases ht
          exact absurd ⟨r.1.symm, r.2.1.symm⟩ e
        · exact ⟨t, Or.inr ⟨e2, ht⟩, r⟩
      · rintro ⟨t, ⟨rfl, rfl⟩ | ⟨_, ht⟩, r⟩
        · exact absurd r.1.symm r.2.2
        · exact base.2 ⟨t, ht, r⟩
  · rcases (F x t).1 e with ⟨_, rfl⟩ | ⟨_, e⟩
    · exact Or.inl ⟨rfl, rfl⟩
    · exact h.pl x t e
  · rcases (F x t).1 e with ⟨_, rfl⟩ | ⟨_, e⟩
    · exact h.nt k u hu
    · exact h.nt x t e
  · show S.bd n = some x ↔ ∃ t, fnd (upd S.L k (setP 0 (-1))) x = some t ∧ _
    simp only [F]
    rw [h.bd]
    constructor
    · rintro ⟨t, ht, r⟩
      by_cases e : x = k
      · subst e
        rw [hu] at ht
        cases ht
        exact ⟨_, Or.inl ⟨rfl, rfl⟩, r⟩
      · exact ⟨t, Or.inr ⟨e, ht⟩, r⟩
    · rintro ⟨t, ⟨rfl, rfl⟩ | ⟨_, ht⟩, r⟩
      · exact ⟨u, hu, r⟩
      · exact ⟨t, ht, r⟩
  · rcases (F x t).1 e with ⟨_, rfl⟩ | ⟨_, e⟩
    · exact h.ms k u hu
    · exact h.ms x t e
theorem lea_at {S : Ip} {k : Int} {u : Th} (hu : fnd S.L k = some u) : fnd (leaS S k).L k = some (setP 0 (-1) u) := by
  show fnd (upd S.L k (setP 0 (-1))) k = _
  rw [fnd_upd1 S.L k (f := setP 0 (-1)) (fun _ => rfl), if_pos rfl, hu]
  rfl

end Go.Proofs.Ytjobdfkfongjaaa
