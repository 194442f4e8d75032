/-
  The program's Ipc and the document's stay alike behind each act (second part), and what they tell. No program, no statement.
-/
import Derived.Test.YtjobdfkfongjaaaIpMe
/- IpRl -/
namespace Go.Proofs.Ytjobdfkfongjaaa
open Go.RowKit

/-! ### a thread, there or not -/
theorem thr_T (S : Ip) (t x : Int) : thrT (thrS S t) x = thrT S x := by
  unfold thrS
  cases e : fnd S.L t with
  | some u => rfl
  | none =>
    show (fnd (S.L ++ [newTh t]) x).getD (newTh x) = (fnd S.L x).getD (newTh x)
    rw [fnd_new e]
    by_cases ex : x = t
    · subst ex
      rw [if_pos rfl, e]
      rfl
    · rw [if_neg ex]
theorem upd_T {S : Ip} {k : Int} {u : Th} (hu : fnd S.L k = some u) {f : Th → Th} (hf : ∀ t, (f t).i = t.i) (q : Int → Int → List Int) (lt bd : Int → Option Int) (x : Int) : thrT ⟨upd S.L k f, q, lt, bd⟩ x = if x = k then f (thrT S k) else thrT S x := by
  show (fnd (upd S.L k f) x).getD (newTh x) = _
  rw [fnd_upd1 S.L k hf]
  by_cases ex : x = k
  · rw [if_pos ex, if_pos ex, hu]
    unfold thrT
    rw [hu]
    rfl
  · rw [if_neg ex, if_neg ex]
    rfl
theorem ent_T {S : Ip} {k : Int} {u : Th} (hu : fnd S.L k = some u) (s o x : Int) : thrT (entS S k s o) x = if x = k then setP s o (thrT S k) else thrT S x := upd_T hu (f := setP s o) (fun _ => rfl) _ _ _ x
theorem del_T {S : Ip} {k : Int} {u : Th} (hu : fnd S.L k = some u) (m : Ms) (x : Int) : thrT (delS S k m) x = if x = k then setI m true (thrT S k) else thrT S x := upd_T hu (f := setI m true) (fun _ => rfl) _ _ _ x
theorem lea_T {S : Ip} {k : Int} {u : Th} (hu : fnd S.L k = some u) (x : Int) : thrT (leaS S k) x = if x = k then setP 0 (-1) (thrT S k) else thrT S x := upd_T hu (f := setP 0 (-1)) (fun _ => rfl) _ _ _ x
theorem lea_q {S : Ip} (ok : Ok S) {k : Int} {u : Th} (hu : fnd S.L k = some u) (s o : Int) : (leaS S k).q s o = (S.q s o).filter (fun x => !(x == k)) := by
  show uq S.q (plcS S k) (plcO S k) _ s o = _
  unfold uq
  split
  · rfl
  · rename_i h
    refine (List.filter_eq_self.2 fun x hx => ?_).symm
    have : x ≠ k := fun e => by
      subst e
      obtain ⟨h1, h2⟩ := ok.at hu hx
      refine h ⟨?_, ?_⟩
      · unfold plcS; rw [thrT_of hu, h1]
      · unfold plcO; rw [thrT_of hu, h2]
    simpa using this
theorem Ok.plT {S : Ip} (ok : Ok S) (x : Int) : okP (thrT S x).st (thrT S x).on := by
  unfold thrT
  cases e : fnd S.L x with
  | none => exact Or.inl ⟨rfl, rfl⟩
  | some t => exact ok.pl x t e
theorem Ok.memT {S : Ip} (ok : Ok S) {s o x : Int} (h : x ∈ S.q s o) : (thrT S x).st = s ∧ (thrT S x).on = o ∧ s ≠ 0 ∧ fnd S.L x = some (thrT S x) := by
  obtain ⟨t, h1, h2, h3, h4⟩ := (ok.mem s o x).1 h
  rw [thrT_of h1]
  exact ⟨h2, h3, h4, h1⟩
theorem Ok.inT {S : Ip} (ok : Ok S) {x : Int} (h : (thrT S x).st ≠ 0) : x ∈ S.q (thrT S x).st (thrT S x).on ∧ fnd S.L x = some (thrT S x) := by
  cases e : fnd S.L x with
  | none => exact absurd (by unfold thrT; rw [e]; rfl) h
  | some t => rw [thrT_of e] at h ⊢; exact ⟨(ok.mem _ _ x).2 ⟨t, e, rfl, rfl, h⟩, rfl⟩
theorem wai_st {S : Ip} (ok : Ok S) (x : Int) : waiB S x = !((thrT S x).st == 0) := by
  have h := ok.plT x
  unfold waiB plcS plcO
  unfold okP at h
  by_cases e : (thrT S x).st = 0
  · have : (thrT S x).on = -1 := by omega
    rw [e, this]
    rfl
  · have : ((thrT S x).st == 0) = false := by simpa using e
    rw [this]
    rfl

/-! ### the relation, part by part -/
structure RlL (S : Ip) (L : List Wq) : Prop where
  nd : (L.map (·.t)).Nodup
  no : ∀ x, (∀ y ∈ L, y.t ≠ x) → (thrT S x).st = 0
  at' : ∀ y ∈ L, (thrT S y.t).st = y.s ∧ (thrT S y.t).on = y.o ∧ y.s ≠ 0 ∧ (y.s = 2 → (thrT S y.t).sd = y.m ∧ (thrT S y.t).ca = y.c)
  od : ∀ s o, 0 ≤ o → (L.filter (fiP s o)).map (·.t) = S.q s o
def RlC (S : Ip) (C : List (Int × Int)) : Prop := ∀ t c, (t, c) ∈ C ↔ 0 ≤ t ∧ S.q 4 t = [c]
def RlB (S : Ip) (B : List (Int × Int)) : Prop := ∀ n t, (n, t) ∈ B ↔ S.bd n = some t
def RlG (S : Ip) (G : List (Int × Int)) : Prop := ∀ n b, (n, b) ∈ G ↔ S.lt n = some b
def RlX (S : Ip) (X : List (Int × Ms)) : Prop := ∀ t, X.filter (fun y => y.1 == t) = if (thrT S t).fu = true then [(t, (thrT S t).ib)] else []
/-- What only the program's side says: one waits for a thread's answer at most; who waits at an endpoint are all senders, or all receivers; who receives has nobody to answer. -/
structure Iv (S : Ip) : Prop where
  one : ∀ t, 0 ≤ t → (S.q 4 t).length ≤ 1
  side : ∀ o, S.q 2 o = [] ∨ S.q 3 o = []
  rc : ∀ o r, r ∈ S.q 3 o → S.q 4 r = []
structure Rl (S : Ip) (D : Dc) : Prop where
  ok : Ok S
  iv : Iv S
  l : RlL S D.L
  c : RlC S D.C
  b : RlB S D.B
  g : RlG S D.G
  x : RlX S D.X

section
variable {S S' : Ip} {L : List Wq}
theorem RlL.congr (h : RlL S L) (e : ∀ x, (thrT S' x).st = (thrT S x).st ∧ (thrT S' x).on = (thrT S x).on ∧ ((thrT S x).st ≠ 0 → (thrT S' x).sd = (thrT S x).sd ∧ (thrT S' x).ca = (thrT S x).ca)) (eq : S'.q = S.q) : RlL S' L := by
  refine ⟨h.nd, fun x hx => by rw [(e x).1]; exact h.no x hx, fun y hy => ?_, fun s o ho => by rw [eq]; exact h.od s o ho⟩
  obtain ⟨h1, h2, h3, h4⟩ := h.at' y hy
  obtain ⟨e1, e2, e3⟩ := e y.t
  refine ⟨by rw [e1]; exact h1, by rw [e2]; exact h2, h3, fun hs => ?_⟩
  obtain ⟨e4, e5⟩ := e3 (by rw [h1]; exact h3)
  rw [e4, e5]
  exact h4 hs
theorem RlX.congr {X : List (Int × Ms)} (h : RlX S X) (e : ∀ x, (thrT S' x).fu = (thrT S x).fu ∧ (thrT S' x).ib = (thrT S x).ib) : RlX S' X := fun t => by
  rw [(e t).1, (e t).2]
  exact h t
theorem Iv.congr (h : Iv S) (eq : S'.q = S.q) : Iv S' := ⟨fun t ht => by rw [eq]; exact h.one t ht, fun o => by rw [eq]; exact h.side o, fun o r => by rw [eq]; exact h.rc o r⟩
theorem RlC.congr {C : List (Int × Int)} (h : RlC S C) (eq : S'.q = S.q) : RlC S' C := fun t c => by rw [eq]; exact h t c

theorem atP_iff {x : Int} {y : Wq} : atP x y = true ↔ y.t = x := by unfold atP; simp
theorem fiP_iff {s o : Int} {y : Wq} : fiP s o y = true ↔ y.s = s ∧ y.o = o := by unfold fiP; simp
theorem RlL.find_none (h : RlL S L) {x : Int} (e : L.find? (atP x) = none) : (thrT S x).st = 0 := h.no x fun y hy e' => by
  have := List.find?_eq_none.1 e y hy
  exact this (atP_iff.2 e')
theorem RlL.find_some (_ : RlL S L) {x : Int} {y : Wq} (e : L.find? (atP x) = some y) : y ∈ L ∧ y.t = x := ⟨List.mem_of_find?_eq_some e, atP_iff.1 (List.find?_some e)⟩
theorem RlL.isSome (h : RlL S L) (x : Int) : (L.find? (atP x)).isSome = !((thrT S x).st == 0) := by
  cases e : L.find? (atP x) with
  | none => rw [h.find_none e]; rfl
  | some y =>
    obtain ⟨h1, rfl⟩ := h.find_some e
    obtain ⟨a1, a2, a3, a4⟩ := h.at' y h1
    rw [a1]
    have : (y.s == 0) = false := by simpa using a3
    rw [this]
    rfl
theorem RlL.out (h : RlL S L) {x : Int} (e : (thrT S x).st = 0) : ∀ y ∈ L, y.t ≠ x := fun y hy e' => by
  obtain ⟨a1, a2, a3, a4⟩ := h.at' y hy
  rw [e', e] at a1
  exact a3 a1.symm
theorem RlL.inn (h : RlL S L) {x : Int} (e : (thrT S x).st ≠ 0) : ∃ y ∈ L, y.t = x := by
  refine Classical.byContradiction fun hn => e (h.no x fun y hy e' => hn ⟨y, hy, e'⟩)
theorem RlL.first (h : RlL S L) {s o : Int} (ho : 0 ≤ o) : (L.find? (fiP s o)).map (·.t) = firO S s o := by
  unfold firO
  rw [← h.od s o ho, List.head?_map, List.head?_filter]
theorem RlL.firstN (h : RlL S L) {s o : Int} (ho : 0 ≤ o) (e : L.find? (fiP s o) = none) : firO S s o = none ∧ S.q s o = [] := by
  have h1 := h.first (s := s) ho
  rw [e] at h1
  refine ⟨h1.symm, ?_⟩
  unfold firO at h1
  exact List.head?_eq_none_iff.1 h1.symm
theorem RlL.firstS (h : RlL S L) {s o : Int} (ho : 0 ≤ o) {y : Wq} (e : L.find? (fiP s o) = some y) : firO S s o = some y.t ∧ y ∈ L ∧ y.s = s ∧ y.o = o ∧ y.t ∈ S.q s o := by
  have h1 := h.first (s := s) ho
  rw [e] at h1
  obtain ⟨h2, h3⟩ := fiP_iff.1 (List.find?_some e)
  refine ⟨h1.symm, List.mem_of_find?_eq_some e, h2, h3, ?_⟩
  unfold firO at h1
  exact List.mem_of_mem_head? (by rw [← h1]; rfl)

/-! ### who leaves, who enters -/
theorem fil_comm (p q : Wq → Bool) (L : List Wq) : (L.filter p).filter q = (L.filter q).filter p := by
  rw [List.filter_filter, List.filter_filter]
  congr 1
  funext y
  rw [Bool.and_comm]
theorem map_fil (k : Int) (L : List Wq) : (L.filter (fun y => y.t != k)).map (·.t) = (L.map (·.t)).filter (fun x => !(x == k)) := by
  rw [List.filter_map]
  rfl
theorem RlL.lea (h : RlL S L) (ok : Ok S) {k : Int} {u : Th} (hu : fnd S.L k = some u) : RlL (leaS S k) (L.filter (fun y => y.t != k)) := by
  refine ⟨h.nd.sublist (List.filter_sublist.map _), fun x hx => ?_, fun y hy => ?_, fun s o ho => ?_⟩
  · rw [lea_T hu]
    split
    · rfl
    · rename_i e
      refine h.no x fun y hy e' => hx y (List.mem_filter.2 ⟨hy, ?_⟩) e'
      have : y.t ≠ k := fun e2 => e (by rw [← e', e2])
      simpa using this
  · obtain ⟨h1, h2⟩ := List.mem_filter.1 hy
    have h2 : y.t ≠ k := by simpa using h2
    rw [lea_T hu, if_neg h2]
    exact h.at' y h1
  · rw [fil_comm, map_fil, h.od s o ho, lea_q ok hu]
theorem RlL.ent (h : RlL S L) {k : Int} {u : Th} (hu : fnd S.L k = some u) (h0 : (thrT S k).st = 0) {s o : Int} (hs : s ≠ 0) {m : Ms} {c : Bool} (h2 : s = 2 → (thrT S k).sd = m ∧ (thrT S k).ca = c) : RlL (entS S k s o) (L ++ [⟨k, s, o, m, c⟩]) := by
  have hk := h.out h0
  refine ⟨?_, fun x hx => ?_, fun y hy => ?_, fun a b hb => ?_⟩
  · rw [List.map_append]
    refine List.nodup_append.2 ⟨h.nd, by simp, fun x hx y hy e => ?_⟩
    obtain ⟨z, hz, rfl⟩ := List.mem_map.1 hx
    simp at hy
    exact hk z hz (by rw [e, hy])
  · have hxk : x ≠ k := fun e => hx ⟨k, s, o, m, c⟩ (by simp) e.symm
    rw [ent_T hu, if_neg hxk]
    exact h.no x fun y hy => hx y (by simp [hy])
  · rcases List.mem_append.1 hy with hy | hy
    · rw [ent_T hu, if_neg (hk y hy)]
      exact h.at' y hy
    · simp at hy
      subst hy
      show (thrT (entS S k s o) k).st = s ∧ (thrT (entS S k s o) k).on = o ∧ s ≠ 0 ∧ (s = 2 → (thrT (entS S k s o) k).sd = m ∧ (thrT (entS S k s o) k).ca = c)
      rw [ent_T hu, if_pos rfl]
      exact ⟨rfl, rfl, hs, h2⟩
  · rw [List.filter_append, List.map_append, h.od a b hb]
    show _ = uq S.q s o (· ++ [k]) a b
    unfold uq
    by_cases e : a = s ∧ b = o
    · rw [if_pos e]
      have : fiP a b ⟨k, s, o, m, c⟩ = true := fiP_iff.2 ⟨e.1.symm, e.2.symm⟩
      rw [List.filter_cons, this, if_pos rfl]
      rfl
    · rw [if_neg e]
      have : fiP a b ⟨k, s, o, m, c⟩ = false := Bool.eq_false_iff.2 fun h' => e ⟨(fiP_iff.1 h').1.symm, (fiP_iff.1 h').2.symm⟩
      rw [List.filter_cons, this]
      simp
theorem setO_map : ∀ {L : List Wq} {c : Int}, (L.map (·.t)).Nodup → setO L c = L.map fun y => if y.t = c then { y with o := -1 } else y
  | [], _, _ => rfl
  | y :: L, c, h => by
    rw [List.map_cons, List.nodup_cons] at h
    unfold setO
    by_cases e : y.t = c
    · rw [if_pos (by first | exact e | exact atP_iff.2 e), List.map_cons, if_pos e]
      congr 1
      have : L.map (fun y => if y.t = c then { y with o := -1 } else y) = L.map id := List.map_congr_left fun z hz => by
        have : z.t ≠ c := fun e2 => h.1 (List.mem_map.2 ⟨z, hz, by rw [e2, e]⟩)
        rw [if_neg this]
        rfl
      rw [this, List.map_id]
    · rw [if_neg (by first | exact e | exact fun h' => e (atP_iff.1 h')), List.map_cons, if_neg e, setO_map h.2]
theorem od_setO (c : Int) (s o : Int) (ho : 0 ≤ o) : ∀ L : List Wq, ((L.map fun y => if y.t = c then { y with o := -1 } else y).filter (fiP s o)).map (·.t) = ((L.filter (fiP s o)).map (·.t)).filter (fun x => !(x == c))
  | [] => rfl
  | y :: L => by
    rw [List.map_cons, List.filter_cons, List.filter_cons]
    by_cases e : y.t = c
    · have h1 : fiP s o { y with o := -1 } = false := Bool.eq_false_iff.2 fun h' => by
        have := (fiP_iff.1 h').2
        simp at this
        omega
      rw [if_pos e, h1, if_neg (by decide), od_setO c s o ho L]
      split
      · rw [List.map_cons, List.filter_cons]
        have : (!(y.t == c)) = false := by simp [e]
        rw [this, if_neg (by decide)]
      · rfl
    · rw [if_neg e]
      split
      · rw [List.map_cons, List.map_cons, List.filter_cons, od_setO c s o ho L]
        have : (!(y.t == c)) = true := by simp [e]
        rw [this, if_pos rfl]
      · exact od_setO c s o ho L
/-- Who waits for an answer waits for nobody's. -/
theorem RlL.forg (h : RlL S L) (ok : Ok S) {c : Int} {u : Th} (hu : fnd S.L c = some u) (h4 : u.st = 4) : RlL (entS (leaS S c) c 4 (-1)) (setO L c) := by
  have hu2 := lea_at hu
  have hT : ∀ x, thrT (entS (leaS S c) c 4 (-1)) x = if x = c then setP 4 (-1) (thrT S c) else thrT S x := fun x => by
    rw [ent_T hu2]
    by_cases e : x = c
    · rw [if_pos e, if_pos e, lea_T hu, if_pos rfl]
      rfl
    · rw [if_neg e, if_neg e, lea_T hu, if_neg e]
  rw [setO_map h.nd]
  refine ⟨?_, fun x hx => ?_, fun y hy => ?_, fun s o ho => ?_⟩
  · rw [List.map_map]
    have : ((·.t) ∘ fun y : Wq => if y.t = c then { y with o := -1 } else y) = (·.t) := by
      funext y
      simp only [Function.comp]
      split <;> rfl
    rw [this]
    exact h.nd
  · rw [hT]
    have hxc : x ≠ c := fun e => by
      subst e
      obtain ⟨y, hy, e⟩ := h.inn (x := x) (by rw [thrT_of hu, h4]; decide)
      refine hx _ (List.mem_map.2 ⟨y, hy, rfl⟩) ?_
      rw [if_pos e]
      exact e
    rw [if_neg hxc]
    refine h.no x fun y hy e => hx _ (List.mem_map.2 ⟨y, hy, rfl⟩) ?_
    rw [if_neg (fun e2 => hxc (by rw [← e, e2]))]
    exact e
  · obtain ⟨z, hz, rfl⟩ := List.mem_map.1 hy
    obtain ⟨a1, a2, a3, a4⟩ := h.at' z hz
    by_cases e : z.t = c
    · rw [if_pos e]
      show (thrT (entS (leaS S c) c 4 (-1)) z.t).st = z.s ∧ (thrT (entS (leaS S c) c 4 (-1)) z.t).on = -1 ∧ z.s ≠ 0 ∧ (z.s = 2 → (thrT (entS (leaS S c) c 4 (-1)) z.t).sd = z.m ∧ (thrT (entS (leaS S c) c 4 (-1)) z.t).ca = z.c)
      rw [hT, if_pos e]
      have hz4 : z.s = 4 := by rw [← a1, e, thrT_of hu, h4]
      refine ⟨hz4.symm, rfl, a3, fun e2 => ?_⟩
      rw [hz4] at e2
      cases e2
    · rw [if_neg e, hT, if_neg e]
      exact ⟨a1, a2, a3, a4⟩
  · rw [od_setO c s o ho, h.od s o ho, ← lea_q ok hu]
    show _ = uq (leaS S c).q 4 (-1) (· ++ [c]) s o
    unfold uq
    rw [if_neg (fun e => by omega)]
end

end Go.Proofs.Ytjobdfkfongjaaa

/- IpRlA -/
namespace Go.Proofs.Ytjobdfkfongjaaa
open Go.RowKit

section
variable {S : Ip} {D : Dc}
/-! ### inboxes -/
theorem fil_two {X : List (Int × Ms)} {x t : Int} (h : x ≠ t) : (X.filter (fun y => y.1 != t)).filter (fun y => y.1 == x) = X.filter (fun y => y.1 == x) := by
  rw [List.filter_filter]
  refine List.filter_congr fun y _ => ?_
  by_cases e : y.1 = x
  · have : y.1 ≠ t := fun e2 => h (by rw [← e, e2])
    simp [e, h]
  · simp [e]
theorem fil_no2 (X : List (Int × Ms)) (t : Int) : (X.filter (fun y => y.1 != t)).filter (fun y => y.1 == t) = [] := by
  rw [List.filter_filter, List.filter_eq_nil_iff]
  intro y _
  by_cases e : y.1 = t <;> simp [e]
theorem RlX.del {X : List (Int × Ms)} (h : RlX S X) {t : Int} {u : Th} (hu : fnd S.L t = some u) (m : Ms) : RlX (delS S t m) (X.filter (fun y => y.1 != t) ++ [(t, m)]) := fun x => by
  rw [List.filter_append, del_T hu]
  by_cases e : x = t
  · subst e
    rw [fil_no2, if_pos rfl]
    simp [setI]
  · rw [fil_two e, if_neg e, h x]
    have : ((t, m).1 == x) = false := by
      have : t ≠ x := fun e2 => e e2.symm
      simpa using this
    rw [List.filter_cons, this]
    simp
theorem RlX.box {X : List (Int × Ms)} (h : RlX S X) (t : Int) : boxM X t = inbM S t ∧ boxB X t = inbG S t := by
  have h1 := h t
  have hb : boxB X t = !(X.filter (fun y => y.1 == t)).isEmpty := by
    unfold boxB
    induction X with
    | nil => rfl
    | cons y X ih =>
      rw [List.any_cons, List.filter_cons]
      cases y.1 == t with
      | true => simp
      | false => simpa using (by
          have : ∀ X : List (Int × Ms), X.any (fun y => y.1 == t) = !(X.filter (fun y => y.1 == t)).isEmpty := fun X => by
            induction X with
            | nil => rfl
            | cons y X ih =>
              rw [List.any_cons, List.filter_cons]
              cases y.1 == t with
              | true => simp
              | false => simpa using ih
          exact this X)
  rw [hb]
  unfold boxM inbM inbG
  rw [h1]
  unfold thrT
  cases e : fnd S.L t with
  | none => simp [newTh]
  | some u =>
    cases hf : u.fu with
    | true => simp [hf]
    | false => simp [hf]
theorem RlX.take {X : List (Int × Ms)} (h : RlX S X) (t : Int) : RlX (inbS S t) (X.filter (fun y => y.1 != t)) := by
  unfold inbS
  cases hg : inbG S t with
  | false =>
    rw [if_neg (by decide)]
    intro x
    by_cases e : x = t
    · subst e
      rw [fil_no2]
      have : (thrT S x).fu = false := by
        unfold inbG at hg
        unfold thrT
        cases e : fnd S.L x with
        | none => rfl
        | some u => rw [e] at hg; exact hg
      rw [this]
      rfl
    · rw [fil_two e]
      exact h x
  | true =>
    rw [if_pos rfl]
    intro x
    obtain ⟨u, hu⟩ : ∃ u, fnd S.L t = some u := by
      unfold inbG at hg
      cases e : fnd S.L t with
      | none => rw [e] at hg; cases hg
      | some u => exact ⟨u, rfl⟩
    rw [upd_T hu (f := setI M0 false) (fun _ => rfl)]
    by_cases e : x = t
    · subst e
      rw [fil_no2, if_pos rfl]
      rfl
    · rw [fil_two e, if_neg e]
      exact h x

/-! ### callers -/
theorem RlC.lea {C : List (Int × Int)} (h : RlC S C) (ok : Ok S) {t : Int} {u : Th} (hu : fnd S.L t = some u) (hno : ∀ r, 0 ≤ r → t ∉ S.q 4 r) : RlC (leaS S t) C := fun r c => by
  rw [h r c, lea_q ok hu]
  constructor
  · rintro ⟨h0, h1⟩
    refine ⟨h0, ?_⟩
    rw [List.filter_eq_self.2 fun x hx => ?_]
    · exact h1
    · have : x ≠ t := fun e => hno r h0 (by rw [← e]; exact hx)
      simpa using this
  · rintro ⟨h0, h1⟩
    refine ⟨h0, ?_⟩
    rw [List.filter_eq_self.2 fun x hx => ?_] at h1
    · exact h1
    · have : x ≠ t := fun e => hno r h0 (by rw [← e]; exact hx)
      simpa using this
theorem one_of (iv : Iv S) {r t : Int} (h0 : 0 ≤ r) (hm : t ∈ S.q 4 r) : S.q 4 r = [t] := by
  have h1 := iv.one r h0
  match hq : S.q 4 r, h1, hm with
  | [], _, hm => cases hm
  | [x], _, hm => simp at hm; rw [hm]
  | x :: y :: l, h1, _ => simp at h1
theorem RlC.lea4 {C : List (Int × Int)} (h : RlC S C) (ok : Ok S) (iv : Iv S) {r t : Int} (h0 : 0 ≤ r) (hm : t ∈ S.q 4 r) : RlC (leaS S t) (wout C r) := fun r' c => by
  obtain ⟨_, hon, _, hu⟩ := ok.memT hm
  unfold wout
  rw [List.mem_filter, h r' c, lea_q ok hu]
  by_cases e : r' = r
  · subst e
    rw [one_of iv h0 hm]
    simp
  · have hn : t ∉ S.q 4 r' := fun hx => e (by have := (ok.memT hx).2.1; rw [← this, hon])
    rw [List.filter_eq_self.2 fun x hx => ?_]
    · simp [e]
    · have : x ≠ t := fun e => hn (by rw [← e]; exact hx)
      simpa using this
theorem RlC.ent {C : List (Int × Int)} (h : RlC S C) {k s o : Int} (hs : ¬ (s = 4 ∧ 0 ≤ o)) : RlC (entS S k s o) C := fun t c => by
  rw [h t c]
  show _ ↔ 0 ≤ t ∧ uq S.q s o (· ++ [k]) 4 t = [c]
  unfold uq
  by_cases e : 4 = s ∧ t = o
  · have : ¬ 0 ≤ t := fun h0 => hs ⟨e.1.symm, by omega⟩
    exact ⟨fun h => absurd h.1 this, fun h => absurd h.1 this⟩
  · rw [if_neg e]
theorem RlC.owe {C : List (Int × Int)} (h : RlC S C) {k o : Int} (ho : 0 ≤ o) (hq : S.q 4 o = []) : RlC (entS S k 4 o) (C ++ [(o, k)]) := fun t c => by
  rw [List.mem_append, h t c]
  show _ ↔ 0 ≤ t ∧ uq S.q 4 o (· ++ [k]) 4 t = [c]
  unfold uq
  by_cases e : t = o
  · subst e
    rw [if_pos ⟨rfl, rfl⟩, hq]
    simp
    constructor
    · intro h; exact ⟨ho, h.symm⟩
    · intro h; exact h.2.symm
  · rw [if_neg (fun h => e h.2)]
    simp [e]

/-! ### what the program's side says alone -/
theorem Iv.lea (h : Iv S) (ok : Ok S) {t : Int} {u : Th} (hu : fnd S.L t = some u) : Iv (leaS S t) := by
  refine ⟨fun r h0 => ?_, fun o => ?_, fun o r hr => ?_⟩
  · rw [lea_q ok hu]
    exact Nat.le_trans (List.length_filter_le _ _) (h.one r h0)
  · rw [lea_q ok hu, lea_q ok hu]
    rcases h.side o with e | e
    · left; rw [e]; rfl
    · right; rw [e]; rfl
  · rw [lea_q ok hu] at hr ⊢
    rw [h.rc o r (List.mem_filter.1 hr).1]
    rfl
theorem ent_q (S : Ip) (k s o a b : Int) : (entS S k s o).q a b = if a = s ∧ b = o then S.q a b ++ [k] else S.q a b := rfl
theorem Iv.ent (h : Iv S) {k s o : Int} (h2 : s = 2 → S.q 3 o = []) (h3 : s = 3 → S.q 2 o = [] ∧ S.q 4 k = []) (h4 : s = 4 → 0 ≤ o → S.q 4 o = [] ∧ ∀ e, o ∉ S.q 3 e) (hon : s = 4 → o < 0 → ∀ e, o ∉ S.q 3 e) : Iv (entS S k s o) := by
  refine ⟨fun r h0 => ?_, fun b => ?_, fun b r hr => ?_⟩
  · rw [ent_q]
    split
    · rename_i e
      have hq := (h4 e.1.symm (by omega)).1
      rw [e.2, hq]
      simp
    · exact h.one r h0
  · rw [ent_q, ent_q]
    by_cases e2 : (2 : Int) = s ∧ b = o
    · right
      rw [if_neg (fun e => by omega), e2.2]
      exact h2 e2.1.symm
    · rw [if_neg e2]
      by_cases e3 : (3 : Int) = s ∧ b = o
      · left
        rw [e3.2]
        exact (h3 e3.1.symm).1
      · rw [if_neg e3]
        exact h.side b
  · rw [ent_q] at hr ⊢
    by_cases e4 : (4 : Int) = s ∧ r = o
    · exfalso
      rw [if_neg (fun e => by omega)] at hr
      rcases Int.lt_or_le o 0 with hneg | hpos
      · exact hon e4.1.symm hneg b (by rw [← e4.2]; exact hr)
      · exact (h4 e4.1.symm hpos).2 b (by rw [← e4.2]; exact hr)
    · rw [if_neg e4]
      split at hr
      · rename_i e
        rcases List.mem_append.1 hr with hr | hr
        · exact h.rc b r hr
        · simp at hr
          rw [hr]
          exact (h3 e.1.symm).2
      · exact h.rc b r hr

/-! ### all parts together -/
theorem Rl.lea (h : Rl S D) {t : Int} {u : Th} (hu : fnd S.L t = some u) (hno : ∀ r, 0 ≤ r → t ∉ S.q 4 r) : Rl (leaS S t) (dRest D t) :=
  ⟨ok_lea h.ok hu, h.iv.lea h.ok hu, h.l.lea h.ok hu, h.c.lea h.ok hu hno, h.b, h.g, h.x.congr fun x => by
    rw [lea_T hu]
    split
    · rename_i e; rw [e]; exact ⟨rfl, rfl⟩
    · exact ⟨rfl, rfl⟩⟩
theorem Rl.lea4 (h : Rl S D) {t r : Int} (h0 : 0 ≤ r) (hm : t ∈ S.q 4 r) : Rl (leaS S t) (dRest { D with C := wout D.C r } t) := by
  obtain ⟨_, _, _, hu⟩ := h.ok.memT hm
  exact ⟨ok_lea h.ok hu, h.iv.lea h.ok hu, h.l.lea h.ok hu, h.c.lea4 h.ok h.iv h0 hm, h.b, h.g, h.x.congr fun x => by
    rw [lea_T hu]
    split
    · rename_i e; rw [e]; exact ⟨rfl, rfl⟩
    · exact ⟨rfl, rfl⟩⟩
theorem Rl.del (h : Rl S D) {t : Int} {u : Th} (hu : fnd S.L t = some u) {m : Ms} (hm : mayM m = true) : Rl (delS S t m) (dDel D t m) :=
  ⟨ok_del h.ok t hm, h.iv.congr rfl, h.l.congr (fun x => by
    rw [del_T hu]
    split
    · rename_i e; rw [e]; exact ⟨rfl, rfl, fun _ => ⟨rfl, rfl⟩⟩
    · exact ⟨rfl, rfl, fun _ => ⟨rfl, rfl⟩⟩) rfl, h.c.congr rfl, h.b, h.g, h.x.del hu m⟩
theorem Rl.thr (h : Rl S D) {t : Int} (ht : numB t = true) : Rl (thrS S t) D :=
  ⟨ok_thr h.ok ht, h.iv.congr (thr_q S t), h.l.congr (fun x => by rw [thr_T]; exact ⟨rfl, rfl, fun _ => ⟨rfl, rfl⟩⟩) (thr_q S t), h.c.congr (thr_q S t), fun n x => by rw [thr_bd]; exact h.b n x, fun n x => by rw [thr_lt]; exact h.g n x, h.x.congr fun x => by rw [thr_T]; exact ⟨rfl, rfl⟩⟩
theorem Rl.setd (h : Rl S D) {t : Int} {u : Th} (hu : fnd S.L t = some u) (h0 : (thrT S t).st = 0) {m : Ms} (c : Bool) (hm : mayM m = true) : Rl { S with L := upd S.L t (setD m c) } D :=
  ⟨ok_sd h.ok t c hm, h.iv.congr rfl, h.l.congr (fun x => by
    rw [upd_T hu (f := setD m c) (fun _ => rfl)]
    split
    · rename_i e; rw [e]; exact ⟨rfl, rfl, fun hn => absurd h0 hn⟩
    · exact ⟨rfl, rfl, fun _ => ⟨rfl, rfl⟩⟩) rfl, h.c.congr rfl, h.b, h.g, h.x.congr fun x => by
    rw [upd_T hu (f := setD m c) (fun _ => rfl)]
    split
    · rename_i e; rw [e]; exact ⟨rfl, rfl⟩
    · exact ⟨rfl, rfl⟩⟩
theorem Rl.ent (h : Rl S D) {k : Int} {u : Th} (hu : fnd S.L k = some u) (h0 : (thrT S k).st = 0) {s o : Int} (hs : s = 2 ∨ s = 3 ∨ s = 5) (ho : numB o = true) {m : Ms} {c : Bool} (hm : s = 2 → (thrT S k).sd = m ∧ (thrT S k).ca = c) (h2 : s = 2 → S.q 3 o = []) (h3 : s = 3 → S.q 2 o = [] ∧ S.q 4 k = []) : Rl (entS S k s o) { D with L := D.L ++ [⟨k, s, o, m, c⟩] } := by
  have hs0 : s ≠ 0 := by omega
  have hs4 : s ≠ 4 := by omega
  exact ⟨ok_ent h.ok hu (by rw [← thrT_of hu]; exact h0) (okP_ep hs ho) hs0, h.iv.ent h2 h3 (fun e => absurd e hs4) (fun e => absurd e hs4), h.l.ent hu h0 hs0 hm, h.c.ent (fun e => hs4 e.1), h.b, h.g, h.x.congr fun x => by
    rw [ent_T hu]
    split
    · rename_i e; rw [e]; exact ⟨rfl, rfl⟩
    · exact ⟨rfl, rfl⟩⟩
theorem Rl.owe (h : Rl S D) {k : Int} {u : Th} (hu : fnd S.L k = some u) (h0 : (thrT S k).st = 0) {o : Int} (ho : numB o = true) (hq : S.q 4 o = []) (hr : ∀ e, o ∉ S.q 3 e) : Rl (entS S k 4 o) (dOwes D o k) := by
  have hb := num_iff.1 ho
  exact ⟨ok_ent h.ok hu (by rw [← thrT_of hu]; exact h0) (okP_an (by omega) hb.2) (by decide), h.iv.ent (fun e => absurd e (by decide)) (fun e => absurd e (by decide)) (fun _ _ => ⟨hq, hr⟩) (fun _ e => absurd e (by omega)), h.l.ent hu h0 (by decide) (fun e => absurd e (by decide)), h.c.owe hb.1 hq, h.b, h.g, h.x.congr fun x => by
    rw [ent_T hu]
    split
    · rename_i e; rw [e]; exact ⟨rfl, rfl⟩
    · exact ⟨rfl, rfl⟩⟩

/-! ### questions -/
theorem Rl.calN (h : Rl S D) {t : Int} (e : calO S t = none) : witI D.C t = -1 := by
  cases hf : D.C.find? (fun p => p.1 == t) with
  | none => exact witI_none hf
  | some p =>
    exfalso
    have hm := List.mem_of_find?_eq_some hf
    have hp : p.1 = t := by simpa using List.find?_some hf
    obtain ⟨h0, hq⟩ := (h.c p.1 p.2).1 hm
    rw [hp] at h0 hq
    have hin : p.2 ∈ S.q 4 t := by rw [hq]; simp
    obtain ⟨a1, a2, _, hu⟩ := h.ok.memT hin
    have hpl := h.ok.plT p.2
    unfold okP at hpl
    have hn : numB t = true := num_iff.2 ⟨h0, by omega⟩
    unfold calO firO at e
    rw [hn, if_pos rfl, hq] at e
    cases e
theorem Rl.calS (h : Rl S D) {t c : Int} (e : calO S t = some c) : witI D.C t = c ∧ 0 ≤ t ∧ S.q 4 t = [c] ∧ 0 ≤ c ∧ numB t = true := by
  unfold calO at e
  split at e
  · rename_i hn
    have h0 := (num_iff.1 hn).1
    unfold firO at e
    have hin : c ∈ S.q 4 t := List.mem_of_mem_head? (by rw [e]; rfl)
    have hq := one_of h.iv h0 hin
    have hm := (h.c t c).2 ⟨h0, hq⟩
    refine ⟨?_, h0, hq, ?_, hn⟩
    · cases hf : D.C.find? (fun p => p.1 == t) with
      | none =>
        have := List.find?_eq_none.1 hf _ hm
        simp at this
      | some p =>
        rw [witI_some hf]
        have hm2 := List.mem_of_find?_eq_some hf
        have hp : p.1 = t := by simpa using List.find?_some hf
        have h2 := ((h.c p.1 p.2).1 hm2).2
        rw [hp, hq] at h2
        simpa using h2.symm
    · obtain ⟨_, _, _, hu⟩ := h.ok.memT hin
      exact (fnd_pos h.ok.gl hu).1
  · cases e
theorem Rl.cal (h : Rl S D) (t : Int) : witI D.C t = numO (calO S t) := by
  cases e : calO S t with
  | none => exact h.calN e
  | some c => exact (h.calS e).1
theorem Rl.ofC (h : Rl S D) (c : Int) : (0 ≤ ofI D.C c ∧ c ∈ S.q 4 (ofI D.C c)) ∨ (ofI D.C c = -1 ∧ ∀ r, 0 ≤ r → c ∉ S.q 4 r) := by
  cases hf : D.C.find? (fun p => p.2 == c) with
  | none =>
    refine Or.inr ⟨ofI_none hf, fun r h0 hm => ?_⟩
    have := List.find?_eq_none.1 hf _ ((h.c r c).2 ⟨h0, one_of h.iv h0 hm⟩)
    simp at this
  | some p =>
    rw [ofI_some hf]
    have hm := List.mem_of_find?_eq_some hf
    have hp : p.2 = c := by simpa using List.find?_some hf
    obtain ⟨h0, hq⟩ := (h.c p.1 p.2).1 hm
    refine Or.inl ⟨h0, ?_⟩
    rw [hq, hp]
    simp
theorem Rl.bd (h : Rl S D) (n : Int) : witI D.B n = numO (S.bd n) := by
  cases hf : D.B.find? (fun p => p.1 == n) with
  | none =>
    rw [witI_none hf]
    cases e : S.bd n with
    | none => rfl
    | some t =>
      have := List.find?_eq_none.1 hf _ ((h.b n t).2 e)
      simp at this
  | some p =>
    rw [witI_some hf]
    have hm := List.mem_of_find?_eq_some hf
    have hp : p.1 = n := by simpa using List.find?_some hf
    have h2 := (h.b p.1 p.2).1 hm
    rw [hp] at h2
    rw [h2]
    rfl
theorem Rl.ofB (h : Rl S D) (t : Int) : ofI D.B t = (thrT S t).nt := by
  cases hf : D.B.find? (fun p => p.2 == t) with
  | none =>
    rw [ofI_none hf]
    refine (Classical.byContradiction fun hn => ?_)
    have hu : ∃ u, fnd S.L t = some u := by
      cases e : fnd S.L t with
      | none => exact absurd (by unfold thrT; rw [e]; rfl) hn
      | some u => exact ⟨u, rfl⟩
    obtain ⟨u, hu⟩ := hu
    rw [thrT_of hu] at hn
    have := (h.ok.bd u.nt t).2 ⟨u, hu, rfl, fun e => hn e.symm⟩
    have := List.find?_eq_none.1 hf _ ((h.b _ _).2 this)
    simp at this
  | some p =>
    rw [ofI_some hf]
    have hm := List.mem_of_find?_eq_some hf
    have hp : p.2 = t := by simpa using List.find?_some hf
    obtain ⟨u, hu, h2, _⟩ := (h.ok.bd _ _).1 ((h.b p.1 p.2).1 hm)
    rw [hp] at hu
    rw [thrT_of hu, h2]
theorem Rl.lit (h : Rl S D) (n : Int) : witI D.G n = numO (S.lt n) := by
  cases hf : D.G.find? (fun p => p.1 == n) with
  | none =>
    rw [witI_none hf]
    cases e : S.lt n with
    | none => rfl
    | some t =>
      have := List.find?_eq_none.1 hf _ ((h.g n t).2 e)
      simp at this
  | some p =>
    rw [witI_some hf]
    have hm := List.mem_of_find?_eq_some hf
    have hp : p.1 = n := by simpa using List.find?_some hf
    have h2 := (h.g p.1 p.2).1 hm
    rw [hp] at h2
    rw [h2]
    rfl
theorem Rl.wai (h : Rl S D) (t : Int) : (D.L.find? (atP t)).isSome = waiB S t := by rw [h.l.isSome, wai_st h.ok]
end

end Go.Proofs.Ytjobdfkfongjaaa

/- IpRlB -/
namespace Go.Proofs.Ytjobdfkfongjaaa
open Go.RowKit

section
variable {S : Ip} {D : Dc}
theorem no4 (ok : Ok S) {x : Int} (h : (thrT S x).st ≠ 4) : ∀ r, 0 ≤ r → x ∉ S.q 4 r := fun _ _ hm => h (ok.memT hm).1
theorem may_b0 {m : Ms} (h : mayM m = true) : mayM { m with b := 0 } = true := by
  have h0 : mrkB 0 = true := by decide
  simp only [mayM, wrdB, Bool.and_eq_true] at h ⊢
  exact ⟨h.1, h0, h.2.2⟩
theorem Rl.posIn (h : Rl S D) {s o x : Int} (hx : x ∈ S.q s o) : numB x = true ∧ 0 ≤ x := by
  obtain ⟨_, _, _, hu⟩ := h.ok.memT hx
  have := fnd_pos h.ok.gl hu
  exact ⟨num_iff.2 ⟨this.1, by omega⟩, this.1⟩

/-! ### Send -/
theorem Rl.senE (h : Rl S D) (ep t : Int) (m : Ms) : senE S ep t m = dSenE D ep t m := by
  unfold Go.Proofs.Ytjobdfkfongjaaa.senE dSenE
  rw [h.wai t]
theorem Rl.senN (h : Rl S D) (ep t : Int) (m : Ms) : senN S ep t m = dSenN D ep t m := by
  unfold Go.Proofs.Ytjobdfkfongjaaa.senN dSenN
  rw [← h.senE]
  by_cases e : Go.Proofs.Ytjobdfkfongjaaa.senE S ep t m = 0
  · rw [if_pos e, if_pos e]
    have ho := (num_iff.1 (sen_parts e).1).1
    cases hf : D.L.find? (fiP 3 ep) with
    | none => rw [(h.l.firstN ho hf).1]; rfl
    | some y => rw [(h.l.firstS ho hf).1]; rfl
  · rw [if_neg e, if_neg e]
theorem Rl.senS (h : Rl S D) (ep t : Int) (m : Ms) (call bl : Bool) : Rl (senS S ep t m call bl) (dSenS D ep t m call bl) := by
  unfold Go.Proofs.Ytjobdfkfongjaaa.senS dSenS
  rw [← h.senE]
  by_cases e : Go.Proofs.Ytjobdfkfongjaaa.senE S ep t m = 0
  · rw [if_pos e, if_pos e]
    obtain ⟨he, ht, hm, hw⟩ := sen_parts e
    have ho := (num_iff.1 he).1
    have h0 : (thrT S t).st = 0 := thrT_0 h.ok hw
    cases hf : D.L.find? (fiP 3 ep) with
    | none =>
      obtain ⟨hn, hq⟩ := h.l.firstN ho hf
      rw [hn]
      cases bl with
      | false => exact h
      | true =>
        have R1 := h.thr ht
        have R2 := R1.setd (thr_at S t) (by rw [thr_T]; exact h0) call hm
        have hT : thrT { thrS S t with L := upd (thrS S t).L t (setD m call) } t = setD m call (thrT (thrS S t) t) := by
          rw [upd_T (thr_at S t) (f := setD m call) (fun _ => rfl), if_pos rfl]
        have hu : ∃ u, fnd (upd (thrS S t).L t (setD m call)) t = some u := ⟨_, by rw [fnd_upd1 _ _ (f := setD m call) (fun _ => rfl), if_pos rfl, thr_at S t]; rfl⟩
        obtain ⟨u, hu⟩ := hu
        exact R2.ent (S := { thrS S t with L := upd (thrS S t).L t (setD m call) }) hu (by rw [hT]; show (thrT (thrS S t) t).st = 0; rw [thr_T]; exact h0) (Or.inl rfl) he (fun _ => by rw [hT]; exact ⟨rfl, rfl⟩) (fun _ => by show (thrS S t).q 3 ep = []; rw [thr_q]; exact hq) (fun e => absurd e (by decide))
    | some y =>
      obtain ⟨hn, hy, ys, yo, hin⟩ := h.l.firstS ho hf
      rw [hn]
      show Rl (if call then entS (thrS (delS (leaS S y.t) y.t m) t) t 4 y.t else delS (leaS S y.t) y.t m) (if call then dOwes (dDel (dRest D y.t) y.t m) y.t t else dDel (dRest D y.t) y.t m)
      obtain ⟨a1, _, _, hu⟩ := h.ok.memT hin
      have R1 := h.lea hu (no4 h.ok (by rw [a1]; decide))
      have R2 := R1.del (lea_at hu) hm
      cases call with
      | false => exact R2
      | true =>
        have hne : t ≠ y.t := fun e => by rw [← e, h0] at a1; cases a1
        have R3 := R2.thr ht
        refine R3.owe (thr_at _ t) ?_ (h.posIn hin).1 ?_ fun e => ?_
        · rw [thr_T, del_T (lea_at hu), if_neg hne, lea_T hu, if_neg hne]
          exact h0
        · rw [thr_q]
          show (leaS S y.t).q 4 y.t = []
          rw [lea_q h.ok hu, h.iv.rc ep _ hin]
          rfl
        · rw [thr_q]
          show y.t ∉ (leaS S y.t).q 3 e
          rw [lea_q h.ok hu]
          intro hx
          have := (List.mem_filter.1 hx).2
          simp at this
  · rw [if_neg e, if_neg e]
    exact h

/-! ### Forget -/
theorem Rl.forS (h : Rl S D) (t : Int) : Rl (forS S t) (dForS D t) := by
  unfold Go.Proofs.Ytjobdfkfongjaaa.forS dForS
  cases e : calO S t with
  | none =>
    rw [h.calN e, if_pos (by decide)]
    exact h
  | some c =>
    obtain ⟨hw, h0, hq, hc0, hn⟩ := h.calS e
    rw [hw, if_neg (by omega)]
    have hin : c ∈ S.q 4 t := by rw [hq]; simp
    obtain ⟨a1, a2, _, hu⟩ := h.ok.memT hin
    have hok := ok_for h.ok t
    unfold Go.Proofs.Ytjobdfkfongjaaa.forS at hok
    rw [e] at hok
    refine ⟨hok, ?_, h.l.forg h.ok hu a1, ?_, h.b, h.g, h.x.congr fun x => ?_⟩
    · exact (h.iv.lea h.ok hu).ent (fun e => absurd e (by decide)) (fun e => absurd e (by decide)) (fun _ e => absurd e (by decide)) (fun _ _ e hm => by
        have h1 : (-1 : Int) ∈ S.q 3 e := by
          rw [lea_q h.ok hu] at hm
          exact (List.mem_filter.1 hm).1
        have := (h.posIn h1).2
        omega)
    · exact (h.c.lea4 h.ok h.iv h0 hin).ent (fun e => absurd e.2 (by decide))
    · show (thrT (entS (leaS S c) c 4 (-1)) x).fu = _ ∧ (thrT (entS (leaS S c) c 4 (-1)) x).ib = _
      rw [ent_T (lea_at hu)]
      split
      · rename_i e; rw [e, lea_T hu, if_pos rfl]; exact ⟨rfl, rfl⟩
      · rw [lea_T hu]
        split
        · rename_i e; rw [e]; exact ⟨rfl, rfl⟩
        · exact ⟨rfl, rfl⟩
theorem Rl.for_q (h : Rl S D) {t : Int} (ht : numB t = true) : (Go.Proofs.Ytjobdfkfongjaaa.forS S t).q 4 t = [] := by
  have h0 := (num_iff.1 ht).1
  unfold Go.Proofs.Ytjobdfkfongjaaa.forS
  cases e : calO S t with
  | none =>
    unfold calO at e
    rw [ht, if_pos rfl] at e
    exact List.head?_eq_none_iff.1 e
  | some c =>
    obtain ⟨hw, _, hq, _, hn⟩ := h.calS e
    have hin : c ∈ S.q 4 t := by rw [hq]; simp
    obtain ⟨_, _, _, hu⟩ := h.ok.memT hin
    show (entS (leaS S c) c 4 (-1)).q 4 t = []
    rw [ent_q, if_neg (fun e => by omega), lea_q h.ok hu, hq]
    simp

/-! ### what is lit -/
theorem Rl.litB (h : Rl S D) (n : Int) : ligB D n = litB S n := by
  unfold ligB Go.Proofs.Ytjobdfkfongjaaa.litB
  rw [h.lit n]
  cases e : S.lt n with
  | none =>
    show (!decide (n < 0) && !decide ((-1 : Int) < 0)) = false
    simp
  | some b =>
    obtain ⟨h1, h2, h3⟩ := h.ok.lt n b e
    have hb : 0 ≤ b := by unfold mrkB at h3; simp at h3; exact h3.1
    have d1 : decide (n < 0) = false := decide_eq_false (by omega)
    have d2 : decide (numO (some b) < 0) = false := decide_eq_false (by show ¬ b < 0; omega)
    rw [d1, d2]
    rfl
theorem Rl.litS (h : Rl S D) (n : Int) {t : Int} {u : Th} (hu : fnd S.L t = some u) : Rl (litS S n t) (ligS D n t) := by
  have hok := ok_lit h.ok n t
  unfold ligS
  rw [h.litB n, h.lit n]
  unfold Go.Proofs.Ytjobdfkfongjaaa.litS at hok ⊢
  unfold Go.Proofs.Ytjobdfkfongjaaa.litB
  cases e : S.lt n with
  | none => exact h
  | some b =>
    rw [e] at hok
    show Rl (delS { S with lt := fun k => if k = n then none else S.lt k } t (badM b)) { dDel D t (badM b) with G := wout D.G n }
    have hT : ∀ x, thrT (delS { S with lt := fun k => if k = n then none else S.lt k } t (badM b)) x = if x = t then setI (badM b) true (thrT S t) else thrT S x := fun x => upd_T hu (f := setI (badM b) true) (fun _ => rfl) _ _ _ x
    refine ⟨hok, h.iv.congr rfl, h.l.congr (fun x => ?_) rfl, h.c.congr rfl, h.b, fun k x => ?_, h.x.del hu (badM b)⟩
    · show (thrT (delS { S with lt := fun k => if k = n then none else S.lt k } t (badM b)) x).st = _ ∧ (thrT (delS { S with lt := fun k => if k = n then none else S.lt k } t (badM b)) x).on = _ ∧ (_ → (thrT (delS { S with lt := fun k => if k = n then none else S.lt k } t (badM b)) x).sd = _ ∧ (thrT (delS { S with lt := fun k => if k = n then none else S.lt k } t (badM b)) x).ca = _)
      rw [hT]
      split
      · rename_i e; rw [e]; exact ⟨rfl, rfl, fun _ => ⟨rfl, rfl⟩⟩
      · exact ⟨rfl, rfl, fun _ => ⟨rfl, rfl⟩⟩
    · show (k, x) ∈ wout D.G n ↔ (if k = n then none else S.lt k) = some x
      unfold wout
      rw [List.mem_filter, h.g k x]
      by_cases e : k = n
      · rw [if_pos e]; simp [e]
      · rw [if_neg e]; simp [e]

/-! ### Recv -/
theorem Rl.recA (h : Rl S D) {t : Int} (ht : numB t = true) : Rl (recA S t) (dForS D t) := (h.forS t).thr ht
theorem Rl.recE (h : Rl S D) (ep t : Int) : recE S ep t = dRecE D ep t := by
  unfold Go.Proofs.Ytjobdfkfongjaaa.recE dRecE
  rw [h.wai t]
theorem Rl.recL (h : Rl S D) {t : Int} (ht : numB t = true) : dRecL D t = Go.Proofs.Ytjobdfkfongjaaa.litB (Go.Proofs.Ytjobdfkfongjaaa.recA S t) (thrT (Go.Proofs.Ytjobdfkfongjaaa.recA S t) t).nt := by
  have R := h.recA ht
  unfold dRecL
  rw [R.ofB, R.litB]
theorem Rl.recG (h : Rl S D) (ep t : Int) : recG S ep t = dRecG D ep t := by
  unfold Go.Proofs.Ytjobdfkfongjaaa.recG dRecG
  rw [h.recE]
  by_cases e : dRecE D ep t = 0
  · obtain ⟨he, ht, hw⟩ := rec_parts (h.recE ep t ▸ e)
    rw [h.recL ht, ← (h.recA ht).l.first (num_iff.1 he).1, Option.isSome_map]
  · rw [decide_eq_false e]
    rfl
theorem Rl.recN (h : Rl S D) (ep t : Int) : recN S ep t = dRecN D ep t := by
  unfold Go.Proofs.Ytjobdfkfongjaaa.recN dRecN
  rw [h.recE]
  by_cases e : dRecE D ep t = 0
  · obtain ⟨he, ht, hw⟩ := rec_parts (h.recE ep t ▸ e)
    have R := h.recA ht
    rw [if_pos e, if_pos e, h.recL ht]
    split
    · rfl
    · cases hf : (dForS D t).L.find? (fiP 2 ep) with
      | none => rw [(R.l.firstN (num_iff.1 he).1 hf).1]
      | some y =>
        obtain ⟨hn, hy, ys, yo, hin⟩ := R.l.firstS (num_iff.1 he).1 hf
        rw [hn]
        show (if (thrT (Go.Proofs.Ytjobdfkfongjaaa.recA S t) y.t).ca then -1 else y.t) = if y.c then -1 else y.t
        rw [((R.l.at' y hy).2.2.2 ys).2]
  · rw [if_neg e, if_neg e]
theorem Rl.heaS (h : Rl S D) {t ep : Int} (ht : numB t = true) {u : Th} (hu : fnd S.L t = some u) (h0 : (thrT S t).st = 0) (hq : S.q 4 t = []) {y : Wq} (hy : y ∈ D.L) (ys : y.s = 2) (hin : y.t ∈ S.q 2 ep) : Rl (heaS S t y.t) (dHea D t y) := by
  unfold Go.Proofs.Ytjobdfkfongjaaa.heaS dHea
  obtain ⟨b1, b2, b3, b4⟩ := h.l.at' y hy
  obtain ⟨c1, c2⟩ := b4 ys
  rw [c1, c2]
  obtain ⟨a1, _, _, hs⟩ := h.ok.memT hin
  have hne : t ≠ y.t := fun e => by rw [← e, h0] at a1; cases a1
  have hmy : mayM y.m = true := by
    rw [← c1]
    exact (h.ok.ms _ _ hs).1
  have R1 := h.lea hs (no4 h.ok (by rw [a1]; decide))
  have hu2 : fnd (leaS S y.t).L t = some u := by
    show fnd (upd S.L y.t (setP 0 (-1))) t = some u
    rw [fnd_upd1 _ _ (f := setP 0 (-1)) (fun _ => rfl), if_neg hne]
    exact hu
  have R2 := R1.del hu2 hmy
  cases y.c with
  | false => exact R2
  | true =>
    have hu3 : ∃ v, fnd (delS (leaS S y.t) t y.m).L y.t = some v := by
      obtain ⟨v, hv, _⟩ := del_at (t := t) (m := y.m) (lea_at hs)
      exact ⟨v, hv⟩
    obtain ⟨v, hv⟩ := hu3
    refine R2.owe hv ?_ ht ?_ fun e hm => ?_
    · rw [del_T hu2, if_neg (fun e => hne e.symm), lea_T hs, if_pos rfl]
      rfl
    · show (leaS S y.t).q 4 t = []
      rw [lea_q h.ok hs, hq]
      rfl
    · have hm : t ∈ (leaS S y.t).q 3 e := hm
      rw [lea_q h.ok hs] at hm
      have := (h.ok.memT (List.mem_filter.1 hm).1).1
      rw [h0] at this
      cases this
theorem Rl.recS (h : Rl S D) (ep t : Int) (bl : Bool) : Rl (recS S ep t bl) (dRecS D ep t bl) := by
  unfold Go.Proofs.Ytjobdfkfongjaaa.recS dRecS
  rw [h.recE]
  by_cases e : dRecE D ep t = 0
  · obtain ⟨he, ht, hw⟩ := rec_parts (h.recE ep t ▸ e)
    have R := h.recA ht
    have hu := recA_at h.ok hw
    have h0 : (thrT (Go.Proofs.Ytjobdfkfongjaaa.recA S t) t).st = 0 := by rw [recA_thrT h.ok hw]; exact thrT_0 h.ok hw
    have hq : (Go.Proofs.Ytjobdfkfongjaaa.recA S t).q 4 t = [] := by
      show (thrS (Go.Proofs.Ytjobdfkfongjaaa.forS S t) t).q 4 t = []
      rw [thr_q]
      exact h.for_q ht
    rw [if_pos e, if_pos e, h.recL ht, R.ofB]
    split
    · exact R.litS _ hu
    · cases hf : (dForS D t).L.find? (fiP 2 ep) with
      | none =>
        obtain ⟨hn, hq2⟩ := R.l.firstN (num_iff.1 he).1 hf
        rw [hn]
        cases bl with
        | false => exact R
        | true => exact R.ent hu h0 (Or.inr (Or.inl rfl)) he (fun e => absurd e (by decide)) (fun e => absurd e (by decide)) (fun _ => ⟨hq2, hq⟩)
      | some y =>
        obtain ⟨hn, hy, ys, yo, hin⟩ := R.l.firstS (num_iff.1 he).1 hf
        rw [hn]
        exact R.heaS ht hu h0 hq hy ys hin
  · rw [if_neg e, if_neg e]
    exact h

/-! ### Reply -/
theorem Rl.rep (h : Rl S D) (t : Int) (m : Ms) : repN S t m = dRepN D t m ∧ repE S t m = dRepE D t m ∧ Rl (repS S t m) (dRepS D t m) := by
  unfold repN dRepN repS dRepS repE dRepE
  by_cases hb : numB t = true ∧ mayM m = true
  · rw [if_pos hb, if_pos hb, if_pos hb, hb.1, hb.2, h.cal t]
    cases e : calO S t with
    | none => exact ⟨rfl, rfl, h⟩
    | some c =>
      obtain ⟨hw, h0, hq, hc0, hn⟩ := h.calS e
      have hin : c ∈ S.q 4 t := by rw [hq]; simp
      obtain ⟨_, _, _, hu⟩ := h.ok.memT hin
      have hc : ¬ numO (some c) < 0 := by show ¬ c < 0; omega
      rw [if_neg hc, if_neg hc, if_neg hc]
      exact ⟨rfl, rfl, (h.lea4 h0 hin).del (lea_at hu) (may_b0 hb.2)⟩
  · have hb2 : (numB t && mayM m) = false := by
      cases h1 : numB t <;> cases h2 : mayM m <;> simp_all
    rw [if_neg hb, if_neg hb, if_neg hb, hb2]
    exact ⟨rfl, rfl, h⟩
end

end Go.Proofs.Ytjobdfkfongjaaa

/- IpRlC -/
namespace Go.Proofs.Ytjobdfkfongjaaa
open Go.RowKit

section
variable {S : Ip} {D : Dc}
/-! ### what is told -/
theorem Rl.stS (h : Rl S D) (t : Int) : plcS S t = dStS D t := by
  unfold plcS dStS
  cases e : D.L.find? (atP t) with
  | none => exact h.l.find_none e
  | some y =>
    obtain ⟨hy, rfl⟩ := h.l.find_some e
    exact (h.l.at' y hy).1
theorem Rl.stO (h : Rl S D) (t : Int) : plcO S t = dStO D t := by
  unfold plcO dStO
  cases e : D.L.find? (atP t) with
  | none =>
    have := h.ok.plT t
    unfold okP at this
    have h0 := h.l.find_none e
    show (thrT S t).on = -1
    omega
  | some y =>
    obtain ⟨hy, rfl⟩ := h.l.find_some e
    exact (h.l.at' y hy).2.1
theorem Rl.forN (h : Rl S D) (t : Int) : forN S t = witI D.C t := (h.cal t).symm
theorem Rl.litN (h : Rl S D) (n : Int) : (S.lt n).getD 0 = dLitN D n ∧ (S.lt n).isSome = dLitB D n := by
  unfold dLitN dLitB
  rw [h.lit n]
  cases e : S.lt n with
  | none => exact ⟨rfl, rfl⟩
  | some b =>
    obtain ⟨h1, h2, h3⟩ := h.ok.lt n b e
    have hb : 0 ≤ b := by unfold mrkB at h3; simp at h3; exact h3.1
    have hc : ¬ numO (some b) < 0 := by show ¬ b < 0; omega
    rw [if_neg hc, decide_eq_false hc]
    exact ⟨rfl, rfl⟩
theorem Rl.neg (h : Rl S D) {s o : Int} (hs : s = 2 ∨ s = 3) (ho : o < 0) : S.q s o = [] := by
  refine List.eq_nil_iff_forall_not_mem.2 fun x hx => ?_
  obtain ⟨a1, a2, _, _⟩ := h.ok.memT hx
  have := h.ok.plT x
  unfold okP at this
  omega
theorem fil_or {p q : Wq → Bool} {L : List Wq} (hq : L.filter q = []) : L.filter (fun y => p y || q y) = L.filter p :=
  List.filter_congr fun y hy => by
    have := List.filter_eq_nil_iff.1 hq y hy
    simp [this]
theorem Rl.wait (h : Rl S D) (ep : Int) : waiL S ep = dWai D ep := by
  unfold waiL dWai
  by_cases h0 : 0 ≤ ep
  · have hw : waP ep = fun y => fiP 2 ep y || fiP 3 ep y := by
      funext y
      unfold waP fiP
      cases y.s == 2 <;> cases y.s == 3 <;> cases y.o == ep <;> rfl
    rw [hw]
    rcases h.iv.side ep with e | e
    · have h2 := h.l.od 2 ep h0
      rw [e] at h2
      have h2 := List.map_eq_nil_iff.1 h2
      have hw2 : (fun y => fiP 2 ep y || fiP 3 ep y) = fun y => fiP 3 ep y || fiP 2 ep y := by funext y; rw [Bool.or_comm]
      rw [hw2, fil_or h2, e, h.l.od 3 ep h0]
      rfl
    · have h3 := h.l.od 3 ep h0
      rw [e] at h3
      have h3 := List.map_eq_nil_iff.1 h3
      rw [fil_or h3, e, h.l.od 2 ep h0]
      simp
  · rw [h.neg (Or.inl rfl) (by omega), h.neg (Or.inr rfl) (by omega)]
    have : D.L.filter (waP ep) = [] := List.filter_eq_nil_iff.2 fun y hy e => by
      unfold waP at e
      simp at e
      obtain ⟨a1, a2, _, _⟩ := h.l.at' y hy
      have := h.ok.plT y.t
      unfold okP at this
      omega
    rw [this]
    rfl

/-! ### Signal -/
theorem Rl.lis (h : Rl S D) {n : Int} (hn : numB n = true) : dLisI D n = numO (lisO S n) ∧ ∀ t, lisO S n = some t → 0 ≤ t ∧ (thrT S t).st ≠ 4 ∧ (thrT S t).st ≠ 0 := by
  have h0 := (num_iff.1 hn).1
  unfold dLisI lisO
  cases hf : D.L.find? (fiP 5 n) with
  | some y =>
    obtain ⟨e, hy, ys, yo, hin⟩ := h.l.firstS h0 hf
    rw [e]
    refine ⟨rfl, fun t ht => ?_⟩
    cases ht
    rw [(h.ok.memT hin).1]
    exact ⟨(h.posIn hin).2, by decide, by decide⟩
  | none =>
    rw [(h.l.firstN h0 hf).1, h.bd n]
    cases eb : S.bd n with
    | none => exact ⟨rfl, fun t ht => by cases ht⟩
    | some t =>
      obtain ⟨u, hu, _⟩ := (h.ok.bd n t).1 eb
      have ht0 := (fnd_pos h.ok.gl hu).1
      show (if 0 ≤ t then (if dStS D t = 3 then t else -1) else -1) = numO (if (thrT S t).st = 3 then some t else none) ∧ _
      rw [if_pos ht0, ← h.stS t]
      show (if (thrT S t).st = 3 then t else -1) = _ ∧ _
      by_cases e3 : (thrT S t).st = 3
      · rw [if_pos e3, if_pos e3]
        refine ⟨rfl, fun t' ht => ?_⟩
        have ht : (if (thrT S t).st = 3 then some t else none) = some t' := ht
        rw [if_pos e3] at ht
        cases ht
        rw [e3]
        exact ⟨ht0, by decide, by decide⟩
      · rw [if_neg e3, if_neg e3]
        refine ⟨rfl, fun t' ht => ?_⟩
        have ht : (if (thrT S t).st = 3 then some t else none) = some t' := ht
        rw [if_neg e3] at ht
        cases ht
theorem Rl.sig (h : Rl S D) (n b : Int) : sigN S n b = dSigN D n b ∧ Rl (sigS S n b) (dSigS D n b) := by
  have hok := ok_sig h.ok n b
  unfold sigN dSigN dSigS
  unfold sigS at hok ⊢
  by_cases e : sigE n b = 0
  · rw [if_pos e] at hok
    rw [if_pos e, if_pos e, if_pos e, if_pos e]
    have hb : numB n = true ∧ mrkB b = true := by
      unfold sigE at e
      split at e
      · rename_i h'; simpa using h'
      · cases e
    obtain ⟨h1, h2⟩ := h.lis hb.1
    rw [h1]
    cases el : lisO S n with
    | none =>
      rw [el] at hok
      have hc : ¬ 0 ≤ numO none := by decide
      rw [if_neg hc, if_neg hc]
      refine ⟨rfl, hok, h.iv.congr rfl, h.l.congr (fun x => ⟨rfl, rfl, fun _ => ⟨rfl, rfl⟩⟩) rfl, h.c.congr rfl, h.b, fun k x => ?_, h.x.congr fun x => ⟨rfl, rfl⟩⟩
      show (k, x) ∈ wout D.G n ++ [(n, bits .or .i64 (dLitN D n) b)] ↔ (if k = n then some (bits .or .i64 ((S.lt n).getD 0) b) else S.lt k) = some x
      rw [(h.litN n).1]
      unfold wout
      rw [List.mem_append, List.mem_filter, h.g k x]
      by_cases e : k = n
      · rw [if_pos e]
        simp [e]
        exact eq_comm
      · rw [if_neg e]; simp [e]
    | some t =>
      obtain ⟨t0, t4, tz⟩ := h2 t el
      have hc : 0 ≤ numO (some t) := t0
      rw [if_pos hc, if_pos hc]
      obtain ⟨_, hu⟩ := h.ok.inT tz
      exact ⟨rfl, (h.lea hu (no4 h.ok t4)).del (lea_at hu) (may_bad hb.2)⟩
  · rw [if_neg e, if_neg e, if_neg e, if_neg e]
    exact ⟨rfl, h⟩

/-! ### Wait -/
theorem Rl.wat (h : Rl S D) (n t : Int) (bl : Bool) : watG S n t = dWatG D n t ∧ watE S n t = dWatE D n t ∧ Rl (watS S n t bl) (dWatS D n t bl) := by
  have hE : watE S n t = dWatE D n t := by unfold watE dWatE; rw [h.wai t]
  refine ⟨?_, hE, ?_⟩
  · unfold watG dWatG
    rw [h.litB n, h.wai t]
    unfold watE
    cases numB n <;> cases numB t <;> cases waiB S t <;> simp
  · unfold watS dWatS
    unfold watE at *
    rw [h.litB n, h.wai t]
    cases hn : numB n with
    | false => exact h
    | true =>
      cases ht : numB t with
      | false => exact h
      | true =>
        cases hw : waiB S t with
        | true => exact h
        | false =>
          have h0 : (thrT S t).st = 0 := thrT_0 h.ok hw
          have R := h.thr ht
          simp only [Bool.and_self, if_true, Bool.false_eq_true, if_false]
          cases hlit : Go.Proofs.Ytjobdfkfongjaaa.litB S n with
          | true =>
            simp only [if_true]
            exact R.litS n (thr_at S t)
          | false =>
            simp only [Bool.false_eq_true, if_false]
            cases bl with
            | false => exact R
            | true => exact R.ent (thr_at S t) (by rw [thr_T]; exact h0) (Or.inr (Or.inr rfl)) hn (fun e => absurd e (by decide)) (fun e => absurd e (by decide)) (fun e => absurd e (by decide))

/-! ### Bind, Unbind -/
theorem Rl.ful (h : Rl S D) {n : Int} (hn : numB n = true) (t : Int) : ((S.bd n).isSome || (!((thrT S t).nt == -1) || (firO S 5 n).isSome)) = dFul D n t := by
  unfold dFul
  rw [h.bd n, h.ofB t, ← h.l.first (num_iff.1 hn).1, Option.isSome_map, Bool.or_assoc]
  congr 1
  · cases e : S.bd n with
    | none => rfl
    | some x =>
      obtain ⟨u, hu, _⟩ := (h.ok.bd n x).1 e
      exact (decide_eq_true (fnd_pos h.ok.gl hu).1).symm
  · congr 1
    have : (thrT S t).nt = -1 ∨ 0 ≤ (thrT S t).nt := by
      unfold thrT
      cases e : fnd S.L t with
      | none => exact Or.inl rfl
      | some u =>
        have := h.ok.nt t u e
        show u.nt = -1 ∨ 0 ≤ u.nt
        omega
    rcases this with e | e
    · rw [e]; rfl
    · have h1 : ((thrT S t).nt == -1) = false := by
        have : (thrT S t).nt ≠ -1 := by omega
        simpa using this
      rw [h1, decide_eq_true e]
      rfl
theorem Rl.bin (h : Rl S D) (n t : Int) : binE S n t = dBinE D n t ∧ Rl (binS S n t) (dBinS D n t) := by
  have hok := ok_bin h.ok n t
  have hE : binE S n t = dBinE D n t := by
    unfold binE dBinE
    by_cases hn : numB n = true
    · rw [h.ful hn]
    · have hn : numB n = false := by simpa using hn
      rw [hn]; rfl
  refine ⟨hE, ?_⟩
  unfold binS at hok ⊢
  unfold dBinS
  unfold dBinE at hE
  cases hb : numB n && numB t with
  | false => exact h
  | true =>
    obtain ⟨hn, ht⟩ : numB n = true ∧ numB t = true := by simpa using hb
    rw [hb] at hok hE
    rw [if_pos rfl] at hok hE
    rw [if_pos rfl, if_pos rfl, hE]
    rw [hE] at hok
    cases hf : dFul D n t with
    | true => exact h.thr ht
    | false =>
      rw [hf] at hok
      have R := h.thr ht
      have hu := thr_at S t
      refine ⟨hok, R.iv.congr rfl, R.l.congr (fun x => ?_) rfl, R.c.congr rfl, fun k x => ?_, R.g, R.x.congr fun x => ?_⟩
      · show (thrT ⟨upd (thrS S t).L t (setN n), _, _, _⟩ x).st = _ ∧ (thrT ⟨upd (thrS S t).L t (setN n), _, _, _⟩ x).on = _ ∧ (_ → (thrT ⟨upd (thrS S t).L t (setN n), _, _, _⟩ x).sd = _ ∧ (thrT ⟨upd (thrS S t).L t (setN n), _, _, _⟩ x).ca = _)
        rw [upd_T hu (f := setN n) (fun _ => rfl)]
        split
        · rename_i e; rw [e]; exact ⟨rfl, rfl, fun _ => ⟨rfl, rfl⟩⟩
        · exact ⟨rfl, rfl, fun _ => ⟨rfl, rfl⟩⟩
      · show (k, x) ∈ D.B ++ [(n, t)] ↔ (if k = n then some t else S.bd k) = some x
        have hbn : S.bd n = none := by
          have := h.ful hn t
          rw [hf] at this
          cases e : S.bd n with
          | none => rfl
          | some _ => rw [e] at this; simp at this
        rw [List.mem_append, h.b k x]
        by_cases e : k = n
        · rw [if_pos e, e, hbn]
          simp
          exact eq_comm
        · rw [if_neg e]; simp [e]
      · show (thrT ⟨upd (thrS S t).L t (setN n), _, _, _⟩ x).fu = _ ∧ (thrT ⟨upd (thrS S t).L t (setN n), _, _, _⟩ x).ib = _
        rw [upd_T hu (f := setN n) (fun _ => rfl)]
        split
        · rename_i e; rw [e]; exact ⟨rfl, rfl⟩
        · exact ⟨rfl, rfl⟩
theorem Rl.unb (h : Rl S D) (t : Int) : unbE S t = dUnbE D t ∧ Rl (unbS S t) (dUnbS D t) := by
  have hok := ok_unb h.ok t
  have hnt : (thrT S t).nt = -1 ∨ 0 ≤ (thrT S t).nt := by
    unfold thrT
    cases e : fnd S.L t with
    | none => exact Or.inl rfl
    | some u =>
      have := h.ok.nt t u e
      show u.nt = -1 ∨ 0 ≤ u.nt
      omega
  unfold unbS at hok ⊢
  unfold unbE dUnbE dUnbS
  rw [h.ofB t]
  cases ht : numB t with
  | false => exact ⟨rfl, h⟩
  | true =>
    rw [ht, if_pos rfl] at hok
    simp only [if_true]
    rcases hnt with e | e
    · have e2 : (thrT S t).nt < 0 := by omega
      have e3 : ¬ ((131 : Int) = 0) := by decide
      unfold unbE at hok
      rw [ht, if_pos rfl, if_pos e, if_neg e3] at hok
      rw [if_pos e, if_pos e2, if_neg e3, if_pos e2]
      exact ⟨rfl, h.thr ht⟩
    · have e1 : ¬ (thrT S t).nt = -1 := by omega
      have e2 : ¬ (thrT S t).nt < 0 := by omega
      unfold unbE at hok
      rw [ht, if_pos rfl, if_neg e1, if_pos rfl] at hok
      rw [if_neg e1, if_neg e2, if_pos rfl, if_neg e2]
      have R := h.thr ht
      have hu := thr_at S t
      refine ⟨rfl, hok, R.iv.congr rfl, R.l.congr (fun x => ?_) rfl, R.c.congr rfl, fun k x => ?_, R.g, R.x.congr fun x => ?_⟩
      · show (thrT ⟨upd (thrS S t).L t (setN (-1)), _, _, _⟩ x).st = _ ∧ (thrT ⟨upd (thrS S t).L t (setN (-1)), _, _, _⟩ x).on = _ ∧ (_ → (thrT ⟨upd (thrS S t).L t (setN (-1)), _, _, _⟩ x).sd = _ ∧ (thrT ⟨upd (thrS S t).L t (setN (-1)), _, _, _⟩ x).ca = _)
        rw [upd_T hu (f := setN (-1)) (fun _ => rfl)]
        split
        · rename_i e; rw [e]; exact ⟨rfl, rfl, fun _ => ⟨rfl, rfl⟩⟩
        · exact ⟨rfl, rfl, fun _ => ⟨rfl, rfl⟩⟩
      · show (k, x) ∈ wout D.B (thrT S t).nt ↔ (if k = (thrT S t).nt then none else S.bd k) = some x
        unfold wout
        rw [List.mem_filter, h.b k x]
        by_cases e : k = (thrT S t).nt
        · rw [if_pos e]; simp [e]
        · rw [if_neg e]; simp [e]
      · show (thrT ⟨upd (thrS S t).L t (setN (-1)), _, _, _⟩ x).fu = _ ∧ (thrT ⟨upd (thrS S t).L t (setN (-1)), _, _, _⟩ x).ib = _
        rw [upd_T hu (f := setN (-1)) (fun _ => rfl)]
        split
        · rename_i e; rw [e]; exact ⟨rfl, rfl⟩
        · exact ⟨rfl, rfl⟩

/-! ### Cancel -/
theorem Rl.can (h : Rl S D) (t : Int) : waiB S t = dCanB D t ∧ Rl (canS S t) (dCanS D t) := by
  have hB : waiB S t = dCanB D t := (h.wai t).symm
  refine ⟨hB, ?_⟩
  unfold canS dCanS
  rw [← hB]
  cases hw : waiB S t with
  | false => exact h
  | true =>
    simp only [if_true]
    have hz : (thrT S t).st ≠ 0 := by
      have := wai_st h.ok t
      rw [hw] at this
      intro e
      rw [e] at this
      cases this
    obtain ⟨_, hu⟩ := h.ok.inT hz
    rcases h.ofC t with ⟨h0, hm⟩ | ⟨hr, hno⟩
    · rw [if_pos h0]
      exact h.lea4 h0 hm
    · rw [hr, if_neg (by decide)]
      exact h.lea hu hno
theorem Rl.leaL : ∀ (l : List Int) {S : Ip} {D : Dc}, Rl S D → (∀ x ∈ l, (thrT S x).st ≠ 0 ∧ (thrT S x).st ≠ 4) → l.Nodup → Rl (leaL S l) (dRestL D l)
  | [], _, _, h, _, _ => h
  | y :: l, S, D, h, ha, hn => by
    rw [List.nodup_cons] at hn
    obtain ⟨a1, a2⟩ := ha y List.mem_cons_self
    obtain ⟨_, hu⟩ := h.ok.inT a1
    refine Rl.leaL l (h.lea hu (no4 h.ok a2)) (fun x hx => ?_) hn.2
    rw [lea_T hu, if_neg (fun e => hn.1 (by rw [← e]; exact hx))]
    exact ha x (List.mem_cons_of_mem _ hx)
theorem Rl.waiP (h : Rl S D) (ep : Int) : (waiL S ep).Nodup ∧ ∀ x ∈ waiL S ep, (thrT S x).st ≠ 0 ∧ (thrT S x).st ≠ 4 := by
  refine ⟨by rw [h.wait ep]; exact wai_nodup h.l.nd ep, fun x hx => ?_⟩
  unfold waiL at hx
  rcases List.mem_append.1 hx with hx | hx
  · rw [(h.ok.memT hx).1]; exact ⟨by decide, by decide⟩
  · rw [(h.ok.memT hx).1]; exact ⟨by decide, by decide⟩
theorem Rl.cal10 (h : Rl S D) (ep : Int) : calL S ep = dWai D ep ∧ Rl (Go.Proofs.Ytjobdfkfongjaaa.calS S ep) (dCalS D ep) := by
  obtain ⟨p1, p2⟩ := h.waiP ep
  refine ⟨h.wait ep, ?_⟩
  have := Rl.leaL _ h p2 p1
  unfold dCalS
  rw [← h.wait ep]
  unfold Go.Proofs.Ytjobdfkfongjaaa.calS
  rw [← leaL_app2]
  exact this
theorem Rl.cba (h : Rl S D) (ep b : Int) : cbaL S ep b = dCbaL D ep b ∧ Rl (cbaS S ep b) (dCbaS D ep b) := by
  have hL : cbaL S ep b = dCbaL D ep b := by
    unfold cbaL dCbaL
    rw [← h.wait ep]
    unfold waiL
    rw [List.filter_append]
    have h2 : ∀ x ∈ S.q 2 ep, bdP D b x = badB S b x := fun x hx => by
      obtain ⟨a1, _, _, hu⟩ := h.ok.memT hx
      unfold bdP badB
      cases e : D.L.find? (atP x) with
      | none => rw [h.l.find_none e] at a1; cases a1
      | some y =>
        obtain ⟨hy, rfl⟩ := h.l.find_some e
        obtain ⟨b1, _, _, b4⟩ := h.l.at' y hy
        have ys : y.s = 2 := by rw [← b1]; exact a1
        show (y.s == 2 && y.m.b == b) = _
        rw [ys, ← (b4 ys).1]
        rfl
    have h3 : ∀ x ∈ S.q 3 ep, bdP D b x = false := fun x hx => by
      obtain ⟨a1, _, _, hu⟩ := h.ok.memT hx
      unfold bdP
      cases e : D.L.find? (atP x) with
      | none => rfl
      | some y =>
        obtain ⟨hy, rfl⟩ := h.l.find_some e
        obtain ⟨b1, _, _, b4⟩ := h.l.at' y hy
        have ys : y.s = 3 := by rw [← b1]; exact a1
        show (y.s == 2 && y.m.b == b) = false
        rw [ys]
        rfl
    have e3 : (S.q 3 ep).filter (bdP D b) = [] := List.filter_eq_nil_iff.2 fun x hx => by rw [h3 x hx]; decide
    rw [e3, List.append_nil]
    exact (List.filter_congr h2).symm
  refine ⟨hL, ?_⟩
  unfold cbaS dCbaS
  rw [← hL]
  refine Rl.leaL _ h (fun x hx => ?_) ((h.ok.nd 2 ep).sublist List.filter_sublist)
  rw [(h.ok.memT (List.mem_filter.1 hx).1).1]
  exact ⟨by decide, by decide⟩

/-! ### Inbox -/
theorem inb_same (S : Ip) (t : Int) : (inbS S t).q = S.q ∧ (inbS S t).lt = S.lt ∧ (inbS S t).bd = S.bd := by
  unfold inbS
  split <;> exact ⟨rfl, rfl, rfl⟩
theorem Rl.inb (h : Rl S D) (t : Int) : boxM D.X t = inbM S t ∧ boxB D.X t = inbG S t ∧ Rl (inbS S t) { D with X := D.X.filter (fun y => y.1 != t) } := by
  obtain ⟨b1, b2⟩ := h.x.box t
  obtain ⟨e1, e2, e3⟩ := inb_same S t
  refine ⟨b1, b2, ok_inb h.ok t, h.iv.congr e1, h.l.congr (fun x => ?_) e1, h.c.congr e1, fun n x => by rw [e3]; exact h.b n x, fun n x => by rw [e2]; exact h.g n x, h.x.take t⟩
  unfold inbS
  cases hg : inbG S t with
  | false => exact ⟨rfl, rfl, fun _ => ⟨rfl, rfl⟩⟩
  | true =>
    obtain ⟨u, hu⟩ : ∃ u, fnd S.L t = some u := by
      unfold inbG at hg
      cases e : fnd S.L t with
      | none => rw [e] at hg; cases hg
      | some u => exact ⟨u, rfl⟩
    rw [if_pos rfl, upd_T hu (f := setI M0 false) (fun _ => rfl)]
    split
    · rename_i e; rw [e]; exact ⟨rfl, rfl, fun _ => ⟨rfl, rfl⟩⟩
    · exact ⟨rfl, rfl, fun _ => ⟨rfl, rfl⟩⟩

/-! ### every act -/
theorem rl_0 : Rl ip0 ⟨[], [], [], [], []⟩ where
  ok := ok_0
  iv := ⟨fun t _ => by simp [ip0], fun o => Or.inl rfl, fun o r _ => rfl⟩
  l := ⟨List.Pairwise.nil, fun x _ => rfl, fun y hy => (by cases hy), fun s o _ => rfl⟩
  c := fun t c => by simp [ip0]
  b := fun n t => by simp [ip0]
  g := fun n t => by simp [ip0]
  x := fun t => rfl
theorem Rl.act (h : Rl S D) (A : Ac) : doesN S A = meanN D A ∧ doesG S A = meanG D A ∧ doesE S A = meanE D A ∧ doesM S A = meanM D A ∧ doesL S A = meanL D A ∧ Rl (doesS S A) (meanS D A) := by
  by_cases hA : 1 ≤ A.d ∧ A.d ≤ 12
  · obtain ⟨d, a, t, x, m, c, bl⟩ := A
    have hA : 1 ≤ d ∧ d ≤ 12 := hA
    have : d = 1 ∨ d = 2 ∨ d = 3 ∨ d = 4 ∨ d = 5 ∨ d = 6 ∨ d = 7 ∨ d = 8 ∨ d = 9 ∨ d = 10 ∨ d = 11 ∨ d = 12 := by omega
    rcases this with rfl | rfl | rfl | rfl | rfl | rfl | rfl | rfl | rfl | rfl | rfl | rfl
    · exact ⟨h.senN a t m, rfl, h.senE a t m, rfl, rfl, h.senS a t m c bl⟩
    · exact ⟨h.recN a t, h.recG a t, h.recE a t, rfl, rfl, h.recS a t bl⟩
    · exact ⟨(h.rep t m).1, rfl, (h.rep t m).2.1, rfl, rfl, (h.rep t m).2.2⟩
    · exact ⟨h.forN t, rfl, rfl, rfl, rfl, h.forS t⟩
    · exact ⟨(h.sig a x).1, rfl, rfl, rfl, rfl, (h.sig a x).2⟩
    · exact ⟨rfl, (h.wat a t bl).1, (h.wat a t bl).2.1, rfl, rfl, (h.wat a t bl).2.2⟩
    · exact ⟨rfl, rfl, (h.bin a t).1, rfl, rfl, (h.bin a t).2⟩
    · exact ⟨rfl, rfl, (h.unb t).1, rfl, rfl, (h.unb t).2⟩
    · exact ⟨rfl, (h.can t).1, rfl, rfl, rfl, (h.can t).2⟩
    · exact ⟨rfl, rfl, rfl, rfl, (h.cal10 a).1, (h.cal10 a).2⟩
    · exact ⟨rfl, rfl, rfl, rfl, (h.cba a x).1, (h.cba a x).2⟩
    · exact ⟨rfl, (h.inb t).2.1.symm, rfl, (h.inb t).1.symm, rfl, (h.inb t).2.2⟩
  · obtain ⟨n1, n2, n3, n4, n5, n6⟩ := none_of hA S
    obtain ⟨m1, m2, m3, m4, m5, m6⟩ := mnone_of hA D
    rw [n1, n2, n3, n4, n5, n6, m1, m2, m3, m4, m5, m6]
    exact ⟨rfl, rfl, rfl, rfl, rfl, h⟩
end

/-! ### how long the document's lists become -/
structure Shrt (D : Dc) (n : Nat) : Prop where
  l : D.L.length ≤ n
  c : D.C.length ≤ n
  b : D.B.length ≤ n
  g : D.G.length ≤ n
  x : D.X.length ≤ n
section
variable {D : Dc} {n : Nat}
theorem Shrt.up (h : Shrt D n) {k : Nat} (hk : n ≤ k) : Shrt D k := ⟨Nat.le_trans h.l hk, Nat.le_trans h.c hk, Nat.le_trans h.b hk, Nat.le_trans h.g hk, Nat.le_trans h.x hk⟩
theorem Shrt.rest (h : Shrt D n) (t : Int) : Shrt (dRest D t) n := ⟨Nat.le_trans (List.length_filter_le _ _) h.l, h.c, h.b, h.g, h.x⟩
theorem Shrt.restL : ∀ (l : List Int) {D : Dc}, Shrt D n → Shrt (dRestL D l) n
  | [], _, h => h
  | y :: l, _, h => Shrt.restL l (h.rest y)
theorem fil_le {α : Type} (p : α → Bool) {l : List α} {n : Nat} (h : l.length ≤ n) : (l.filter p).length ≤ n := Nat.le_trans (List.length_filter_le _ _) h
theorem Shrt.act (h : Shrt D n) (A : Ac) : Shrt (meanS D A) (n + 1) := by
  obtain ⟨hl, hc, hb, hg, hx⟩ := h
  have h1 : Shrt D (n + 1) := Shrt.up ⟨hl, hc, hb, hg, hx⟩ (by omega)
  have app : ∀ {α : Type} {l : List α} (y : α), l.length ≤ n → (l ++ [y]).length ≤ n + 1 := fun y h => by rw [List.length_append]; simp; exact h
  have del : ∀ (D' : Dc) (t : Int) (m : Ms), D'.L.length ≤ n → D'.C.length ≤ n → D'.B.length ≤ n → D'.G.length ≤ n → D'.X.length ≤ n → (dDel D' t m).L.length ≤ n ∧ (dDel D' t m).C.length ≤ n ∧ (dDel D' t m).B.length ≤ n ∧ (dDel D' t m).G.length ≤ n ∧ (dDel D' t m).X.length ≤ n + 1 := fun D' t m a b c d e => ⟨a, b, c, d, app _ (fil_le _ e)⟩
  have hfor : ∀ t, (dForS D t).L.length ≤ n ∧ (dForS D t).C.length ≤ n ∧ (dForS D t).B.length ≤ n ∧ (dForS D t).G.length ≤ n ∧ (dForS D t).X.length ≤ n := fun t => by
    obtain ⟨s1, s2, s3, s4, s5⟩ := dFor_small D t
    rw [s1, s3, s4, s5]
    exact ⟨hl, Nat.le_trans s2 hc, hb, hg, hx⟩
  have lig : ∀ (D' : Dc) (k t : Int), D'.L.length ≤ n → D'.C.length ≤ n → D'.B.length ≤ n → D'.G.length ≤ n → D'.X.length ≤ n → Shrt (ligS D' k t) (n + 1) := fun D' k t a b c d e => by
    unfold ligS
    split
    · exact ⟨Nat.le_succ_of_le a, Nat.le_succ_of_le b, Nat.le_succ_of_le c, Nat.le_succ_of_le (fil_le _ d), app _ (fil_le _ e)⟩
    · exact ⟨Nat.le_succ_of_le a, Nat.le_succ_of_le b, Nat.le_succ_of_le c, Nat.le_succ_of_le d, Nat.le_succ_of_le e⟩
  have two : ∀ (D' : Dc) (r t : Int) (m : Ms) (o c : Int), D'.L.length ≤ n → D'.C.length ≤ n → D'.B.length ≤ n → D'.G.length ≤ n → D'.X.length ≤ n → Shrt (dOwes (dDel (dRest D' r) t m) o c) (n + 1) ∧ Shrt (dDel (dRest D' r) t m) (n + 1) := fun D' r t m o c a b cc d e => by
    refine ⟨⟨app _ (fil_le _ a), app _ b, Nat.le_succ_of_le cc, Nat.le_succ_of_le d, app _ (fil_le _ e)⟩, ⟨Nat.le_succ_of_le (fil_le _ a), Nat.le_succ_of_le b, Nat.le_succ_of_le cc, Nat.le_succ_of_le d, app _ (fil_le _ e)⟩⟩
  have a1 : Shrt (dSenS D A.a A.t A.m A.c A.bl) (n + 1) := by
    unfold dSenS
    split
    · split
      · rename_i y _
        split
        · exact (two D y.t y.t A.m y.t A.t hl hc hb hg hx).1
        · exact (two D y.t y.t A.m y.t A.t hl hc hb hg hx).2
      · split
        · exact ⟨app _ hl, h1.c, h1.b, h1.g, h1.x⟩
        · exact h1
    · exact h1
  have a2 : Shrt (dRecS D A.a A.t A.bl) (n + 1) := by
    unfold dRecS
    obtain ⟨a, b, c, d, e⟩ := hfor A.t
    split
    · split
      · exact lig _ _ _ a b c d e
      · split
        · split
          · exact ⟨app _ a, Nat.le_succ_of_le b, Nat.le_succ_of_le c, Nat.le_succ_of_le d, Nat.le_succ_of_le e⟩
          · exact ⟨Nat.le_succ_of_le a, Nat.le_succ_of_le b, Nat.le_succ_of_le c, Nat.le_succ_of_le d, Nat.le_succ_of_le e⟩
        · rename_i y _
          unfold dHea
          split
          · exact (two _ y.t A.t y.m A.t y.t a b c d e).1
          · exact (two _ y.t A.t y.m A.t y.t a b c d e).2
    · exact h1
  have a3 : Shrt (dRepS D A.t A.m) (n + 1) := by
    unfold dRepS
    split
    · split
      · exact h1
      · exact ⟨Nat.le_succ_of_le (fil_le _ hl), Nat.le_succ_of_le (fil_le _ hc), h1.b, h1.g, app _ (fil_le _ hx)⟩
    · exact h1
  have a4 : Shrt (dForS D A.t) (n + 1) := by
    obtain ⟨a, b, c, d, e⟩ := hfor A.t
    exact ⟨Nat.le_succ_of_le a, Nat.le_succ_of_le b, Nat.le_succ_of_le c, Nat.le_succ_of_le d, Nat.le_succ_of_le e⟩
  have a5 : Shrt (dSigS D A.a A.x) (n + 1) := by
    unfold dSigS
    split
    · split
      · exact ⟨Nat.le_succ_of_le (fil_le _ hl), h1.c, h1.b, h1.g, app _ (fil_le _ hx)⟩
      · exact ⟨h1.l, h1.c, h1.b, app _ (fil_le _ hg), h1.x⟩
    · exact h1
  have a6 : Shrt (dWatS D A.a A.t A.bl) (n + 1) := by
    unfold dWatS
    split
    · split
      · exact h1
      · split
        · exact lig _ _ _ hl hc hb hg hx
        · split
          · exact ⟨app _ hl, h1.c, h1.b, h1.g, h1.x⟩
          · exact h1
    · exact h1
  have a7 : Shrt (dBinS D A.a A.t) (n + 1) := by
    unfold dBinS
    split
    · split
      · exact h1
      · exact ⟨h1.l, h1.c, app _ hb, h1.g, h1.x⟩
    · exact h1
  have a8 : Shrt (dUnbS D A.t) (n + 1) := by
    unfold dUnbS
    split
    · split
      · exact h1
      · exact ⟨h1.l, h1.c, Nat.le_succ_of_le (fil_le _ hb), h1.g, h1.x⟩
    · exact h1
  have a9 : Shrt (dCanS D A.t) (n + 1) := by
    unfold dCanS
    split
    · split
      · exact ⟨Nat.le_succ_of_le (fil_le _ hl), Nat.le_succ_of_le (fil_le _ hc), h1.b, h1.g, h1.x⟩
      · exact h1.rest _
    · exact h1
  have a10 : Shrt (dCalS D A.a) (n + 1) := by
    exact h1.restL _
  have a11 : Shrt (dCbaS D A.a A.x) (n + 1) := by
    exact h1.restL _
  have a12 : Shrt (({ D with X := D.X.filter (fun y => y.1 != A.t) } : Dc)) (n + 1) := by
    exact ⟨h1.l, h1.c, h1.b, h1.g, fil_le _ h1.x⟩
  by_cases hA : 1 ≤ A.d ∧ A.d ≤ 12
  · obtain ⟨d, a, t, x, m, c, bl⟩ := A
    have hA : 1 ≤ d ∧ d ≤ 12 := hA
    have : d = 1 ∨ d = 2 ∨ d = 3 ∨ d = 4 ∨ d = 5 ∨ d = 6 ∨ d = 7 ∨ d = 8 ∨ d = 9 ∨ d = 10 ∨ d = 11 ∨ d = 12 := by omega
    rcases this with rfl | rfl | rfl | rfl | rfl | rfl | rfl | rfl | rfl | rfl | rfl | rfl
    · exact a1
    · exact a2
    · exact a3
    · exact a4
    · exact a5
    · exact a6
    · exact a7
    · exact a8
    · exact a9
    · exact a10
    · exact a11
    · exact a12
  · rw [(mnone_of hA D).1]
    exact h1
end
/-- Alike, and short: what every call of the document wants. -/
theorem Rl.fit {S : Ip} {D : Dc} (h : Rl S D) {n : Nat} (hs : Shrt D n) (hn : n ≤ 100000) : Fit D :=
  ⟨Nat.le_trans hs.l hn, Nat.le_trans hs.c hn, Nat.le_trans hs.b hn, Nat.le_trans hs.g hn, Nat.le_trans hs.x hn, h.l.nd, fun t ht => by
    rw [h.cal t] at ht ⊢
    cases e : calO S t with
    | none => rw [e] at ht; exact absurd ht (by decide)
    | some c =>
      obtain ⟨_, _, hq, _, _⟩ := h.calS e
      have hin : c ∈ S.q 4 t := by rw [hq]; simp
      rw [h.l.isSome]
      show (!((thrT S c).st == 0)) = true
      rw [(h.ok.memT hin).1]
      rfl⟩

end Go.Proofs.Ytjobdfkfongjaaa

