/-
  Virtual processors as plain data: what package vcpu's calls answer and leave. No program, no statement.
-/
import Derived.Test.YthkieoedidpkaaaVgDefs
namespace Go.Proofs.Ythkieoedidpkaaa
open Go.RowKit

def I64 (x : Int) : Prop := -9223372036854775808 ≤ x ∧ x ≤ 9223372036854775807
def rgB (n a b : Int) : Bool := decide (a ≤ n) && decide (n ≤ b)
theorem rg_iff {n a b : Int} : rgB n a b = true ↔ a ≤ n ∧ n ≤ b := by simp [rgB]

/-- A virtual processor: its number, its thread, its registers, its interrupts. -/
structure Vc where
  id : Int
  th : Int
  sy : Nat → Int
  vg : Vg
/-- All of them, which is loaded, how many list registers. -/
structure Vp where
  L : List Vc
  ld : Int
  lrs : Int
def fnd : List Vc → Int → Option Vc
  | [], _ => none
  | x :: L, k => if x.id = k then some x else fnd L k
def upd (L : List Vc) (k : Int) (f : Vc → Vc) : List Vc := L.map fun x => if x.id = k then f x else x
def zsy (id : Int) : Nat → Int := fun k => if k = 6 then id else 0
def newVc (id lrs : Int) : Vc := ⟨id, -1, zsy id, zeroV lrs⟩

def hasB (S : Vp) (id : Int) : Bool := (fnd S.L id).isSome
def addE (S : Vp) (id : Int) : Int := if rgB id 0 1023 then (if hasB S id then 130 else 0) else 1
def addS (S : Vp) (id : Int) : Vp := if addE S id = 0 then { S with L := S.L ++ [newVc id S.lrs] } else S
def drpE (S : Vp) (id : Int) : Int := if hasB S id then 0 else 181
def leaS (S : Vp) : Vp := { S with ld := -1 }
def drpS (S : Vp) (id : Int) : Vp := if hasB S id then { S with L := S.L.filter (fun x => !(x.id == id)), ld := if S.ld = id then -1 else S.ld } else S
def thrI (S : Vp) (id : Int) : Int := match fnd S.L id with
  | some x => x.th
  | none => -1
def ofO (S : Vp) (t : Int) : Option Vc := S.L.find? (fun x => x.th == t)
def ofI (S : Vp) (t : Int) : Int := if rgB t 0 1023 then (match ofO S t with
  | some x => x.id
  | none => -1) else -1
def setT (t : Int) (x : Vc) : Vc := { x with th := t }
def binE (S : Vp) (id t : Int) : Int := if hasB S id then (if rgB t 0 1023 then (if thrI S id = -1 ∧ ofI S t = -1 then 0 else 180) else 1) else 181
def binS (S : Vp) (id t : Int) : Vp := if binE S id t = 0 then { S with L := upd S.L id (setT t) } else S
def unbE (S : Vp) (id : Int) : Int := if hasB S id then (if thrI S id = -1 then 180 else 0) else 181
def unbS (S : Vp) (id : Int) : Vp := if unbE S id = 0 then { S with L := upd S.L id (setT (-1)) } else S
def entE (S : Vp) (id : Int) : Int := if hasB S id then 0 else 181
def entS (S : Vp) (id : Int) : Vp := if hasB S id then { S with ld := id } else S
def bkF (S : Vp) : Nat → Int := match fnd S.L S.ld with
  | some x => x.sy
  | none => fun _ => 0
def setR (b : Nat → Int) (x : Vc) : Vc := { x with sy := fun k => if k < 6 then b k else x.sy k }
def setE (S : Vp) : Int := if S.ld = -1 then 194 else 0
def setS (S : Vp) (b : Nat → Int) : Vp := if S.ld = -1 then S else { S with L := upd S.L S.ld (setR b) }
def reaE (S : Vp) (id n : Int) : Int := if hasB S id then (if rgB n 0 7 then 0 else 1) else 181
def reaW (S : Vp) (id n : Int) : Int := if reaE S id n = 0 then (match fnd S.L id with
  | some x => x.sy n.toNat
  | none => 0) else 0
def set1R (k : Nat) (v : Int) (x : Vc) : Vc := { x with sy := fun j => if j = k then v else x.sy j }
def wriE (S : Vp) (id n : Int) : Int := if hasB S id then (if rgB n 0 5 then 0 else 1) else 181
def wriS (S : Vp) (id n v : Int) : Vp := if wriE S id n = 0 then { S with L := upd S.L id (set1R n.toNat v) } else S
def setV (v : Vg) (x : Vc) : Vc := { x with vg := v }
def vgI (S : Vp) (id : Int) : Vg := match fnd S.L id with
  | some x => x.vg
  | none => zeroV 1
def ijE (S : Vp) (id n p : Int) : Int := if hasB S id then injE (vgI S id) n p else 181
def ijS (S : Vp) (id n p : Int) (l : Bool) : Vp := if hasB S id then { S with L := upd S.L id (setV (injS (vgI S id) n p l)) } else S
/-- One more tick of the loaded one's count. -/
def tick1 (S : Vp) : Vp := { S with L := upd S.L S.ld (set1R 5 (IntKind.u32.wrap (bkF S 5 + 1))) }
def dueB (S : Vp) : Bool := !(bkF (tick1 S) 3 == 0) && bkF (tick1 S) 5 == bkF (tick1 S) 3
def tckB (S : Vp) : Bool := if S.ld = -1 then false else (if dueB S then ijE (tick1 S) S.ld 27 10 == 0 else false)
def tckS (S : Vp) : Vp := if S.ld = -1 then S else (if dueB S then ijS (tick1 S) S.ld 27 10 false else tick1 S)

/-! ### a list of them -/
theorem fnd_mem {L : List Vc} {k : Int} {n : Vc} (h : fnd L k = some n) : n ∈ L ∧ n.id = k := by
  induction L with
  | nil => cases h
  | cons a L ih =>
    unfold fnd at h
    split at h
    · cases h; rename_i e; exact ⟨List.mem_cons_self, e⟩
    · exact ⟨List.mem_cons_of_mem _ (ih h).1, (ih h).2⟩
theorem fnd_none {L : List Vc} {k : Int} (h : fnd L k = none) : ∀ n ∈ L, n.id ≠ k := by
  induction L with
  | nil => simp
  | cons a L ih =>
    unfold fnd at h
    split at h
    · cases h
    · intro n hn
      rcases List.mem_cons.mp hn with rfl | hn
      · assumption
      · exact ih h n hn
theorem fnd_of_mem {L : List Vc} (g : L.Pairwise (fun a b => a.id ≠ b.id)) {n : Vc} (h : n ∈ L) : fnd L n.id = some n := by
  induction L with
  | nil => cases h
  | cons a L ih =>
    unfold fnd
    rw [List.pairwise_cons] at g
    rcases List.mem_cons.mp h with rfl | h'
    · rw [if_pos rfl]
    · rw [if_neg (g.1 n h')]; exact ih g.2 h'
theorem fnd_none_of {L : List Vc} {k : Int} (h : ∀ n ∈ L, n.id ≠ k) : fnd L k = none := by
  cases hf : fnd L k with
  | none => rfl
  | some n => exact absurd (fnd_mem hf).2 (h n (fnd_mem hf).1)
theorem fnd_append (L M : List Vc) (k : Int) : fnd (L ++ M) k = match fnd L k with | some t => some t | none => fnd M k := by
  induction L with
  | nil => rfl
  | cons a L ih =>
    simp only [List.cons_append, fnd]
    split
    · rfl
    · exact ih
theorem upd_len (L : List Vc) (k : Int) (f : Vc → Vc) : (upd L k f).length = L.length := by simp [upd]
theorem fnd_upd {L : List Vc} {k : Int} {f : Vc → Vc} (hf : ∀ t, (f t).id = t.id) (j : Int) : fnd (upd L k f) j = (fnd L j).map fun t => if t.id = k then f t else t := by
  induction L with
  | nil => rfl
  | cons a L ih =>
    have e : (if a.id = k then f a else a).id = a.id := by split; exact hf a; rfl
    simp only [upd, List.map_cons, fnd] at ih ⊢
    rw [e]
    split
    · rfl
    · exact ih
theorem fnd_upd1 (L : List Vc) (k : Int) {f : Vc → Vc} (hf : ∀ t, (f t).id = t.id) (x : Int) : fnd (upd L k f) x = if x = k then (fnd L k).map f else fnd L x := by
  rw [fnd_upd hf]
  cases hx : fnd L x with
  | none =>
    by_cases e : x = k
    · subst e; rw [hx]; simp
    · simp [e]
  | some t =>
    have := (fnd_mem hx).2
    by_cases e : x = k
    · subst e
      rw [hx]; simp [this]
    · rw [Option.map_some, if_neg (by rw [this]; exact e), if_neg e]
theorem mem_upd {L : List Vc} {k : Int} {f : Vc → Vc} {x : Vc} (h : x ∈ upd L k f) : ∃ t ∈ L, x = if t.id = k then f t else t := by
  obtain ⟨t, ht, e⟩ := List.mem_map.mp h
  exact ⟨t, ht, e.symm⟩
theorem fnd_filter {L : List Vc} (k x : Int) : fnd (L.filter (fun y => !(y.id == k))) x = if x = k then none else fnd L x := by
  induction L with
  | nil => simp [fnd]
  | cons a L ih =>
    rw [List.filter_cons]
    by_cases e : a.id = k
    · have : (!(a.id == k)) = false := by simp [e]
      rw [this, if_neg (by decide), ih]
      by_cases ex : x = k
      · rw [if_pos ex, if_pos ex]
      · rw [if_neg ex, if_neg ex]
        unfold fnd
        rw [if_neg (fun h => ex (by rw [← h, e]))]
        cases L <;> rfl
    · have : (!(a.id == k)) = true := by simp [e]
      rw [this, if_pos rfl]
      unfold fnd
      rw [ih]
      by_cases ex : x = k
      · rw [if_pos ex, if_pos ex]
        subst ex
        rw [if_neg e]
      · rw [if_neg ex, if_neg ex]

structure GoodP (S : Vp) : Prop where
  ids : ∀ x ∈ S.L, 0 ≤ x.id ∧ x.id ≤ 1023
  one : S.L.Pairwise (fun a b => a.id ≠ b.id)
  th : ∀ x ∈ S.L, x.th = -1 ∨ (0 ≤ x.th ∧ x.th ≤ 1023)
  ths : ∀ x ∈ S.L, ∀ y ∈ S.L, x.th = y.th → x.th ≠ -1 → x.id = y.id
  ld : S.ld = -1 ∨ hasB S S.ld = true
  lrs : 1 ≤ S.lrs ∧ S.lrs ≤ 16
theorem good_p0 {n : Int} (h : 1 ≤ n ∧ n ≤ 16) : GoodP ⟨[], -1, n⟩ := ⟨fun x h => (by cases h), List.Pairwise.nil, fun x h => (by cases h), fun x h => (by cases h), Or.inl rfl, h⟩
section
variable {S : Vp}
theorem len_ids : ∀ (N : Nat) (l : List Int), l.Nodup → (∀ x ∈ l, 0 ≤ x ∧ x < (N : Int)) → l.length ≤ N
  | 0, l, _, h => by
    cases l with
    | nil => simp
    | cons x l => have := h x List.mem_cons_self; omega
  | N + 1, l, hn, h => by
    have h1 := len_ids N (l.filter fun x => !(x == (N : Int))) (hn.filter _) (fun x hx => by
      have := List.mem_filter.mp hx
      have h2 := h x this.1
      have h3 : x ≠ (N : Int) := by simpa using this.2
      omega)
    have h2 : l.length ≤ (l.filter fun x => !(x == (N : Int))).length + 1 := by
      clear h h1
      induction l with
      | nil => simp
      | cons a l ih =>
        rw [List.nodup_cons] at hn
        rw [List.filter_cons]
        by_cases e : a = (N : Int)
        · rw [if_neg (by simp [e])]
          have : l.filter (fun x => !(x == (N : Int))) = l := List.filter_eq_self.2 fun x hx => by
            have : x ≠ (N : Int) := fun h' => hn.1 (by rw [e, ← h']; exact hx)
            simpa using this
          rw [this]; simp
        · rw [if_pos (by simp [e])]
          have := ih hn.2
          simp only [List.length_cons]
          omega
    omega
theorem GoodP.len (g : GoodP S) : S.L.length ≤ 1024 := by
  have := len_ids 1024 (S.L.map (·.id)) (List.pairwise_map.2 g.one) (fun x hx => by
    obtain ⟨y, hy, rfl⟩ := List.mem_map.1 hx
    have := g.ids y hy
    omega)
  simpa using this
theorem GoodP.pos (g : GoodP S) {k : Int} {x : Vc} (h : fnd S.L k = some x) : 0 ≤ k ∧ k ≤ 1023 ∧ x ∈ S.L ∧ x.id = k := by
  obtain ⟨h1, h2⟩ := fnd_mem h
  have := g.ids x h1
  exact ⟨by omega, by omega, h1, h2⟩
theorem GoodP.notneg (g : GoodP S) : fnd S.L (-1) = none := by
  cases h : fnd S.L (-1) with
  | none => rfl
  | some x => have := g.pos h; omega
/-- One of them turned, but for its number and its thread. -/
theorem GoodP.upd1 (g : GoodP S) (k : Int) {f : Vc → Vc} (h1 : ∀ t, (f t).id = t.id) (h2 : ∀ t, (f t).th = t.th) : GoodP { S with L := upd S.L k f } := by
  have e1 : ∀ t : Vc, (if t.id = k then f t else t).id = t.id := fun t => by split; exact h1 t; rfl
  have e2 : ∀ t : Vc, (if t.id = k then f t else t).th = t.th := fun t => by split; exact h2 t; rfl
  refine ⟨fun x hx => ?_, ?_, fun x hx => ?_, fun x hx y hy => ?_, ?_, g.lrs⟩
  · obtain ⟨t, ht, rfl⟩ := mem_upd hx
    rw [e1]; exact g.ids t ht
  · exact List.pairwise_map.2 (g.one.imp fun {a b} h => by rw [e1, e1]; exact h)
  · obtain ⟨t, ht, rfl⟩ := mem_upd hx
    rw [e2]; exact g.th t ht
  · obtain ⟨t, ht, rfl⟩ := mem_upd hx
    obtain ⟨u, hu, rfl⟩ := mem_upd hy
    rw [e2, e2, e1, e1]; exact g.ths t ht u hu
  · rcases g.ld with h | h
    · exact Or.inl h
    · right
      show (fnd (upd S.L k f) S.ld).isSome = true
      rw [fnd_upd h1, Option.isSome_map]
      exact h
theorem good_add (g : GoodP S) (id : Int) : GoodP (addS S id) := by
  unfold addS
  split
  · rename_i e
    unfold addE at e
    split at e
    · rename_i hr
      split at e
      · cases e
      · rename_i hh
        have hn : fnd S.L id = none := by
          unfold hasB at hh
          cases h : fnd S.L id with
          | none => rfl
          | some _ => rw [h] at hh; exact absurd rfl hh
        have hid := rg_iff.1 hr
        refine ⟨fun x hx => ?_, ?_, fun x hx => ?_, fun x hx y hy => ?_, ?_, g.lrs⟩
        · rcases List.mem_append.1 hx with hx | hx
          · exact g.ids x hx
          · simp at hx; rw [hx]; exact hid
        · refine List.pairwise_append.2 ⟨g.one, List.pairwise_singleton _ _, fun a ha b hb => ?_⟩
          simp at hb
          rw [hb]
          exact fnd_none hn a ha
        · rcases List.mem_append.1 hx with hx | hx
          · exact g.th x hx
          · simp at hx; rw [hx]; exact Or.inl rfl
        · rcases List.mem_append.1 hx with hx | hx
          · rcases List.mem_append.1 hy with hy | hy
            · exact g.ths x hx y hy
            · simp at hy
              intro e1 e2
              rw [hy] at e1
              exact absurd e1 e2
          · simp at hx
            intro _ e2
            rw [hx] at e2
            exact absurd rfl e2
        · rcases g.ld with h | h
          · exact Or.inl h
          · right
            show (fnd (S.L ++ [newVc id S.lrs]) S.ld).isSome = true
            rw [fnd_append]
            unfold hasB at h
            cases hf : fnd S.L S.ld with
            | none => rw [hf] at h; cases h
            | some _ => rfl
    · cases e
  · exact g
theorem good_lea (g : GoodP S) : GoodP (leaS S) := ⟨g.ids, g.one, g.th, g.ths, Or.inl rfl, g.lrs⟩
theorem good_ent (g : GoodP S) (id : Int) : GoodP (entS S id) := by
  unfold entS
  split
  · rename_i h
    exact ⟨g.ids, g.one, g.th, g.ths, Or.inr h, g.lrs⟩
  · exact g
theorem good_drp (g : GoodP S) (id : Int) : GoodP (drpS S id) := by
  unfold drpS
  split
  · refine ⟨fun x hx => g.ids x (List.mem_filter.1 hx).1, g.one.sublist List.filter_sublist, fun x hx => g.th x (List.mem_filter.1 hx).1, fun x hx y hy => g.ths x (List.mem_filter.1 hx).1 y (List.mem_filter.1 hy).1, ?_, g.lrs⟩
    by_cases e : S.ld = id
    · left
      show (if S.ld = id then -1 else S.ld) = -1
      rw [if_pos e]
    · rcases g.ld with h | h
      · left
        show (if S.ld = id then -1 else S.ld) = -1
        rw [if_neg e, h]
      · right
        show (fnd (S.L.filter (fun x => !(x.id == id))) (if S.ld = id then -1 else S.ld)).isSome = true
        rw [if_neg e, fnd_filter, if_neg e]
        exact h
  · exact g
theorem of_none (g : GoodP S) {t : Int} (ht : rgB t 0 1023 = true) (h : ofI S t = -1) : ∀ x ∈ S.L, x.th ≠ t := by
  unfold ofI at h
  rw [if_pos ht] at h
  cases e : ofO S t with
  | none =>
    intro x hx hx2
    have := List.find?_eq_none.1 e x hx
    exact this (by simpa using hx2)
  | some y =>
    rw [e] at h
    have := g.ids y (List.mem_of_find?_eq_some e)
    have h : y.id = -1 := h
    omega
theorem good_bin (g : GoodP S) (id t : Int) : GoodP (binS S id t) := by
  unfold binS
  split
  · rename_i e
    unfold binE at e
    split at e
    · split at e
      · rename_i hr
        split at e
        · rename_i hb
          have hn := of_none g hr hb.2
          have ht := rg_iff.1 hr
          have e1 : ∀ x : Vc, (if x.id = id then setT t x else x).id = x.id := fun x => by split <;> rfl
          refine ⟨fun x hx => ?_, ?_, fun x hx => ?_, fun x hx y hy => ?_, ?_, g.lrs⟩
          · obtain ⟨z, hz, rfl⟩ := mem_upd hx
            rw [e1]; exact g.ids z hz
          · exact List.pairwise_map.2 (g.one.imp fun {a b} h => by rw [e1, e1]; exact h)
          · obtain ⟨z, hz, rfl⟩ := mem_upd hx
            split
            · exact Or.inr ht
            · exact g.th z hz
          · obtain ⟨z, hz, rfl⟩ := mem_upd hx
            obtain ⟨u, hu, rfl⟩ := mem_upd hy
            rw [e1, e1]
            by_cases ez : z.id = id
            · by_cases eu : u.id = id
              · intro _ _; rw [ez, eu]
              · rw [if_pos ez, if_neg eu]
                intro h _
                have h : t = u.th := h
                exact absurd h.symm (hn u hu)
            · by_cases eu : u.id = id
              · rw [if_neg ez, if_pos eu]
                intro h _
                have h : z.th = t := h
                exact absurd h (hn z hz)
              · rw [if_neg ez, if_neg eu]
                exact g.ths z hz u hu
          · rcases g.ld with h | h
            · exact Or.inl h
            · right
              show (fnd (upd S.L id (setT t)) S.ld).isSome = true
              rw [fnd_upd (f := setT t) (fun _ => rfl), Option.isSome_map]
              exact h
        · cases e
      · cases e
    · cases e
  · exact g
theorem good_unb (g : GoodP S) (id : Int) : GoodP (unbS S id) := by
  unfold unbS
  split
  · have e1 : ∀ x : Vc, (if x.id = id then setT (-1) x else x).id = x.id := fun x => by split <;> rfl
    refine ⟨fun x hx => ?_, ?_, fun x hx => ?_, fun x hx y hy => ?_, ?_, g.lrs⟩
    · obtain ⟨z, hz, rfl⟩ := mem_upd hx
      rw [e1]; exact g.ids z hz
    · exact List.pairwise_map.2 (g.one.imp fun {a b} h => by rw [e1, e1]; exact h)
    · obtain ⟨z, hz, rfl⟩ := mem_upd hx
      split
      · exact Or.inl rfl
      · exact g.th z hz
    · obtain ⟨z, hz, rfl⟩ := mem_upd hx
      obtain ⟨u, hu, rfl⟩ := mem_upd hy
      rw [e1, e1]
      by_cases ez : z.id = id
      · rw [if_pos ez]
        intro _ h
        exact absurd rfl h
      · by_cases eu : u.id = id
        · rw [if_neg ez, if_pos eu]
          intro h h2
          have h : z.th = -1 := h
          exact absurd h h2
        · rw [if_neg ez, if_neg eu]
          exact g.ths z hz u hu
    · rcases g.ld with h | h
      · exact Or.inl h
      · right
        show (fnd (upd S.L id (setT (-1))) S.ld).isSome = true
        rw [fnd_upd (f := setT (-1)) (fun _ => rfl), Option.isSome_map]
        exact h
  · exact g
theorem good_set (g : GoodP S) (b : Nat → Int) : GoodP (setS S b) := by
  unfold setS
  split
  · exact g
  · exact g.upd1 _ (fun _ => rfl) (fun _ => rfl)
theorem good_wri (g : GoodP S) (id n v : Int) : GoodP (wriS S id n v) := by
  unfold wriS
  split
  · exact g.upd1 _ (fun _ => rfl) (fun _ => rfl)
  · exact g
theorem good_ij (g : GoodP S) (id n p : Int) (l : Bool) : GoodP (ijS S id n p l) := by
  unfold ijS
  split
  · exact g.upd1 _ (fun _ => rfl) (fun _ => rfl)
  · exact g
theorem good_tick1 (g : GoodP S) : GoodP (tick1 S) := g.upd1 _ (fun _ => rfl) (fun _ => rfl)
theorem good_tck (g : GoodP S) : GoodP (tckS S) := by
  unfold tckS
  split
  · exact g
  · split
    · exact good_ij (good_tick1 g) _ _ _ _
    · exact good_tick1 g
end

end Go.Proofs.Ythkieoedidpkaaa
