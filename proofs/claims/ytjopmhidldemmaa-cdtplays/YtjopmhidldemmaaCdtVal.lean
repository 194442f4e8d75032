/-
  The list of places in memory ('Ch': each with its two neighbours), and a forest as a whole ('IsT'). No statement is proved here.
-/
import Derived.Test.YtjopmhidldemmaaCdtRow
namespace Go.Proofs.Ytjopmhidldemmaa
open Go.RowKit Go.Maps Go.WideMaps

/-- A place: its block, its entry. -/
structure Pl where
  b : Nat
  e : En

abbrev ad (b : Nat) : Option Addr := some ⟨b, 0, none⟩
def plC (e : En) (p q : Option Addr) : Array Value := #[.int .i64 e.a.n, .int .i64 e.a.i, .int .i64 e.d, .pointer p, .pointer q]
def hd (X : List Pl) (q : Option Addr) : Option Addr := match X with
  | [] => q
  | x :: _ => ad x.b
def lst (p : Option Addr) : List Pl → Option Addr
  | [] => p
  | x :: X => lst (ad x.b) X

/-- The places X, one behind the other, between p and q. -/
def Ch (w : World) (p : Option Addr) (X : List Pl) (q : Option Addr) : Prop := match X with
  | [] => True
  | x :: X => Row w x.b (plC x.e p (hd X q)) 47 ∧ Ch w (ad x.b) X q

section
variable {w w' : World} {p q : Option Addr} {X A C : List Pl} {x : Pl}
theorem hd_app : hd (A ++ C) q = hd A (hd C q) := by cases A <;> rfl
theorem lst_app : lst p (A ++ C) = lst (lst p A) C := by
  induction A generalizing p with
  | nil => rfl
  | cons a A ih => exact ih
theorem lst_snoc : lst p (A ++ [x]) = ad x.b := by rw [lst_app]; rfl

theorem ch_app : Ch w p (A ++ C) q ↔ Ch w p A (hd C q) ∧ Ch w (lst p A) C q := by
  induction A generalizing p with
  | nil => simp [Ch, lst]
  | cons a A ih =>
    simp only [List.cons_append, Ch, lst]
    rw [ih, hd_app, and_assoc]
theorem Ch.keep {S : Nat → Prop} (h : Ch w p X q) (f : Fr S w w') (hs : ∀ x ∈ X, ¬ S x.b) : Ch w' p X q := by
  induction X generalizing p with
  | nil => trivial
  | cons x X ih => exact ⟨h.1.keep f (hs x (by simp)), ih h.2 (fun y hy => hs y (by simp [hy]))⟩
theorem Ch.lt (h : Ch w p X q) : ∀ x ∈ X, x.b < w.heap.size := by
  induction X generalizing p with
  | nil => intro x hx; cases hx
  | cons x X ih =>
    intro y hy
    rcases List.mem_cons.1 hy with rfl | hy
    · exact h.1.lt
    · exact ih h.2 y hy
theorem Ch.at' (h : Ch w p (A ++ x :: C) q) : Ch w p A (ad x.b) ∧ Row w x.b (plC x.e (lst p A) (hd C q)) 47 ∧ Ch w (ad x.b) C q := by
  obtain ⟨h1, h2, h3⟩ := ch_app.1 h
  exact ⟨h1, h2, h3⟩
theorem ch_join (h1 : Ch w p A (ad x.b)) (h2 : Row w x.b (plC x.e (lst p A) (hd C q)) 47) (h3 : Ch w (ad x.b) C q) : Ch w p (A ++ x :: C) q := ch_app.2 ⟨h1, h2, h3⟩
theorem Ch.row (h : Ch w p X q) : ∀ x ∈ X, ∃ p' q', Row w x.b (plC x.e p' q') 47 := by
  intro x hx
  obtain ⟨A, C, rfl⟩ := List.append_of_mem hx
  exact ⟨_, _, h.at'.2.1⟩
/-- The first one's own neighbour ahead turned. -/
theorem Ch.head (h : Ch w p (x :: X) q) (hn : ∀ y ∈ X, y.b ≠ x.b) (p' : Option Addr) : Ch (w.setCell ⟨x.b, 3, none⟩ (.pointer p')) p' (x :: X) q := by
  refine ⟨?_, h.2.keep (fr_set w x.b 3 (.pointer p') (Fr.refl _ _)) (fun y hy e => hn y hy e)⟩
  have := h.1.setCell 3 (.pointer p')
  simpa [plC] using this
/-- The last one's own neighbour behind turned. -/
theorem Ch.last (h : Ch w p (A ++ [x]) q) (hn : ∀ y ∈ A, y.b ≠ x.b) (q' : Option Addr) : Ch (w.setCell ⟨x.b, 4, none⟩ (.pointer q')) p (A ++ [x]) q' := by
  obtain ⟨h1, h2, _⟩ := h.at'
  refine ch_join (C := []) (h1.keep (fr_set w x.b 4 (.pointer q') (Fr.refl _ _)) (fun y hy e => hn y hy e)) ?_ trivial
  have := h2.setCell 4 (.pointer q')
  simpa [plC, hd] using this
end

/-- A forest's blocks: its map, its top's place, its places. -/
structure Tr where
  m : Nat
  tb : Nat
  Y : List Pl
def Tr.F (T : Tr) : List En := T.Y.map (·.e)
def Tr.X (T : Tr) : List Pl := ⟨T.tb, top0⟩ :: T.Y
def Tr.s (T : Tr) (t : Nat) : Nat → Prop := fun k => k = t ∨ k = T.m ∨ ∃ x ∈ T.X, k = x.b

def mapF : List Pl → Rf → Option Nat
  | [], _ => none
  | y :: Y, a => if y.e.a = a then some y.b else mapF Y a

structure IsT (w : World) (t : Nat) (T : Tr) : Prop where
  row : Row w t #[pv T.tb, .map (some T.m)] 50
  map : MP w T.m T.Y.length (mapF T.Y)
  ch : Ch w none T.X none
  nd : (T.X.map (·.b)).Nodup
  nt : ∀ x ∈ T.X, x.b ≠ t

theorem IsT.keep {S : Nat → Prop} {w w' : World} {t : Nat} {T : Tr} (h : IsT w t T) (f : Fr S w w') (hs : ∀ k, T.s t k → ¬ S k) : IsT w' t T :=
  ⟨h.row.keep f (hs _ (Or.inl rfl)), h.map.keep f (hs _ (Or.inr (Or.inl rfl))), h.ch.keep f (fun x hx => hs _ (Or.inr (Or.inr ⟨x, hx, rfl⟩))), h.nd, h.nt⟩
theorem IsT.keep0 {w w' : World} {t : Nat} {T : Tr} (h : IsT w t T) (f : Fr none' w w') : IsT w' t T := h.keep f (fun _ _ h => h)
theorem IsT.lt {w : World} {t : Nat} {T : Tr} (h : IsT w t T) : ∀ k, T.s t k → k < w.heap.size := by
  rintro k (rfl | rfl | ⟨x, hx, rfl⟩)
  · exact h.row.lt
  · exact h.map.lt
  · exact h.ch.lt x hx
theorem IsT.mx {w : World} {t : Nat} {T : Tr} (h : IsT w t T) : ∀ x ∈ T.X, x.b ≠ T.m := by
  intro x hx e
  obtain ⟨p', q', r⟩ := h.ch.row x hx
  exact h.map.ne r e.symm
theorem IsT.tm {w : World} {t : Nat} {T : Tr} (h : IsT w t T) : t ≠ T.m := fun e => h.map.ne h.row e.symm

/-- What a call leaves. -/
def ChgT (w : World) (t : Nat) (T : Tr) (w' : World) (T' : Tr) : Prop := IsT w' t T' ∧ Fr (T.s t) w w' ∧ ∀ k, T'.s t k → T.s t k ∨ w.heap.size ≤ k
theorem ChgT.same {w w' : World} {t : Nat} {T : Tr} (h : IsT w t T) (f : Fr none' w w') : ChgT w t T w' T := ⟨h.keep0 f, f.mono (fun _ _ h => h.elim), fun _ h => Or.inl h⟩

theorem mapF_none {a : Rf} : ∀ {Y : List Pl}, hasF (Y.map (·.e)) a = false → mapF Y a = none
  | [], _ => rfl
  | y :: Y, h => by
    have h1 : ¬ y.e.a = a := has_not h y.e (by simp)
    have h2 : hasF (Y.map (·.e)) a = false := by simp [hasF] at h ⊢; exact h.2
    simp [mapF, h1, mapF_none h2]
theorem mapF_at {A C : List Pl} {x : Pl} (h : hasF (A.map (·.e)) x.e.a = false) : mapF (A ++ x :: C) x.e.a = some x.b := by
  induction A with
  | nil => simp [mapF]
  | cons y A ih =>
    have h1 : ¬ y.e.a = x.e.a := has_not h y.e (by simp)
    have h2 : hasF (A.map (·.e)) x.e.a = false := by simp [hasF] at h ⊢; exact h.2
    simp [mapF, h1, ih h2]
theorem mapF_iff {Y : List Pl} (hn : (Y.map (·.e.a)).Nodup) (a : Rf) (g : Nat) : mapF Y a = some g ↔ ∃ y ∈ Y, y.e.a = a ∧ y.b = g := by
  induction Y with
  | nil => simp [mapF]
  | cons y Y ih =>
    obtain ⟨h1, h2⟩ := List.nodup_cons.1 hn
    unfold mapF
    by_cases e : y.e.a = a
    · rw [if_pos e]
      constructor
      · intro hg; cases hg; exact ⟨y, by simp, e, rfl⟩
      · rintro ⟨z, hz, hza, rfl⟩
        rcases List.mem_cons.1 hz with rfl | hz
        · rfl
        · exact absurd (List.mem_map.2 ⟨z, hz, hza.trans e.symm⟩) h1
    · rw [if_neg e, ih h2]
      constructor
      · rintro ⟨z, hz, r⟩; exact ⟨z, by simp [hz], r⟩
      · rintro ⟨z, hz, hza, r⟩
        rcases List.mem_cons.1 hz with rfl | hz
        · exact absurd hza e
        · exact ⟨z, hz, hza, r⟩
theorem mapF_eq {Y : List Pl} (hn : (Y.map (·.e.a)).Nodup) {f : Rf → Option Nat} (h : ∀ a g, f a = some g ↔ ∃ y ∈ Y, y.e.a = a ∧ y.b = g) : ∀ a, f a = mapF Y a := by
  intro a
  cases hf : f a with
  | none =>
    cases hm : mapF Y a with
    | none => rfl
    | some g => rw [(h a g).2 ((mapF_iff hn a g).1 hm)] at hf; cases hf
  | some g => rw [(mapF_iff hn a g).2 ((h a g).1 hf)]
theorem names_F (T : Tr) : T.F.map (·.a) = T.Y.map (·.e.a) := by simp [Tr.F]
/-- A name's place. -/
theorem place_of {T : Tr} {a : Rf} (h : hasF T.F a = true) : ∃ A x C, T.Y = A ++ x :: C ∧ x.e.a = a ∧ hasF (A.map (·.e)) a = false := by
  obtain ⟨A, e, C, hF, he, hA⟩ := has_split h
  unfold Tr.F at hF
  obtain ⟨A', Z, hY, rfl, hZ⟩ := List.map_eq_append_iff.1 hF
  obtain ⟨x, C', rfl, rfl, rfl⟩ := List.map_eq_cons_iff.1 hZ
  exact ⟨A', x, C', hY, he, hA⟩

end Go.Proofs.Ytjopmhidldemmaa
