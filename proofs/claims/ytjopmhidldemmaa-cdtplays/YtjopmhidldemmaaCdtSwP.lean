/-
  What an exchange does to the list of places. No statement is proved here.
-/
import Derived.Test.YtjopmhidldemmaaCdtEnt
namespace Go.Proofs.Ytjopmhidldemmaa
open Go.RowKit Go.Maps Go.WideMaps

def swR (a b c : Rf) : Rf := if c = a then b else if c = b then a else c
theorem swR_inj {a b c d : Rf} (h : swR a b c = swR a b d) : c = d := by
  unfold swR at h
  repeat' split at h
  all_goals simp_all
theorem swR_swR (a b c : Rf) : swR a b (swR a b c) = c := by
  unfold swR
  repeat' split
  all_goals simp_all
def swP (a b : Rf) (z : Pl) : Pl := ⟨z.b, nm2 a b z.e⟩
theorem nm2_a (a b : Rf) (e : En) : (nm2 a b e).a = swR a b e.a := by
  unfold nm2 swR
  repeat' split
  all_goals simp_all
theorem nodup_map {L : List Rf} (h : L.Nodup) (a b : Rf) : (L.map (swR a b)).Nodup :=
  List.Pairwise.map _ (fun _ _ hn e => hn (swR_inj e)) h
theorem map_at {A C : List Pl} {x : Pl} {r : Pl → Pl} (h1 : ∀ z ∈ A, r z = z) (h2 : ∀ z ∈ C, r z = z) : (A ++ x :: C).map r = A ++ r x :: C := by
  have e : ∀ {L : List Pl}, (∀ z ∈ L, r z = z) → L.map r = L := by
    intro L h
    induction L with
    | nil => rfl
    | cons z L ih => rw [List.map_cons, h z (by simp), ih (fun z' hz => h z' (by simp [hz]))]
  rw [List.map_append, List.map_cons, e h1, e h2]

theorem name_block {Y : List Pl} (hn : (Y.map (·.e.a)).Nodup) {y z : Pl} (hy : y ∈ Y) (hz : z ∈ Y) (h : y.e.a = z.e.a) : y = z := by
  induction Y with
  | nil => cases hy
  | cons u Y ih =>
    obtain ⟨h1, h2⟩ := List.nodup_cons.1 hn
    rcases List.mem_cons.1 hy with e | hy' <;> rcases List.mem_cons.1 hz with e' | hz'
    · rw [e, e']
    · rw [e] at h
      exact absurd (List.mem_map.2 ⟨z, hz', h.symm⟩) h1
    · rw [e'] at h
      exact absurd (List.mem_map.2 ⟨y, hy', h⟩) h1
    · exact ih h2 hy' hz'
theorem block_name {Y : List Pl} (hn : (Y.map (·.b)).Nodup) {y z : Pl} (hy : y ∈ Y) (hz : z ∈ Y) (h : y.b = z.b) : y = z := by
  induction Y with
  | nil => cases hy
  | cons u Y ih =>
    obtain ⟨h1, h2⟩ := List.nodup_cons.1 hn
    rcases List.mem_cons.1 hy with e | hy' <;> rcases List.mem_cons.1 hz with e' | hz'
    · rw [e, e']
    · rw [e] at h
      exact absurd (List.mem_map.2 ⟨z, hz', h.symm⟩) h1
    · rw [e'] at h
      exact absurd (List.mem_map.2 ⟨y, hy', h⟩) h1
    · exact ih h2 hy' hz'

/-- Two places' entries turned, one behind the other. -/
theorem ch_two {w w1 w2 : World} {Y : List Pl} {tb : Nat} {x y : Pl} {a b : Rf} (h : Ch w none (⟨tb, top0⟩ :: Y) none) (nd : ((⟨tb, top0⟩ :: Y : List Pl).map (·.b)).Nodup) (hn : (Y.map (·.e.a)).Nodup) (hx : x ∈ Y) (hy : y ∈ Y) (hxa : x.e.a = a) (hyb : y.e.a = b) (hab : a ≠ b)
    (f1 : Fr (at' x.b) w w1) (f2 : Fr (at' y.b) w1 w2)
    (r1 : ∀ p' q', Row w x.b (plC x.e p' q') 47 → Row w1 x.b (plC ⟨b, x.e.d⟩ p' q') 47) (r2 : ∀ p' q', Row w1 y.b (plC y.e p' q') 47 → Row w2 y.b (plC ⟨a, y.e.d⟩ p' q') 47) :
    Ch w2 none (⟨tb, top0⟩ :: Y.map (swP a b)) none := by
  have hxy : x ≠ y := fun e => hab (by rw [← hxa, ← hyb, e])
  have ndY : (Y.map (·.b)).Nodup := (List.nodup_cons.1 nd).2
  have hbl : x.b ≠ y.b := fun e => hxy (block_name ndY hx hy e)
  obtain ⟨A, C, hY⟩ := List.append_of_mem hx
  have nd1 := nd
  rw [hY, ← List.cons_append] at h nd1
  have h1 := ch_repl h f1 nd1 ⟨b, x.e.d⟩ r1
  -- the list behind the first
  obtain ⟨n1, n2, _, _, _⟩ := nd_parts nd1
  have e1 : Y.map (fun z => if z.b = x.b then ⟨z.b, ⟨b, z.e.d⟩⟩ else z) = A ++ ⟨x.b, ⟨b, x.e.d⟩⟩ :: C := by
    rw [hY, map_at (fun z hz => if_neg (n1 z (by simp [hz]))) (fun z hz => if_neg (n2 z hz)), if_pos rfl]
  have hyM : y ∈ A ++ ⟨x.b, ⟨b, x.e.d⟩⟩ :: C := by
    rw [← e1]
    exact List.mem_map.2 ⟨y, hy, if_neg (fun e => hbl e.symm)⟩
  have nd2 : ((⟨tb, top0⟩ :: (A ++ ⟨x.b, ⟨b, x.e.d⟩⟩ :: C) : List Pl).map (·.b)).Nodup := by
    have : ((⟨tb, top0⟩ :: (A ++ ⟨x.b, ⟨b, x.e.d⟩⟩ :: C) : List Pl).map (·.b)) = (⟨tb, top0⟩ :: Y : List Pl).map (·.b) := by rw [hY]; simp
    rw [this]
    exact nd
  obtain ⟨A2, C2, hY2⟩ := List.append_of_mem hyM
  rw [List.cons_append, hY2, ← List.cons_append] at h1
  rw [hY2, ← List.cons_append] at nd2
  have h2 := ch_repl h1 f2 nd2 ⟨a, y.e.d⟩ r2
  obtain ⟨m1, m2, _, _, _⟩ := nd_parts nd2
  have e2 : (A ++ ⟨x.b, ⟨b, x.e.d⟩⟩ :: C : List Pl).map (fun z => if z.b = y.b then ⟨z.b, ⟨a, z.e.d⟩⟩ else z) = A2 ++ ⟨y.b, ⟨a, y.e.d⟩⟩ :: C2 := by
    rw [hY2, map_at (fun z hz => if_neg (m1 z (by simp [hz]))) (fun z hz => if_neg (m2 z hz)), if_pos rfl]
  have e3 : Y.map (swP a b) = A2 ++ ⟨y.b, ⟨a, y.e.d⟩⟩ :: C2 := by
    rw [← e2, ← e1, List.map_map]
    apply List.map_congr_left
    intro z hz
    simp only [Function.comp]
    by_cases ex : z.b = x.b
    · have := block_name ndY hz hx ex
      subst this
      rw [if_pos rfl, if_neg hbl]
      simp [swP, nm2, hxa]
    · rw [if_neg ex]
      by_cases ey : z.b = y.b
      · have := block_name ndY hz hy ey
        subst this
        rw [if_pos rfl]
        have hza : ¬ z.e.a = a := fun e => hab (by rw [← e, hyb])
        simp [swP, nm2, hyb, Ne.symm hab]
      · rw [if_neg ey]
        have q1 : ¬ z.e.a = a := fun e => ex (by rw [name_block hn hz hx (e.trans hxa.symm)])
        have q2 : ¬ z.e.a = b := fun e => ey (by rw [name_block hn hz hy (e.trans hyb.symm)])
        simp [swP, nm2, q1, q2]
  rw [e3]
  exact h2

/-- The map behind it. -/
theorem sw_map {Y : List Pl} (hn : (Y.map (·.e.a)).Nodup) {x y : Pl} {a b : Rf} (hx : x ∈ Y) (hy : y ∈ Y) (hxa : x.e.a = a) (hyb : y.e.a = b) :
    ∀ c, (if c = b then some x.b else if c = a then some y.b else mapF Y c) = mapF (Y.map (swP a b)) c := by
  refine mapF_eq ?_ ?_
  · have e : (Y.map (swP a b)).map (·.e.a) = (Y.map (·.e.a)).map (swR a b) := by
      rw [List.map_map, List.map_map]
      apply List.map_congr_left
      intro z _
      exact nm2_a a b z.e
    rw [e]
    exact nodup_map hn a b
  · intro c g
    have e1 : (∃ z ∈ Y.map (swP a b), z.e.a = c ∧ z.b = g) ↔ ∃ z ∈ Y, z.e.a = swR a b c ∧ z.b = g := by
      constructor
      · rintro ⟨z, hz, h1, h2⟩
        obtain ⟨z', hz', rfl⟩ := List.mem_map.1 hz
        refine ⟨z', hz', ?_, h2⟩
        rw [← h1]
        show z'.e.a = swR a b (nm2 a b z'.e).a
        rw [nm2_a, swR_swR]
      · rintro ⟨z, hz, h1, h2⟩
        refine ⟨swP a b z, List.mem_map.2 ⟨z, hz, rfl⟩, ?_, h2⟩
        show (nm2 a b z.e).a = c
        rw [nm2_a, h1, swR_swR]
    rw [e1, ← mapF_iff hn]
    have ma : mapF Y a = some x.b := (mapF_iff hn a x.b).2 ⟨x, hx, hxa, rfl⟩
    have mb : mapF Y b = some y.b := (mapF_iff hn b y.b).2 ⟨y, hy, hyb, rfl⟩
    unfold swR
    by_cases h1 : c = b
    · subst h1
      rw [if_pos rfl]
      by_cases h2 : c = a
      · subst h2
        rw [if_pos rfl, ma]
      · rw [if_neg h2, if_pos rfl, ma]
    · rw [if_neg h1]
      by_cases h2 : c = a
      · subst h2
        rw [if_pos rfl, if_pos rfl, mb]
      · rw [if_neg h2, if_neg h2, if_neg h1]

end Go.Proofs.Ytjopmhidldemmaa
