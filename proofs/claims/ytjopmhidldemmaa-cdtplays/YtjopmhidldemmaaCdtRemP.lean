/-
  What a removal does to the list of places in memory. No statement is proved here.
-/
import Derived.Test.YtjopmhidldemmaaCdtFirst
namespace Go.Proofs.Ytjopmhidldemmaa
open Go.RowKit Go.Maps Go.WideMaps

theorem ch_repl {w w' : World} {p q : Option Addr} {B1 B2 : List Pl} {y : Pl} (h : Ch w p (B1 ++ y :: B2) q) (f : Fr (at' y.b) w w') (nd : ((B1 ++ y :: B2).map (·.b)).Nodup) (e : En)
    (hr : ∀ p' q', Row w y.b (plC y.e p' q') 47 → Row w' y.b (plC e p' q') 47) : Ch w' p (B1 ++ ⟨y.b, e⟩ :: B2) q := by
  obtain ⟨n1, n2, _, _, _⟩ := nd_parts nd
  obtain ⟨h1, h2, h3⟩ := h.at'
  exact ch_join (h1.keep f (fun z hz e => n1 z hz e)) (hr _ _ h2) (h3.keep f (fun z hz e => n2 z hz e))

def upP (x : Pl) : Pl := ⟨x.b, up1 x.e⟩
/-- The first k are one less deep. -/
def decP (k : Nat) (C : List Pl) : List Pl := (C.take k).map upP ++ C.drop k
theorem decP_zero (C : List Pl) : decP 0 C = C := by simp [decP]
theorem decP_blocks (k : Nat) (C : List Pl) : (decP k C).map (·.b) = C.map (·.b) := by
  have : (decP k C).map (·.b) = (C.take k).map (·.b) ++ (C.drop k).map (·.b) := by unfold decP; rw [List.map_append, List.map_map]; rfl
  rw [this, ← List.map_append, List.take_append_drop]
theorem decP_len (k : Nat) (C : List Pl) : (decP k C).length = C.length := by
  have := congrArg List.length (decP_blocks k C)
  simpa using this
theorem bAt_map {C D : List Pl} (h : C.map (·.b) = D.map (·.b)) (j : Nat) : bAt C j = bAt D j := by
  have := congrArg (fun l => l[j]?) h
  simp only [List.getElem?_map] at this
  unfold bAt
  cases h1 : C[j]? <;> cases h2 : D[j]? <;> simp_all
theorem hd_map : ∀ {C D : List Pl}, C.map (·.b) = D.map (·.b) → ∀ q, hd C q = hd D q
  | [], [], _, _ => rfl
  | [], _ :: _, h, _ => by cases h
  | _ :: _, [], h, _ => by cases h
  | x :: C, y :: D, h, _ => by simp at h; simp [hd, h.1]
theorem nAt_map {C D : List Pl} (h : C.map (·.b) = D.map (·.b)) (j : Nat) : nAt C j = nAt D j := by
  unfold nAt
  exact hd_map (by rw [List.map_drop, List.map_drop, h]) _
theorem decP_at {k : Nat} {C : List Pl} (hk : k ≤ C.length) : (decP k C)[k]? = C[k]? := by
  unfold decP
  rw [List.getElem?_append_right (by simp; omega), List.getElem?_drop]
  congr 1
  simp
  omega
theorem decP_split {k : Nat} {C : List Pl} {y : Pl} (hy : C[k]? = some y) : decP k C = (C.take k).map upP ++ y :: C.drop (k + 1) ∧ decP (k + 1) C = (C.take k).map upP ++ upP y :: C.drop (k + 1) := by
  obtain ⟨hk, e⟩ := List.getElem?_eq_some_iff.1 hy
  unfold decP
  constructor
  · rw [List.drop_eq_getElem_cons hk, e]
  · rw [List.take_succ_eq_append_getElem hk, e]
    simp
theorem decP_all (d : Int) (C : List Pl) : decP (runP d C).length C = (runP d C).map upP ++ restP d C := by
  unfold decP
  have h := runP_restP d C
  generalize hm : (runP d C).length = m
  have h1 : C.take m = runP d C := by
    have e : (runP d C ++ restP d C).take m = runP d C := by rw [← hm]; exact List.take_left
    rw [h] at e
    exact e
  have h2 : C.drop m = restP d C := by
    have e : C = C.take m ++ C.drop m := (List.take_append_drop m C).symm
    rw [h1] at e
    exact List.append_cancel_left (e.symm.trans h.symm)
  rw [h1, h2]

/-- Behind k rounds the iterator has what it needs. -/
theorem need_dec {w : World} {p : Option Addr} {x : Pl} {C : List Pl} {k : Nat} (h : Ch w p (x :: decP k C) none) {bb : Nat} (hb : w.cell? ⟨bb, 0, none⟩ = some (pv x.b)) (hk : k ≤ C.length) : Nd13 bb x.b x.e.d (bAt C) (nAt C) (dAt C) k w := by
  have hn := need_of h hb (k := k) (by rw [decP_len]; exact hk)
  have e1 : ∀ j, bAt (decP k C) j = bAt C j := fun j => bAt_map (decP_blocks k C) j
  have e2 : nAt (decP k C) k = nAt C k := nAt_map (decP_blocks k C) k
  have e3 : dAt (decP k C) k = dAt C k := by unfold dAt; rw [decP_at hk]
  refine ⟨hn.box, hn.dep, ?_, fun b e => ?_⟩
  · have := hn.nxt
    rw [e2] at this
    cases k with
    | zero => exact this
    | succ j =>
      have this' : w.cell? ⟨bAt (decP (j + 1) C) j, 4, none⟩ = some (.pointer (nAt C (j + 1))) := this
      rw [e1] at this'
      exact this'
  · have := hn.at' b (by rw [e2]; exact e)
    rw [e3] at this
    exact this

/-- The place x taken out. -/
theorem unlink_nil {v : World} {A : List Pl} {z x : Pl} (h : Ch v none (A ++ [z, x]) none) (nd : ((A ++ [z, x]).map (·.b)).Nodup) : Ch (v.setCell ⟨z.b, 4, none⟩ (.pointer none)) none (A ++ [z]) none := by
  have e : A ++ [z, x] = (A ++ [z]) ++ [x] := by simp
  rw [e] at h nd
  obtain ⟨h1, _, _⟩ := h.at'
  have nd' : ((A ++ [z]).map (·.b)).Nodup := by
    rw [List.map_append] at nd
    exact (List.nodup_append.1 nd).1
  exact h1.last (nd_parts nd').1 none
theorem unlink_cons {v : World} {A D : List Pl} {z x d : Pl} (h : Ch v none (A ++ z :: x :: d :: D) none) (nd : ((A ++ z :: x :: d :: D).map (·.b)).Nodup) :
    Ch ((v.setCell ⟨z.b, 4, none⟩ (pv d.b)).setCell ⟨d.b, 3, none⟩ (pv z.b)) none (A ++ z :: d :: D) none := by
  have e : A ++ z :: x :: d :: D = (A ++ [z]) ++ x :: d :: D := by simp
  have nd2 := nd
  rw [e] at nd2
  have h' := h
  rw [e] at h'
  obtain ⟨h1, _, h3⟩ := h'.at'
  obtain ⟨n1, n2, n3, n4, n5⟩ := nd_parts nd2
  have nd' : ((A ++ [z]).map (·.b)).Nodup := n4
  have k1 := h1.last (nd_parts nd').1 (ad d.b)
  have f1 := fr_set v z.b 4 (pv d.b) (Fr.refl _ _)
  have f2 := fr_set (v.setCell ⟨z.b, 4, none⟩ (pv d.b)) d.b 3 (pv z.b) (Fr.refl _ _)
  have k3 := (h3.keep f1 (fun y hy e => n3 z (by simp) y hy (e : y.b = z.b).symm)).head (fun y hy e => by
    have := (List.nodup_cons.1 n5).1
    exact this (List.mem_map.2 ⟨y, hy, e⟩)) (ad z.b)
  have k1' := k1.keep f2 (fun y hy e => n3 y hy d (by simp) e)
  have e2 : A ++ z :: d :: D = (A ++ [z]) ++ d :: D := by simp
  rw [e2]
  refine ch_app.2 ⟨k1', ?_⟩
  rw [lst_snoc]
  exact k3

end Go.Proofs.Ytjopmhidldemmaa
