/-
  What the document's Remove does to its row, as plain data; its cells. No statement is proved here.
-/
import Derived.Test.YtjopmhidldemmaaCdtRefR
namespace Go.Proofs.Ytjopmhidldemmaa
open Go.RowKit Go.Maps Go.WideMaps

def setU (L : List On) (x : Nat) (u : Int) : List On := match L[x]? with
  | some o => L.set x ⟨o.a, u, o.ks, o.go⟩
  | none => L
def setG (L : List On) (x : Nat) : List On := match L[x]? with
  | some o => L.set x ⟨o.a, o.up, o.ks, true⟩
  | none => L
def ups (u : Int) : List Nat → List On → List On
  | [], L => L
  | x :: l, L => ups u l (setU L x u)
theorem setU_len (L : List On) (x : Nat) (u : Int) : (setU L x u).length = L.length := by unfold setU; split <;> simp
theorem setG_len (L : List On) (x : Nat) : (setG L x).length = L.length := by unfold setG; split <;> simp
theorem ups_len (u : Int) : ∀ (l : List Nat) (L : List On), (ups u l L).length = L.length
  | [], _ => rfl
  | x :: l, L => by rw [ups, ups_len u l, setU_len]
theorem ups_app (u : Int) : ∀ (l m : List Nat) (L : List On), ups u (l ++ m) L = ups u m (ups u l L)
  | [], _, _ => rfl
  | x :: l, m, L => by rw [List.cons_append, ups, ups_app u l m, ups]
theorem setU_at {L : List On} {x : Nat} {u : Int} {i : Nat} {o : On} (h : L[i]? = some o) : (setU L x u)[i]? = some (if i = x then ⟨o.a, u, o.ks, o.go⟩ else o) := by
  unfold setU
  by_cases e : i = x
  · subst e
    rw [h, if_pos rfl]
    show (L.set i _)[i]? = _
    rw [List.getElem?_set_self (List.getElem?_eq_some_iff.1 h).1]
  · rw [if_neg e]
    split
    · rw [List.getElem?_set_ne (fun h => e h.symm)]; exact h
    · exact h
theorem ups_at (u : Int) : ∀ {l : List Nat} {L : List On} {i : Nat} {o : On}, L[i]? = some o → (ups u l L)[i]? = some (if i ∈ l then ⟨o.a, u, o.ks, o.go⟩ else o)
  | [], L, i, o, h => by simpa [ups] using h
  | x :: l, L, i, o, h => by
    rw [ups, ups_at u (setU_at h)]
    by_cases e : i = x
    · subst e
      simp
    · by_cases e2 : i ∈ l
      · simp [e, e2]
      · simp [e, e2]

/-- One parent turned. -/
theorem IsR.setU {w : World} {B r g cap : Nat} {q : Qr} {L : List On} {ro : List Nat} (h : IsR w B r q L ro) (hv : q.v = .slice (some ⟨g, 0, none⟩) L.length cap) {x : Nat} {o : On} (hx : L[x]? = some o) (u : Int) :
    IsR (w.setCell ⟨g, x * 5 + 2, none⟩ (.int .i64 u)) B r q (Proofs.Ytjopmhidldemmaa.setU L x u) ro := by
  unfold Proofs.Ytjopmhidldemmaa.setU
  rw [hx]
  exact h.set hv (c := 2) (o' := ⟨o.a, u, o.ks, o.go⟩) hx (by omega) rfl rfl
/-- One gone. -/
theorem IsR.setG {w : World} {B r g cap : Nat} {q : Qr} {L : List On} {ro : List Nat} (h : IsR w B r q L ro) (hv : q.v = .slice (some ⟨g, 0, none⟩) L.length cap) {x : Nat} {o : On} (hx : L[x]? = some o) :
    IsR (w.setCell ⟨g, x * 5 + 4, none⟩ (.bool true)) B r q (Proofs.Ytjopmhidldemmaa.setG L x) ro := by
  unfold Proofs.Ytjopmhidldemmaa.setG
  rw [hx]
  exact h.set hv (c := 4) (o' := ⟨o.a, o.up, o.ks, true⟩) hx (by omega) rfl rfl

def rremE (L : List On) (a : Rf) : Int := if fdR a L = none then 131 else 0
def ksAt (L : List On) (k : Nat) : List Nat := match L[k]? with
  | some o => o.ks
  | none => []
def upAt (L : List On) (k : Nat) : Int := match L[k]? with
  | some o => o.up
  | none => -1
end Go.Proofs.Ytjopmhidldemmaa
