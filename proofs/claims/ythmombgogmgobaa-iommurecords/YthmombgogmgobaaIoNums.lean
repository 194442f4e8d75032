/-
  Numbers and flags that came in, opened from the form's own reading. No statement is proved here.
-/
import Derived.Test.YthmombgogmgobaaIoOpen
namespace Go.Proofs.Ythmombgogmgobaa
open Go.ChangeShapes Go.WideShapes Go.ChangeAt Go.RowKit Go.Deep

/-- A slice of numbers. -/
def Nums (w : World) (a0 : Option Addr) (len : Nat) : Prop :=
  ∀ k, k < len → ∃ (b o : Nat) (n : Int), a0 = some ⟨b, o, none⟩ ∧ w.cell? ⟨b, o + k, none⟩ = some (.int .i64 n)

theorem nums_open {H : Type} {enc : TypeId × Value → H} {W : World} {fuel : Nat} {a0 : Option Addr} {len cap : Nat} {y : DataW H × List MemPlace} (hf : DataW.trod enc Try.prog W 0 (fun _ => true) true fuel 59 [.slice a0 len cap] = some y) :
    len ≤ 9223372036854775807 ∧ Nums W a0 len := by
  rcases open_slice Try.underlying59 hf with ⟨hcs, _⟩ | ⟨a, l, c, m, n, D, Pl, hcs, _, hl, hm, hmm, hx, hel⟩
  · simp only [List.cons.injEq, Value.slice.injEq, and_true] at hcs
    obtain ⟨rfl, rfl, rfl⟩ := hcs
    exact ⟨by omega, fun k hk => by omega⟩
  · simp only [List.cons.injEq, Value.slice.injEq, and_true] at hcs
    obtain ⟨rfl, rfl, rfl⟩ := hcs
    have hmm' : m = cap := by simpa using hmm
    subst hmm'
    refine ⟨by simp only [maxLen] at hm; omega, fun k hk => ?_⟩
    rw [cells_int] at hel
    obtain ⟨b, o, spot⟩ := a
    have hspot : spot = none := by
      obtain ⟨cs', h1, _⟩ := hel 0 (by omega)
      obtain ⟨_, hlen, hc⟩ := World.cells?_some h1
      have := hc 0 (by omega)
      rw [List.getElem?_eq_getElem (by omega)] at this
      simpa [Addr.add] using World.cell?_spot this
    subst hspot
    obtain ⟨cs', h1, h2⟩ := hel k (by omega)
    obtain ⟨_, hlen, hc⟩ := World.cells?_some h1
    have h0 := hc 0 (by omega)
    rw [add_lit', add_lit', Nat.add_zero, Nat.mul_one] at h0
    match cs', hlen with
    | [c], _ =>
      obtain ⟨q, e, _, _⟩ := DataW.trod_int Try.underlying3 h2
      simp only [List.cons.injEq, and_true] at e
      subst e
      exact ⟨b, o, q, rfl, h0⟩

/-- A slice of flags. -/
def Flags (w : World) (a0 : Option Addr) (len : Nat) : Prop :=
  ∀ k, k < len → ∃ (b o : Nat) (n : Bool), a0 = some ⟨b, o, none⟩ ∧ w.cell? ⟨b, o + k, none⟩ = some (.bool n)

theorem flags_open {H : Type} {enc : TypeId × Value → H} {W : World} {fuel : Nat} {a0 : Option Addr} {len cap : Nat} {y : DataW H × List MemPlace} (hf : DataW.trod enc Try.prog W 0 (fun _ => true) true fuel 60 [.slice a0 len cap] = some y) :
    len ≤ 9223372036854775807 ∧ Flags W a0 len := by
  rcases open_slice Try.underlying60 hf with ⟨hcs, _⟩ | ⟨a, l, c, m, n, D, Pl, hcs, _, hl, hm, hmm, hx, hel⟩
  · simp only [List.cons.injEq, Value.slice.injEq, and_true] at hcs
    obtain ⟨rfl, rfl, rfl⟩ := hcs
    exact ⟨by omega, fun k hk => by omega⟩
  · simp only [List.cons.injEq, Value.slice.injEq, and_true] at hcs
    obtain ⟨rfl, rfl, rfl⟩ := hcs
    have hmm' : m = cap := by simpa using hmm
    subst hmm'
    refine ⟨by simp only [maxLen] at hm; omega, fun k hk => ?_⟩
    rw [cells_bool] at hel
    obtain ⟨b, o, spot⟩ := a
    have hspot : spot = none := by
      obtain ⟨cs', h1, _⟩ := hel 0 (by omega)
      obtain ⟨_, hlen, hc⟩ := World.cells?_some h1
      have := hc 0 (by omega)
      rw [List.getElem?_eq_getElem (by omega)] at this
      simpa [Addr.add] using World.cell?_spot this
    subst hspot
    obtain ⟨cs', h1, h2⟩ := hel k (by omega)
    obtain ⟨_, hlen, hc⟩ := World.cells?_some h1
    have h0 := hc 0 (by omega)
    rw [add_lit', add_lit', Nat.add_zero, Nat.mul_one] at h0
    match cs', hlen with
    | [c], _ =>
      obtain ⟨q, e, _⟩ := DataW.trod_bool Try.underlying4 h2
      simp only [List.cons.injEq, and_true] at e
      subst e
      exact ⟨b, o, q, rfl, h0⟩

end Go.Proofs.Ythmombgogmgobaa
