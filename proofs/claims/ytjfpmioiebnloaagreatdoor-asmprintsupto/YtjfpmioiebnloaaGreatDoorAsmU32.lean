/-
  Slices of words that came in, opened from the form's own reading. No statement is proved here.
-/
import Derived.Test.YtjfpmioiebnloaaGreatDoorAsmAwake
import Derived.Test.YtjfpmioiebnloaaGreatDoorAsmLaid
namespace Go.Proofs.YtjfpmioiebnloaaGreatDoor
open Go.ChangeShapes Go.WideShapes Go.ChangeAt Go.RowKit Go.Deep

/-- The slice at a0 shows these words. -/
def U32s (w : World) (a0 : Option Addr) (ws : List Nat) : Prop := ∀ (j x : Nat), ws[j]? = some x → ∃ b o, a0 = some ⟨b, o, none⟩ ∧ w.cell? ⟨b, o + j, none⟩ = some (.int .u32 (x : Int))

theorem U32s.keep0 {w w' : World} {a0 : Option Addr} {ws : List Nat} (h : U32s w a0 ws) (f : Fr none' w w') : U32s w' a0 ws := fun j x hx => by
  obtain ⟨b, o, rfl, hc⟩ := h j x hx
  exact ⟨b, o, rfl, cell_keep f hc (fun h => h)⟩

theorem U32s.ws {w : World} {a0 : Option Addr} {ws : List Nat} {cap : Nat} (h : U32s w a0 ws) : Ws w (.slice a0 ws.length cap) (ws.map (fun (x : Nat) => (x : Int))) := by
  refine ⟨a0, cap, by rw [List.length_map], fun j x hx => ?_⟩
  rw [List.getElem?_map] at hx
  cases hj : ws[j]? with
  | none => rw [hj] at hx; cases hx
  | some y =>
    rw [hj] at hx
    cases hx
    exact h j y hj

theorem list_of (P : Nat → Nat → Prop) : ∀ n, (∀ k, k < n → ∃ x, P k x) → ∃ l : List Nat, l.length = n ∧ ∀ j x, l[j]? = some x → P j x
  | 0, _ => ⟨[], rfl, fun j x h => by simp at h⟩
  | n + 1, h => by
    obtain ⟨l, hl, hp⟩ := list_of P n (fun k hk => h k (by omega))
    obtain ⟨x, hx⟩ := h n (by omega)
    refine ⟨l ++ [x], by simp [hl], fun j y hj => ?_⟩
    rcases Nat.lt_or_ge j l.length with h' | h'
    · rw [List.getElem?_append_left h'] at hj; exact hp j y hj
    · rw [List.getElem?_append_right h'] at hj
      have : j - l.length = 0 := by
        rcases Nat.eq_zero_or_pos (j - l.length) with e | e
        · exact e
        · rw [List.getElem?_eq_none (by simp; omega)] at hj; cases hj
      rw [this] at hj
      cases hj
      rw [show j = n by omega]
      exact hx

theorem cells_u32 : Tryz.prog.cellsOf 28 = 1 := by kernel_rfl

theorem u32s_open {H : Type} {enc : TypeId × Value → H} {W : World} {fuel : Nat} {a0 : Option Addr} {len cap : Nat} {y : DataW H × List MemPlace} (hf : DataW.trod enc Tryz.prog W 0 (fun _ => true) true fuel 23 [.slice a0 len cap] = some y) :
    len ≤ 9223372036854775807 ∧ ∃ ws : List Nat, ws.length = len ∧ (∀ x ∈ ws, x < 4294967296) ∧ U32s W a0 ws ∧ (a0 = none → ws = [] ∧ cap = 0) := by
  rcases open_slice Tryz.underlying23 hf with ⟨hcs, _⟩ | ⟨a, l, c, m, n, D, Pl, hcs, _, hl, hm, hmm, hx, hel⟩
  · simp only [List.cons.injEq, Value.slice.injEq, and_true] at hcs
    obtain ⟨rfl, rfl, rfl⟩ := hcs
    exact ⟨by omega, [], rfl, fun x hx => by simp at hx, fun j x hx => by simp at hx, fun _ => ⟨rfl, rfl⟩⟩
  · simp only [List.cons.injEq, Value.slice.injEq, and_true] at hcs
    obtain ⟨rfl, rfl, rfl⟩ := hcs
    have hmm' : m = cap := by simpa using hmm
    subst hmm'
    refine ⟨by simp only [maxLen] at hm; omega, ?_⟩
    rw [cells_u32] at hel
    obtain ⟨b, o, spot⟩ := a
    have hspot : 0 < len → spot = none := fun hl => by
      obtain ⟨cs', h1, _⟩ := hel 0 (by omega)
      obtain ⟨_, hlen, hc⟩ := World.cells?_some h1
      have := hc 0 (by omega)
      rw [List.getElem?_eq_getElem (by omega)] at this
      simpa [Addr.add] using World.cell?_spot this
    obtain ⟨ws, hw1, hw2⟩ := list_of (fun k x => x < 4294967296 ∧ spot = none ∧ W.cell? ⟨b, o + k, none⟩ = some (.int .u32 (x : Int))) len (fun k hk => by
      have hs := hspot (by omega)
      subst hs
      obtain ⟨cs', h1, h2⟩ := hel k (by omega)
      obtain ⟨_, hlen, hc⟩ := World.cells?_some h1
      have h0 := hc 0 (by omega)
      rw [add_lit', add_lit', Nat.add_zero, Nat.mul_one] at h0
      match cs', hlen with
      | [c], _ =>
        obtain ⟨q, e, _, hr⟩ := DataW.trod_int Tryz.underlying28 h2
        simp only [List.cons.injEq, and_true] at e
        subst e
        have hq := bounds_u32 hr
        obtain ⟨q, rfl⟩ := Int.eq_ofNat_of_zero_le hq.1
        exact ⟨q, by omega, rfl, h0⟩)
    refine ⟨ws, hw1, fun x hx => ?_, fun j x hx => ?_, fun h => by cases h⟩
    · obtain ⟨j, hj, rfl⟩ := List.getElem_of_mem hx
      exact (hw2 j _ (List.getElem?_eq_getElem hj)).1
    · obtain ⟨_, rfl, hc⟩ := hw2 j x hx
      exact ⟨b, o, rfl, hc⟩

end Go.Proofs.YtjfpmioiebnloaaGreatDoor
