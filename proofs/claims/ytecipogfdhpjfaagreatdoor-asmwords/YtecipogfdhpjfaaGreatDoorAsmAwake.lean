/-
  The contracts of asm.Assemble against the plain assembler, of the law's 'same' where both are one, and of 'awake'. No statement is proved here.
-/
import Derived.Test.YtecipogfdhpjfaaGreatDoorAsmPrt
import Derived.Test.YtecipogfdhpjfaaGreatDoorAsmBridge4
import Derived.Test.YtecipogfdhpjfaaGreatDoorAsmAwakeP
namespace Go.Proofs.YtecipogfdhpjfaaGreatDoor
open Go.RowKit

/-- A slice of words that shows a list. -/
def Ws (w : World) (v : Value) (L : List Int) : Prop := ∃ a0 cap, v = .slice a0 L.length cap ∧ ∀ (j : Nat) (x : Int), L[j]? = some x → ∃ b o, a0 = some ⟨b, o, none⟩ ∧ w.cell? ⟨b, o + j, none⟩ = some (.int .u32 x)

theorem Ws.keep0 {w w' : World} {v : Value} {L : List Int} (h : Ws w v L) (f : Fr none' w w') : Ws w' v L := by
  obtain ⟨a0, cap, rfl, h⟩ := h
  refine ⟨a0, cap, rfl, fun j x hx => ?_⟩
  obtain ⟨b, o, rfl, hc⟩ := h j x hx
  exact ⟨b, o, rfl, cell_keep f hc (fun h => h)⟩

theorem ws_own {w : World} {B : Nat} {v : Value} {L : List Int} (h : OwnK 28 1 w B v L.length (L.map (Value.int .u32))) : Ws w v L := by
  by_cases hn : L.length = 0
  · have hL : L = [] := List.length_eq_zero_iff.1 hn
    subst hL
    exact ⟨none, 0, h.2 rfl, fun j x hx => by simp at hx⟩
  · obtain ⟨g, cap, cur, rfl, hB, hr, hc, hm, hs, hx⟩ := h.row hn
    refine ⟨_, cap, rfl, fun j x hj => ⟨g, 0, rfl, ?_⟩⟩
    rw [Nat.zero_add, hr.cell]
    exact hx j _ (by simp [hj])

/-- Assemble, against the plain assembler. -/
def AsmIs (w w' : World) (r : Asm) (e : Ending) : Prop :=
  (∃ v, e = .returned (.tuple #[v, .int .i64 (r.line : Int), .int .i64 (r.e : Int)]) ∧ OwnK 28 1 w' w.heap.size v r.ws.length (r.ws.map (Value.int .u32))) ∧ Fr none' w w'

theorem asmis_any (base : Int) (s : ByteArray) (w : World) (hE : Env w) : Calls Tryz.prog 5 #[.int .i64 base, .string s] w fun e w' => AsmIs w w' (asmT base s.data.toList) e := by
  have := asm_any base s w hE
  rw [asm_same] at this
  exact this

set_option maxHeartbeats 1000000 in
theorem same_eq (v1 v2 : Value) (L : List Int) (w : World) (hn : L.length ≤ 9223372036854775807) (h1 : Ws w v1 L) (h2 : Ws w v2 L) :
    Calls Tryz.prog 7 #[v1, v2] w fun e w' => e = .returned (.bool true) ∧ Fr none' w w' := by
  obtain ⟨a1, c1, rfl, g1⟩ := h1
  obtain ⟨a2, c2, rfl, g2⟩ := h2
  have G1 := hid' g1
  have G2 := hid' g2
  clear g1 g2
  obtain ⟨ln, hln⟩ : ∃ ln, L.length = ln := ⟨_, rfl⟩
  have HL := hid' hln
  rw [hln] at hn ⊢
  clear hln
  have u0 : ((ln : Int) != (ln : Int)) = false := by simp
  go_enter Tryz.func7, Tryz.ntmps7
  go_wp2_with fail
  go_loopw [5] (fun i wr => ∃ k : Nat, k ≤ ln ∧ i = .int .i64 (k : Int) ∧ Fr none' w wr) (fun i _ => ln - (intOf i).toNat)
  case atStart => exact ⟨0, by omega, rfl, Fr.refl _ _⟩
  case round =>
    obtain ⟨k, hk, rfl, fk⟩ := hrel
    by_cases hlt : k < ln
    · obtain ⟨x, hx⟩ : ∃ x, L[k]? = some x := ⟨_, List.getElem?_eq_getElem (by have := HL.out; omega)⟩
      obtain ⟨b1, o1, rfl, k1⟩ := G1.out k x hx
      obtain ⟨b2, o2, rfl, k2⟩ := G2.out k x hx
      have d1 := cell_keep fk k1 (fun h => h)
      have d2 := cell_keep fk k2 (fun h => h)
      have i1 : 0 ≤ (k : Int) ∧ (k : Int) < (ln : Int) := by omega
      have u1 : decide ((k : Int) < (ln : Int)) = true := decide_eq_true (by omega)
      have u2 : decide (k < ln) = true := decide_eq_true hlt
      have u3 : (x != x) = false := by simp
      clear hx k1 k2
      go_wp2_with fail
      go_quiet (fail)
      go_wp2_with fail
      go_roundw
      case rel => exact ⟨k + 1, by omega, by go_num, fk.trans (fr_drewN _ _)⟩
      case measure => simp [intOf]; omega
    · obtain rfl : k = ln := by omega
      have u1 : decide ((k : Int) < (k : Int)) = false := decide_eq_false (by omega)
      have u2 : decide (k < k) = false := decide_eq_false (by omega)
      go_wp2_with fail
      go_ret
      exact ⟨rfl, fk⟩

theorem ws_lit3 (w : World) (x y z : Int) : Ws (w.alloc (.cells #[.int .u32 x, .int .u32 y, .int .u32 z] 28)) (.slice (some ⟨w.heap.size, 0, none⟩) 3 3) [x, y, z] := by
  refine ⟨_, 3, rfl, fun j v hj => ⟨w.heap.size, 0, rfl, ?_⟩⟩
  have hr := row_alloc w #[.int .u32 x, .int .u32 y, .int .u32 z] 28
  rw [Nat.zero_add, hr.cell]
  match j, hj with
  | 0, hj => simp at hj; rw [← hj]; rfl
  | 1, hj => simp at hj; rw [← hj]; rfl
  | 2, hj => simp at hj; rw [← hj]; rfl

set_option maxRecDepth 100000 in
set_option maxHeartbeats 2000000 in
theorem awake_any (w : World) (hE : Env w) : Calls Tryz.prog 4 #[] w fun e w' => e = .returned (.bool true) ∧ Fr none' w w' := by
  have A1 := asmis_any 64 ⟨#[97, 58, 32, 110, 111, 112, 10, 98, 58, 32, 98, 101, 113, 32, 114, 49, 44, 32, 114, 50, 44, 32, 97, 10, 106, 109, 112, 32, 98]⟩ w hE
  rw [show (⟨#[97, 58, 32, 110, 111, 112, 10, 98, 58, 32, 98, 101, 113, 32, 114, 49, 44, 32, 114, 50, 44, 32, 97, 10, 106, 109, 112, 32, 98]⟩ : ByteArray).data.toList = [97, 58, 32, 110, 111, 112, 10, 98, 58, 32, 98, 101, 113, 32, 114, 49, 44, 32, 114, 50, 44, 32, 97, 10, 106, 109, 112, 32, 98] from rfl, awake_one] at A1
  have A2 := fun w hE => asmis_any 0 ⟨#[110, 111, 112, 10, 109, 111, 118, 105, 32, 114, 49, 54, 44, 32, 48]⟩ w hE
  simp only [awake_two] at A2
  have MN := fun w hE => mnem_any 25 w hE
  simp only [awake_name, strV] at MN
  have HE := hid' hE
  clear hE
  go_enter Tryz.func4, Tryz.ntmps4
  go_wp2_with fail
  refine A1.mono ?_
  rintro e w1 ⟨⟨v1, rfl, o1⟩, f1⟩
  have W1 := hid' (ws_own o1)
  clear A1 o1
  have fa := f1.alloc (.cells #[.int .u32 118620168, .int .u32 0] 28)
  have hP := print_any (some ⟨w1.heap.size, 0, none⟩) 2 [118620168, 0] (w1.alloc (.cells #[.int .u32 118620168, .int .u32 0] 28)) (HE.out.keep fa) (by decide) (by decide) (fun j x hj => ⟨w1.heap.size, 0, rfl, by
    rw [Nat.zero_add, (row_alloc w1 _ _).cell]
    match j, hj with
    | 0, hj => simp at hj; rw [← hj]; rfl
    | 1, hj => simp at hj; rw [← hj]; rfl⟩)
  rw [awake_print] at hP
  simp only [strV] at hP
  replace W1 := hid' (W1.out.keep0 ((Fr.refl none' w1).alloc (.cells #[.int .u32 118620168, .int .u32 0] 28)))
  clear f1
  go_wp2_with fail
  refine hP.mono ?_
  rintro e w2 ⟨rfl, f2⟩
  replace W1 := hid' (W1.out.keep0 f2)
  replace fa := fa.trans f2
  clear hP f2
  go_wp2_with fail
  refine (A2 _ (HE.out.keep fa)).mono ?_
  rintro e w3 ⟨⟨v3, rfl, o3⟩, f3⟩
  replace W1 := hid' (W1.out.keep0 f3)
  replace fa := fa.trans f3
  clear A2 f3 o3
  go_wp2_with fail
  refine (MN _ (HE.out.keep fa)).mono ?_
  rintro e w4 ⟨rfl, f4⟩
  replace W1 := hid' (W1.out.keep0 f4)
  replace fa := fa.trans f4
  clear MN f4
  have f5 := (Fr.refl none' w4).alloc (.cells #[.int .u32 419430400, .int .u32 185729088, .int .u32 234881092] 28)
  have hS := same_eq v1 _ _ _ (by decide) (W1.out.keep0 f5) (ws_lit3 w4 419430400 185729088 234881092)
  replace fa := fa.trans f5
  clear f5
  go_wp2_with fail
  refine hS.mono ?_
  rintro e w5 ⟨rfl, f5⟩
  replace fa := fa.trans f5
  clear hS f5
  go_wp2_with fail
  go_ret
  exact ⟨rfl, fa⟩

end Go.Proofs.YtecipogfdhpjfaaGreatDoor
