/-
  What the program's steps come to is what the plain assembler says. No program, no statement.
-/
import Derived.Test.YtecipogfdhpjfaaGreatDoorAsmBridge2
namespace Go.Proofs.YtecipogfdhpjfaaGreatDoor
open Go.RowKit

/-- The program's line and the plain assembler's say the same. -/
def RelL (st : St) (y : Ln6) : Prop :=
  y.lab = st.1 ∧ ((st.2.1 = -1 ∧ y.k = 0) ∨ (st.2.1 ≠ -1 ∧ y.k = 2 ∧ ∀ m, encR m st.2.1 (layB st.2.1) st.2.2 0 0 0 0 = ((y.n : Int), true)) ∨
    (st.2.1 ≠ -1 ∧ y.k = 1 ∧ ∀ m : List UInt8 → Option Int, (∀ s v, m s = some v → 0 ≤ v) → encR m st.2.1 (layB st.2.1) st.2.2 0 0 0 0 =
      if y.nm = [] then (encW y.o y.a y.b y.c y.i, true) else match m y.nm with
        | some v => if v ≤ 65535 then (encW y.o y.a y.b y.c v, true) else (0, false)
        | none => (0, false)))

def itemP (lab : List UInt8) (r : List Tok) : Nat × List UInt8 × Int × List Tok :=
  match r with
  | [] => (0, lab, -1, [])
  | t :: ts => if isItT (opTk t) ts then (if beyL (layB (opTk t)) ts then (63, [], 0, []) else (0, lab, opTk t, ts)) else (61, [], 0, [])
theorem parse_item {s : List UInt8} {l : List Tok} (h : cutT s = some l) : parseP s = itemP (cutLT l).1 (cutLT l).2 := by
  unfold parseP itemP
  rw [h]
  rfl

theorem op_range (s : List UInt8) : opOf s = -1 ∨ opOf s = 0 ∨ (1 ≤ opOf s ∧ opOf s ≤ 25) := by
  unfold opOf
  split
  · rename_i i hi
    have := (List.findIdx?_eq_some_iff_getElem.1 hi).1
    have h25 : mnemo.length = 25 := by decide +kernel
    right; right
    omega
  · split
    · left; rfl
    · right; left; rfl

def wordItem (lab : List UInt8) (ts : List Tok) : Nat × Ln6 :=
  match ts with
  | [.num n] => if 4294967295 < n then (63, ⟨lab, 2, 0, 0, 0, 0, 0, [], 0⟩) else (0, ⟨lab, 2, 0, 0, 0, 0, 0, [], n⟩)
  | _ => (61, ⟨lab, 2, 0, 0, 0, 0, 0, [], 0⟩)
theorem item_word (lab s : List UInt8) (ts : List Tok) (h : opOf s = -1) : itemT lab (Tok.nm s :: ts) = wordItem lab ts := by
  simp only [itemT]
  rw [if_neg (c := opOf s = 0) (by omega), if_pos (c := opOf s < 0) (by omega)]
  rfl

theorem item_rel (lab : List UInt8) (r : List Tok) (hp : PropT r) : (itemP lab r).1 = (itemT lab r).1 ∧ ((itemT lab r).1 = 0 → RelL (itemP lab r).2 (itemT lab r).2) := by
  match r, hp with
  | [], _ => exact ⟨rfl, fun _ => ⟨rfl, Or.inl ⟨rfl, rfl⟩⟩⟩
  | .sg d :: ts, _ => exact ⟨rfl, fun h => by simp [itemT] at h⟩
  | .reg n :: ts, _ => exact ⟨rfl, fun h => by simp [itemT] at h⟩
  | .num n :: ts, _ => exact ⟨rfl, fun h => by simp [itemT] at h⟩
  | .nm s :: ts, hp =>
    have hpt := prop_tail hp
    rcases op_range s with h0 | h0 | ⟨h1, h25⟩
    · have hop : opTk (.nm s) = 0 := by simp [opTk, opP, h0]
      have eP : itemP lab (Tok.nm s :: ts) = if isItT 0 ts then (if beyL (layB 0) ts then (63, [], 0, []) else (0, lab, 0, ts)) else (61, [], 0, []) := by
        show (if isItT (opTk (.nm s)) ts then (if beyL (layB (opTk (.nm s))) ts then (63, [], 0, []) else (0, lab, opTk (.nm s), ts)) else (61, [], 0, [])) = _
        rw [hop]
      have eT := item_word lab s ts h0
      rw [eP, eT]
      clear eP eT hp hop h0
      match ts, hpt with
      | [], _ => exact ⟨rfl, fun h => by simp [wordItem] at h⟩
      | [.num n], _ =>
        have e1 : isItT 0 [Tok.num n] = true := by simp [isItT, layB, fitsL, fitI]
        rw [e1]
        simp only [if_true, wordItem]
        by_cases hn : 4294967295 < n
        · have e2 : beyL (layB 0) [Tok.num n] = true := by simp [layB, beyL, beyI, hn]
          rw [e2, if_pos hn]
          exact ⟨rfl, fun h => by simp at h⟩
        · have e2 : beyL (layB 0) [Tok.num n] = false := by simp [layB, beyL, beyI, hn]
          rw [e2, if_neg hn]
          refine ⟨rfl, fun _ => ⟨rfl, Or.inr (Or.inl ⟨by simp, rfl, fun m => ?_⟩)⟩⟩
          simp [layB, encR, moT, mvT]
          omega
      | .sg d :: tt, hpt =>
        have hd := (sgn_ne (hpt.1 d (by simp))).2.2.2.2
        have e1 : isItT 0 (Tok.sg d :: tt) = false := by
          have h9 : fitI (.sg d) 119 = false := by
            have := fit_sg d 119
            rw [show ((119 : UInt8).toNat : Int) = 119 from rfl] at this
            rw [this]
            simpa using hd
          cases tt <;> simp [isItT, layB, fitsL, h9]
        rw [e1]
        exact ⟨rfl, fun h => by simp [wordItem] at h⟩
      | .reg n :: tt, _ => exact ⟨by simp [isItT, layB, fitsL, fitI, wordItem], fun h => by simp [wordItem] at h⟩
      | .nm q :: tt, _ => exact ⟨by simp [isItT, layB, fitsL, fitI, wordItem], fun h => by simp [wordItem] at h⟩
      | .num n :: t2 :: tt, _ => exact ⟨by simp [isItT, layB, fitsL, wordItem], fun h => by simp [wordItem] at h⟩
    · have hop : opTk (.nm s) = -1 := by simp [opTk, opP, h0]
      have eP : itemP lab (Tok.nm s :: ts) = (61, [], 0, []) := by
        show (if isItT (opTk (.nm s)) ts then (if beyL (layB (opTk (.nm s))) ts then (63, [], 0, []) else (0, lab, opTk (.nm s), ts)) else (61, [], 0, [])) = _
        rw [hop]
        simp [isItT]
      have eT : itemT lab (Tok.nm s :: ts) = (61, ⟨lab, 0, 0, 0, 0, 0, 0, [], 0⟩) := by
        simp only [itemT]
        rw [if_pos (c := opOf s = 0) h0]
      rw [eP, eT]
      exact ⟨rfl, fun h => by simp at h⟩
    · have hop : opTk (.nm s) = opOf s := by
        show opP s = opOf s
        unfold opP
        rw [if_neg (by omega), if_neg (by omega)]
      have eP : itemP lab (Tok.nm s :: ts) = if isItT (opOf s) ts then (if beyL (layB (opOf s)) ts then (63, [], 0, []) else (0, lab, opOf s, ts)) else (61, [], 0, []) := by
        show (if isItT (opTk (.nm s)) ts then (if beyL (layB (opTk (.nm s))) ts then (63, [], 0, []) else (0, lab, opTk (.nm s), ts)) else (61, [], 0, [])) = _
        rw [hop]
      have eT : itemT lab (Tok.nm s :: ts) = opersT (shapeB (opOf s)) ts ⟨lab, 1, opOf s, 0, 0, 0, 0, [], 0⟩ 0 := by
        simp only [itemT]
        rw [if_neg (c := opOf s = 0) (by omega), if_neg (c := opOf s < 0) (by omega)]
      rw [eP, eT]
      clear eP eT
      have hlay : layB (opOf s) = shapeB (opOf s) := by unfold layB; rw [if_neg (by omega)]
      obtain ⟨hal, hcnt, _⟩ := shape_alpha (opOf s)
      have hcode := opers_code (shapeB (opOf s)) ts ⟨lab, 1, opOf s, 0, 0, 0, 0, [], 0⟩ 0 hal hpt (Or.inl rfl)
      rw [hcode]
      have hI : isItT (opOf s) ts = fitsL (shapeB (opOf s)) ts := by
        unfold isItT
        rw [hlay]
        have : (opOf s != -1) = true := by simp; omega
        rw [this]
        rfl
      rw [hI, hlay]
      cases hf : fitsL (shapeB (opOf s)) ts
      · exact ⟨by simp, fun h => by simp at h⟩
      · cases hb : beyL (shapeB (opOf s)) ts
        · rw [hf, hb] at hcode
          simp at hcode
          refine ⟨by simp, fun _ => ?_⟩
          have hfl := opers_flds (shapeB (opOf s)) ts ⟨lab, 1, opOf s, 0, 0, 0, 0, [], 0⟩ 0 (by rw [hcode]; decide)
          have hE := right_opers h1 h25 lab ts (by rw [hcode]; decide)
          simp only [if_true, Bool.false_eq_true, if_false]
          refine ⟨hfl.lab, Or.inr (Or.inr ⟨by show opOf s ≠ -1; omega, hfl.k, fun m hm => ?_⟩)⟩
          show encR m (opOf s) (layB (opOf s)) ts 0 0 0 0 = _
          rw [hlay, enc_opers1 m (opOf s) (shapeB (opOf s)) ts ⟨lab, 1, opOf s, 0, 0, 0, 0, [], 0⟩ 0 hal hcnt hpt rfl hf hb]
          unfold finW
          have ho : (opersT (shapeB (opOf s)) ts ⟨lab, 1, opOf s, 0, 0, 0, 0, [], 0⟩ 0).2.o = opOf s := hfl.o
          rw [ho]
          split
          · rw [hE _ (Or.inl rfl)]; rfl
          · rename_i hnm
            cases hmv : m (opersT (shapeB (opOf s)) ts ⟨lab, 1, opOf s, 0, 0, 0, 0, [], 0⟩ 0).2.nm with
            | none => rfl
            | some v =>
              simp only
              by_cases hv : v ≤ 65535
              · rw [if_pos hv, if_pos hv, hE v (Or.inr ⟨hnm, hm _ _ hmv, hv⟩)]; rfl
              · rw [if_neg hv, if_neg hv]
        · exact ⟨by simp, fun h => by simp at h⟩

end Go.Proofs.YtecipogfdhpjfaaGreatDoor
