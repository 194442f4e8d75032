/-
  Signals of a notification that nobody waits for, as plain data. No statement is proved here.
-/
import Derived.Test.YtcdckkhfkkjbmaaIpOkC
namespace Go.Proofs.Ytcdckkhfkkjbmaa
open Go.RowKit

/-- One notification's badge, and nothing else. -/
def bitS (n : Int) (x : Option Int) : Ip := ⟨[], fun _ _ => [], fun k => if k = n then x else none, fun _ => none⟩
theorem bit_0 (n : Int) : ip0 = bitS n none := by unfold ip0 bitS; simp
section
variable {n t b : Int} {x : Option Int}
theorem bit_sig (hn : numB n = true) (hb : mrkB b = true) : sigE n b = 0 ∧ sigN (bitS n x) n b = -1 ∧ sigS (bitS n x) n b = bitS n (some (bits .or .i64 (x.getD 0) b)) := by
  have e : sigE n b = 0 := by unfold sigE; rw [hn, hb]; rfl
  have l : lisO (bitS n x) n = none := rfl
  refine ⟨e, ?_, ?_⟩
  · unfold sigN; rw [if_pos e, l]; rfl
  · unfold sigS
    rw [if_pos e, l]
    have hl : (bitS n x).lt n = x := by unfold bitS; simp
    simp only [hl]
    unfold bitS
    simp only [Ip.mk.injEq, true_and, and_true]
    funext k
    by_cases h : k = n
    · subst h; simp
    · simp [h]
theorem bit_bad (hb : mrkB b = false) : sigE n b = 1 ∧ sigN (bitS n x) n b = -1 ∧ sigS (bitS n x) n b = bitS n x := by
  have e : sigE n b = 1 := by unfold sigE; rw [hb]; simp
  exact ⟨e, by unfold sigN; rw [if_neg (by omega)], by unfold sigS; rw [if_neg (by omega)]⟩
theorem bit_wait (hn : numB n = true) (ht : numB t = true) : watE (bitS n x) n t = 0 ∧ watG (bitS n x) n t = x.isSome ∧ inbM (watS (bitS n x) n t false) t = badM (x.getD 0) ∧ inbG (watS (bitS n x) n t false) t = x.isSome ∧ watE (inbS (watS (bitS n x) n t false) t) n t = 0 ∧ watG (inbS (watS (bitS n x) n t false) t) n t = false := by
  have hw : waiB (bitS n x) t = false := rfl
  have e : watE (bitS n x) n t = 0 := by unfold watE; rw [hn, ht, hw]; rfl
  have hl : (bitS n x).lt n = x := by unfold bitS; simp
  have hT : thrS (bitS n x) t = { bitS n x with L := [newTh t] } := rfl
  cases x with
  | none =>
    have hb : litB (bitS n none) n = false := by unfold litB; rw [hl]; rfl
    have e2 : watS (bitS n none) n t false = { bitS n none with L := [newTh t] } := by unfold watS; rw [if_pos e, if_neg (by rw [hb]; simp)]; exact hT
    have hf : fnd [newTh t] t = some (newTh t) := by simp [fnd, newTh]
    have g : inbG { bitS n none with L := [newTh t] } t = false := by unfold inbG; simp only [hf]; rfl
    have e3 : inbS { bitS n none with L := [newTh t] } t = { bitS n none with L := [newTh t] } := by unfold inbS; rw [g]; rfl
    rw [e2, e3]
    refine ⟨e, by unfold watG; rw [e, hb]; rfl, by unfold inbM; simp only [hf]; rfl, g, ?_, ?_⟩
    · have hw2 : waiB { bitS n none with L := [newTh t] } t = false := by unfold waiB plcS plcO thrT; simp only [hf]; rfl
      unfold watE; rw [hn, ht, hw2]; rfl
    · unfold watG litB
      show (_ && ((bitS n none).lt n).isSome) = false
      rw [hl]; simp
  | some y =>
    have hb : litB (bitS n (some y)) n = true := by unfold litB; rw [hl]; rfl
    have e2 : watS (bitS n (some y)) n t false = ⟨[setI (badM y) true (newTh t)], fun _ _ => [], fun k => if k = n then none else (bitS n (some y)).lt k, fun _ => none⟩ := by
      unfold watS
      rw [if_pos e, if_pos hb, hT]
      unfold litS
      show (match (bitS n (some y)).lt n with | none => _ | some b => _) = _
      rw [hl]
      unfold delS upd
      simp [newTh, bitS]
    have hf : fnd [setI (badM y) true (newTh t)] t = some (setI (badM y) true (newTh t)) := by simp [fnd, newTh, setI]
    rw [e2]
    generalize hL : (fun k => if k = n then none else (bitS n (some y)).lt k) = lt'
    have hn' : lt' n = none := by rw [← hL]; simp
    have g : inbG ⟨[setI (badM y) true (newTh t)], fun _ _ => [], lt', fun _ => none⟩ t = true := by unfold inbG; simp only [hf]; rfl
    have e3 : inbS ⟨[setI (badM y) true (newTh t)], fun _ _ => [], lt', fun _ => none⟩ t = ⟨[setI M0 false (setI (badM y) true (newTh t))], fun _ _ => [], lt', fun _ => none⟩ := by
      unfold inbS
      rw [g]
      simp [upd, setI, newTh]
    rw [e3]
    refine ⟨e, by unfold watG; rw [e, hb]; rfl, by unfold inbM; simp only [hf]; rfl, g, ?_, ?_⟩
    · have hw2 : waiB ⟨[setI M0 false (setI (badM y) true (newTh t))], fun _ _ => [], lt', fun _ => none⟩ t = false := by unfold waiB plcS plcO thrT; simp [fnd, setI, newTh]
      unfold watE; rw [hn, ht, hw2]; rfl
    · unfold watG litB
      show (_ && (lt' n).isSome) = false
      rw [hn']; simp
end

end Go.Proofs.Ytcdckkhfkkjbmaa
