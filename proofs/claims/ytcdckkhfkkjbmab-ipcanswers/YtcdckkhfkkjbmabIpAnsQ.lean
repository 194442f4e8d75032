/-
  One call, answered, as plain data. No statement is proved here.
-/
import Derived.Test.YtcdckkhfkkjbmabIpOkC
namespace Go.Proofs.Ytcdckkhfkkjbmab
open Go.RowKit

/-- What a send and a receive leave, whichever is first. -/
def ansS (ep : Int) (m : Ms) (first : Bool) : Ip := if first then recS (senS ip0 ep 5 m true true) ep 6 true else senS (recS ip0 ep 6 true) ep 5 m true true
/-- The caller 5 waits for 6, who has the message. -/
structure Asked (S : Ip) (m : Ms) : Prop where
  a : ∃ a, fnd S.L 5 = some a ∧ a.st = 4 ∧ a.on = 6
  c : ∃ c, fnd S.L 6 = some c ∧ c.ib = m ∧ c.fu = true
  q : S.q 4 6 = [5]

theorem asked {ep : Int} {m : Ms} (he : numB ep = true) (hm : mayM m = true) (first : Bool) : Asked (ansS ep m first) m := by
  have n5 : numB 5 = true := by decide
  have n6 : numB 6 = true := by decide
  cases first with
  | true =>
    have e1 : senS ip0 ep 5 m true true = ⟨[⟨5, 2, ep, m, true, M0, false, -1⟩], fun s o => if s = 2 ∧ o = ep then [5] else [], fun _ => none, fun _ => none⟩ := by
      have e : senE ip0 ep 5 m = 0 := by unfold senE; rw [he, n5, hm]; rfl
      unfold senS
      rw [if_pos e]
      simp only [firO, ip0, List.head?_nil, if_true]
      unfold entS thrS upd uq
      simp [fnd, newTh, setD, setP]
    have hw : waiB ⟨[⟨5, 2, ep, m, true, M0, false, -1⟩], fun s o => if s = 2 ∧ o = ep then [5] else [], fun _ => none, fun _ => none⟩ 6 = false := by
      unfold waiB plcS plcO thrT; simp [fnd, newTh]
    show Asked (recS (senS ip0 ep 5 m true true) ep 6 true) m
    rw [e1]
    have e : recE ⟨[⟨5, 2, ep, m, true, M0, false, -1⟩], fun s o => if s = 2 ∧ o = ep then [5] else [], fun _ => none, fun _ => none⟩ ep 6 = 0 := by unfold recE; rw [he, n6, hw]; rfl
    have hA : recA ⟨[⟨5, 2, ep, m, true, M0, false, -1⟩], fun s o => if s = 2 ∧ o = ep then [5] else [], fun _ => none, fun _ => none⟩ 6 = ⟨[⟨5, 2, ep, m, true, M0, false, -1⟩, newTh 6], fun s o => if s = 2 ∧ o = ep then [5] else [], fun _ => none, fun _ => none⟩ := by
      unfold recA forS calO firO thrS
      simp [n6, fnd]
    unfold recS
    rw [if_pos e, hA]
    have hT : thrT ⟨[⟨5, 2, ep, m, true, M0, false, -1⟩, newTh 6], fun s o => if s = 2 ∧ o = ep then [5] else [], fun _ => none, fun _ => none⟩ 5 = ⟨5, 2, ep, m, true, M0, false, -1⟩ := by unfold thrT; simp [fnd]
    rw [if_neg (by unfold litB; simp)]
    simp only [firO, and_self, if_true, List.head?_cons]
    unfold heaS
    rw [hT, if_pos rfl]
    unfold entS delS leaS plcS plcO
    rw [hT]
    refine ⟨⟨⟨5, 4, 6, m, true, M0, false, -1⟩, ?_, rfl, rfl⟩, ⟨⟨6, 0, -1, M0, false, m, true, -1⟩, ?_, rfl, rfl⟩, ?_⟩
    · simp [upd, fnd, setP, setI, newTh]
    · simp [upd, fnd, setP, setI, newTh]
    · simp [uq]
  | false =>
    have e1 : recS ip0 ep 6 true = ⟨[⟨6, 3, ep, M0, false, M0, false, -1⟩], fun s o => if s = 3 ∧ o = ep then [6] else [], fun _ => none, fun _ => none⟩ := by
      have e : recE ip0 ep 6 = 0 := by unfold recE; rw [he, n6]; rfl
      have hA : recA ip0 6 = ⟨[newTh 6], fun _ _ => [], fun _ => none, fun _ => none⟩ := by
        unfold recA forS calO firO thrS ip0
        simp [n6, fnd]
      unfold recS
      rw [if_pos e, hA]
      rw [if_neg (by unfold litB; simp)]
      simp only [firO, List.head?_nil, if_true]
      unfold entS upd uq
      simp [newTh, setP]
    have hw : waiB ⟨[⟨6, 3, ep, M0, false, M0, false, -1⟩], fun s o => if s = 3 ∧ o = ep then [6] else [], fun _ => none, fun _ => none⟩ 5 = false := by
      unfold waiB plcS plcO thrT; simp [fnd, newTh]
    show Asked (senS (recS ip0 ep 6 true) ep 5 m true true) m
    rw [e1]
    have e : senE ⟨[⟨6, 3, ep, M0, false, M0, false, -1⟩], fun s o => if s = 3 ∧ o = ep then [6] else [], fun _ => none, fun _ => none⟩ ep 5 m = 0 := by unfold senE; rw [he, n5, hm, hw]; rfl
    have hT : thrT ⟨[⟨6, 3, ep, M0, false, M0, false, -1⟩], fun s o => if s = 3 ∧ o = ep then [6] else [], fun _ => none, fun _ => none⟩ 6 = ⟨6, 3, ep, M0, false, M0, false, -1⟩ := by unfold thrT; simp [fnd]
    unfold senS
    rw [if_pos e]
    simp only [firO, and_self, if_true, List.head?_cons]
    unfold entS delS leaS plcS plcO
    rw [hT]
    refine ⟨⟨⟨5, 4, 6, M0, false, M0, false, -1⟩, ?_, rfl, rfl⟩, ⟨⟨6, 0, -1, M0, false, m, true, -1⟩, ?_, rfl, rfl⟩, ?_⟩
    · simp [thrS, upd, fnd, setP, setI, newTh]
    · simp [thrS, upd, fnd, setP, setI, newTh]
    · simp [thrS, upd, fnd, uq, newTh, setP, setI]

/-- What is told from there on. -/
theorem answered {S : Ip} {m n : Ms} (h : Asked S m) (hn : mayM n = true) :
    inbM S 6 = m ∧ inbG S 6 = true ∧ plcS (inbS S 6) 5 = 4 ∧ plcO (inbS S 6) 5 = 6 ∧ repN (inbS S 6) 6 n = 5 ∧ repE (inbS S 6) 6 n = 0 ∧
    repN (repS (inbS S 6) 6 n) 6 n = -1 ∧ repE (repS (inbS S 6) 6 n) 6 n = 161 ∧
    inbM (repS (repS (inbS S 6) 6 n) 6 n) 5 = { n with b := 0 } ∧ inbG (repS (repS (inbS S 6) 6 n) 6 n) 5 = true ∧
    inbG (inbS (repS (repS (inbS S 6) 6 n) 6 n) 5) 6 = false ∧ inbM (inbS (repS (repS (inbS S 6) 6 n) 6 n) 5) 6 = M0 ∧ plcS (inbS (inbS (repS (repS (inbS S 6) 6 n) 6 n) 5) 6) 5 = 0 := by
  obtain ⟨a, ha, ha1, ha2⟩ := h.a
  obtain ⟨c, hc, hc1, hc2⟩ := h.c
  have n6 : numB 6 = true := by decide
  have g6 : inbG S 6 = true := by unfold inbG; rw [hc]; exact hc2
  have m6 : inbM S 6 = m := by unfold inbM; rw [hc]; simp only; rw [hc2, if_pos rfl, hc1]
  have e3 : inbS S 6 = { S with L := upd S.L 6 (setI M0 false) } := by unfold inbS; rw [g6]; rfl
  have FI := fun (L : List Th) (k : Int) (m : Ms) (b : Bool) (x : Int) => fnd_upd1 L k (f := setI m b) (fun _ => rfl) x
  have FP := fun (L : List Th) (k s o x : Int) => fnd_upd1 L k (f := setP s o) (fun _ => rfl) x
  have a3 : fnd (upd S.L 6 (setI M0 false)) 5 = some a := by rw [FI, if_neg (by omega), ha]
  have c3 : fnd (upd S.L 6 (setI M0 false)) 6 = some (setI M0 false c) := by rw [FI, if_pos rfl, hc]; rfl
  rw [e3]
  generalize upd S.L 6 (setI M0 false) = L3 at a3 c3
  have t5 : thrT { S with L := L3 } 5 = a := by unfold thrT; show (fnd L3 5).getD _ = _; rw [a3]; rfl
  have hcal : calO { S with L := L3 } 6 = some 5 := by unfold calO firO; rw [n6, if_pos rfl]; show (S.q 4 6).head? = _; rw [h.q]; rfl
  have r0 : repE { S with L := L3 } 6 n = 0 := by unfold repE; rw [n6, hn, hcal]; rfl
  have r1 : repN { S with L := L3 } 6 n = 5 := by unfold repN; rw [if_pos r0, hcal]; rfl
  have r2 : repS { S with L := L3 } 6 n = ⟨upd (upd L3 5 (setP 0 (-1))) 5 (setI { n with b := 0 } true), uq S.q 4 6 (List.filter fun x => !(x == 5)), S.lt, S.bd⟩ := by
    unfold repS
    rw [if_pos r0, hcal]
    simp only
    unfold delS leaS plcS plcO
    rw [t5, ha1, ha2]
  rw [r2]
  have q4 : uq S.q 4 6 (List.filter fun x => !(x == 5)) 4 6 = [] := by unfold uq; rw [if_pos ⟨rfl, rfl⟩, h.q]; rfl
  have a4 : fnd (upd (upd L3 5 (setP 0 (-1))) 5 (setI { n with b := 0 } true)) 5 = some (setI { n with b := 0 } true (setP 0 (-1) a)) := by
    rw [FI, if_pos rfl, FP, if_pos rfl, a3]; rfl
  have c4 : fnd (upd (upd L3 5 (setP 0 (-1))) 5 (setI { n with b := 0 } true)) 6 = some (setI M0 false c) := by
    rw [FI, if_neg (by omega), FP, if_neg (by omega), c3]
  generalize upd (upd L3 5 (setP 0 (-1))) 5 (setI { n with b := 0 } true) = L4 at a4 c4
  generalize uq S.q 4 6 (List.filter fun x => !(x == 5)) = q' at q4
  have hcal4 : calO ⟨L4, q', S.lt, S.bd⟩ 6 = none := by unfold calO firO; rw [n6, if_pos rfl]; show (q' 4 6).head? = _; rw [q4]; rfl
  have s0 : repE ⟨L4, q', S.lt, S.bd⟩ 6 n = 161 := by unfold repE; rw [n6, hn, hcal4]; rfl
  have s1 : repN ⟨L4, q', S.lt, S.bd⟩ 6 n = -1 := by unfold repN; rw [if_neg (by omega)]
  have s2 : repS ⟨L4, q', S.lt, S.bd⟩ 6 n = ⟨L4, q', S.lt, S.bd⟩ := by unfold repS; rw [if_neg (by omega)]
  rw [s2]
  have g5 : inbG ⟨L4, q', S.lt, S.bd⟩ 5 = true := by unfold inbG; rw [a4]; rfl
  have m5 : inbM ⟨L4, q', S.lt, S.bd⟩ 5 = { n with b := 0 } := by unfold inbM; rw [a4]; rfl
  have e5 : inbS ⟨L4, q', S.lt, S.bd⟩ 5 = ⟨upd L4 5 (setI M0 false), q', S.lt, S.bd⟩ := by unfold inbS; rw [g5]; rfl
  rw [e5]
  have a5 : fnd (upd L4 5 (setI M0 false)) 5 = some (setI M0 false (setI { n with b := 0 } true (setP 0 (-1) a))) := by rw [FI, if_pos rfl, a4]; rfl
  have c5 : fnd (upd L4 5 (setI M0 false)) 6 = some (setI M0 false c) := by rw [FI, if_neg (by omega), c4]
  generalize upd L4 5 (setI M0 false) = L5 at a5 c5
  have g66 : inbG ⟨L5, q', S.lt, S.bd⟩ 6 = false := by unfold inbG; rw [c5]; rfl
  have e6 : inbS ⟨L5, q', S.lt, S.bd⟩ 6 = ⟨L5, q', S.lt, S.bd⟩ := by unfold inbS; rw [g66]; rfl
  rw [e6]
  refine ⟨m6, g6, ?_, ?_, r1, r0, s1, s0, m5, g5, g66, ?_, ?_⟩
  · unfold plcS; rw [t5, ha1]
  · unfold plcO; rw [t5, ha2]
  · unfold inbM; rw [c5]; rfl
  · unfold plcS thrT
    show ((fnd L5 5).getD _).st = 0
    rw [a5]
    rfl

end Go.Proofs.Ytcdckkhfkkjbmab
