/-
  Every call of package ipc keeps what IpOk says, over plain data. No program, no statement.
-/
import Derived.Test.YtjobdfkfongjaaaIpOk
namespace Go.Proofs.Ytjobdfkfongjaaa
open Go.RowKit

theorem num_iff {n : Int} : numB n = true ↔ 0 ≤ n ∧ n < 1024 := by simp [numB]
theorem del_at {S : Ip} {k t : Int} {m : Ms} {u : Th} (hu : fnd S.L k = some u) : ∃ v, fnd (delS S t m).L k = some v ∧ v.st = u.st ∧ v.on = u.on ∧ v.nt = u.nt ∧ v.sd = u.sd ∧ v.ca = u.ca := by
  show ∃ v, fnd (upd S.L t (setI m true)) k = some v ∧ _
  rw [fnd_upd1 S.L t (f := setI m true) (fun _ => rfl)]
  split
  · rename_i e
    subst e
    rw [hu]
    exact ⟨_, rfl, rfl, rfl, rfl, rfl, rfl⟩
  · exact ⟨u, hu, rfl, rfl, rfl, rfl, rfl⟩
theorem thr_old {S : Ip} {k t : Int} {u : Th} (hu : fnd S.L k = some u) : fnd (thrS S t).L k = some u := by
  unfold thrS
  cases e : fnd S.L t with
  | some x => exact hu
  | none =>
    show fnd (S.L ++ [newTh t]) k = _
    rw [fnd_new e]
    split
    · rename_i ex; subst ex; rw [e] at hu; cases hu
    · exact hu
/-- Who waits nowhere has the state 0. -/
theorem thrT_0 {S : Ip} (h : Ok S) {t : Int} (hw : waiB S t = false) : (thrT S t).st = 0 := by
  cases e : fnd S.L t with
  | some x =>
    have : thrT S t = x := by unfold thrT; rw [e]; rfl
    rw [this]
    exact (wai_iff h e).1 hw
  | none =>
    unfold thrT
    rw [e]
    rfl
theorem okP_ep {s o : Int} (h : s = 2 ∨ s = 3 ∨ s = 5) (ho : numB o = true) : okP s o := Or.inr (Or.inl ⟨h, num_iff.1 ho⟩)
theorem okP_an {o : Int} (h1 : -1 ≤ o) (h2 : o < 1024) : okP 4 o := Or.inr (Or.inr ⟨rfl, h1, h2⟩)

theorem ok_lit {S : Ip} (h : Ok S) (n t : Int) : Ok (litS S n t) := by
  unfold litS
  cases e : S.lt n with
  | none => exact h
  | some b =>
    refine ok_del (S := { S with lt := fun k => if k = n then none else S.lt k }) ⟨h.gl, h.nd, h.mem, h.pl, h.nt, h.bd, fun k c hk => ?_, h.ms⟩ t (may_bad (h.lt n b e).2.2)
    simp only at hk
    split at hk
    · cases hk
    · exact h.lt k c hk

theorem ok_for {S : Ip} (h : Ok S) (t : Int) : Ok (forS S t) := by
  unfold forS
  cases e : calO S t with
  | none => exact h
  | some c =>
    unfold calO at e
    split at e
    · obtain ⟨u, hu, _⟩ := h.first e
      exact ok_ent (ok_lea h hu) (lea_at hu) rfl (okP_an (by omega) (by omega)) (by omega)
    · cases e
theorem ok_can {S : Ip} (h : Ok S) (t : Int) : Ok (canS S t) := by
  unfold canS
  split
  · rename_i hw
    cases e : fnd S.L t with
    | some u => exact ok_lea h e
    | none => simp [waiB, plcS, plcO, thrT, e, newTh] at hw
  · exact h

theorem sen_parts {S : Ip} {ep t : Int} {m : Ms} (e : senE S ep t m = 0) : numB ep = true ∧ numB t = true ∧ mayM m = true ∧ waiB S t = false := by
  unfold senE at e
  split at e
  · rename_i h
    simp only [Bool.and_eq_true] at h
    split at e
    · omega
    · rename_i hw
      exact ⟨h.1, h.2.1, h.2.2, by simpa using hw⟩
  · omega
theorem ok_sen {S : Ip} (h : Ok S) (ep t : Int) (m : Ms) (call block : Bool) : Ok (senS S ep t m call block) := by
  unfold senS
  split
  · rename_i e
    obtain ⟨h1, h2, h3, h4⟩ := sen_parts e
    have h0 := thrT_0 h h4
    cases hf : firO S 3 ep with
    | none =>
      simp only
      split
      · refine ok_ent (S := { thrS S t with L := upd (thrS S t).L t (setD m call) }) (u := setD m call (thrT S t)) (ok_sd (ok_thr h h2) t call h3) ?_ h0 (okP_ep (Or.inl rfl) h1) (by omega)
        show fnd (upd (thrS S t).L t (setD m call)) t = _
        rw [fnd_upd1 (thrS S t).L t (f := setD m call) (fun _ => rfl), if_pos rfl, thr_at]
        rfl
      · exact h
    | some r =>
      obtain ⟨u, hu, r1, r2, _⟩ := h.first hf
      have hr := fnd_pos h.gl hu
      have hk := ok_del (ok_lea h hu) r h3
      have hne : t ≠ r := fun e => by
        subst e
        have := (wai_iff h hu).1 h4
        omega
      simp only
      split
      · refine ok_ent (ok_thr hk h2) (thr_at _ _) ?_ (okP_an (by omega) (by omega)) (by omega)
        have hx : ∀ x, fnd (delS (leaS S r) r m).L t = some x → x.st = 0 := fun x hx => by
          have : fnd (upd (upd S.L r (setP 0 (-1))) r (setI m true)) t = some x := hx
          rw [fnd_upd1 _ r (f := setI m true) (fun _ => rfl), if_neg hne, fnd_upd1 S.L r (f := setP 0 (-1)) (fun _ => rfl), if_neg hne] at this
          exact (wai_iff h this).1 h4
        unfold thrT
        cases e : fnd (delS (leaS S r) r m).L t with
        | some x => exact hx x e
        | none => rfl
      · exact hk
  · exact h

theorem ok_rep {S : Ip} (h : Ok S) (t : Int) (m : Ms) : Ok (repS S t m) := by
  unfold repS
  split
  · rename_i e
    cases hc : calO S t with
    | none => exact h
    | some c =>
      have hm : mayM m = true := by
        unfold repE at e
        split at e
        · rename_i hb
          simp only [Bool.and_eq_true] at hb
          exact hb.2
        · omega
      have hm' : mayM { m with b := 0 } = true := by
        unfold mayM at hm ⊢
        simp only [Bool.and_eq_true] at hm ⊢
        exact ⟨hm.1, by decide, hm.2.2⟩
      unfold calO at hc
      split at hc
      · obtain ⟨u, hu, _⟩ := h.first hc
        exact ok_del (ok_lea h hu) c hm'
      · cases hc
  · exact h

theorem ok_wat {S : Ip} (h : Ok S) (n t : Int) (block : Bool) : Ok (watS S n t block) := by
  unfold watS
  split
  · rename_i e
    unfold watE at e
    split at e
    · rename_i hb
      simp only [Bool.and_eq_true] at hb
      split at e
      · omega
      · rename_i hw
        have h0 := thrT_0 h (by simpa using hw)
        split
        · exact ok_lit (ok_thr h hb.2) n t
        · split
          · exact ok_ent (ok_thr h hb.2) (thr_at S t) h0 (okP_ep (Or.inr (Or.inr rfl)) hb.1) (by omega)
          · exact ok_thr h hb.2
    · omega
  · exact h

end Go.Proofs.Ytjobdfkfongjaaa
