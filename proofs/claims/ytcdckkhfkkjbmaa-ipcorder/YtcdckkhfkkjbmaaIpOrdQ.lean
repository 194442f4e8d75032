/-
  Senders of one endpoint in their order, received by the thread 0, as plain data. No statement is proved here.
-/
import Derived.Test.YtcdckkhfkkjbmaaIpOkC
namespace Go.Proofs.Ytcdckkhfkkjbmaa
open Go.RowKit

abbrev Sn := Int × Ms
/-- Who waits with its message; who was heard. -/
def wtg (ep : Int) (c : Sn) : Th := ⟨c.1, 2, ep, c.2, false, M0, false, -1⟩
def rcd (c : Sn) : Th := ⟨c.1, 0, -1, c.2, false, M0, false, -1⟩
/-- Of those who came D were heard, C wait; the thread 0 is there, or not. -/
def ordS (ep : Int) (D C : List Sn) (z : Bool) : Ip := ⟨D.map rcd ++ C.map (wtg ep) ++ (if z then [newTh 0] else []), fun s o => if s = 2 ∧ o = ep then C.map (·.1) else [], fun _ => none, fun _ => none⟩
theorem ord_0 (ep : Int) : ip0 = ordS ep [] [] false := by unfold ip0 ordS; simp
/-- Each one once, none of them is 0. -/
structure OkC (C : List Sn) : Prop where
  nd : (C.map (·.1)).Nodup
  id : ∀ c ∈ C, 1 ≤ c.1 ∧ c.1 ≤ 6
  ms : ∀ c ∈ C, mayM c.2 = true
theorem OkC.len {C : List Sn} (h : OkC C) : C.length ≤ 7 := by
  have := len_ids 7 (C.map (·.1)) h.nd (fun x hx => by
    obtain ⟨c, hc, rfl⟩ := List.mem_map.1 hx
    have := h.id c hc
    omega)
  simpa using this

theorem upd_append (A B : List Th) (k : Int) (f : Th → Th) : upd (A ++ B) k f = upd A k f ++ upd B k f := by simp [upd]
theorem upd_none {A : List Th} {k : Int} {f : Th → Th} (h : ∀ n ∈ A, n.i ≠ k) : upd A k f = A := by
  unfold upd
  conv => rhs; rw [← List.map_id A]
  exact List.map_congr_left fun n hn => by rw [if_neg (h n hn)]; rfl
theorem ids_rcd {D : List Sn} {k : Int} (h : ∀ d ∈ D, d.1 ≠ k) : ∀ n ∈ D.map rcd, n.i ≠ k := fun n hn => by
  obtain ⟨d, hd, rfl⟩ := List.mem_map.1 hn
  exact h d hd
theorem ids_wtg {ep : Int} {D : List Sn} {k : Int} (h : ∀ d ∈ D, d.1 ≠ k) : ∀ n ∈ D.map (wtg ep), n.i ≠ k := fun n hn => by
  obtain ⟨d, hd, rfl⟩ := List.mem_map.1 hn
  exact h d hd
theorem num_16 {t : Int} (h1 : 1 ≤ t) (h6 : t ≤ 6) : numB t = true := num_iff.2 (by omega)

section
variable {ep t : Int} {C D : List Sn} {m : Ms}
theorem ord_bad (hm : mayM m = false) (block : Bool) : senE (ordS ep D C false) ep t m = 1 ∧ senN (ordS ep D C false) ep t m = -1 ∧ senS (ordS ep D C false) ep t m false block = ordS ep D C false := by
  have e : senE (ordS ep D C false) ep t m = 1 := by unfold senE; rw [hm]; simp
  exact ⟨e, by unfold senN; rw [if_neg (by omega)], by unfold senS; rw [if_neg (by omega)]⟩
theorem ord_wait (he : numB ep = true) (ht : numB t = true) (hm : mayM m = true) (hw : waiB (ordS ep [] C false) t = true) (block : Bool) : senE (ordS ep [] C false) ep t m = 150 ∧ senN (ordS ep [] C false) ep t m = -1 ∧ senS (ordS ep [] C false) ep t m false block = ordS ep [] C false := by
  have e : senE (ordS ep [] C false) ep t m = 150 := by unfold senE; rw [he, ht, hm, hw]; rfl
  exact ⟨e, by unfold senN; rw [if_neg (by omega)], by unfold senS; rw [if_neg (by omega)]⟩
theorem ord_new (hC : OkC C) (he : numB ep = true) (h1 : 1 ≤ t) (h6 : t ≤ 6) (hm : mayM m = true) (hw : waiB (ordS ep [] C false) t = false) : senE (ordS ep [] C false) ep t m = 0 ∧ senN (ordS ep [] C false) ep t m = -1 ∧ senS (ordS ep [] C false) ep t m false true = ordS ep [] (C ++ [(t, m)]) false ∧ OkC (C ++ [(t, m)]) := by
  have ht := num_16 h1 h6
  have e : senE (ordS ep [] C false) ep t m = 0 := by unfold senE; rw [he, ht, hm, hw]; rfl
  have hf : firO (ordS ep [] C false) 3 ep = none := by unfold firO ordS; simp
  have hL : (ordS ep [] C false).L = C.map (wtg ep) := by unfold ordS; simp
  have hn : ∀ c ∈ C, c.1 ≠ t := fun c hc e => by
    have : fnd (ordS ep [] C false).L t = some (wtg ep c) := by
      rw [hL]
      have hg : (C.map (wtg ep)).Pairwise (fun a b => a.i ≠ b.i) := by
        rw [List.pairwise_map]
        have := hC.nd
        unfold List.Nodup at this
        rw [List.pairwise_map] at this
        exact this
      have := fnd_of_mem hg (List.mem_map.2 ⟨c, hc, rfl⟩ : wtg ep c ∈ C.map (wtg ep))
      rw [← e]
      exact this
    unfold waiB plcS plcO thrT at hw
    rw [this] at hw
    simp [wtg] at hw
  have hfn : fnd (C.map (wtg ep)) t = none := fnd_none_of (ids_wtg hn)
  refine ⟨e, by unfold senN; rw [if_pos e, hf]; rfl, ?_, ?_⟩
  · unfold senS
    rw [if_pos e, hf]
    simp only [if_true]
    have hT : thrS (ordS ep [] C false) t = { ordS ep [] C false with L := C.map (wtg ep) ++ [newTh t] } := by
      unfold thrS
      rw [hL, hfn]
    rw [hT]
    unfold entS
    simp only [upd_append, upd_none (ids_wtg hn)]
    have e1 : upd (upd [newTh t] t (setD m false)) t (setP 2 ep) = [wtg ep (t, m)] := by simp [upd, setD, setP, newTh, wtg]
    rw [e1]
    unfold ordS
    simp only [Ip.mk.injEq, and_true, List.map_append, List.map_cons, List.map_nil, List.nil_append, List.append_nil, Bool.false_eq_true, if_false, true_and]
    funext a b
    unfold uq
    by_cases h : a = 2 ∧ b = ep
    · simp [h]
    · simp [h]
  · refine ⟨?_, fun c hc => ?_, fun c hc => ?_⟩
    · rw [List.map_append, List.nodup_append]
      refine ⟨hC.nd, by simp, fun a ha b hb => ?_⟩
      obtain ⟨c, hc, rfl⟩ := List.mem_map.1 ha
      simp at hb
      subst hb
      exact hn c hc
    · rcases List.mem_append.1 hc with h | h
      · exact hC.id c h
      · simp at h; subst h; exact ⟨h1, h6⟩
    · rcases List.mem_append.1 hc with h | h
      · exact hC.ms c h
      · simp at h; subst h; exact hm
/-- The next one is heard. -/
theorem ord_rec {c : Sn} {z : Bool} (hC : OkC (D ++ c :: C)) (he : numB ep = true) :
    recE (ordS ep D (c :: C) z) ep 0 = 0 ∧ recN (ordS ep D (c :: C) z) ep 0 = c.1 ∧ recG (ordS ep D (c :: C) z) ep 0 = true ∧
    inbM (recS (ordS ep D (c :: C) z) ep 0 true) 0 = c.2 ∧ inbG (recS (ordS ep D (c :: C) z) ep 0 true) 0 = true ∧ inbS (recS (ordS ep D (c :: C) z) ep 0 true) 0 = ordS ep (D ++ [c]) C true := by
  have hid := hC.id
  have hnd := hC.nd
  have hD0 : ∀ d ∈ D, d.1 ≠ 0 := fun d hd => by have := hid d (by simp [hd]); omega
  have hC0 : ∀ d ∈ c :: C, d.1 ≠ 0 := fun d hd => by have := hid d (by simp only [List.mem_append]; exact Or.inr hd); omega
  rw [List.map_append, List.map_cons, List.nodup_append, List.nodup_cons] at hnd
  have hDc : ∀ d ∈ D, d.1 ≠ c.1 := fun d hd => hnd.2.2 d.1 (List.mem_map.2 ⟨d, hd, rfl⟩) c.1 (by simp)
  have hCc : ∀ d ∈ C, d.1 ≠ c.1 := fun d hd e => hnd.2.1.1 (by rw [← e]; exact List.mem_map.2 ⟨d, hd, rfl⟩)
  have hc0 : c.1 ≠ 0 := hC0 c (by simp)
  have h0 : numB 0 = true := by decide
  have hf0 : ∀ y, fnd (D.map rcd ++ (c :: C).map (wtg ep) ++ y) 0 = fnd y 0 := fun y => by
    rw [fnd_append, fnd_append, fnd_none_of (ids_rcd hD0), fnd_none_of (ids_wtg hC0)]
  have hw : waiB (ordS ep D (c :: C) z) 0 = false := by
    unfold waiB plcS plcO thrT
    show (!(((fnd (D.map rcd ++ (c :: C).map (wtg ep) ++ _) 0).getD (newTh 0)).st == 0 && ((fnd (D.map rcd ++ (c :: C).map (wtg ep) ++ _) 0).getD (newTh 0)).on == -1)) = false
    rw [hf0]
    cases z <;> simp [fnd, newTh]
  have e : recE (ordS ep D (c :: C) z) ep 0 = 0 := by unfold recE; rw [he, h0, hw]; rfl
  have hcal : calO (ordS ep D (c :: C) z) 0 = none := by unfold calO firO ordS; simp [h0]
  have hA : recA (ordS ep D (c :: C) z) 0 = ordS ep D (c :: C) true := by
    unfold recA forS
    rw [hcal]
    unfold thrS
    have hL : (ordS ep D (c :: C) z).L = D.map rcd ++ (c :: C).map (wtg ep) ++ (if z then [newTh 0] else []) := rfl
    rw [hL, hf0]
    cases z with
    | true => simp [fnd, newTh]
    | false => simp [fnd, ordS]
  have hlit : litB (recA (ordS ep D (c :: C) z) 0) (thrT (recA (ordS ep D (c :: C) z) 0) 0).nt = false := by rw [hA]; rfl
  have hfi : firO (recA (ordS ep D (c :: C) z) 0) 2 ep = some c.1 := by rw [hA]; unfold firO ordS; simp
  have hTc : thrT (ordS ep D (c :: C) true) c.1 = wtg ep c := by
    unfold thrT
    show (fnd (D.map rcd ++ (c :: C).map (wtg ep) ++ _) c.1).getD _ = _
    rw [fnd_append, fnd_append, fnd_none_of (ids_rcd hDc)]
    simp [fnd, wtg]
  have hh : recS (ordS ep D (c :: C) z) ep 0 true = ⟨D.map rcd ++ (rcd c :: C.map (wtg ep)) ++ [setI c.2 true (newTh 0)], fun s o => if s = 2 ∧ o = ep then C.map (·.1) else [], fun _ => none, fun _ => none⟩ := by
    unfold recS
    rw [if_pos e, hlit, if_neg (by simp), hfi]
    simp only
    rw [hA]
    unfold heaS
    rw [hTc, if_neg (by simp [wtg])]
    unfold delS leaS plcS plcO
    rw [hTc]
    have hL : (ordS ep D (c :: C) true).L = D.map rcd ++ (wtg ep c :: C.map (wtg ep)) ++ [newTh 0] := rfl
    rw [hL]
    have u1 : upd (D.map rcd ++ (wtg ep c :: C.map (wtg ep)) ++ [newTh 0]) c.1 (setP 0 (-1)) = D.map rcd ++ (rcd c :: C.map (wtg ep)) ++ [newTh 0] := by
      rw [upd_append, upd_append, upd_none (ids_rcd hDc), upd_none (A := [newTh 0]) (fun n hn => by simp at hn; subst hn; exact fun e => hc0 e.symm)]
      have : upd (wtg ep c :: C.map (wtg ep)) c.1 (setP 0 (-1)) = rcd c :: C.map (wtg ep) := by
        show (if (wtg ep c).i = c.1 then _ else _) :: upd (C.map (wtg ep)) c.1 _ = _
        rw [if_pos (show (wtg ep c).i = c.1 from rfl), upd_none (ids_wtg hCc)]
        rfl
      rw [this]
    have u2 : upd (D.map rcd ++ (rcd c :: C.map (wtg ep)) ++ [newTh 0]) 0 (setI (wtg ep c).sd true) = D.map rcd ++ (rcd c :: C.map (wtg ep)) ++ [setI c.2 true (newTh 0)] := by
      rw [upd_append, upd_append, upd_none (ids_rcd hD0)]
      have : upd (rcd c :: C.map (wtg ep)) 0 (setI (wtg ep c).sd true) = rcd c :: C.map (wtg ep) := upd_none (fun n hn => by
        rcases List.mem_cons.1 hn with rfl | hn
        · exact hc0
        · exact ids_wtg (fun d hd => hC0 d (by simp [hd])) n hn)
      rw [this]
      rfl
    simp only [u1, u2]
    simp only [Ip.mk.injEq, true_and]
    refine ⟨?_, rfl, rfl⟩
    funext a b
    unfold uq
    by_cases h : a = (wtg ep c).st ∧ b = (wtg ep c).on
    · rw [if_pos h]
      have h' : a = 2 ∧ b = ep := h
      have hq : (ordS ep D (c :: C) true).q a b = c.1 :: C.map (·.1) := by unfold ordS; simp [h']
      rw [hq, if_pos h', List.filter_cons]
      simp only [beq_self_eq_true, Bool.not_true, Bool.false_eq_true, if_false]
      apply List.filter_eq_self.2
      intro x hx
      obtain ⟨d, hd, rfl⟩ := List.mem_map.1 hx
      have := hCc d hd
      simpa using this
    · rw [if_neg h]
      have h' : ¬ (a = 2 ∧ b = ep) := h
      unfold ordS
      simp [h']
  have hf1 : ∀ y, fnd (D.map rcd ++ (rcd c :: C.map (wtg ep)) ++ y) 0 = fnd y 0 := fun y => by
    rw [fnd_append, fnd_append, fnd_none_of (ids_rcd hD0)]
    have : fnd (rcd c :: C.map (wtg ep)) 0 = none := fnd_none_of (fun n hn => by
      rcases List.mem_cons.1 hn with rfl | hn
      · exact hc0
      · exact ids_wtg (fun d hd => hC0 d (by simp [hd])) n hn)
    rw [this]
  have g : inbG (recS (ordS ep D (c :: C) z) ep 0 true) 0 = true := by rw [hh]; unfold inbG; simp only [hf1]; rfl
  refine ⟨e, ?_, ?_, ?_, g, ?_⟩
  · unfold recN
    rw [if_pos e, hlit, if_neg (by simp), hfi]
    simp only
    rw [hA, hTc, if_neg (by simp [wtg])]
  · unfold recG
    rw [e, hlit, hfi]
    rfl
  · rw [hh]; unfold inbM; simp only [hf1]; rfl
  · unfold inbS
    rw [g, if_pos rfl, hh]
    simp only
    have : upd (D.map rcd ++ (rcd c :: C.map (wtg ep)) ++ [setI c.2 true (newTh 0)]) 0 (setI M0 false) = D.map rcd ++ (rcd c :: C.map (wtg ep)) ++ [newTh 0] := by
      rw [upd_append, upd_append, upd_none (ids_rcd hD0)]
      have : upd (rcd c :: C.map (wtg ep)) 0 (setI M0 false) = rcd c :: C.map (wtg ep) := upd_none (fun n hn => by
        rcases List.mem_cons.1 hn with rfl | hn
        · exact hc0
        · exact ids_wtg (fun d hd => hC0 d (by simp [hd])) n hn)
      rw [this]
      rfl
    rw [this]
    unfold ordS
    simp
/-- Then there is none. -/
theorem ord_end {z : Bool} (hD : ∀ d ∈ D, d.1 ≠ 0) (he : numB ep = true) : recE (ordS ep D [] z) ep 0 = 0 ∧ recG (ordS ep D [] z) ep 0 = false := by
  have h0 : numB 0 = true := by decide
  have hf0 : ∀ y, fnd (D.map rcd ++ ([] : List Sn).map (wtg ep) ++ y) 0 = fnd y 0 := fun y => by
    rw [fnd_append, fnd_append, fnd_none_of (ids_rcd hD)]
    rfl
  have hw : waiB (ordS ep D [] z) 0 = false := by
    unfold waiB plcS plcO thrT
    show (!(((fnd (D.map rcd ++ ([] : List Sn).map (wtg ep) ++ _) 0).getD (newTh 0)).st == 0 && ((fnd (D.map rcd ++ ([] : List Sn).map (wtg ep) ++ _) 0).getD (newTh 0)).on == -1)) = false
    rw [hf0]
    cases z <;> simp [fnd, newTh]
  have e : recE (ordS ep D [] z) ep 0 = 0 := by unfold recE; rw [he, h0, hw]; rfl
  have hcal : calO (ordS ep D [] z) 0 = none := by unfold calO firO ordS; simp [h0]
  have hlt : (recA (ordS ep D [] z) 0).lt = fun _ => none := by
    unfold recA forS
    rw [hcal, thr_lt]
    rfl
  have hq : (recA (ordS ep D [] z) 0).q 2 ep = [] := by
    unfold recA forS
    rw [hcal, thr_q]
    simp [ordS]
  refine ⟨e, ?_⟩
  unfold recG litB firO
  rw [e, hlt, hq]
  rfl
end

end Go.Proofs.Ytcdckkhfkkjbmaa
