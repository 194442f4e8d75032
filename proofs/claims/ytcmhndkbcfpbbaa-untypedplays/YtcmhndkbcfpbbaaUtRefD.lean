/-
  The contract of the document's Drop over the translation. No statement is proved here.
-/
import Derived.Test.YtcmhndkbcfpbbaaUtRefR
import Derived.Deep.RegionLaw
namespace Go.Proofs.Ytcmhndkbcfpbbaa
open Go.RowKit

theorem step_append_run {ops : Array Oper} {o : Oper} {a : Act} {w : World} {K : Act → World → Prop} {Q : Exit → Act → World → Prop} {E : Prop} (hgd : o.guard = none) (s x : Operand) (t : TypeId)
    (ho : o.op = .call { callee := .builtin .append, args := #[s, x], argTypes := #[t, t] }) (vs vx v' : Value) (w' : World) (hs : a.eval s = vs) (hx : a.eval x = vx)
    (hrun : (Builtin.append_ #[t, t] o.type #[vs, vx]).run Try.prog w = .ok v' w') (hK : K (a.put o.dst v') w') :
    if Region.wanted o (yielded ops a.tmps) = true then Oper.wp Try.prog o a w K Q else E := by
  have hw : Region.wanted o (yielded ops a.tmps) = true := by simp [Region.wanted, hgd]
  rw [if_pos hw]
  unfold Oper.wp
  simp [execOp, ho, resolve, invoke, builtin, hs, hx, hrun, Result.andThen]
  exact hK

/-- Two appends in a row: the row without its k-th node. -/
theorem drop_runs {w : World} {q : Qb} {L : List Rg} (h : IsQ w q L) {k : Nat} {n : Rg} (hk : L[k]? = some n) {g cap : Nat} (hv : q.v = .slice (some ⟨g, 0, none⟩) L.length cap) (a2 : Addr) (c2 : Nat) (ha2 : k + 1 < L.length → a2 = ⟨g, (k + 1) * 4, none⟩) :
    ∃ (g1 c1 : Nat) (w1 : World) (g3 c3 : Nat) (w2 : World),
      (Builtin.append_ #[31, 31] 31 #[.slice (some ⟨w.heap.size, 0, none⟩) 0 0, .slice (some ⟨g, 0, none⟩) k cap]).run Try.prog (w.alloc (.cells #[] 39)).drew = .ok (.slice (some ⟨g1, 0, none⟩) k c1) w1 ∧
      (Builtin.append_ #[31, 31] 31 #[.slice (some ⟨g1, 0, none⟩) k c1, .slice (some a2) (L.length - (k + 1)) c2]).run Try.prog w1 = .ok (.slice (some ⟨g3, 0, none⟩) (L.length - 1) c3) w2 ∧
      IsQ w1 q L ∧ IsQ w2 q L ∧ Fr none' w w2 ∧ w.heap.size ≤ g3 ∧ w2.ownsRow 0 39 4 (.slice (some ⟨g3, 0, none⟩) (L.length - 1) c3) (del L n.f).length (flatG (del L n.f)) := by
  have hkl : k < L.length := by
    rcases Nat.lt_or_ge k L.length with h' | h'
    · exact h'
    · rw [List.getElem?_eq_none h'] at hk; cases hk
  have hlen := len_le h.good
  have hB := fun x hx => h.lt x hx
  obtain ⟨hl0, hh | ⟨g', cap', cur, hv', hb, hg, hc, hm, hs, ht⟩⟩ := h.own
  · rw [hv] at hh; cases hh.1
  · rw [hv] at hv'
    simp only [Value.slice.injEq, Option.some.injEq, Addr.mk.injEq, and_true, true_and] at hv'
    obtain ⟨rfl, rfl⟩ := hv'
    have hgb : g < w.heap.size := Row.lt (show Row w g cur _ from hg)
    have cells : ∀ (w' : World), w'.heap[g]? = w.heap[g]? → ∀ i u, (flatG L)[i]? = some u → w'.cell? ⟨g, i, none⟩ = some u := fun w' e i u hu => by
      have hr : Row w' g cur 39 := e.trans hg
      rw [hr.cell]
      rw [← ht, List.getElem?_take] at hu
      split at hu
      · simpa using hu
      · cases hu
    have hi := info_reg
    cases hq : Try.prog.info? 39 with
    | none => simp [hq] at hi
    | some i =>
      rw [hq] at hi
      simp only [Option.map_some, Option.some.injEq, Prod.mk.injEq] at hi
      obtain ⟨hz0, hsz, hby⟩ := hi
      have f0 := ((Fr.refl none' w).alloc (.cells #[] 39)).drew
      have o0 : (w.alloc (.cells #[] 39)).drew.ownsRow w.heap.size 39 4 (.slice (some ⟨w.heap.size, 0, none⟩) 0 0) 0 [] :=
        ⟨rfl, Or.inr ⟨w.heap.size, 0, #[], rfl, Nat.le_refl _, row_alloc w _ _, by omega, by simp only [maxLen]; omega, rfl, rfl⟩⟩
      have one := flatG_one'
      have tk : flatG L = flatG (L.take k) ++ (encG n ++ flatG (L.drop (k + 1))) := by
        have e1 : L = L.take k ++ (n :: L.drop (k + 1)) := by
          have := List.take_append_drop k L
          rw [List.drop_eq_getElem_cons hkl] at this
          have e2 : L[k] = n := by rw [List.getElem?_eq_getElem hkl] at hk; exact Option.some.inj hk
          rw [e2] at this
          exact this.symm
        conv => lhs; rw [e1]
        rw [flatG_append, flatG_cons]
      have l1 : (flatG (L.take k)).length = k * 4 := by rw [flatG_len, List.length_take, Nat.min_eq_left (by omega)]
      have l2 : (flatG (L.drop (k + 1))).length = (L.length - (k + 1)) * 4 := by rw [flatG_len, List.length_drop]
      obtain ⟨v1, w1, r1, o1, gr1, nil1⟩ := run_append_own (P := Try.prog) (w := (w.alloc (.cells #[] 39)).drew) w.heap.size 31 31 39 i _ 4 32 Try.underlying31 hq hz0 hsz hby rfl (by omega) _ 0 [] o0 ⟨g, 0, none⟩ k cap (flatG (L.take k)) l1
        (fun j u hu => by
          rw [add_lit', Nat.zero_add]
          exact cells _ (f0.block g hgb (fun h => h)) j u (by rw [tk, List.getElem?_append_left (by rcases Nat.lt_or_ge j (flatG (L.take k)).length with h' | h'; exact h'; rw [List.getElem?_eq_none h'] at hu; cases hu)]; exact hu))
        (one _) (by simp only [maxLen]; omega) (by omega) f0.size
      have f1 : Fr none' w w1 := f0.newer (fr_map (by exact gr1)) (Nat.le_refl _)
      have h1 := h.keep0 f1
      obtain ⟨_, hn1 | ⟨g1, c1, cur1, hv1, hb1, hg1, hc1, hm1, hs1, ht1⟩⟩ := id o1
      · exact absurd (nil1.mp hn1.1).1 (by simp)
      · rw [Nat.zero_add] at hv1
        subst hv1
        obtain ⟨v2, w2, r2, o2, gr2, nil2⟩ := run_append_own (P := Try.prog) (w := w1) w.heap.size 31 31 39 i _ 4 32 Try.underlying31 hq hz0 hsz hby rfl (by omega) _ (0 + k) _ (by rw [Nat.zero_add] at o1 ⊢; exact o1) a2 (L.length - (k + 1)) c2 (flatG (L.drop (k + 1))) l2
          (fun j u hu => by
            have hjl : j < (flatG (L.drop (k + 1))).length := by rcases Nat.lt_or_ge j (flatG (L.drop (k + 1))).length with h' | h'; exact h'; rw [List.getElem?_eq_none h'] at hu; cases hu
            rw [ha2 (by omega), add_lit']
            refine cells _ (f1.block g hgb (fun h => h)) _ u ?_
            have e3 : (encG n).length = 4 := rfl
            rw [tk, List.getElem?_append_right (by omega), List.getElem?_append_right (by omega), l1, e3, show (k + 1) * 4 + j - k * 4 - 4 = j by omega]
            exact hu)
          (one _) (by simp only [maxLen]; omega) (by omega) f1.size
        have hb1' : w.heap.size ≤ g1 := hb1
        have f2 : Fr none' w w2 := f1.newer (fr_map (by exact gr2)) hb1'
        obtain ⟨_, hn2 | ⟨g3, c3, cur3, hv3, hb3, hg3, hc3, hm3, hs3, ht3⟩⟩ := id o2
        · exact absurd (nil2.mp hn2.1).1 (by simp)
        · have e4 : 0 + k + (L.length - (k + 1)) = L.length - 1 := by omega
          rw [e4] at hv3 o2
          subst hv3
          refine ⟨g1, c1, w1, g3, c3, w2, r1, r2, h1, h.keep0 f2, f2, hb3, ?_⟩
          have e5 : (del L n.f).length = L.length - 1 := by have := len_del h.good hk; omega
          rw [e5, del_at h.good hk, flatG_append]
          exact ownsRow_zero o2

theorem own_slice {g n c k : Nat} (h : some k = (Value.slice (some ⟨g, 0, none⟩) n c).ownBlock) : k = g := by simpa [Value.ownBlock] using h

/-- The row stored. -/
theorem IsQ.cut {w w2 : World} {q : Qb} {L L' : List Rg} (h : IsQ w q L) {v : Value} (h2 : IsQ w2 q L) (f2 : Fr none' w w2) (hg : ∀ k, some k = v.ownBlock → w.heap.size ≤ k) (g' : GoodL L') (o : w2.ownsRow 0 39 4 v L'.length (flatG L')) : ChgQ w q (w2.setCell ⟨q.b, 0, none⟩ v) L' := by
  have hb := h.lt q.b (Or.inl rfl)
  have f : Fr (at' q.b) w2 (w2.setCell ⟨q.b, 0, none⟩ v) := fr_set w2 q.b 0 _ (Fr.refl _ _)
  have hnb : some q.b ≠ v.ownBlock := fun e => by have := hg q.b e; omega
  have r' : Row (w2.setCell ⟨q.b, 0, none⟩ v) q.b #[v] 33 := by simpa using h2.row.setCell 0 v
  refine ⟨⟨q.b, v⟩, rfl, ⟨r', ownsRow_at o (fun x hx hl => f.block x hl (fun e => hnb (by rw [← (show x = q.b from e)]; exact hx))), g'⟩, ?_, fun x hx => ?_⟩
  · exact (f2.mono (fun _ _ h => h.elim)).setCell (p := ⟨q.b, 0, none⟩) (Or.inr (Or.inl rfl)) _
  · rcases hx with rfl | hx
    · exact Or.inl (Or.inl rfl)
    · exact Or.inr (hg x hx)

set_option maxRecDepth 100000 in
set_option maxHeartbeats 2000000 in
theorem rdrop_any (w : World) (q : Qb) (L : List Rg) (h : IsQ w q L) (id : Int) : Calls Try.prog 28 #[.pointer (some ⟨q.b, 0, none⟩), .int .i64 id] w fun e w' => e = .returned (.int .i64 (drE L id)) ∧ ChgQ w q w' (del L id) := by
  have hA := rat_any w q L h id
  have HH : Hid (IsQ w q L) := h
  have hlen := len_le h.good
  have z0 := h.row.frozen 0
  clear h
  go_enter Try.func28, Try.ntmps28
  go_wp2_with fail
  refine hA.mono ?_
  rintro e w1 ⟨rfl, ⟨hf', rfl⟩ | ⟨i, y, hf', hi, rfl⟩⟩
  · have HE : Hid (drE L id = 131) := by unfold drE; rw [hf']; rfl
    have HC : Hid (ChgQ w1 q w1 (del L id)) := by rw [del_none hf']; exact ChgQ.same HH.out (Fr.refl _ _)
    clear hA hf' HH
    go_wp2_with fail
    go_ret
    rw [HE.out]
    exact ⟨rfl, HC.out⟩
  · have HE : Hid (drE L id = 0) := by unfold drE; rw [hf']; rfl
    have HY : Hid (y.f = id) := (fnd_mem hf').2
    obtain ⟨a, cap, hv, hcap, _, hn⟩ := HH.out.form
    obtain ⟨g, rfl, _⟩ := hn i y hi
    have c0 := HH.out.cell
    rw [hv] at c0
    have HI : Hid (L[i]? = some y) := hi
    have HV : Hid (q.v = .slice (some ⟨g, 0, none⟩) L.length cap) := hv
    have hlt : i < L.length := by
      rcases Nat.lt_or_ge i L.length with h' | h'
      · exact h'
      · rw [List.getElem?_eq_none h'] at hi; cases hi
    have HD' : Hid (∀ (a2 : Addr) (c2 : Nat), (i + 1 < L.length → a2 = ⟨g, (i + 1) * 4, none⟩) → ∃ (g1 c1 : Nat) (w2 : World) (g3 c3 : Nat) (w3 : World),
      (Builtin.append_ #[31, 31] 31 #[.slice (some ⟨w1.heap.size, 0, none⟩) 0 0, .slice (some ⟨g, 0, none⟩) i cap]).run Try.prog (w1.alloc (.cells #[] 39)).drew = .ok (.slice (some ⟨g1, 0, none⟩) i c1) w2 ∧
      (Builtin.append_ #[31, 31] 31 #[.slice (some ⟨g1, 0, none⟩) i c1, .slice (some a2) (L.length - (i + 1)) c2]).run Try.prog w2 = .ok (.slice (some ⟨g3, 0, none⟩) (L.length - 1) c3) w3 ∧
      w2.cell? ⟨q.b, 0, none⟩ = some (.slice (some ⟨g, 0, none⟩) L.length cap) ∧ w3.cell? ⟨q.b, 0, none⟩ = some (.slice (some ⟨g, 0, none⟩) L.length cap) ∧ w3.frozen? ⟨q.b, 0, none⟩ = false ∧ ChgQ w1 q (w3.setCell ⟨q.b, 0, none⟩ (.slice (some ⟨g3, 0, none⟩) (L.length - 1) c3)) (del L id)) := fun a2 c2 ha2 => by
      obtain ⟨g1, c1, w2, g3, c3, w3, r1, r2, q1, q2, f, hg3, o⟩ := drop_runs HH.out HI.out HV.out a2 c2 ha2
      rw [HY.out] at o
      exact ⟨g1, c1, w2, g3, c3, w3, r1, r2, by rw [q1.cell, HV.out], by rw [q2.cell, HV.out], q2.row.frozen 0, HH.out.cut q2 f (fun k hk => by rw [own_slice hk]; exact hg3) (good_del HH.out.good _) o⟩
    clear hn hv hi hf' hA
    generalize L.length = M at *
    have cA := cell_keep ((Fr.refl none' w1).alloc (.cells #[] 39)) c0 (fun h => h)
    have k1 : i ≤ cap := by omega
    have k2 : i + 1 ≤ M := by omega
    have k3 : IntKind.i64.wrap ((i : Int) + 1) = (i : Int) + 1 := by rw [IntKind.wrap_i64]; omega
    have k4 : ((i : Int) + 1).toNat = i + 1 := by omega
    have k5 : (0 : Int) ≤ (i : Int) + 1 := by omega
    have k6 : (i : Int) + 1 ≤ (M : Int) := by omega
    by_cases hc : cap = i + 1
    · obtain ⟨g1, c1, w2, g3, c3, w3, hrun1, hrun2, e2, e3, e4, hC⟩ := HD'.out ⟨g, 0, none⟩ 0 (fun _ => by omega)
      obtain rfl : M = i + 1 := by omega
      subst hc
      have k7 : (i : Int) ≤ (i : Int) + 1 := by omega
      rw [show i + 1 - (i + 1) = 0 by omega, show i + 1 - 1 = i by omega] at hrun2
      rw [show i + 1 - 1 = i by omega] at hC
      have HC : Hid (ChgQ w1 q (w3.setCell ⟨q.b, 0, none⟩ (.slice (some ⟨g3, 0, none⟩) i c3)) (del L id)) := hC
      clear hC HD' HH HI HV
      go_wp2_with fail
      go_region_law (first | (refine step_append_run rfl (.tmp 12) (.tmp 18) 31 rfl _ _ _ _ rfl rfl hrun1 ?_) | (refine step_append_run rfl (.tmp 19) (.tmp 26) 31 rfl _ _ _ _ rfl rfl hrun2 ?_))
      all_goals go_wp2_with fail
      all_goals go_ret
      all_goals rw [HE.out]
      all_goals exact ⟨rfl, HC.out⟩
    · obtain ⟨g1, c1, w2, g3, c3, w3, hrun1, hrun2, e2, e3, e4, hC⟩ := HD'.out ⟨g, (i + 1) * 4, none⟩ (cap - (i + 1)) (fun _ => rfl)
      have HC : Hid (ChgQ w1 q (w3.setCell ⟨q.b, 0, none⟩ (.slice (some ⟨g3, 0, none⟩) (M - 1) c3)) (del L id)) := hC
      clear hC HD' HH HI HV
      go_wp2_with fail
      go_region_law (first | (refine step_append_run rfl (.tmp 12) (.tmp 18) 31 rfl _ _ _ _ rfl rfl hrun1 ?_) | (refine step_append_run rfl (.tmp 19) (.tmp 26) 31 rfl _ _ _ _ rfl rfl hrun2 ?_))
      all_goals go_wp2_with fail
      all_goals go_ret
      all_goals rw [HE.out]
      all_goals exact ⟨rfl, HC.out⟩

end Go.Proofs.Ytcmhndkbcfpbbaa
