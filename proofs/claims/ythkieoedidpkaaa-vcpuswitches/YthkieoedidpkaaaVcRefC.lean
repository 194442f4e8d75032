/-
  The document's Bind and Drop over the translation. No statement is proved here.
-/
import Derived.Test.YthkieoedidpkaaaVcRefB
import Derived.Deep.RegionLaw
namespace Go.Proofs.Ythkieoedidpkaaa
open Go.RowKit Go.Maps Go.WideMaps

theorem step_append_run {ops : Array Oper} {o : Oper} {a : Act} {w : World} {K : Act → World → Prop} {Q : Exit → Act → World → Prop} {E : Prop} (hgd : o.guard = none) (s x : Operand) (t : TypeId)
    (ho : o.op = .call { callee := .builtin .append, args := #[s, x], argTypes := #[t, t] }) (vs vx v' : Value) (w' : World) (hs : a.eval s = vs) (hx : a.eval x = vx)
    (hrun : (Builtin.append_ #[t, t] o.type #[vs, vx]).run Try.prog w = .ok v' w') (hK : K (a.put o.dst v') w') :
    if Region.wanted o (yielded ops a.tmps) = true then Oper.wp Try.prog o a w K Q else E := by
  have hw : Region.wanted o (yielded ops a.tmps) = true := by simp [Region.wanted, hgd]
  rw [if_pos hw]
  unfold Oper.wp
  simp [execOp, ho, resolve, invoke, builtin, hs, hx, hrun, Result.andThen]
  exact hK
theorem step_append_eq {ops : Array Oper} {o : Oper} {a : Act} {w W : World} {K : Act → World → Prop} {Q : Exit → Act → World → Prop} {E : Prop} {vs vx v' : Value} {w' : World} {t : TypeId}
    (hrun : (Builtin.append_ #[t, t] t #[vs, vx]).run Try.prog W = .ok v' w') (hw : w = W) (s x : Operand) (hs : a.eval s = vs) (hx : a.eval x = vx) (hgd : o.guard = none) (ht : o.type = t)
    (ho : o.op = .call { callee := .builtin .append, args := #[s, x], argTypes := #[t, t] }) (hK : K (a.put o.dst v') w') :
    if Region.wanted o (yielded ops a.tmps) = true then Oper.wp Try.prog o a w K Q else E := by
  subst hw
  exact step_append_run hgd s x t ho vs vx v' w' hs hx (by rw [ht]; exact hrun) hK

/-- Two appends in a row: the list without its k-th. -/
theorem fl_cut {α : Type} {enc : α → List Value} {e T : TypeId} {K bytes : Nat} {z : Value} (hT : Try.prog.underlying T = some (.slice e)) (hi : (Try.prog.info? e).map (fun i => (i.zero, i.size, i.bytes)) = some (some z, K, bytes)) (hz : z.cells.size = K) (hK : 0 < K) (hb8 : bytes ≤ 1000) (hk : ∀ x, (enc x).length = K) (h1 : ∀ x u, u ∈ enc x → u.oneCell' = true)
    {w : World} {g cap : Nat} {l : List α} (h : FL e K enc 0 w (.slice (some ⟨g, 0, none⟩) l.length cap) l) (hlen : l.length ≤ 100000) {k : Nat} {n : α} (hkk : l[k]? = some n) (a2 : Addr) (c2 : Nat) (ha2 : k + 1 < l.length → a2 = ⟨g, (k + 1) * K, none⟩) :
    ∃ (g1 c1 : Nat) (w1 : World) (g3 c3 : Nat) (w2 : World),
      (Builtin.append_ #[T, T] T #[.slice (some ⟨w.heap.size, 0, none⟩) 0 0, .slice (some ⟨g, 0, none⟩) k cap]).run Try.prog (w.alloc (.cells #[] e)).drew = .ok (.slice (some ⟨g1, 0, none⟩) k c1) w1 ∧
      (Builtin.append_ #[T, T] T #[.slice (some ⟨g1, 0, none⟩) k c1, .slice (some a2) (l.length - (k + 1)) c2]).run Try.prog w1 = .ok (.slice (some ⟨g3, 0, none⟩) (l.length - 1) c3) w2 ∧
      Fr none' w w1 ∧ Fr none' w w2 ∧ w.heap.size ≤ g3 ∧ FL e K enc 0 w2 (.slice (some ⟨g3, 0, none⟩) (l.length - 1) c3) (l.take k ++ l.drop (k + 1)) := by
  have hkl : k < l.length := by
    rcases Nat.lt_or_ge k l.length with h' | h'
    · exact h'
    · rw [List.getElem?_eq_none h'] at hkk; cases hkk
  obtain ⟨hl0, hh | ⟨g', cap', cur, hv', hb, hg, hc, hm, hs, ht⟩⟩ := h
  · cases hh.1
  · simp only [Value.slice.injEq, Option.some.injEq, Addr.mk.injEq, and_true, true_and] at hv'
    obtain ⟨rfl, rfl⟩ := hv'
    have hgb : g < w.heap.size := Row.lt (show Row w g cur _ from hg)
    have cells : ∀ (w' : World), w'.heap[g]? = w.heap[g]? → ∀ i u, (l.flatMap enc)[i]? = some u → w'.cell? ⟨g, i, none⟩ = some u := fun w' e' i u hu => by
      have hr : Row w' g cur e := e'.trans hg
      rw [hr.cell]
      rw [← ht, List.getElem?_take] at hu
      split at hu
      · simpa using hu
      · cases hu
    cases hq : Try.prog.info? e with
    | none => simp [hq] at hi
    | some i =>
      rw [hq] at hi
      simp only [Option.map_some, Option.some.injEq, Prod.mk.injEq] at hi
      obtain ⟨hz0, hsz, hby⟩ := hi
      have f0 := ((Fr.refl none' w).alloc (.cells #[] e)).drew
      have o0 : (w.alloc (.cells #[] e)).drew.ownsRow w.heap.size e K (.slice (some ⟨w.heap.size, 0, none⟩) 0 0) 0 [] :=
        ⟨by simp, Or.inr ⟨w.heap.size, 0, #[], rfl, Nat.le_refl _, row_alloc w _ _, by omega, by simp only [maxLen]; omega, by simp, by simp⟩⟩
      have one : ∀ (m : List α), ∀ u ∈ m.flatMap enc, u.oneCell' = true := fun m u hu => by
        obtain ⟨x, _, hx⟩ := List.mem_flatMap.1 hu
        exact h1 x u hx
      have tk : l.flatMap enc = (l.take k).flatMap enc ++ (enc n ++ (l.drop (k + 1)).flatMap enc) := by
        have e1 : l = l.take k ++ (n :: l.drop (k + 1)) := by
          have := List.take_append_drop k l
          rw [List.drop_eq_getElem_cons hkl] at this
          have e2 : l[k] = n := by rw [List.getElem?_eq_getElem hkl] at hkk; exact Option.some.inj hkk
          rw [e2] at this
          exact this.symm
        conv => lhs; rw [e1]
        rw [List.flatMap_append, List.flatMap_cons]
      have l1 : ((l.take k).flatMap enc).length = k * K := by rw [ff_len hk, List.length_take, Nat.min_eq_left (by omega)]
      have l2 : ((l.drop (k + 1)).flatMap enc).length = (l.length - (k + 1)) * K := by rw [ff_len hk, List.length_drop]
      have lk : k * K + K ≤ l.length * K := by
        have := Nat.mul_le_mul_right K (Nat.succ_le_of_lt hkl)
        rw [Nat.succ_mul] at this
        exact this
      obtain ⟨v1, w1, r1, o1, gr1, nil1⟩ := run_append_own (P := Try.prog) (w := (w.alloc (.cells #[] e)).drew) w.heap.size T T e i _ K bytes hT hq hz0 hsz hby hz hK _ 0 [] o0 ⟨g, 0, none⟩ k cap ((l.take k).flatMap enc) l1
        (fun j u hu => by
          rw [add_lit', Nat.zero_add]
          exact cells _ (f0.block g hgb (fun h => h)) j u (by rw [tk, List.getElem?_append_left (by rcases Nat.lt_or_ge j ((l.take k).flatMap enc).length with h' | h'; exact h'; rw [List.getElem?_eq_none h'] at hu; cases hu)]; exact hu))
        (one _) (by simp only [maxLen]; omega) (Nat.le_trans (Nat.mul_le_mul_left _ hb8) (by omega)) f0.size
      have f1 : Fr none' w w1 := f0.newer (fr_map (by exact gr1)) (Nat.le_refl _)
      obtain ⟨_, hn1 | ⟨g1, c1, cur1, hv1, hb1, hg1, hc1, hm1, hs1, ht1⟩⟩ := id o1
      · exact absurd (nil1.mp hn1.1).1 (by simp)
      · rw [Nat.zero_add] at hv1
        subst hv1
        obtain ⟨v2, w2, r2, o2, gr2, nil2⟩ := run_append_own (P := Try.prog) (w := w1) w.heap.size T T e i _ K bytes hT hq hz0 hsz hby hz hK _ (0 + k) _ (by rw [Nat.zero_add] at o1 ⊢; exact o1) a2 (l.length - (k + 1)) c2 ((l.drop (k + 1)).flatMap enc) l2
          (fun j u hu => by
            have hjl : j < ((l.drop (k + 1)).flatMap enc).length := by rcases Nat.lt_or_ge j ((l.drop (k + 1)).flatMap enc).length with h' | h'; exact h'; rw [List.getElem?_eq_none h'] at hu; cases hu
            have hkk' : k + 1 < l.length := by
              rcases Nat.lt_or_ge (k + 1) l.length with h' | h'
              · exact h'
              · rw [l2, show l.length - (k + 1) = 0 by omega, Nat.zero_mul] at hjl
                omega
            rw [ha2 hkk', add_lit']
            refine cells _ (f1.block g hgb (fun h => h)) _ u ?_
            have e3 : (enc n).length = K := hk n
            have e4 : (k + 1) * K = k * K + K := Nat.succ_mul k K
            rw [tk, List.getElem?_append_right (by omega), List.getElem?_append_right (by omega), l1, e3, show (k + 1) * K + j - k * K - K = j by omega]
            exact hu)
          (one _) (by simp only [maxLen]; omega) (Nat.le_trans (Nat.mul_le_mul_left _ hb8) (by omega)) f1.size
        have hb1' : w.heap.size ≤ g1 := hb1
        have f2 : Fr none' w w2 := f1.newer (fr_map (by exact gr2)) hb1'
        obtain ⟨_, hn2 | ⟨g3, c3, cur3, hv3, hb3, hg3, hc3, hm3, hs3, ht3⟩⟩ := id o2
        · exact absurd (nil2.mp hn2.1).1 (by simp)
        · have e4 : 0 + k + (l.length - (k + 1)) = l.length - 1 := by omega
          rw [e4] at hv3 o2
          subst hv3
          refine ⟨g1, c1, w1, g3, c3, w2, r1, r2, f1, f2, hb3, ?_⟩
          have e5 : (l.take k ++ l.drop (k + 1)).length = l.length - 1 := by rw [List.length_append, List.length_take, List.length_drop]; omega
          have : FL e K enc w.heap.size w2 (.slice (some ⟨g3, 0, none⟩) (l.length - 1) c3) (l.take k ++ l.drop (k + 1)) := by
            unfold FL
            rw [e5, List.flatMap_append]
            exact o2
          exact this.low (Nat.zero_le _)
theorem info_one : (Try.prog.info? 62).map (fun i => (i.zero, i.size, i.bytes)) = some (some (.agg #[.int .i64 0, .int .i64 0, .int .u32 0, .int .u32 0, .int .u32 0, .int .u32 0, .int .u32 0, .int .u32 0, .int .u32 0, .int .u32 0, .pointer none]), 11, 56) := by kernel_rfl

theorem flt_cut : ∀ {L : List Vc} {j : Nat} {x : Vc}, L.Pairwise (fun a b => a.id ≠ b.id) → L[j]? = some x → L.filter (fun y => !(y.id == x.id)) = L.take j ++ L.drop (j + 1)
  | [], j, x, _, h => by simp at h
  | a :: L, 0, x, g, h => by
    simp at h; subst h
    rw [List.pairwise_cons] at g
    rw [List.filter_cons, if_neg (by simp)]
    show _ = L
    exact List.filter_eq_self.2 fun y hy => by
      have : y.id ≠ a.id := fun e => g.1 y hy e.symm
      simpa using this
  | a :: L, j + 1, x, g, h => by
    rw [List.pairwise_cons] at g
    have h' : L[j]? = some x := by simpa using h
    have hm := g.1 x (List.mem_of_getElem? h')
    rw [List.filter_cons, if_pos (by simpa using hm), flt_cut g.2 h']
    rfl
section
variable {w w' : World} {q : Qd} {S : Vp}
theorem IsD.setLd (h : IsD w q S) (v : Int) (hg : GoodP { S with ld := v }) : ChD w q (w.setCell ⟨q.b, 2, none⟩ (.int .i64 v)) q { S with ld := v } := by
  have fr := fr_set w q.b 2 (.int .i64 v) (Fr.refl (at' q.b) w)
  have r := h.row.setCell 2 (.int .i64 v)
  refine ⟨⟨r, fl_set h.fl h.row (by decide), h.eq, fun z hz => (h.vs z hz).keep fr (fun e => ?_), h.ne, hg⟩, fr.mono (fun k _ e => Or.inl e), fun k hk => Or.inl hk, rfl⟩
  obtain ⟨cs, rz⟩ := rv_row (h.vs z hz)
  have e : z.2 = q.b := e
  rw [e] at rz
  exact absurd (row_ty rz h.row) (by decide)
/-- The list without one, stored. -/
theorem IsD.cut (h : IsD w q S) {j : Nat} {y : Vc × Nat} (hj : q.D[j]? = some y) (hl : S.ld ≠ y.1.id) (hh : hasB S y.1.id = true) {v : Value} (f2 : Fr none' w w') (hg : ∀ k, some k = v.ownBlock → w.heap.size ≤ k) (hfl : FL 62 11 encO 0 w' v (q.D.take j ++ q.D.drop (j + 1))) :
    ChD w q (w'.setCell ⟨q.b, 0, none⟩ v) ⟨q.b, v, q.D.take j ++ q.D.drop (j + 1)⟩ (drpS S y.1.id) := by
  have h2 := h.keep0 f2
  have hd := good_drp h.good y.1.id
  have hS : drpS S y.1.id = { S with L := S.L.filter (fun x => !(x.id == y.1.id)) } := by
    unfold drpS
    rw [if_pos hh, if_neg hl]
  rw [hS] at hd ⊢
  have fr := fr_set w' q.b 0 v (Fr.refl (at' q.b) w')
  have hone : (q.D.map (·.1)).Pairwise (fun a b => a.id ≠ b.id) := by rw [← h.eq]; exact h.good.one
  have sub : ∀ z ∈ q.D.take j ++ q.D.drop (j + 1), z ∈ q.D := fun z hz => by
    rcases List.mem_append.1 hz with hz | hz
    · exact List.mem_of_mem_take hz
    · exact List.mem_of_mem_drop hz
  have sl : (q.D.take j ++ q.D.drop (j + 1)).Sublist q.D := by
    rw [← List.eraseIdx_eq_take_drop_succ]
    exact List.eraseIdx_sublist ..
  refine ⟨⟨h2.row.setCell 0 v, fl_set hfl h2.row (by decide), ?_, fun z hz => (h2.vs z (sub z hz)).keep fr (fun e => ?_), h.ne.sublist sl, hd⟩, (f2.mono (fun _ _ h => h.elim)).trans (fr.mono (fun k _ e => Or.inl e)), fun k hk => ?_, rfl⟩
  · show S.L.filter (fun x => !(x.id == y.1.id)) = (q.D.take j ++ q.D.drop (j + 1)).map (·.1)
    rw [h.eq, flt_cut hone (j := j) (x := y.1) (by rw [List.getElem?_map, hj]; rfl), List.map_append, List.map_take, List.map_drop]
  · obtain ⟨cs, rz⟩ := rv_row (h2.vs z (sub z hz))
    have e : z.2 = q.b := e
    rw [e] at rz
    exact absurd (row_ty rz h2.row) (by decide)
  · rcases hk with hk | hk | ⟨z, hz, e⟩
    · exact Or.inl (Or.inl hk)
    · exact Or.inr (hg k hk)
    · exact Or.inl (Or.inr (Or.inr ⟨z, sub z hz, e⟩))
end
theorem ofI_cases {S : Vp} (g : GoodP S) (t : Int) : ofI S t = -1 ∨ 0 ≤ ofI S t := by
  unfold ofI
  split
  · cases h : ofO S t with
    | none => exact Or.inl rfl
    | some x =>
      have := g.ids x (List.mem_of_find?_eq_some h)
      exact Or.inr this.1
  · exact Or.inl rfl
set_option maxRecDepth 100000 in
set_option maxHeartbeats 4000000 in
theorem dbind_any (w : World) (q : Qd) (S : Vp) (h : IsD w q S) (id t : Int) : Calls Try.prog 24 #[pv q.b, .int .i64 id, .int .i64 t] w fun e w' => ∃ q', e = .returned (.int .i64 (binE S id t)) ∧ ChD w q w' q' (binS S id t) := by
  have c0 : w.cell? ⟨q.b, 0, none⟩ = some q.L := h.row.cell 0
  have hlen := h.dlen
  obtain ⟨a, cap, hv, hn⟩ := h.fl.form encO_len
  have X := dat_any w q S h id
  have HV : Hid (q.L = .slice a q.D.length cap) := hv
  have HN : Hid (∀ i n, q.D[i]? = some n → ∃ g, a = some ⟨g, 0, none⟩ ∧ (∀ r u, (encO n)[r]? = some u → w.cell? ⟨g, i * 11 + r, none⟩ = some u) ∧ ∀ r, w.frozen? ⟨g, r, none⟩ = false) := hn
  rw [hv] at c0
  have HD : Hid (IsD w q S) := h
  have HC : Hid (ChD w q w q S) := ChD.same h (Fr.refl _ _)
  clear hn hv h
  obtain ⟨N, hNl⟩ : ∃ N, N = q.D.length := ⟨_, rfl⟩
  rw [← hNl] at c0 hlen
  have HL : Hid (N = q.D.length) := hNl
  clear hNl
  have XO := dofq_any w q S HD.out t
  go_enter Try.func24, Try.ntmps24
  go_wp2_with fail
  refine X.mono ?_
  clear X
  rintro e w1 ⟨rfl, i, rfl, hp⟩
  rcases hp with ⟨hn, rfl⟩ | ⟨j, y, hj, hid, hf, rfl⟩
  · have HE : Hid (binE S id t = 181 ∧ binS S id t = S) := by
      have hh : hasB S id = false := by unfold hasB; rw [hn]; rfl
      have h1 : binE S id t = 181 := by unfold binE; rw [hh]; rfl
      exact ⟨h1, by unfold binS; rw [h1]; rfl⟩
    clear hn XO
    go_wp2_with (go_at_call 50; refine (dis_any _ _).mono ?_; rintro e w2 ⟨rfl, rfl⟩)
    go_ret
    rw [HE.out.1, HE.out.2]
    exact ⟨_, rfl, HC.out⟩
  · have hjN : j < N := by
      rw [HL.out]
      rcases Nat.lt_or_ge j q.D.length with h' | h'
      · exact h'
      · rw [List.getElem?_eq_none h'] at hj; cases hj
    obtain ⟨g, rfl, hc, hz⟩ := HN.out j y hj
    have HJ : Hid (q.D[j]? = some y ∧ y.1.id = id ∧ fnd S.L id = some y.1) := ⟨hj, hid, hf⟩
    have hh : hasB S id = true := has_iff.2 ⟨_, hf⟩
    have j0 : decide ((j : Int) < 0) = false := decide_eq_false (by omega)
    cases hr : rgB t 0 1023 with
    | false =>
      have HE : Hid (binE S id t = 1 ∧ binS S id t = S) := by
        have h1 : binE S id t = 1 := by unfold binE; rw [hh, hr]; rfl
        exact ⟨h1, by unfold binS; rw [h1]; rfl⟩
      have HR : Hid (rgB t 0 1023 = false) := hr
      clear hc hz hj hid hf hh XO hr
      go_wp2_with (go_at_call 50; refine (dis_any _ _).mono ?_; rintro e w2 ⟨rfl, rfl⟩; rw [HR.out])
      go_ret
      rw [HE.out.1, HE.out.2]
      exact ⟨_, rfl, HC.out⟩
    | true =>
      have HR : Hid (rgB t 0 1023 = true) := hr
      have d1 : w1.cell? ⟨g, j * 11 + 1, none⟩ = some (.int .i64 y.1.th) := hc 1 _ rfl
      have z1 : w1.frozen? ⟨g, j * 11 + 1, none⟩ = false := hz _
      have hth := HD.out.good.th y.1 (HD.out.good.pos hf).2.2.1
      have hoc := ofI_cases HD.out.good t
      have h1 : binE S id t = if y.1.th = -1 ∧ ofI S t = -1 then 0 else 180 := by unfold binE thrI; rw [hh, hr, hf]; rfl
      by_cases ht : y.1.th = -1
      · by_cases ho : ofI S t = -1
        · rw [if_pos ⟨ht, ho⟩] at h1
          have HE : Hid (binE S id t = 0) := h1
          have hg := good_bin HD.out.good id t
          have hs : binS S id t = { S with L := upd S.L id (setT t) } := by unfold binS; rw [if_pos h1]
          rw [hs] at hg
          have HZ : Hid (∃ q', ChD w1 q (w1.setCell ⟨g, j * 11 + 1, none⟩ (.int .i64 t)) q' (binS S id t)) := by
            rw [hs, ← hid]
            rw [← hid] at hg
            exact ⟨_, HD.out.set (f := setT t) (r := 1) hj HV.out (by omega) rfl rfl hg⟩
          have e1 : decide (0 ≤ y.1.th) = false := decide_eq_false (by omega)
          have e2 : decide (0 ≤ ofI S t) = false := decide_eq_false (by omega)
          clear hc hz hj hid hf hh hth ht hg hs h1 hr hoc ho
          generalize ofI S t = O at *
          go_wp2_with (go_at_call 50; refine (dis_any _ _).mono ?_; rintro e w2 ⟨rfl, rfl⟩; rw [HR.out])
          refine XO.mono ?_
          clear XO
          rintro e w2 ⟨rfl, rfl⟩
          go_wp2_with fail
          go_ret
          rw [HE.out]
          obtain ⟨q', hq⟩ := HZ.out
          exact ⟨q', rfl, hq⟩
        · rw [if_neg (fun h => ho h.2)] at h1
          have HE : Hid (binE S id t = 180 ∧ binS S id t = S) := ⟨h1, by unfold binS; rw [h1]; rfl⟩
          have e1 : decide (0 ≤ y.1.th) = false := decide_eq_false (by omega)
          have e2 : decide (0 ≤ ofI S t) = true := decide_eq_true (by omega)
          clear hc hz hj hid hf hh hth ht h1 hr hoc ho
          generalize ofI S t = O at *
          go_wp2_with (go_at_call 50; refine (dis_any _ _).mono ?_; rintro e w2 ⟨rfl, rfl⟩; rw [HR.out])
          refine XO.mono ?_
          clear XO
          rintro e w2 ⟨rfl, rfl⟩
          go_wp2_with fail
          go_ret
          rw [HE.out.1, HE.out.2]
          exact ⟨_, rfl, HC.out⟩
      · rw [if_neg (fun h => ht h.1)] at h1
        have HE : Hid (binE S id t = 180 ∧ binS S id t = S) := ⟨h1, by unfold binS; rw [h1]; rfl⟩
        have e1 : decide (0 ≤ y.1.th) = true := decide_eq_true (by omega)
        clear hc hz hj hid hf hh hth ht h1 hr hoc
        generalize ofI S t = O at *
        go_wp2_with (go_at_call 50; refine (dis_any _ _).mono ?_; rintro e w2 ⟨rfl, rfl⟩; rw [HR.out])
        refine XO.mono ?_
        clear XO
        rintro e w2 ⟨rfl, rfl⟩
        go_wp2_with fail
        go_ret
        rw [HE.out.1, HE.out.2]
        exact ⟨_, rfl, HC.out⟩

end Go.Proofs.Ythkieoedidpkaaa
