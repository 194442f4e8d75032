/-
  The contract of the document's DropNode over the translation. No statement is proved here.
-/
import Derived.Test.YtibdkadojoeopaaCsRefB
import Derived.Deep.RegionLaw
namespace Go.Proofs.Ytibdkadojoeopaa
open Go.RowKit Go.Maps Go.WideMaps

theorem step_append_run {ops : Array Oper} {o : Oper} {a : Act} {w : World} {K : Act → World → Prop} {Q : Exit → Act → World → Prop} {E : Prop} (hgd : o.guard = none) (s x : Operand) (t : TypeId)
    (ho : o.op = .call { callee := .builtin .append, args := #[s, x], argTypes := #[t, t] }) (vs vx v' : Value) (w' : World) (hs : a.eval s = vs) (hx : a.eval x = vx)
    (hrun : (Builtin.append_ #[t, t] o.type #[vs, vx]).run Try.prog w = .ok v' w') (hK : K (a.put o.dst v') w') :
    if Region.wanted o (yielded ops a.tmps) = true then Oper.wp Try.prog o a w K Q else E := by
  have hw : Region.wanted o (yielded ops a.tmps) = true := by simp [Region.wanted, hgd]
  rw [if_pos hw]
  unfold Oper.wp
  simp [execOp, ho, resolve, invoke, builtin, hs, hx, hrun, Result.andThen]
  exact hK

set_option maxRecDepth 100000 in
set_option maxHeartbeats 1000000 in
theorem rdrop_none (w : World) (q : Qb) (L : List Nd) (h : IsQ w q L) (id : Int) (hf : fnd L id = none) : Calls Try.prog 28 #[.pointer (some ⟨q.b, 0, none⟩), .int .i64 id] w fun e w' => e = .returned (.int .i64 120) ∧ w' = w := by
  have hA := rat_any w q L h id
  clear h
  go_enter Try.func28, Try.ntmps28
  go_wp2_with fail
  refine hA.mono ?_
  rintro e w1 ⟨rfl, ⟨hf', rfl⟩ | ⟨i, n, hf', hi, rfl⟩⟩
  · clear hA hf hf'
    go_wp2_with fail
    go_ret
    exact ⟨rfl, rfl⟩
  · rw [hf] at hf'; cases hf'

/-- Two appends in a row: the row without its k-th node. -/
theorem drop_runs {w : World} {q : Qb} {L : List Nd} (h : IsQ w q L) {k : Nat} {n : Nd} (hk : L[k]? = some n) {g cap : Nat} (hv : q.v = .slice (some ⟨g, 0, none⟩) L.length cap) (a2 : Addr) (c2 : Nat) (ha2 : k + 1 < L.length → a2 = ⟨g, (k + 1) * 3, none⟩) :
    ∃ (g1 c1 : Nat) (w1 : World) (g3 c3 : Nat) (w2 : World),
      (Builtin.append_ #[27, 27] 27 #[.slice (some ⟨w.heap.size, 0, none⟩) 0 0, .slice (some ⟨g, 0, none⟩) k cap]).run Try.prog (w.alloc (.cells #[] 73)).drew = .ok (.slice (some ⟨g1, 0, none⟩) k c1) w1 ∧
      (Builtin.append_ #[27, 27] 27 #[.slice (some ⟨g1, 0, none⟩) k c1, .slice (some a2) (L.length - (k + 1)) c2]).run Try.prog w1 = .ok (.slice (some ⟨g3, 0, none⟩) (L.length - 1) c3) w2 ∧
      IsQ w1 q L ∧ IsQ w2 q L ∧ Fr none' w w2 ∧ w.heap.size ≤ g3 ∧ w2.ownsRow 0 73 3 (.slice (some ⟨g3, 0, none⟩) (L.length - 1) c3) (del L n.id).length (flatN q.C (del L n.id)) := by
  have hkl : k < L.length := by
    rcases Nat.lt_or_ge k L.length with h' | h'
    · exact h'
    · rw [List.getElem?_eq_none h'] at hk; cases hk
  have hlen := len_le h.good
  have hB := fun x hx => h.lt x hx
  obtain ⟨hl0, hh | ⟨g', cap', cur, hv', hb, hg, hc, hm, hs, ht⟩⟩ := h.own
  · rw [hv] at hh; cases hh.1
  · rw [hv] at hv'
    simp only [Value.slice.injEq, Option.some.injEq, Addr.mk.injEq, and_true, true_and] at hv'
    obtain ⟨rfl, rfl⟩ := hv'
    have hgb : g < w.heap.size := Row.lt (show Row w g cur _ from hg)
    have cells : ∀ (w' : World), w'.heap[g]? = w.heap[g]? → ∀ i u, (flatN q.C L)[i]? = some u → w'.cell? ⟨g, i, none⟩ = some u := fun w' e i u hu => by
      have hr : Row w' g cur 73 := e.trans hg
      rw [hr.cell]
      rw [← ht, List.getElem?_take] at hu
      split at hu
      · simpa using hu
      · cases hu
    have hi := info_node
    cases hq : Try.prog.info? 73 with
    | none => simp [hq] at hi
    | some i =>
      rw [hq] at hi
      simp only [Option.map_some, Option.some.injEq, Prod.mk.injEq] at hi
      obtain ⟨hz0, hsz, hby⟩ := hi
      have f0 := ((Fr.refl none' w).alloc (.cells #[] 73)).drew
      have o0 : (w.alloc (.cells #[] 73)).drew.ownsRow w.heap.size 73 3 (.slice (some ⟨w.heap.size, 0, none⟩) 0 0) 0 [] :=
        ⟨rfl, Or.inr ⟨w.heap.size, 0, #[], rfl, Nat.le_refl _, row_alloc w _ _, by omega, by simp only [maxLen]; omega, rfl, rfl⟩⟩
      have one : ∀ (M : List Nd) u, u ∈ flatN q.C M → u.oneCell' = true := fun M u hu => by
        unfold flatN at hu
        obtain ⟨m, _, hm⟩ := List.mem_flatMap.mp hu
        simp [ndV] at hm
        rcases hm with rfl | rfl | rfl <;> rfl
      have tk : flatN q.C L = flatN q.C (L.take k) ++ (ndV n (q.C n.id) ++ flatN q.C (L.drop (k + 1))) := by
        have e1 : L = L.take k ++ (n :: L.drop (k + 1)) := by
          have := List.take_append_drop k L
          rw [List.drop_eq_getElem_cons hkl] at this
          have e2 : L[k] = n := by rw [List.getElem?_eq_getElem hkl] at hk; exact Option.some.inj hk
          rw [e2] at this
          exact this.symm
        conv => lhs; rw [e1]
        rw [flatN_append, flatN_cons]
      have l1 : (flatN q.C (L.take k)).length = k * 3 := by rw [flatN_len, List.length_take, Nat.min_eq_left (by omega)]
      have l2 : (flatN q.C (L.drop (k + 1))).length = (L.length - (k + 1)) * 3 := by rw [flatN_len, List.length_drop]
      obtain ⟨v1, w1, r1, o1, gr1, nil1⟩ := run_append_own (P := Try.prog) (w := (w.alloc (.cells #[] 73)).drew) w.heap.size 27 27 73 i _ 3 40 Try.underlying27 hq hz0 hsz hby rfl (by omega) _ 0 [] o0 ⟨g, 0, none⟩ k cap (flatN q.C (L.take k)) l1
        (fun j u hu => by
          rw [add_lit', Nat.zero_add]
          exact cells _ (f0.block g hgb (fun h => h)) j u (by rw [tk, List.getElem?_append_left (by rcases Nat.lt_or_ge j (flatN q.C (L.take k)).length with h' | h'; exact h'; rw [List.getElem?_eq_none h'] at hu; cases hu)]; exact hu))
        (one _) (by simp only [maxLen]; omega) (by omega) f0.size
      have f1 : Fr none' w w1 := f0.newer (fr_map (by exact gr1)) (Nat.le_refl _)
      have h1 := h.keep0 f1
      obtain ⟨_, hn1 | ⟨g1, c1, cur1, hv1, hb1, hg1, hc1, hm1, hs1, ht1⟩⟩ := id o1
      · exact absurd (nil1.mp hn1.1).1 (by simp)
      · rw [Nat.zero_add] at hv1
        subst hv1
        obtain ⟨v2, w2, r2, o2, gr2, nil2⟩ := run_append_own (P := Try.prog) (w := w1) w.heap.size 27 27 73 i _ 3 40 Try.underlying27 hq hz0 hsz hby rfl (by omega) _ (0 + k) _ (by rw [Nat.zero_add] at o1 ⊢; exact o1) a2 (L.length - (k + 1)) c2 (flatN q.C (L.drop (k + 1))) l2
          (fun j u hu => by
            have hjl : j < (flatN q.C (L.drop (k + 1))).length := by rcases Nat.lt_or_ge j (flatN q.C (L.drop (k + 1))).length with h' | h'; exact h'; rw [List.getElem?_eq_none h'] at hu; cases hu
            rw [ha2 (by omega), add_lit']
            refine cells _ (f1.block g hgb (fun h => h)) _ u ?_
            have e3 : (ndV n (q.C n.id)).length = 3 := rfl
            rw [tk, List.getElem?_append_right (by omega), List.getElem?_append_right (by omega), l1, e3, show (k + 1) * 3 + j - k * 3 - 3 = j by omega]
            exact hu)
          (one _) (by simp only [maxLen]; omega) (by omega) f1.size
        have hb1' : w.heap.size ≤ g1 := hb1
        have f2 : Fr none' w w2 := f1.newer (fr_map (by exact gr2)) hb1'
        obtain ⟨_, hn2 | ⟨g3, c3, cur3, hv3, hb3, hg3, hc3, hm3, hs3, ht3⟩⟩ := id o2
        · exact absurd (nil2.mp hn2.1).1 (by simp)
        · have e4 : 0 + k + (L.length - (k + 1)) = L.length - 1 := by omega
          rw [e4] at hv3 o2
          subst hv3
          refine ⟨g1, c1, w1, g3, c3, w2, r1, r2, h1, h.keep0 f2, f2, hb3, ?_⟩
          have e5 : (del L n.id).length = L.length - 1 := by have := len_del h.good hk; omega
          rw [e5, del_at h.good hk, flatN_append]
          exact ownsRow_zero o2

set_option maxRecDepth 100000 in
set_option maxHeartbeats 2000000 in
theorem rdrop_full (w : World) (q : Qb) (L : List Nd) (h : IsQ w q L) (id : Int) (y : Nd) (hf : fnd L id = some y) (hF : fulN y (2 ^ y.rx) = true) : Calls Try.prog 28 #[.pointer (some ⟨q.b, 0, none⟩), .int .i64 id] w fun e w' => e = .returned (.int .i64 130) ∧ w' = w := by
  have hA := rat_any w q L h id
  have gy := h.good.nd hf
  have h16 := (pow4 gy.lo gy.hi).2
  have HH : Hid (IsQ w q L) := h
  clear h gy
  go_enter Try.func28, Try.ntmps28
  go_wp2_with fail
  refine hA.mono ?_
  rintro e w1 ⟨rfl, ⟨hf', rfl⟩ | ⟨i, n, hf', hi, rfl⟩⟩
  · rw [hf] at hf'; cases hf'
  · rw [hf] at hf'
    cases hf'
    obtain ⟨g, cap, N, S, hS, c0, hlt, c2, sl, _⟩ := HH.out.atN hi
    rw [← hS] at hF h16
    have HF : Hid (fulN y S = true) := hF
    generalize q.C y.id = G at *
    clear hA hf hi hF hS
    go_wp2_with fail
    go_loopw [6] (fun i wr => ∃ j : Nat, j ≤ S ∧ i = .int .i64 (j : Int) ∧ Hid (wr = w1 ∧ fulN y j = false)) (fun i _ => S - (intOf i).toNat)
    case atStart => exact ⟨0, by omega, rfl, rfl, rfl⟩
    case round =>
      obtain ⟨j, hj, rfl, hI⟩ := hrel
      obtain rfl : wr = w1 := hI.out.1
      by_cases hjS : j < S
      · obtain ⟨d0, d1, d2, d3, d4, d5, d6, d7⟩ := sl.cells j hjS
        clear d1 d2 d3 d4 d5 d6 d7
        have HX : Hid (fulN y (j + 1) = (fulN y j || (y.sl j).k != 0)) := rfl
        generalize (y.sl j).k = kk at *
        cases hb : (kk != 0) with
        | true =>
          go_wp2_with fail
          go_ret
          exact ⟨rfl, rfl⟩
        | false =>
          rw [hb] at HX
          go_wp2_with fail
          go_roundw
          case rel => exact ⟨j + 1, by omega, by go_num, trivial, by rw [HX.out, hI.out.2]; rfl⟩
          case measure => simp [intOf]; omega
      · obtain rfl : j = S := by omega
        have := hI.out.2
        rw [HF.out] at this
        cases this

/-- The row without one node, stored. -/
theorem IsQ.cut {w w2 : World} {q : Qb} {L : List Nd} (h : IsQ w q L) {k : Int} {g3 c3 n3 : Nat} (h2 : IsQ w2 q L) (f2 : Fr none' w w2) (hg : w.heap.size ≤ g3) (o : w2.ownsRow 0 73 3 (.slice (some ⟨g3, 0, none⟩) n3 c3) (del L k).length (flatN q.C (del L k))) : ChgQ w q L (w2.setCell ⟨q.b, 0, none⟩ (.slice (some ⟨g3, 0, none⟩) n3 c3)) (del L k) := by
  have hl : ∀ m, m ∈ del L k → m ∈ L := fun m hm => (mem_del.mp hm).1
  have hb := h.lt q.b (Or.inl rfl)
  have f : Fr (at' q.b) w2 (w2.setCell ⟨q.b, 0, none⟩ (.slice (some ⟨g3, 0, none⟩) n3 c3)) := fr_set w2 q.b 0 _ (Fr.refl _ _)
  have hnb : some q.b ≠ (Value.slice (some ⟨g3, 0, none⟩) n3 c3).ownBlock := fun e => by
    have : q.b = g3 := by simpa [Value.ownBlock] using e
    omega
  have r' : Row (w2.setCell ⟨q.b, 0, none⟩ (.slice (some ⟨g3, 0, none⟩) n3 c3)) q.b #[.slice (some ⟨g3, 0, none⟩) n3 c3] 29 := by simpa using h2.row.setCell 0 (.slice (some ⟨g3, 0, none⟩) n3 c3)
  have o' := ownsRow_at (w' := w2.setCell ⟨q.b, 0, none⟩ (.slice (some ⟨g3, 0, none⟩) n3 c3)) o (fun x hx hl => f.block x hl (fun e => hnb (by rw [← (show x = q.b from e)]; exact hx)))
  have sl' : ∀ m, m ∈ del L k → SlB (w2.setCell ⟨q.b, 0, none⟩ (.slice (some ⟨g3, 0, none⟩) n3 c3)) (q.C m.id) (2 ^ m.rx) m.sl := fun m hm => (h2.sl m (hl m hm)).keep f (fun e => (h.ns m (hl m hm)).1 e)
  refine ⟨⟨q.b, .slice (some ⟨g3, 0, none⟩) n3 c3, q.C⟩, rfl, ⟨r', o', sl', fun m hm m' hm' e => h.inj m (hl m hm) m' (hl m' hm') e, hnb, fun m hm => ⟨(h.ns m (hl m hm)).1, sl_not_own (sl' m hm) o'⟩, good_del h.good k⟩, ?_, fun x hx => ?_⟩
  · exact (f2.mono (fun _ _ h => h.elim)).setCell (p := ⟨q.b, 0, none⟩) (Or.inr (Or.inl rfl)) _
  · rcases hx with rfl | hx | ⟨m, hm, rfl⟩
    · exact Or.inl (Or.inl rfl)
    · right
      have : x = g3 := by simpa [Value.ownBlock] using hx
      omega
    · exact Or.inl (Or.inr (Or.inr ⟨m, hl m hm, rfl⟩))

set_option maxRecDepth 100000 in
set_option maxHeartbeats 2000000 in
theorem rdrop_ok (w : World) (q : Qb) (L : List Nd) (h : IsQ w q L) (id : Int) (y : Nd) (hf : fnd L id = some y) (hF : fulN y (2 ^ y.rx) = false) : Calls Try.prog 28 #[.pointer (some ⟨q.b, 0, none⟩), .int .i64 id] w fun e w' => e = .returned (.int .i64 0) ∧ ChgQ w q L w' (del L id) := by
  have hA := rat_any w q L h id
  have gy := h.good.nd hf
  have h16 := (pow4 gy.lo gy.hi).2
  have HH : Hid (IsQ w q L) := h
  have HE : Hid ((y.id : Int) = id) := (fnd_mem hf).2
  have z0 := h.row.frozen 0
  have hlen := len_le h.good
  have hbl := h.lt q.b (Or.inl rfl)
  have HBl : Hid (q.b < w.heap.size) := hbl
  clear h gy hbl
  go_enter Try.func28, Try.ntmps28
  go_wp2_with fail
  refine hA.mono ?_
  rintro e w1 ⟨rfl, ⟨hf', rfl⟩ | ⟨i, n, hf', hi, rfl⟩⟩
  · rw [hf] at hf'; cases hf'
  · rw [hf] at hf'
    cases hf'
    obtain ⟨a, cap, hv, hcap, hn⟩ := HH.out.form
    obtain ⟨g, rfl, _, _, c2⟩ := hn i y hi
    have c0 := HH.out.cell
    rw [hv] at c0
    have sl := HH.out.sl y (fnd_mem hf).1
    obtain ⟨S, hS⟩ : ∃ S, S = 2 ^ y.rx := ⟨_, rfl⟩
    rw [← hS] at hF h16 c2 sl
    have HF : Hid (fulN y S = false) := hF
    have HI : Hid (L[i]? = some y) := hi
    have HV : Hid (q.v = .slice (some ⟨g, 0, none⟩) L.length cap) := hv
    have hlt : i < L.length := by
      rcases Nat.lt_or_ge i L.length with h' | h'
      · exact h'
      · rw [List.getElem?_eq_none h'] at hi; cases hi
    have HD := fun a2 c2 ha2 => drop_runs HH.out HI.out HV.out a2 c2 ha2
    have HD' : Hid (∀ (a2 : Addr) (c2 : Nat), (i + 1 < L.length → a2 = ⟨g, (i + 1) * 3, none⟩) → ∃ (g1 c1 : Nat) (w2 : World) (g3 c3 : Nat) (w3 : World),
      (Builtin.append_ #[27, 27] 27 #[.slice (some ⟨w1.heap.size, 0, none⟩) 0 0, .slice (some ⟨g, 0, none⟩) i cap]).run Try.prog (w1.alloc (.cells #[] 73)).drew = .ok (.slice (some ⟨g1, 0, none⟩) i c1) w2 ∧
      (Builtin.append_ #[27, 27] 27 #[.slice (some ⟨g1, 0, none⟩) i c1, .slice (some a2) (L.length - (i + 1)) c2]).run Try.prog w2 = .ok (.slice (some ⟨g3, 0, none⟩) (L.length - 1) c3) w3 ∧
      w2.cell? ⟨q.b, 0, none⟩ = some (.slice (some ⟨g, 0, none⟩) L.length cap) ∧ w3.cell? ⟨q.b, 0, none⟩ = some (.slice (some ⟨g, 0, none⟩) L.length cap) ∧ w3.frozen? ⟨q.b, 0, none⟩ = false ∧ ChgQ w1 q L (w3.setCell ⟨q.b, 0, none⟩ (.slice (some ⟨g3, 0, none⟩) (L.length - 1) c3)) (del L id)) := fun a2 c2 ha2 => by
      obtain ⟨g1, c1, w2, g3, c3, w3, r1, r2, q1, q2, f, hg3, o⟩ := HD a2 c2 ha2
      rw [HE.out] at o
      exact ⟨g1, c1, w2, g3, c3, w3, r1, r2, by rw [q1.cell, HV.out], by rw [q2.cell, HV.out], q2.row.frozen 0, HH.out.cut q2 f hg3 o⟩
    clear HD hn hv hi hf hF hS
    generalize L.length = M at *
    generalize q.C y.id = G at *
    go_wp2_with fail
    go_loopw [6] (fun i wr => ∃ j : Nat, j ≤ S ∧ i = .int .i64 (j : Int) ∧ Hid (wr = w1)) (fun i _ => S - (intOf i).toNat)
    case atStart => exact ⟨0, by omega, rfl, rfl⟩
    case round =>
      obtain ⟨j, hj, rfl, hI⟩ := hrel
      obtain rfl : wr = w1 := hI.out
      by_cases hjS : j < S
      · obtain ⟨d0, d1, d2, d3, d4, d5, d6, d7⟩ := sl.cells j hjS
        clear d1 d2 d3 d4 d5 d6 d7
        have hb : ((y.sl j).k != 0) = false := by
          cases hb : ((y.sl j).k != 0) with
          | false => rfl
          | true =>
            have := (fulN_iff y S).2 ⟨j, hjS, by simpa using hb⟩
            rw [HF.out] at this
            cases this
        generalize (y.sl j).k = kk at *
        go_wp2_with fail
        go_roundw
        case rel => exact ⟨j + 1, by omega, by go_num, trivial⟩
        case measure => simp [intOf]; omega
      · obtain rfl : j = S := by omega
        have cA := cell_keep ((Fr.refl none' wr).alloc (.cells #[] 73)) c0 (fun h => h)
        have k1 : i ≤ cap := by omega
        have k2 : i + 1 ≤ M := by omega
        have k3 : IntKind.i64.wrap ((i : Int) + 1) = (i : Int) + 1 := by rw [IntKind.wrap_i64]; omega
        have k4 : ((i : Int) + 1).toNat = i + 1 := by omega
        have k5 : (0 : Int) ≤ (i : Int) + 1 := by omega
        have k6 : (i : Int) + 1 ≤ (M : Int) := by omega
        by_cases hc : cap = i + 1
        · obtain ⟨g1, c1, w2, g3, c3, w3, hrun1, hrun2, e2, e3, e4, hC⟩ := HD'.out ⟨g, 0, none⟩ 0 (fun _ => by omega)
          obtain rfl : M = i + 1 := by omega
          subst hc
          have k7 : (i : Int) ≤ (i : Int) + 1 := by omega
          rw [show i + 1 - (i + 1) = 0 by omega, show i + 1 - 1 = i by omega] at hrun2
          rw [show i + 1 - 1 = i by omega] at hC
          have HC : Hid (ChgQ wr q L (w3.setCell ⟨q.b, 0, none⟩ (.slice (some ⟨g3, 0, none⟩) i c3)) (del L id)) := hC
          clear hC HD' HF HH HI HV sl hA
          go_wp2_with fail
          go_region_law (first | (refine step_append_run rfl (.tmp 39) (.tmp 45) 27 rfl _ _ _ _ rfl rfl hrun1 ?_) | (refine step_append_run rfl (.tmp 46) (.tmp 53) 27 rfl _ _ _ _ rfl rfl hrun2 ?_))
          all_goals go_wp2_with fail
          all_goals go_ret
          all_goals exact ⟨rfl, HC.out⟩
        · obtain ⟨g1, c1, w2, g3, c3, w3, hrun1, hrun2, e2, e3, e4, hC⟩ := HD'.out ⟨g, (i + 1) * 3, none⟩ (cap - (i + 1)) (fun _ => rfl)
          have HC : Hid (ChgQ wr q L (w3.setCell ⟨q.b, 0, none⟩ (.slice (some ⟨g3, 0, none⟩) (M - 1) c3)) (del L id)) := hC
          clear hC HD' HF HH HI HV sl hA
          go_wp2_with fail
          go_region_law (first | (refine step_append_run rfl (.tmp 39) (.tmp 45) 27 rfl _ _ _ _ rfl rfl hrun1 ?_) | (refine step_append_run rfl (.tmp 46) (.tmp 53) 27 rfl _ _ _ _ rfl rfl hrun2 ?_))
          all_goals go_wp2_with fail
          all_goals go_ret
          all_goals exact ⟨rfl, HC.out⟩

theorem rdrop_any (w : World) (q : Qb) (L : List Nd) (h : IsQ w q L) (id : Int) : Calls Try.prog 28 #[.pointer (some ⟨q.b, 0, none⟩), .int .i64 id] w fun e w' => e = .returned (.int .i64 (drE L id)) ∧ ChgQ w q L w' (drS L id) := by
  unfold drS drE
  cases hf : fnd L id with
  | none => exact (rdrop_none w q L h id hf).mono fun _ _ ⟨h1, h2⟩ => ⟨h1, by rw [h2]; exact ChgQ.same h (Fr.refl _ _)⟩
  | some y =>
    cases hF : fulN y (2 ^ y.rx) with
    | true => exact (rdrop_full w q L h id y hf hF).mono fun _ _ ⟨h1, h2⟩ => ⟨by simpa [hF] using h1, by rw [h2]; simpa [hF] using ChgQ.same h (Fr.refl _ _)⟩
    | false => exact (rdrop_ok w q L h id y hf hF).mono fun _ _ ⟨h1, h2⟩ => ⟨by simpa [hF] using h1, by simpa [hF] using h2⟩

theorem radd_any (w : World) (q : Qb) (L : List Nd) (h : IsQ w q L) (id rx : Int) : Calls Try.prog 27 #[.pointer (some ⟨q.b, 0, none⟩), .int .i64 id, .int .i64 rx] w fun e w' => e = .returned (.int .i64 (addE L id rx)) ∧ ChgQ w q L w' (addS L id rx) := by
  unfold addS addE
  cases ho : okA id rx with
  | false => exact (radd_arg w _ id rx ho).mono fun _ _ ⟨h1, h2⟩ => ⟨h1, by rw [h2]; exact ChgQ.same h (Fr.refl _ _)⟩
  | true =>
    cases hf : fnd L id with
    | some y => exact (radd_full w q L h id rx ho y hf).mono fun _ _ ⟨h1, h2⟩ => ⟨h1, by rw [h2]; exact ChgQ.same h (Fr.refl _ _)⟩
    | none =>
      obtain ⟨m, rfl⟩ := Int.eq_ofNat_of_zero_le (show 0 ≤ rx by have := (okA_iff.mp ho).2; omega)
      exact radd_ok w q L h id m ho hf

end Go.Proofs.Ytibdkadojoeopaa
