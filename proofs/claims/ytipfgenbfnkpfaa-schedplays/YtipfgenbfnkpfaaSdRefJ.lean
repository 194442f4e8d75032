/-
  The document's Ready and New over the translation. No statement is proved here.
-/
import Derived.Test.YtipfgenbfnkpfaaSdRl
namespace Go.Proofs.Ytipfgenbfnkpfaa
open Go.RowKit Go.Maps Go.WideMaps

def isQ (L : List Tk) (d p : Int) (x : Int) : Bool := match fnd L x with
  | some t => decide (t.d = d) && decide (t.p = p)
  | none => false

set_option maxRecDepth 100000 in
set_option maxHeartbeats 4000000 in
theorem rready_any (w : World) (q : Db) (S : Sd) (Q : List Int) (h : IsD w q S Q) (hl : Q.length ≤ 5000) (hq : ∀ x ∈ Q, ∃ t, fnd S.L x = some t) (d p : Int) :
    Calls Try.prog 40 #[.pointer (some ⟨q.b, 0, none⟩), .int .i64 d, .int .i64 p] w fun e w' => ∃ v', e = .returned v' ∧ Fr none' w w' ∧ NmS w w' v' (Q.filter (isQ S.L d p)) := by
  have HH : Hid (IsD w q S Q) := h
  have HQ : Hid (∀ x ∈ Q, ∃ t, fnd S.L x = some t) := hq
  obtain ⟨aq, cq, hqv, hqn⟩ := h.formQ
  obtain ⟨al, cl, hlv, hlc, hln⟩ := h.formL
  have hlen := len_le h.good
  have HC : Hid (∀ w1, Fr none' w w1 → w1.cell? ⟨q.b, 4, none⟩ = some (.slice aq Q.length cq) ∧ w1.cell? ⟨q.b, 3, none⟩ = some (.slice al S.L.length cl)) := fun w1 f => by
    have c4 := (h.keep0 f).cells.2.2.2.2.1
    have c3 := (h.keep0 f).cells.2.2.2.1
    rw [hqv] at c4
    rw [hlv] at c3
    exact ⟨c4, c3⟩
  have HNQ : Hid (∀ (j : Nat) (x : Int), Q[j]? = some x → ∃ g, aq = some ⟨g, 0, none⟩ ∧ w.cell? ⟨g, j, none⟩ = some (.int .i64 x)) := hqn
  have HNL : Hid (∀ (i : Nat) (n : Tk), S.L[i]? = some n → ∃ g, al = some ⟨g, 0, none⟩ ∧ w.cell? ⟨g, i * 5 + 1, none⟩ = some (.int .i64 n.p) ∧ w.cell? ⟨g, i * 5 + 2, none⟩ = some (.int .i64 n.d)) := fun i n hi => by
    obtain ⟨g, e, _, _, c1, c2, _⟩ := hln i n hi
    exact ⟨g, e, c1, c2⟩
  clear h hqv hqn hlv hln hq
  obtain ⟨N, hNl⟩ : ∃ N, N = Q.length := ⟨_, rfl⟩
  obtain ⟨M, hMl⟩ : ∃ M, M = S.L.length := ⟨_, rfl⟩
  rw [← hNl] at hl
  rw [← hMl] at hlen hlc
  rw [← hNl, ← hMl] at HC
  have HL : Hid (N = Q.length) := hNl
  have HM : Hid (M = S.L.length) := hMl
  clear hNl hMl
  go_enter Try.func40, Try.ntmps40
  go_wp2_with fail
  go_loopw [7, 8] (fun v i wr => ∃ (j n c : Nat) (av : Option Addr), j ≤ N ∧ i = .int .i64 (j : Int) ∧ v = .slice av n c ∧ Fr none' w wr ∧ Hid (n = ((Q.take j).filter (isQ S.L d p)).length ∧ wr.ownsRow 0 3 1 (.slice av n c) ((Q.take j).filter (isQ S.L d p)).length (vI ((Q.take j).filter (isQ S.L d p))) ∧ ∀ k, some k = (Value.slice av n c).ownBlock → w.heap.size ≤ k)) (fun _ i _ => N - (intOf i).toNat)
  case atStart => exact ⟨0, 0, 0, none, by omega, rfl, rfl, Fr.refl _ _, rfl, ⟨rfl, Or.inl ⟨rfl, rfl⟩⟩, fun k hk => by cases hk⟩
  case round =>
    obtain ⟨j, n, c, av, hj, rfl, rfl, fr, HI⟩ := hrel
    obtain ⟨c4, c3⟩ := HC.out wr fr
    by_cases hjN : j < N
    · have hjL : j < Q.length := by rw [← HL.out]; exact hjN
      have hx := List.getElem?_eq_getElem hjL
      have ht : Q.take (j + 1) = Q.take j ++ [Q[j]] := by rw [List.take_add_one, hx]; rfl
      have hmem : Q[j] ∈ Q := List.getElem_mem hjL
      generalize Q[j] = x at *
      obtain ⟨gq, rfl, d0⟩ := HNQ.out j x hx
      replace d0 := cell_keep fr d0 (fun h => h)
      obtain ⟨t, hft⟩ := HQ.out x hmem
      obtain ⟨i, hi⟩ := fnd_ix hft
      have hiM : i < M := by rw [HM.out]; exact lt_of_get hi
      obtain ⟨gl, rfl, p1, p2⟩ := HNL.out i t hi
      replace p1 := cell_keep fr p1 (fun h => h)
      replace p2 := cell_keep fr p2 (fun h => h)
      have A := rat_at (HH.out.keep0 fr) hft hi
      have hisq : isQ S.L d p x = (decide (t.d = d) && decide (t.p = p)) := by unfold isQ; rw [hft]
      have HT : Hid ((Q.take (j + 1)).filter (isQ S.L d p) = if isQ S.L d p x then (Q.take j).filter (isQ S.L d p) ++ [x] else (Q.take j).filter (isQ S.L d p)) := by
        show (Q.take (j + 1)).filter _ = _
        rw [ht, List.filter_append]
        cases hb : isQ S.L d p x with
        | true => simp [hb]
        | false => simp [hb]
      have i1 : 0 ≤ (j : Int) ∧ (j : Int) < (N : Int) := by omega
      have i2 : 0 ≤ (i : Int) ∧ (i : Int) < (M : Int) := by omega
      clear hx ht hmem hft hi hjL
      by_cases hy : t.d = d ∧ t.p = p
      · have t1 : (t.d == d) = true := by simpa using hy.1
        have t2 : (t.p == p) = true := by simpa using hy.2
        have hb : isQ S.L d p x = true := by rw [hisq]; simp [hy.1, hy.2]
        rw [hb] at HT
        simp only [if_true] at HT
        obtain ⟨hn, ho, hnew⟩ := HI.out
        have fa := (Fr.refl none' wr).alloc (.cells #[.int .i64 x] 3)
        have hle : ((Q.take j).filter (isQ S.L d p)).length ≤ 5000 := by
          have h1 : ((Q.take j).filter (isQ S.L d p)).length ≤ (Q.take j).length := List.length_filter_le _ _
          rw [List.length_take] at h1
          omega
        obtain ⟨v', w', hrun, f2, h2, h3⟩ := app_q x _ _ ho hle _ wr.heap.size fa (row_alloc wr #[.int .i64 x] 3)
        obtain ⟨av', n', c', hv'⟩ : ∃ av' n' c', v' = .slice av' n' c' := by
          rcases own_form h2 with ⟨e, _⟩ | ⟨g, cap, e⟩
          · exact ⟨_, _, _, e⟩
          · exact ⟨_, _, _, e⟩
        subst hv'
        have hn' : n' = ((Q.take j).filter (isQ S.L d p) ++ [x]).length := by
          rcases own_form h2 with ⟨e, e'⟩ | ⟨g, cap, e⟩
          · simp at e'
          · simp only [Value.slice.injEq] at e; exact e.2.1
        have HI2 : Hid (Fr none' w w' ∧ n' = ((Q.take (j + 1)).filter (isQ S.L d p)).length ∧ w'.ownsRow 0 3 1 (.slice av' n' c') ((Q.take (j + 1)).filter (isQ S.L d p)).length (vI ((Q.take (j + 1)).filter (isQ S.L d p))) ∧ ∀ k, some k = (Value.slice av' n' c').ownBlock → w.heap.size ≤ k) := by
          show _ ∧ _
          rw [HT.out]
          have fz := fr.size
          refine ⟨?_, hn', h2, fun k hk => ?_⟩
          · have f3 := fr.trans fa
            exact ⟨f2.os.trans f3.os, f2.tape.trans f3.tape, f2.output.trans f3.output, Nat.le_trans f3.size f2.size, fun i hi hn => (f2.block i (Nat.lt_of_lt_of_le hi f3.size) (fun e => by have := hnew i e; omega)).trans (f3.block i hi hn)⟩
          · rcases h3 with h3 | h3
            · rw [h3] at hk; exact hnew k hk
            · rw [h3] at hk
              have := Option.some.inj hk
              simp at this
              omega
        clear HT HI ho hnew hle f2 h2 h3 hn' fa hn hb hisq hy
        go_wp2_with (first | (go_at_call 55; refine A.mono ?_; rintro e wa ⟨rfl, rfl⟩) | (at_builtin; refine wpList_append_runK rfl _ _ 43 rfl _ _ rfl rfl _ _ hrun ?_))
        go_roundw
        case rel => exact ⟨j + 1, n', c', av', by omega, by go_num, rfl, HI2.out⟩
        case measure => simp [intOf]; omega
      · have hb : isQ S.L d p x = false := by
          rw [hisq]
          by_cases e : t.d = d
          · have : t.p ≠ p := fun e2 => hy ⟨e, e2⟩
            simp [this]
          · simp [e]
        rw [hb] at HT
        simp only [Bool.false_eq_true, if_false] at HT
        have HI2 : Hid (n = ((Q.take (j + 1)).filter (isQ S.L d p)).length ∧ wr.ownsRow 0 3 1 (.slice av n c) ((Q.take (j + 1)).filter (isQ S.L d p)).length (vI ((Q.take (j + 1)).filter (isQ S.L d p))) ∧ ∀ k, some k = (Value.slice av n c).ownBlock → w.heap.size ≤ k) := by
          show _ ∧ _
          rw [HT.out]
          exact HI.out
        by_cases e1 : t.d = d
        · have t1 : (t.d == d) = true := by simpa using e1
          have t2 : (t.p == p) = false := by simpa using (fun e2 => hy ⟨e1, e2⟩ : t.p ≠ p)
          clear HT HI hb hisq hy e1
          go_wp2_with (go_at_call 55; refine A.mono ?_; rintro e wa ⟨rfl, rfl⟩)
          go_roundw
          case rel => exact ⟨j + 1, n, c, av, by omega, by go_num, rfl, fr, HI2⟩
          case measure => simp [intOf]; omega
        · have t1 : (t.d == d) = false := by simpa using e1
          clear HT HI hb hisq hy e1
          go_wp2_with (go_at_call 55; refine A.mono ?_; rintro e wa ⟨rfl, rfl⟩)
          go_roundw
          case rel => exact ⟨j + 1, n, c, av, by omega, by go_num, rfl, fr, HI2⟩
          case measure => simp [intOf]; omega
    · have HR : Hid (NmS w wr (.slice av n c) (Q.filter (isQ S.L d p))) := by
        obtain ⟨hn, ho, hnew⟩ := HI.out
        have e : Q.take j = Q := List.take_of_length_le (by rw [← HL.out]; omega)
        rw [e] at ho
        exact nms_own ho hnew
      have ij : ¬ (j : Int) < (N : Int) := by omega
      clear HI
      go_wp2_with fail
      go_ret
      exact ⟨_, rfl, fr, HR.out⟩

/-- What the document's New answers. -/
def RNewP (w : World) (L : List Tn) (e : Ending) (w' : World) : Prop := (newB L = false ∧ e = .returned (.tuple #[.pointer none, .int .i64 1]) ∧ Fr none' w w') ∨ (newB L = true ∧ ∃ q, e = .returned (.tuple #[.pointer (some ⟨q.b, 0, none⟩), .int .i64 0]) ∧ IsD w' q (newSd L) [] ∧ Fr none' w w' ∧ ∀ k, q.s k → w.heap.size ≤ k)
theorem rnewP_bad {w w' : World} {L : List Tn} (h : newB L = false) (f : Fr none' w w') : RNewP w L (.returned (.tuple #[.pointer none, .int .i64 1])) w' := Or.inl ⟨h, rfl, f⟩
theorem rnewP_ok {w w1 : World} {L : List Tn} {v : Value} {n0 : Int} (h : newB L = true) (f : Fr none' w w1) (ho : TnO w w1 v (newT L)) (h0 : ((newT L)[0]?).map (·.n) = some n0) :
    RNewP w L (.returned (.tuple #[.pointer (some ⟨w1.heap.size, 0, none⟩), .int .i64 0])) (w1.alloc (.cells #[v, .int .i64 0, .int .i64 n0, .slice none 0 0, .slice none 0 0, .int .i64 (-1)] 60)) := by
  have fa := (Fr.refl none' w1).alloc (.cells #[v, .int .i64 0, .int .i64 n0, .slice none 0 0, .slice none 0 0, .int .i64 (-1)] 60)
  refine Or.inr ⟨h, ⟨w1.heap.size, v, .slice none 0 0, .slice none 0 0⟩, rfl, ?_, f.trans fa, ?_⟩
  · have e : newSd L = ⟨[], fun _ => [], -1, newT L, 0, n0⟩ := by
      unfold newSd
      cases hh : (newT L)[0]? with
      | none => rw [hh] at h0; cases h0
      | some x =>
        rw [hh] at h0
        have : x.n = n0 := by simpa using h0
        rw [← this]
        rfl
    rw [e]
    exact ⟨row_alloc w1 _ _, ownsRow_at ho.1 fun q _ hl => fa.block q hl (fun h => h), ⟨rfl, Or.inl ⟨rfl, rfl⟩⟩, ⟨rfl, Or.inl ⟨rfl, rfl⟩⟩, goodL_nil⟩
  · have := f.size
    rintro k (rfl | hk | hk | hk)
    · show w.heap.size ≤ w1.heap.size; omega
    · exact ho.2 k hk
    · cases hk
    · cases hk

set_option maxRecDepth 100000 in
set_option maxHeartbeats 4000000 in
theorem rnew_any (w : World) (v : Value) (L : List Tn) (hv : TnI w v L) : Calls Try.prog 11 #[v] w (RNewP w L) := by
  have HN : Hid (∀ (w1 : World) (v : Value) (n0 : Int), newB L = true → Fr none' w w1 → TnO w w1 v (newT L) → ((newT L)[0]?).map (·.n) = some n0 → RNewP w L (.returned (.tuple #[.pointer (some ⟨w1.heap.size, 0, none⟩), .int .i64 0])) (w1.alloc (.cells #[v, .int .i64 0, .int .i64 n0, .slice none 0 0, .slice none 0 0, .int .i64 (-1)] 60))) := fun w1 v n0 h f ho h0 => rnewP_ok h f ho h0
  have HB : Hid (∀ w1, newB L = false → Fr none' w w1 → RNewP w L (.returned (.tuple #[.pointer none, .int .i64 1])) w1) := fun w1 h f => rnewP_bad h f
  by_cases hnil : L = []
  · subst hnil
    obtain ⟨a0, cap, rfl⟩ : ∃ a0 cap, v = .slice a0 0 cap := by
      rcases hv with ⟨e, _⟩ | ⟨a, cap, e, _⟩
      · exact ⟨_, _, e⟩
      · exact ⟨_, _, e⟩
    have HA : Hid (∀ w1, Fr none' w w1 → ∃ (va : Option Addr) (vc : Nat) (w2 : World), (Builtin.append_ #[22, 22] 22 #[.slice (some ⟨w1.heap.size, 0, none⟩) 0 0, .slice a0 0 cap]).run Try.prog (w1.alloc (.cells #[] 33)) = .ok (.slice va 0 vc) w2 ∧ Fr none' w w2) := fun w1 f => by
      have f1 := (Fr.refl none' w1).alloc (.cells #[] 33)
      have o1 : (w1.alloc (.cells #[] 33)).ownsRow 0 33 2 (.slice (some ⟨w1.heap.size, 0, none⟩) 0 0) ([] : List Tn).length (flatN []) := ⟨rfl, Or.inr ⟨w1.heap.size, 0, #[], rfl, by omega, row_alloc w1 _ _, by simp, by simp [maxLen], by simp, rfl⟩⟩
      rcases hv with ⟨e, _⟩ | ⟨a, cp, e, _⟩
      · simp only [Value.slice.injEq] at e
        obtain ⟨rfl, _, rfl⟩ := e
        have hi := info_n
        cases hq : Try.prog.info? 33 with
        | none => simp [hq] at hi
        | some i => exact ⟨_, _, _, run_append_owned_none (P := Try.prog) (w := _) 0 22 22 33 i 2 Try.underlying22 hq _ _ _ o1, f.trans f1⟩
      · simp only [Value.slice.injEq] at e
        obtain ⟨rfl, _, rfl⟩ := e
        obtain ⟨v', w', hrun, f2, h2, h3⟩ := append_tn (w1.alloc (.cells #[] 33)) (.slice (some ⟨w1.heap.size, 0, none⟩) 0 0) [] [] a cap o1 (by simp) (fun k x hk => by simp at hk)
        obtain ⟨va, vc, rfl⟩ : ∃ va vc, v' = .slice va 0 vc := by
          obtain ⟨_, hh | ⟨g, cp, cur, hv', _⟩⟩ := h2
          · exact ⟨_, _, hh.1⟩
          · exact ⟨_, _, hv'⟩
        exact ⟨va, vc, w', hrun, f.trans (f1.newer (b := w1.heap.size) (f2.mono (fun k _ e => own_is e)) (Nat.le_refl _))⟩
    have HE : Hid (∀ w1, Fr none' w w1 → Fr none' w (w1.alloc (.cells #[.int .i64 0, .int .i64 1000] 33)) ∧ TnO w (w1.alloc (.cells #[.int .i64 0, .int .i64 1000] 33)) (.slice (some ⟨w1.heap.size, 0, none⟩) 1 1) (newT [])) := fun w1 f => ⟨f.alloc _, ⟨rfl, Or.inr ⟨w1.heap.size, 1, _, rfl, by omega, row_alloc _ _ _, by decide, by simp [maxLen], rfl, rfl⟩⟩, fun k hk => by have := own_is hk; have := f.size; omega⟩
    clear hv
    go_enter Try.func11, Try.ntmps11
    go_wp2_with fail
    go_loopw [4] (fun i wr => i = .int .i64 0 ∧ Fr none' w wr) (fun i _ => 0)
    case atStart => exact ⟨rfl, Fr.refl _ _⟩
    case round =>
      obtain ⟨rfl, fk⟩ := hrel
      obtain ⟨va, vc, w2, hrun, f2⟩ := HA.out _ fk
      have r1 := row_alloc w2 #[.int .i64 0, .int .i64 1000] 33
      have k1 := r1.cell 1
      dsimp at k1
      clear r1 HA
      go_wp2_with (at_builtin; refine wpList_append_runK rfl _ _ 22 rfl _ _ rfl rfl _ _ hrun ?_)
      refine bodyPost_ret (results_tmp2 rfl _ _ _) rfl ?_
      have h1 := HE.out _ f2
      have h2 := HN.out _ _ 1000 rfl h1.1 h1.2 rfl
      simpa using h2
  · obtain ⟨a, cap, rfl, hx⟩ : ∃ (a : Addr) (cap : Nat), v = .slice (some a) L.length cap ∧ ∀ (k : Nat) (x : Tn), L[k]? = some x → ∃ b o, a = ⟨b, o, none⟩ ∧ w.cell? ⟨b, o + k * 2, none⟩ = some (.int .i64 x.d) ∧ w.cell? ⟨b, o + k * 2 + 1, none⟩ = some (.int .i64 x.n) := by
      rcases hv with ⟨_, e⟩ | e
      · exact absurd e hnil
      · exact e
    have hpos : 0 < L.length := List.length_pos_iff.2 hnil
    by_cases h8 : L.length ≤ 8
    · have HA : Hid (∀ w1, Fr none' w w1 → ∃ (g vc : Nat) (w2 : World) (n0 : Int), (Builtin.append_ #[22, 22] 22 #[.slice (some ⟨w1.heap.size, 0, none⟩) 0 0, .slice (some a) L.length cap]).run Try.prog (w1.alloc (.cells #[] 33)) = .ok (.slice (some ⟨g, 0, none⟩) L.length vc) w2 ∧ Fr none' w w2 ∧ w2.cell? ⟨g, 1, none⟩ = some (.int .i64 n0) ∧ Hid (TnO w w2 (.slice (some ⟨g, 0, none⟩) L.length vc) (newT L) ∧ ((newT L)[0]?).map (·.n) = some n0)) := fun w1 f => by
        have f1 := (Fr.refl none' w1).alloc (.cells #[] 33)
        have o1 : (w1.alloc (.cells #[] 33)).ownsRow 0 33 2 (.slice (some ⟨w1.heap.size, 0, none⟩) 0 0) ([] : List Tn).length (flatN []) := ⟨rfl, Or.inr ⟨w1.heap.size, 0, #[], rfl, by omega, row_alloc w1 _ _, by simp, by simp [maxLen], by simp, rfl⟩⟩
        obtain ⟨v', w', hrun, f2, h2, h3⟩ := append_tn (w1.alloc (.cells #[] 33)) (.slice (some ⟨w1.heap.size, 0, none⟩) 0 0) [] L a cap o1 (by simp; omega) (fun k x hk => by
          obtain ⟨b, o, e, c0, c1⟩ := hx k x hk
          exact ⟨b, o, e, cell_keep (f.trans f1) c0 (fun h => h), cell_keep (f.trans f1) c1 (fun h => h)⟩)
        rw [List.nil_append] at h2
        have fz := f.size
        have e1 : newT L = L := by unfold newT; rw [if_neg hnil]
        rw [e1]
        have hx0 : L[0]? = some L[0] := List.getElem?_eq_getElem hpos
        obtain ⟨hl2, hh | ⟨g, cp, cur, hvv, hb, hg, hcc, hm, hss, ht⟩⟩ := id h2
        · rw [hh.2] at hpos; omega
        · subst hvv
          refine ⟨g, cp, w', L[0].n, hrun, f.trans (f1.newer (b := w1.heap.size) (f2.mono (fun k _ e => own_is e)) (Nat.le_refl _)), ?_, ⟨h2, fun k hk => ?_⟩, by rw [hx0]; rfl⟩
          · rw [(show Row w' g cur _ from hg).cell, show (1 : Nat) = 0 * 2 + 1 from rfl]
            have := flatN_at L 0 L[0] hx0 1 (by omega)
            rw [← ht, List.getElem?_take, if_pos (by omega)] at this
            simpa [encN] using this
          · rcases h3 with h3 | h3
            · rw [h3] at hk
              have := own_is hk
              omega
            · rw [h3] at hk
              have := Option.some.inj hk
              simp at this
              omega
      have HX : Hid (∀ (k : Nat) (x : Tn), L[k]? = some x → ∃ b o, a = ⟨b, o, none⟩ ∧ w.cell? ⟨b, o + k * 2, none⟩ = some (.int .i64 x.d) ∧ w.cell? ⟨b, o + k * 2 + 1, none⟩ = some (.int .i64 x.n)) := hx
      have HL : Hid (∀ (k : Nat) (x : Tn), L[k]? = some x → okNb x = false → newB L = false) := fun k x h hk => by
        unfold newB
        rw [Bool.and_eq_false_iff]
        refine Or.inr ?_
        rw [List.all_eq_false]
        exact ⟨x, List.mem_of_getElem? h, by rw [hk]; simp⟩
      have HG : Hid ((∀ (j : Nat) (x : Tn), j < L.length → L[j]? = some x → okNb x = true) → newB L = true) := fun h => by
        unfold newB
        rw [Bool.and_eq_true, List.all_eq_true]
        refine ⟨by simpa using h8, fun x hx => ?_⟩
        obtain ⟨j, hj, rfl⟩ := List.getElem_of_mem hx
        exact h j _ hj (List.getElem?_eq_getElem hj)
      have HE3 : Hid (∀ (k : Nat), k < L.length → ∃ x, L[k]? = some x) := fun k h => ⟨_, List.getElem?_eq_getElem h⟩
      clear hv hx hnil
      have t8 : decide (8 < L.length) = false := by simpa using h8
      obtain ⟨N, hN⟩ : ∃ N, N = L.length := ⟨_, rfl⟩
      rw [← hN] at HA HG HE3 hpos h8 t8 ⊢
      have i8 : (N : Int) ≤ 8 := by omega
      have z8 : ((N : Int) == 0) = false := by simp; omega
      clear hN
      go_enter Try.func11, Try.ntmps11
      go_wp2_with fail
      go_loopw [4] (fun i wr => ∃ k : Nat, k ≤ N ∧ i = .int .i64 (k : Int) ∧ Fr none' w wr ∧ Hid (∀ (j : Nat) (x : Tn), j < k → L[j]? = some x → okNb x = true)) (fun i _ => N - (intOf i).toNat)
      case atStart => exact ⟨0, by omega, rfl, Fr.refl _ _, fun j x h => by omega⟩
      case round =>
        obtain ⟨k, hk, rfl, fk, HK⟩ := hrel
        by_cases hlt2 : k < N
        · obtain ⟨x, hkx⟩ := HE3.out k hlt2
          obtain ⟨b, o, rfl, c0, c1⟩ := HX.out k x hkx
          replace c0 := cell_keep fk c0 (fun h => h)
          replace c1 := cell_keep fk c1 (fun h => h)
          have i1 : 0 ≤ (k : Int) ∧ (k : Int) < (N : Int) := by omega
          have HZ : okNb x = false → Hid (newB L = false) := fun hb => HL.out k x hkx hb
          have HK2 : okNb x = true → Hid (∀ (j : Nat) (x : Tn), j < k + 1 → L[j]? = some x → okNb x = true) := fun hb j y hj hy => by
            by_cases e : j = k
            · subst e
              rw [hkx] at hy
              cases hy
              exact hb
            · exact HK.out j y (by omega) hy
          have hbad : (x.d < 0 ∨ 3 < x.d ∨ x.n < 1 ∨ 1000 < x.n) → okNb x = false := fun hh => by
            unfold okNb
            simp
            omega
          have hgood : ¬ x.d < 0 → ¬ 3 < x.d → ¬ x.n < 1 → ¬ 1000 < x.n → okNb x = true := fun h1 h2 h3 h4 => by
            unfold okNb
            simp
            omega
          have HBD : Hid ((x.d < 0 ∨ 3 < x.d ∨ x.n < 1 ∨ 1000 < x.n) → newB L = false) := fun hh => (HZ (hbad hh)).out
          have HGD : Hid (¬ x.d < 0 → ¬ 3 < x.d → ¬ x.n < 1 → ¬ 1000 < x.n → ∀ (j : Nat) (x : Tn), j < k + 1 → L[j]? = some x → okNb x = true) := fun h1 h2 h3 h4 => (HK2 (hgood h1 h2 h3 h4)).out
          clear hkx HE3 HX HG HL HK HA HZ HK2 hbad hgood
          generalize x.d = xd at *
          generalize x.n = xn at *
          by_cases h0 : xd < 0
          · have g0 : decide (xd < 0) = true := decide_eq_true h0
            have HZ : Hid (newB L = false) := HBD.out (Or.inl h0)
            clear HBD HGD
            go_wp2_with fail
            refine bodyPost_ret (results_tmp2 rfl _ _ _) rfl ?_
            exact HB.out _ HZ.out fk
          have g0 : decide (xd < 0) = false := decide_eq_false h0
          by_cases h1 : 3 < xd
          · have g1 : decide (3 < xd) = true := decide_eq_true h1
            have HZ : Hid (newB L = false) := HBD.out (Or.inr (Or.inl h1))
            clear HBD HGD
            go_wp2_with fail
            refine bodyPost_ret (results_tmp2 rfl _ _ _) rfl ?_
            exact HB.out _ HZ.out fk
          have g1 : decide (3 < xd) = false := decide_eq_false h1
          by_cases h2 : xn < 1
          · have g2 : decide (xn < 1) = true := decide_eq_true h2
            have HZ : Hid (newB L = false) := HBD.out (Or.inr (Or.inr (Or.inl h2)))
            clear HBD HGD
            go_wp2_with fail
            refine bodyPost_ret (results_tmp2 rfl _ _ _) rfl ?_
            exact HB.out _ HZ.out fk
          have g2 : decide (xn < 1) = false := decide_eq_false h2
          by_cases h3 : 1000 < xn
          · have g3 : decide (1000 < xn) = true := decide_eq_true h3
            have HZ : Hid (newB L = false) := HBD.out (Or.inr (Or.inr (Or.inr h3)))
            clear HBD HGD
            go_wp2_with fail
            refine bodyPost_ret (results_tmp2 rfl _ _ _) rfl ?_
            exact HB.out _ HZ.out fk
          have g3 : decide (1000 < xn) = false := decide_eq_false h3
          have HK2 : Hid (∀ (j : Nat) (x : Tn), j < k + 1 → L[j]? = some x → okNb x = true) := HGD.out h0 h1 h2 h3
          clear HBD HGD
          go_wp2_with fail
          go_roundw
          case rel => exact ⟨k + 1, by omega, by go_num, fk, HK2⟩
          case measure => simp [intOf]; omega
        · have hge : ¬ (k : Int) < (N : Int) := by omega
          have HZ : Hid (newB L = true) := HG.out fun j x hj hx => HK.out j x (by omega) hx
          obtain ⟨g1, vc, w2, n0, hrun, f2, cn, HO⟩ := HA.out _ fk
          clear HE3 HX HG HL HK HA
          go_wp2_with (at_builtin; refine wpList_append_runK rfl _ _ 22 rfl _ _ rfl rfl _ _ hrun ?_)
          refine bodyPost_ret (results_tmp2 rfl _ _ _) rfl ?_
          exact HN.out _ _ n0 HZ.out f2 HO.out.1 HO.out.2
    · have HZ : Hid (newB L = false) := by
        unfold newB
        rw [Bool.and_eq_false_iff]
        exact Or.inl (by simpa using h8)
      have t8 : decide (8 < L.length) = true := by simp; omega
      have i8 : ¬ (L.length : Int) ≤ 8 := by omega
      clear hv hx hnil
      generalize L.length = N at *
      go_enter Try.func11, Try.ntmps11
      go_wp2_with fail
      refine bodyPost_ret (results_tmp2 rfl _ _ _) rfl ?_
      exact HB.out _ HZ.out (Fr.refl _ _)

end Go.Proofs.Ytipfgenbfnkpfaa
