/-
  The document's Drop over the translation. No statement is proved here.
-/
import Derived.Test.YtipfgenbfnkpfaaSdRefD
namespace Go.Proofs.Ytipfgenbfnkpfaa
open Go.RowKit Go.Maps Go.WideMaps

theorem del_at {L : List Tk} (g : GoodL L) {i : Nat} {n : Tk} (h : L[i]? = some n) : del L n.i = L.take i ++ L.drop (i + 1) := by
  have key : ∀ (L : List Tk) (i : Nat), L.Pairwise (fun a b => a.i ≠ b.i) → L[i]? = some n → del L n.i = L.take i ++ L.drop (i + 1) := by
    intro L
    induction L with
    | nil => intro i _ h; simp at h
    | cons a L ih =>
      intro i g h
      rw [List.pairwise_cons] at g
      cases i with
      | zero =>
        simp at h
        subst h
        have : del L a.i = L := by
          unfold del
          rw [List.filter_eq_self]
          intro m hm
          have := g.1 m hm
          simp
          exact fun e => this e.symm
        unfold del at this ⊢
        rw [List.filter_cons_of_neg (by simp)]
        simpa using this
      | succ i =>
        have hi : L[i]? = some n := by simpa using h
        have hne : a.i ≠ n.i := g.1 n (List.mem_of_getElem? hi)
        have := ih i g.2 hi
        unfold del at this ⊢
        rw [List.filter_cons_of_pos (by simp [hne]), this]
        rfl
  exact key L i g.one h

/-- Two appends in a row: the row without its k-th node. -/
theorem drop_runs {w : World} {q : Db} {S : Sd} {L : List Tk} {Q : List Int} (h : IsD w q S Q) (hLS : S.L = L) {k : Nat} {n : Tk} (hk : L[k]? = some n) {g cap : Nat} (hv : q.Lv = .slice (some ⟨g, 0, none⟩) L.length cap) (a2 : Addr) (c2 : Nat) (ha2 : k + 1 < L.length → a2 = ⟨g, (k + 1) * 5, none⟩) :
    ∃ (g1 c1 : Nat) (w1 : World) (g3 c3 : Nat) (w2 : World),
      (Builtin.append_ #[58, 58] 58 #[.slice (some ⟨w.heap.size, 0, none⟩) 0 0, .slice (some ⟨g, 0, none⟩) k cap]).run Try.prog (w.alloc (.cells #[] 40)).drew = .ok (.slice (some ⟨g1, 0, none⟩) k c1) w1 ∧
      (Builtin.append_ #[58, 58] 58 #[.slice (some ⟨g1, 0, none⟩) k c1, .slice (some a2) (L.length - (k + 1)) c2]).run Try.prog w1 = .ok (.slice (some ⟨g3, 0, none⟩) (L.length - 1) c3) w2 ∧
      IsD w1 q S Q ∧ IsD w2 q S Q ∧ Fr none' w w2 ∧ w.heap.size ≤ g3 ∧ w2.ownsRow 0 40 5 (.slice (some ⟨g3, 0, none⟩) (L.length - 1) c3) (del L n.i).length (flatT (del L n.i)) := by
  have hkl : k < L.length := by
    rcases Nat.lt_or_ge k L.length with h' | h'
    · exact h'
    · rw [List.getElem?_eq_none h'] at hk; cases hk
  have hgood : GoodL L := by rw [← hLS]; exact h.good
  have hlen := len_le hgood
  have htk := h.tks
  rw [hLS] at htk
  obtain ⟨hl0, hh | ⟨g', cap', cur, hv', hb, hg, hc, hm, hs, ht⟩⟩ := htk
  · rw [hv] at hh; cases hh.1
  · rw [hv] at hv'
    simp only [Value.slice.injEq, Option.some.injEq, Addr.mk.injEq, and_true, true_and] at hv'
    obtain ⟨rfl, rfl⟩ := hv'
    have hgb : g < w.heap.size := Row.lt (show Row w g cur _ from hg)
    have cells : ∀ (w' : World), w'.heap[g]? = w.heap[g]? → ∀ i u, (flatT L)[i]? = some u → w'.cell? ⟨g, i, none⟩ = some u := fun w' e i u hu => by
      have hr : Row w' g cur 40 := e.trans hg
      rw [hr.cell]
      rw [← ht, List.getElem?_take] at hu
      split at hu
      · simpa using hu
      · cases hu
    have hi := info_tk
    cases hq : Try.prog.info? 40 with
    | none => simp [hq] at hi
    | some i =>
      rw [hq] at hi
      simp only [Option.map_some, Option.some.injEq, Prod.mk.injEq] at hi
      obtain ⟨hz0, hsz, hby⟩ := hi
      have f0 := ((Fr.refl none' w).alloc (.cells #[] 40)).drew
      have o0 : (w.alloc (.cells #[] 40)).drew.ownsRow w.heap.size 40 5 (.slice (some ⟨w.heap.size, 0, none⟩) 0 0) 0 [] :=
        ⟨rfl, Or.inr ⟨w.heap.size, 0, #[], rfl, Nat.le_refl _, row_alloc w _ _, by omega, by simp only [maxLen]; omega, rfl, rfl⟩⟩
      have one := flatT_one'
      have tk : flatT L = flatT (L.take k) ++ (encT n ++ flatT (L.drop (k + 1))) := by
        have e1 : L = L.take k ++ (n :: L.drop (k + 1)) := by
          have := List.take_append_drop k L
          rw [List.drop_eq_getElem_cons hkl] at this
          have e2 : L[k] = n := by rw [List.getElem?_eq_getElem hkl] at hk; exact Option.some.inj hk
          rw [e2] at this
          exact this.symm
        conv => lhs; rw [e1]
        rw [flatT_append, flatT_cons]
      have l1 : (flatT (L.take k)).length = k * 5 := by rw [flatT_len, List.length_take, Nat.min_eq_left (by omega)]
      have l2 : (flatT (L.drop (k + 1))).length = (L.length - (k + 1)) * 5 := by rw [flatT_len, List.length_drop]
      obtain ⟨v1, w1, r1, o1, gr1, nil1⟩ := run_append_own (P := Try.prog) (w := (w.alloc (.cells #[] 40)).drew) w.heap.size 58 58 40 i _ 5 40 Try.underlying58 hq hz0 hsz hby rfl (by omega) _ 0 [] o0 ⟨g, 0, none⟩ k cap (flatT (L.take k)) l1
        (fun j u hu => by
          rw [add_lit', Nat.zero_add]
          exact cells _ (f0.block g hgb (fun h => h)) j u (by rw [tk, List.getElem?_append_left (by rcases Nat.lt_or_ge j (flatT (L.take k)).length with h' | h'; exact h'; rw [List.getElem?_eq_none h'] at hu; cases hu)]; exact hu))
        (one _) (by simp only [maxLen]; omega) (by omega) f0.size
      have f1 : Fr none' w w1 := f0.newer (fr_map (by exact gr1)) (Nat.le_refl _)
      have h1 := h.keep0 f1
      obtain ⟨_, hn1 | ⟨g1, c1, cur1, hv1, hb1, hg1, hc1, hm1, hs1, ht1⟩⟩ := id o1
      · exact absurd (nil1.mp hn1.1).1 (by simp)
      · rw [Nat.zero_add] at hv1
        subst hv1
        obtain ⟨v2, w2, r2, o2, gr2, nil2⟩ := run_append_own (P := Try.prog) (w := w1) w.heap.size 58 58 40 i _ 5 40 Try.underlying58 hq hz0 hsz hby rfl (by omega) _ (0 + k) _ (by rw [Nat.zero_add] at o1 ⊢; exact o1) a2 (L.length - (k + 1)) c2 (flatT (L.drop (k + 1))) l2
          (fun j u hu => by
            have hjl : j < (flatT (L.drop (k + 1))).length := by rcases Nat.lt_or_ge j (flatT (L.drop (k + 1))).length with h' | h'; exact h'; rw [List.getElem?_eq_none h'] at hu; cases hu
            rw [ha2 (by omega), add_lit']
            refine cells _ (f1.block g hgb (fun h => h)) _ u ?_
            have e3 : (encT n).length = 5 := rfl
            rw [tk, List.getElem?_append_right (by omega), List.getElem?_append_right (by omega), l1, e3, show (k + 1) * 5 + j - k * 5 - 5 = j by omega]
            exact hu)
          (one _) (by simp only [maxLen]; omega) (by omega) f1.size
        have hb1' : w.heap.size ≤ g1 := hb1
        have f2 : Fr none' w w2 := f1.newer (fr_map (by exact gr2)) hb1'
        obtain ⟨_, hn2 | ⟨g3, c3, cur3, hv3, hb3, hg3, hc3, hm3, hs3, ht3⟩⟩ := id o2
        · exact absurd (nil2.mp hn2.1).1 (by simp)
        · have e4 : 0 + k + (L.length - (k + 1)) = L.length - 1 := by omega
          rw [e4] at hv3 o2
          subst hv3
          refine ⟨g1, c1, w1, g3, c3, w2, r1, r2, h1, h.keep0 f2, f2, hb3, ?_⟩
          have e5 : (del L n.i).length = L.length - 1 := by have := len_del hgood (fnd_of_mem hgood.one (List.mem_of_getElem? hk)); omega
          rw [e5, del_at hgood hk, flatT_append]
          exact ownsRow_zero o2

theorem own_slice {g n c k : Nat} (h : some k = (Value.slice (some ⟨g, 0, none⟩) n c).ownBlock) : k = g := by simpa [Value.ownBlock] using h


set_option maxRecDepth 100000 in
set_option maxHeartbeats 2000000 in
theorem rdrop_any (w : World) (q : Db) (S : Sd) (Q : List Int) (h : IsD w q S Q) (hl : Q.length ≤ 5000) (id : Int) : Calls Try.prog 28 #[.pointer (some ⟨q.b, 0, none⟩), .int .i64 id] w fun e w' => e = .returned (.int .i64 (thrE S id)) ∧ ∃ q', ChgD w q w' q' (droS S id) (stoQ S Q id) := by
  cases hf : fnd S.L id with
  | none =>
    have A := rat_no h hf
    have e1 : thrE S id = 150 := by unfold thrE; rw [hf]
    have e2 : stoS S id = S := by unfold stoS; rw [hf]
    have HC : Hid (∃ q', ChgD w q w q' (droS S id) (stoQ S Q id)) := ⟨q, by
      unfold droS stoQ
      rw [e2, hf, del_self hf]
      exact ChgD.same h (Fr.refl _ _)⟩
    rw [e1]
    clear h hf e1 e2
    go_enter Try.func28, Try.ntmps28
    go_wp2_with (go_at_call 55; refine A.mono ?_; rintro e w1 ⟨rfl, rfl⟩)
    go_ret
    exact ⟨rfl, HC.out⟩
  | some t =>
    obtain ⟨i, hi⟩ := fnd_ix hf
    have A := rat_at h hf hi
    have e1 : thrE S id = 0 := by unfold thrE; rw [hf]
    have hti := fnd_i hf
    have hL : (stoS S id).L = upd S.L id (setA false) := by unfold stoS; rw [hf]
    have hi2 : (stoS S id).L[i]? = some (setA false t) := by
      rw [hL]
      unfold upd
      rw [List.getElem?_map, hi]
      simp [hti]
    have P := rstop_any w q S Q h hl id
    rw [e1] at P ⊢
    have HP : Hid _ := P
    clear h hf P e1 hi hL
    go_enter Try.func28, Try.ntmps28
    go_wp2_with (first | (go_at_call 55; refine A.mono ?_; rintro e w0 ⟨rfl, rfl⟩))
    refine Calls.mono HP.out ?_
    rintro e w1 ⟨rfl, q1, C⟩
    have HH : Hid (IsD w1 q1 (stoS S id) (stoQ S Q id)) := C.is
    have HC0 : Hid (ChgD w0 q w1 q1 (stoS S id) (stoQ S Q id)) := C
    have hqb := C.b
    have hlen := len_le C.is.good
    have z0 := C.is.frozen 3
    obtain ⟨a, cap, hv, hcap, hn⟩ := C.is.formL
    obtain ⟨g, rfl, _⟩ := hn i _ hi2
    have c0 := C.is.cells.2.2.2.1
    rw [hv, hqb] at c0
    rw [hqb] at z0
    have HV : Hid (q1.Lv = .slice (some ⟨g, 0, none⟩) (stoS S id).L.length cap) := hv
    have hlt := lt_of_get hi2
    have HI : Hid ((stoS S id).L[i]? = some (setA false t)) := hi2
    have HY : Hid ((setA false t).i = id) := hti
    have HB : Hid (q1.b = q.b) := hqb
    have HD' : Hid (∀ (a2 : Addr) (c2 : Nat), (i + 1 < (stoS S id).L.length → a2 = ⟨g, (i + 1) * 5, none⟩) → ∃ (g1 c1 : Nat) (w2 : World) (g3 c3 : Nat) (w3 : World),
      (Builtin.append_ #[58, 58] 58 #[.slice (some ⟨w1.heap.size, 0, none⟩) 0 0, .slice (some ⟨g, 0, none⟩) i cap]).run Try.prog (w1.alloc (.cells #[] 40)).drew = .ok (.slice (some ⟨g1, 0, none⟩) i c1) w2 ∧
      (Builtin.append_ #[58, 58] 58 #[.slice (some ⟨g1, 0, none⟩) i c1, .slice (some a2) ((stoS S id).L.length - (i + 1)) c2]).run Try.prog w2 = .ok (.slice (some ⟨g3, 0, none⟩) ((stoS S id).L.length - 1) c3) w3 ∧
      w2.cell? ⟨q.b, 3, none⟩ = some (.slice (some ⟨g, 0, none⟩) (stoS S id).L.length cap) ∧ w3.cell? ⟨q.b, 3, none⟩ = some (.slice (some ⟨g, 0, none⟩) (stoS S id).L.length cap) ∧ w3.frozen? ⟨q.b, 3, none⟩ = false ∧ ∃ q', ChgD w0 q (w3.setCell ⟨q.b, 3, none⟩ (.slice (some ⟨g3, 0, none⟩) ((stoS S id).L.length - 1) c3)) q' (droS S id) (stoQ S Q id)) := fun a2 c2 ha2 => by
      obtain ⟨g1, c1, w2, g3, c3, w3, r1, r2, q1', q2', f, hg3, o⟩ := drop_runs HH.out rfl HI.out HV.out a2 c2 ha2
      rw [HY.out] at o
      have b2 := q1'.cells.2.2.2.1
      have b3 := q2'.cells.2.2.2.1
      have b4 := q2'.frozen 3
      rw [HV.out, HB.out] at b2 b3
      rw [HB.out] at b4
      have C2 := HH.out.setL (good_del HH.out.good id) (f.mono (fun _ _ h => h.elim)) o (fun k hk => by rw [own_slice hk]; exact Or.inr hg3)
      rw [HB.out] at C2
      exact ⟨g1, c1, w2, g3, c3, w3, r1, r2, b2, b3, b4, _, HC0.out.trans C2⟩
    clear hn hv hi2 A C HP hti
    generalize (stoS S id).L.length = M at *
    have cA := cell_keep ((Fr.refl none' w1).alloc (.cells #[] 40)) c0 (fun h => h)
    have k1 : i ≤ cap := by omega
    have k2 : i + 1 ≤ M := by omega
    have k3 : IntKind.i64.wrap ((i : Int) + 1) = (i : Int) + 1 := by rw [IntKind.wrap_i64]; omega
    have k4 : ((i : Int) + 1).toNat = i + 1 := by omega
    have k5 : (0 : Int) ≤ (i : Int) + 1 := by omega
    have k6 : (i : Int) + 1 ≤ (M : Int) := by omega
    clear hqb HB HY HI HV HC0 HH
    by_cases hc : cap = i + 1
    · obtain ⟨g1, c1, w2, g3, c3, w3, hrun1, hrun2, e2, e3, e4, hC⟩ := HD'.out ⟨g, 0, none⟩ 0 (fun _ => by omega)
      obtain rfl : M = i + 1 := by omega
      subst hc
      have k7 : (i : Int) ≤ (i : Int) + 1 := by omega
      rw [show i + 1 - (i + 1) = 0 by omega, show i + 1 - 1 = i by omega] at hrun2
      rw [show i + 1 - 1 = i by omega] at hC
      have HC : Hid (∃ q', ChgD w0 q (w3.setCell ⟨q.b, 3, none⟩ (.slice (some ⟨g3, 0, none⟩) i c3)) q' (droS S id) (stoQ S Q id)) := hC
      clear hC HD'
      go_wp2_with fail
      go_region_law (first | (refine step_append_run rfl (.tmp 15) (.tmp 21) 58 rfl _ _ _ _ rfl rfl hrun1 ?_) | (refine step_append_run rfl (.tmp 22) (.tmp 29) 58 rfl _ _ _ _ rfl rfl hrun2 ?_))
      all_goals go_wp2_with fail
      all_goals go_ret
      all_goals exact ⟨rfl, HC.out⟩
    · obtain ⟨g1, c1, w2, g3, c3, w3, hrun1, hrun2, e2, e3, e4, hC⟩ := HD'.out ⟨g, (i + 1) * 5, none⟩ (cap - (i + 1)) (fun _ => rfl)
      have HC : Hid (∃ q', ChgD w0 q (w3.setCell ⟨q.b, 3, none⟩ (.slice (some ⟨g3, 0, none⟩) (M - 1) c3)) q' (droS S id) (stoQ S Q id)) := hC
      clear hC HD'
      go_wp2_with fail
      go_region_law (first | (refine step_append_run rfl (.tmp 15) (.tmp 21) 58 rfl _ _ _ _ rfl rfl hrun1 ?_) | (refine step_append_run rfl (.tmp 22) (.tmp 29) 58 rfl _ _ _ _ rfl rfl hrun2 ?_))
      all_goals go_wp2_with fail
      all_goals go_ret
      all_goals exact ⟨rfl, HC.out⟩

end Go.Proofs.Ytipfgenbfnkpfaa
