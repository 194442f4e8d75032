/-
  The document's Stop, again, SetPriority, SetDomain, Yield, front, Thread over the translation. No statement is proved here.
-/
import Derived.Test.YtipfgenbfnkpfaaSdRefB
namespace Go.Proofs.Ytipfgenbfnkpfaa
open Go.RowKit Go.Maps Go.WideMaps

set_option maxRecDepth 100000 in
set_option maxHeartbeats 2000000 in
theorem rstop_any (w : World) (q : Db) (S : Sd) (Q : List Int) (h : IsD w q S Q) (hl : Q.length ≤ 5000) (i : Int) :
    Calls Try.prog 30 #[.pointer (some ⟨q.b, 0, none⟩), .int .i64 i] w fun e w' => e = .returned (.int .i64 (thrE S i)) ∧ ∃ q', ChgD w q w' q' (stoS S i) (stoQ S Q i) := by
  have HS : Hid (∃ q', ChgD w q w q' S Q) := ⟨q, ChgD.same h (Fr.refl _ _)⟩
  unfold thrE stoS stoQ
  cases hf : fnd S.L i with
  | none =>
    have A := rat_no h hf
    clear h hf
    go_enter Try.func30, Try.ntmps30
    go_wp2_with (go_at_call 55; refine A.mono ?_; rintro e w1 ⟨rfl, rfl⟩)
    go_ret
    exact ⟨rfl, HS.out⟩
  | some t =>
    dsimp only
    obtain ⟨j, hj⟩ := fnd_ix hf
    have A := rat_at h hf hj
    have hlt := lt_of_get hj
    have hlen := len_le h.good
    obtain ⟨av, cp, hv, _, hn⟩ := h.formL
    obtain ⟨g, rfl, hgb, _, _, _, _, ca, zz⟩ := hn j t hj
    have z4 := zz (j * 5 + 4)
    have k3 := h.cells.2.2.2.1
    rw [hv] at k3
    have i1 : 0 ≤ (j : Int) ∧ (j : Int) < (S.L.length : Int) := by omega
    have hti := fnd_i hf
    have C1 := h.setT hj hv (f := setA false) (fun _ => rfl) ((h.good.all t (List.mem_of_getElem? hj)).setA false) (r := 4) (by omega) (u := .bool false) rfl
    rw [hti] at C1
    have O : Hid (Calls Try.prog 56 #[.pointer (some ⟨q.b, 0, none⟩), .int .i64 i] (w.setCell ⟨g, j * 5 + 4, none⟩ (.bool false)) fun e w1 => ∃ v, e = .returned v ∧ w1.cell? ⟨q.b, 5, none⟩ = some (.int .i64 S.c) ∧ w1.frozen? ⟨q.b, 5, none⟩ = false ∧ Hid ((∃ q', ChgD w q w1 q' { S with L := upd S.L i (setA false) } (gOut i Q)) ∧ ∃ q', ChgD w q (w1.setCell ⟨q.b, 5, none⟩ (.int .i64 (-1))) q' { S with L := upd S.L i (setA false), c := -1 } (gOut i Q))) := (rout_any _ q _ Q C1.is hl i).mono (by
      rintro e w1 ⟨v, rfl, q', C2, _⟩
      have C := C1.trans C2
      have k5 := C.is.cells.2.2.2.2.2
      have y5 := C.is.frozen 5
      have C3 := C.is.setC (-1)
      rw [C.b] at k5 y5 C3
      exact ⟨v, rfl, k5, y5, ⟨q', C⟩, q', C.trans C3⟩)
    by_cases hc : S.c = i
    · have e1 : (S.c == i) = true := by simpa using hc
      have HC : Hid (∀ w1, (∃ q', ChgD w q w1 q' { S with L := upd S.L i (setA false), c := -1 } (gOut i Q)) → ∃ q', ChgD w q w1 q' { (if rdy S t then app S t gOut else S) with c := if S.c = i then -1 else S.c, L := upd S.L i (setA false) } (gOut i Q)) := fun w1 ⟨q', C⟩ => ⟨q', C.of rfl (by rw [if_pos hc]) (by split <;> rfl) (by split <;> rfl) (by split <;> rfl)⟩
      generalize ({ (if rdy S t then app S t gOut else S) with c := if S.c = i then -1 else S.c, L := upd S.L i (setA false) } : Sd) = X at *
      clear h hf hj hn hv zz C1 hlt HS hgb hc hti
      generalize S.L.length = N at *
      generalize S.c = cc at *
      go_enter Try.func30, Try.ntmps30
      go_wp2_with (first | (go_at_call 55; refine A.mono ?_; rintro e w1 ⟨rfl, rfl⟩) | (go_at_call 56; refine O.out.mono ?_; rintro e w2 ⟨v, rfl, k5, y5, HR⟩))
      go_ret
      exact ⟨rfl, HC.out _ HR.out.2⟩
    · have e1 : (S.c == i) = false := by simpa using hc
      have HC : Hid (∀ w1, (∃ q', ChgD w q w1 q' { S with L := upd S.L i (setA false) } (gOut i Q)) → ∃ q', ChgD w q w1 q' { (if rdy S t then app S t gOut else S) with c := if S.c = i then -1 else S.c, L := upd S.L i (setA false) } (gOut i Q)) := fun w1 ⟨q', C⟩ => ⟨q', C.of rfl (by rw [if_neg hc]) (by split <;> rfl) (by split <;> rfl) (by split <;> rfl)⟩
      generalize ({ (if rdy S t then app S t gOut else S) with c := if S.c = i then -1 else S.c, L := upd S.L i (setA false) } : Sd) = X at *
      clear h hf hj hn hv zz C1 hlt HS hgb hc hti
      generalize S.L.length = N at *
      generalize S.c = cc at *
      go_enter Try.func30, Try.ntmps30
      go_wp2_with (first | (go_at_call 55; refine A.mono ?_; rintro e w1 ⟨rfl, rfl⟩) | (go_at_call 56; refine O.out.mono ?_; rintro e w2 ⟨v, rfl, k5, y5, HR⟩))
      go_ret
      exact ⟨rfl, HC.out _ HR.out.1⟩

set_option maxRecDepth 100000 in
set_option maxHeartbeats 2000000 in
theorem ragain_any (w : World) (q : Db) (S : Sd) (Q : List Int) (h : IsD w q S Q) (hl : Q.length ≤ 5000) (j : Nat) (t : Tk) (hj : S.L[j]? = some t) :
    Calls Try.prog 58 #[.pointer (some ⟨q.b, 0, none⟩), .int .i64 (j : Int)] w fun e w' => ∃ v, e = .returned v ∧ ∃ q', ChgD w q w' q' S (agaQ S Q t) := by
  have hlt := lt_of_get hj
  have hlen := len_le h.good
  obtain ⟨av, cp, hv, _, hn⟩ := h.formL
  obtain ⟨g, rfl, hgb, ci, _, _, _, ca, zz⟩ := hn j t hj
  have k3 := h.cells.2.2.2.1
  have k5 := h.cells.2.2.2.2.2
  rw [hv] at k3
  have i1 : 0 ≤ (j : Int) ∧ (j : Int) < (S.L.length : Int) := by omega
  have HS : Hid (∀ n, ∃ q', ChgD w q (w.drewN n) q' S Q) := fun n => ⟨q, ChgD.same h (fr_drewN w n)⟩
  unfold agaQ rdy
  cases hA : t.a with
  | false =>
    rw [hA] at ca
    simp only [Bool.false_and, Bool.false_eq_true, if_false]
    clear h hj hn hv zz hlt hgb
    generalize S.L.length = N at *
    generalize S.c = cc at *
    go_enter Try.func58, Try.ntmps58
    go_wp2_with fail
    go_quiet (fail)
    go_wp2_with fail
    refine post_void rfl rfl fun v => ?_
    exact ⟨v, rfl, HS.out _⟩
  | true =>
    rw [hA] at ca
    by_cases hc : t.i = S.c
    · have e1 : (!(t.i == S.c)) = false := by simp [hc]
      have e2 : (S.c != t.i) = false := by simp [hc]
      simp only [Bool.true_and, e1, Bool.false_eq_true, if_false]
      clear h hj hn hv zz hlt hgb hc e1
      generalize S.L.length = N at *
      generalize S.c = cc at *
      go_enter Try.func58, Try.ntmps58
      go_wp2_with fail
      go_quiet (fail)
      go_wp2_with fail
      refine post_void rfl rfl fun v => ?_
      exact ⟨v, rfl, HS.out _⟩
    · have e1 : (!(t.i == S.c)) = true := by simpa using hc
      have e2 : (S.c != t.i) = true := by simpa using (fun e => hc e.symm : S.c ≠ t.i)
      simp only [Bool.true_and, e1, if_true]
      have hl2 : (gOut t.i Q).length ≤ 5000 := Nat.le_trans (List.length_filter_le _ _) hl
      have O : Hid (∀ n, Calls Try.prog 56 #[.pointer (some ⟨q.b, 0, none⟩), .int .i64 t.i] (w.drewN n) fun e w1 => ∃ v, e = .returned v ∧ ∃ (aq : Option Addr) (M cq : Nat), w1.cell? ⟨q.b, 4, none⟩ = some (.slice aq M cq) ∧ w1.frozen? ⟨q.b, 4, none⟩ = false ∧ w1.cell? ⟨q.b, 3, none⟩ = some (.slice (some ⟨g, 0, none⟩) S.L.length cp) ∧ w1.cell? ⟨g, j * 5, none⟩ = some (.int .i64 t.i) ∧ ∃ (va : Option Addr) (vn vc : Nat) (w2 : World), (Builtin.append_ #[43, 43] 43 #[.slice aq M cq, .slice (some ⟨w1.heap.size, 0, none⟩) 1 1]).run Try.prog (w1.alloc (.cells #[.int .i64 t.i] 3)).drew = .ok (.slice va vn vc) w2 ∧ w2.cell? ⟨q.b, 4, none⟩ = some (.slice aq M cq) ∧ w2.frozen? ⟨q.b, 4, none⟩ = false ∧ Hid (∃ q', ChgD w q (w2.setCell ⟨q.b, 4, none⟩ (.slice va vn vc)) q' S (gOut t.i Q ++ [t.i]))) := fun n => (rout_any _ q S Q (h.keep0 (fr_drewN w n)) hl t.i).mono (by
        rintro e w1 ⟨v, rfl, q1, C0, hL⟩
        have C := (ChgD.same h (fr_drewN w n)).trans C0
        obtain ⟨aq, cq, hqv, _⟩ := C.is.formQ
        have f1 := ((Fr.refl none' w1).alloc (.cells #[.int .i64 t.i] 3)).drew
        obtain ⟨va, vn, vc, w2, hrun, b4, y4, _, _, C2⟩ := C.is.push hl2 t.i f1 (show Row (w1.alloc (.cells #[.int .i64 t.i] 3)).drew w1.heap.size #[.int .i64 t.i] 3 from row_alloc w1 _ _)
        have c4 := C.is.cells.2.2.2.2.1
        have z4 := C.is.frozen 4
        have c3 := C.is.cells.2.2.2.1
        obtain ⟨av', cp', hv', _, hn'⟩ := C.is.formL
        obtain ⟨g', eg, _, ci', _⟩ := hn' j t hj
        rw [hL, hv] at c3
        rw [hL, hv] at hv'
        rw [hqv] at hrun c4 b4
        rw [C.b] at c4 z4 c3 b4 y4 C2
        simp only [Value.slice.injEq] at hv'
        obtain ⟨ea, _, _⟩ := hv'
        rw [← ea] at eg
        simp only [Option.some.injEq, Addr.mk.injEq, and_true] at eg
        subst eg
        exact ⟨v, rfl, aq, _, cq, c4, z4, c3, ci', va, vn, vc, w2, hrun, b4, y4, _, C.trans C2⟩)
      clear h hj hn hv zz hlt hgb hc e1 HS
      generalize S.L.length = N at *
      generalize S.c = cc at *
      generalize t.i = ti at *
      go_enter Try.func58, Try.ntmps58
      go_wp2_with fail
      go_quiet (fail)
      go_wp2_with (go_at_call 56; refine (O.out _).mono ?_; rintro e w1 ⟨v, rfl, aq, M, cq, c4, z4, c3, ci', va, vn, vc, w2, hrun, b4, y4, HC⟩)
      have ca1 := cell_keep ((Fr.refl none' w1).alloc (.cells #[.int .i64 ti] 3)) c4 (fun h => h)
      go_region_law (first | (refine step_append_run rfl (.tmp 41) (.tmp 50) 43 rfl _ _ _ _ rfl rfl hrun ?_))
      all_goals go_wp2_with fail
      all_goals refine post_void rfl rfl fun v => ?_
      all_goals exact ⟨v, rfl, HC.out⟩

set_option maxRecDepth 100000 in
set_option maxHeartbeats 2000000 in
theorem rpri_any (w : World) (q : Db) (S : Sd) (Q : List Int) (h : IsD w q S Q) (hl : Q.length ≤ 5000) (i p : Int) :
    Calls Try.prog 32 #[.pointer (some ⟨q.b, 0, none⟩), .int .i64 i, .int .i64 p] w fun e w' => e = .returned (.int .i64 (priE S i p)) ∧ ∃ q', ChgD w q w' q' (priS S i p) (priQ S Q i p) := by
  have HS : Hid (∃ q', ChgD w q w q' S Q) := ⟨q, ChgD.same h (Fr.refl _ _)⟩
  unfold priE priS priQ
  cases hf : fnd S.L i with
  | none =>
    have A := rat_no h hf
    clear h hf
    go_enter Try.func32, Try.ntmps32
    go_wp2_with (go_at_call 55; refine A.mono ?_; rintro e w1 ⟨rfl, rfl⟩)
    go_ret
    exact ⟨rfl, HS.out⟩
  | some t =>
    dsimp only
    obtain ⟨j, hj⟩ := fnd_ix hf
    have A := rat_at h hf hj
    by_cases h0 : p < 0
    · have g0 : decide (p < 0) = true := decide_eq_true h0
      have hno : ¬ (0 ≤ p ∧ p < 64) := by omega
      simp only [if_neg hno]
      clear h hf hj hno
      go_enter Try.func32, Try.ntmps32
      go_wp2_with (go_at_call 55; refine A.mono ?_; rintro e w1 ⟨rfl, rfl⟩)
      go_ret
      exact ⟨rfl, HS.out⟩
    have g0 : decide (p < 0) = false := decide_eq_false h0
    by_cases h1 : 63 < p
    · have g1 : decide (63 < p) = true := decide_eq_true h1
      have hno : ¬ (0 ≤ p ∧ p < 64) := by omega
      simp only [if_neg hno]
      clear h hf hj hno
      go_enter Try.func32, Try.ntmps32
      go_wp2_with (go_at_call 55; refine A.mono ?_; rintro e w1 ⟨rfl, rfl⟩)
      go_ret
      exact ⟨rfl, HS.out⟩
    have g1 : decide (63 < p) = false := decide_eq_false h1
    have hyes : 0 ≤ p ∧ p < 64 := by omega
    simp only [if_pos hyes]
    have hlt := lt_of_get hj
    have hlen := len_le h.good
    obtain ⟨av, cp, hv, _, hn⟩ := h.formL
    obtain ⟨g, rfl, hgb, _, c1, c2, _, _, zz⟩ := hn j t hj
    have z4 := zz (j * 5 + 1)
    have k3 := h.cells.2.2.2.1
    rw [hv] at k3
    have i1 : 0 ≤ (j : Int) ∧ (j : Int) < (S.L.length : Int) := by omega
    have hti := fnd_i hf
    have okt := h.good.all t (List.mem_of_getElem? hj)
    have C1 := h.setT hj hv (f := fun x => setPD p x.d x) (fun _ => rfl) (okt.setPD hyes.1 hyes.2 okt.d0 (by have := okt.d1; omega)) (r := 1) (by omega) (u := .int .i64 p) rfl
    have hj2 : (upd S.L t.i (fun x => setPD p x.d x))[j]? = some ((fun x => setPD p x.d x) t) := by
      rw [upd_at h.good hj, List.getElem?_set, if_pos rfl, if_pos hlt]
    have eL : upd S.L t.i (fun x => setPD p x.d x) = upd S.L t.i (setPD p t.d) := by
      unfold upd
      apply List.map_congr_left
      intro x hx
      by_cases e : x.i = t.i
      · rw [if_pos e, if_pos e]
        have e1 := fnd_of_mem h.good.one hx
        have e2 := fnd_of_mem h.good.one (List.mem_of_getElem? hj)
        rw [e, e2] at e1
        cases e1
        rfl
      · rw [if_neg e, if_neg e]
    have O : Hid (Calls Try.prog 58 #[.pointer (some ⟨q.b, 0, none⟩), .int .i64 (j : Int)] (w.setCell ⟨g, j * 5 + 1, none⟩ (.int .i64 p)) fun e w1 => ∃ v, e = .returned v ∧ Hid (∃ q', ChgD w q w1 q' (plaS S t p t.d) (agaQ S Q t))) := (ragain_any _ q _ Q C1.is hl j _ hj2).mono (by
      rintro e w1 ⟨v, rfl, q', C2⟩
      refine ⟨v, rfl, q', ?_⟩
      have C := C1.trans C2
      unfold plaS
      rw [show agaQ S Q t = agaQ { S with L := upd S.L t.i (fun x => setPD p x.d x) } Q ((fun x => setPD p x.d x) t) from rfl]
      split
      · exact C.of eL.symm rfl rfl rfl rfl
      · exact C.of eL.symm rfl rfl rfl rfl)
    generalize plaS S t p t.d = X at *
    generalize agaQ S Q t = Y at *
    clear h hf hj hn hv zz C1 hlt HS hgb hti okt hj2 eL
    generalize S.L.length = N at *
    go_enter Try.func32, Try.ntmps32
    go_wp2_with (first | (go_at_call 55; refine A.mono ?_; rintro e w1 ⟨rfl, rfl⟩) | (go_at_call 58; refine O.out.mono ?_; rintro e w2 ⟨v, rfl, HC⟩))
    go_ret
    exact ⟨rfl, HC.out⟩

set_option maxRecDepth 100000 in
set_option maxHeartbeats 2000000 in
theorem rsdom_any (w : World) (q : Db) (S : Sd) (Q : List Int) (h : IsD w q S Q) (hl : Q.length ≤ 5000) (i d : Int) :
    Calls Try.prog 34 #[.pointer (some ⟨q.b, 0, none⟩), .int .i64 i, .int .i64 d] w fun e w' => e = .returned (.int .i64 (domE S i d)) ∧ ∃ q', ChgD w q w' q' (domS S i d) (domQ S Q i d) := by
  have HS : Hid (∃ q', ChgD w q w q' S Q) := ⟨q, ChgD.same h (Fr.refl _ _)⟩
  unfold domE domS domQ
  cases hf : fnd S.L i with
  | none =>
    have A := rat_no h hf
    clear h hf
    go_enter Try.func34, Try.ntmps34
    go_wp2_with (go_at_call 55; refine A.mono ?_; rintro e w1 ⟨rfl, rfl⟩)
    go_ret
    exact ⟨rfl, HS.out⟩
  | some t =>
    dsimp only
    obtain ⟨j, hj⟩ := fnd_ix hf
    have A := rat_at h hf hj
    by_cases h0 : d < 0
    · have g0 : decide (d < 0) = true := decide_eq_true h0
      have hno : ¬ (0 ≤ d ∧ d < 4) := by omega
      simp only [if_neg hno]
      clear h hf hj hno
      go_enter Try.func34, Try.ntmps34
      go_wp2_with (go_at_call 55; refine A.mono ?_; rintro e w1 ⟨rfl, rfl⟩)
      go_ret
      exact ⟨rfl, HS.out⟩
    have g0 : decide (d < 0) = false := decide_eq_false h0
    by_cases h1 : 3 < d
    · have g1 : decide (3 < d) = true := decide_eq_true h1
      have hno : ¬ (0 ≤ d ∧ d < 4) := by omega
      simp only [if_neg hno]
      clear h hf hj hno
      go_enter Try.func34, Try.ntmps34
      go_wp2_with (go_at_call 55; refine A.mono ?_; rintro e w1 ⟨rfl, rfl⟩)
      go_ret
      exact ⟨rfl, HS.out⟩
    have g1 : decide (3 < d) = false := decide_eq_false h1
    have hyes : 0 ≤ d ∧ d < 4 := by omega
    simp only [if_pos hyes]
    have hlt := lt_of_get hj
    have hlen := len_le h.good
    obtain ⟨av, cp, hv, _, hn⟩ := h.formL
    obtain ⟨g, rfl, hgb, _, c1, c2, _, _, zz⟩ := hn j t hj
    have z4 := zz (j * 5 + 2)
    have k3 := h.cells.2.2.2.1
    rw [hv] at k3
    have i1 : 0 ≤ (j : Int) ∧ (j : Int) < (S.L.length : Int) := by omega
    have hti := fnd_i hf
    have okt := h.good.all t (List.mem_of_getElem? hj)
    have C1 := h.setT hj hv (f := fun x => setPD x.p d x) (fun _ => rfl) (okt.setPD okt.p0 (by have := okt.p1; omega) hyes.1 hyes.2) (r := 2) (by omega) (u := .int .i64 d) rfl
    have hj2 : (upd S.L t.i (fun x => setPD x.p d x))[j]? = some ((fun x => setPD x.p d x) t) := by
      rw [upd_at h.good hj, List.getElem?_set, if_pos rfl, if_pos hlt]
    have eL : upd S.L t.i (fun x => setPD x.p d x) = upd S.L t.i (setPD t.p d) := by
      unfold upd
      apply List.map_congr_left
      intro x hx
      by_cases e : x.i = t.i
      · rw [if_pos e, if_pos e]
        have e1 := fnd_of_mem h.good.one hx
        have e2 := fnd_of_mem h.good.one (List.mem_of_getElem? hj)
        rw [e, e2] at e1
        cases e1
        rfl
      · rw [if_neg e, if_neg e]
    have O : Hid (Calls Try.prog 58 #[.pointer (some ⟨q.b, 0, none⟩), .int .i64 (j : Int)] (w.setCell ⟨g, j * 5 + 2, none⟩ (.int .i64 d)) fun e w1 => ∃ v, e = .returned v ∧ Hid (∃ q', ChgD w q w1 q' (plaS S t t.p d) (agaQ S Q t))) := (ragain_any _ q _ Q C1.is hl j _ hj2).mono (by
      rintro e w1 ⟨v, rfl, q', C2⟩
      refine ⟨v, rfl, q', ?_⟩
      have C := C1.trans C2
      unfold plaS
      rw [show agaQ S Q t = agaQ { S with L := upd S.L t.i (fun x => setPD x.p d x) } Q ((fun x => setPD x.p d x) t) from rfl]
      split
      · exact C.of eL.symm rfl rfl rfl rfl
      · exact C.of eL.symm rfl rfl rfl rfl)
    generalize plaS S t t.p d = X at *
    generalize agaQ S Q t = Y at *
    clear h hf hj hn hv zz C1 hlt HS hgb hti okt hj2 eL
    generalize S.L.length = N at *
    go_enter Try.func34, Try.ntmps34
    go_wp2_with (first | (go_at_call 55; refine A.mono ?_; rintro e w1 ⟨rfl, rfl⟩) | (go_at_call 58; refine O.out.mono ?_; rintro e w2 ⟨v, rfl, HC⟩))
    go_ret
    exact ⟨rfl, HC.out⟩

end Go.Proofs.Ytipfgenbfnkpfaa
