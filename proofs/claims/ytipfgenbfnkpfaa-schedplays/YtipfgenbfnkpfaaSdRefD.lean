/-
  The document's Yield, front, Thread, Drop over the translation. No statement is proved here.
-/
import Derived.Test.YtipfgenbfnkpfaaSdRefC
namespace Go.Proofs.Ytipfgenbfnkpfaa
open Go.RowKit Go.Maps Go.WideMaps

theorem fnd_neg {L : List Tk} (g : GoodL L) : fnd L (-1) = none := by
  cases h : fnd L (-1) with
  | none => rfl
  | some t => have := fnd_pos g h; omega

set_option maxRecDepth 100000 in
set_option maxHeartbeats 2000000 in
theorem ryield_any (w : World) (q : Db) (S : Sd) (Q : List Int) (h : IsD w q S Q) (hl : Q.length ≤ 5000) (ho : CurOk S) :
    Calls Try.prog 35 #[.pointer (some ⟨q.b, 0, none⟩)] w fun e w' => e = .returned (.int .i64 (yieE S)) ∧ ∃ q', ChgD w q w' q' (yieS S) (yieQ S Q) := by
  have HS : Hid (∃ q', ChgD w q w q' S Q) := ⟨q, ChgD.same h (Fr.refl _ _)⟩
  have k5 := h.cells.2.2.2.2.2
  unfold yieE yieS yieQ
  by_cases hc : S.c = -1
  · simp only [if_pos hc]
    have A := rat_no h (k := S.c) (by rw [hc]; exact fnd_neg h.good)
    clear h hc
    generalize S.c = cc at *
    go_enter Try.func35, Try.ntmps35
    go_wp2_with (go_at_call 55; refine A.mono ?_; rintro e w1 ⟨rfl, rfl⟩)
    go_ret
    exact ⟨rfl, HS.out⟩
  · simp only [if_neg hc]
    have hf := ho.get hc
    generalize curT S = t at *
    obtain ⟨j, hj⟩ := fnd_ix hf
    have A := rat_at h hf hj
    have hlt := lt_of_get hj
    have hlen := len_le h.good
    obtain ⟨av, cp, hv, _, hn⟩ := h.formL
    obtain ⟨g, rfl, hgb, _, _, _, cs, _, zz⟩ := hn j t hj
    have z4 := zz (j * 5 + 3)
    have k3 := h.cells.2.2.2.1
    rw [hv] at k3
    have i1 : 0 ≤ (j : Int) ∧ (j : Int) < (S.L.length : Int) := by omega
    have hti := fnd_i hf
    have C1 := h.setT hj hv (f := setSl 4) (fun _ => rfl) ((h.good.all t (List.mem_of_getElem? hj)).setSl (by omega) (by omega)) (r := 3) (by omega) (u := .int .i64 4) rfl
    rw [hti] at C1
    have f1 := ((Fr.refl none' (w.setCell ⟨g, j * 5 + 3, none⟩ (.int .i64 4))).alloc (.cells #[.int .i64 S.c] 3)).drew
    obtain ⟨va, vn, vc, w', hrun, b4, y4, b5, y5, C2⟩ := C1.is.push hl S.c f1 (show Row ((w.setCell ⟨g, j * 5 + 3, none⟩ (.int .i64 4)).alloc (.cells #[.int .i64 S.c] 3)).drew (w.setCell ⟨g, j * 5 + 3, none⟩ (.int .i64 4)).heap.size #[.int .i64 S.c] 3 from row_alloc _ _ _)
    have C3 := C2.is.setC (-1)
    have HC : Hid (∃ q', ChgD w q ((w'.setCell ⟨q.b, 4, none⟩ (.slice va vn vc)).setCell ⟨q.b, 5, none⟩ (.int .i64 (-1))) q' (back { S with L := upd S.L S.c (setSl 4) } gEnd) (Q ++ [S.c])) := ⟨_, ((C1.trans C2).trans C3).of rfl rfl rfl rfl rfl⟩
    have k4 := C1.is.cells.2.2.2.2.1
    have z44 := C1.is.frozen 4
    have k5' := C1.is.cells.2.2.2.2.2
    have b5' := C2.is.cells.2.2.2.2.2
    have y5' := C2.is.frozen 5
    dsimp only at k5' b5' y5'
    obtain ⟨aq, cq, hqv, _⟩ := h.formQ
    rw [hqv] at hrun b4 k4
    have s1 : (w.setCell ⟨g, j * 5 + 3, none⟩ (.int .i64 4)).heap.size = w.heap.size := by simp
    rw [s1] at hrun
    have ca1 := cell_keep ((Fr.refl none' (w.setCell ⟨g, j * 5 + 3, none⟩ (.int .i64 4))).alloc (.cells #[.int .i64 S.c] 3)) k4 (fun h => h)
    have hgb' : q.b ≠ g := fun e => hgb e.symm
    clear h hf hj hn hv zz C1 C2 C3 f1 hqv hlt HS ho hc hti s1
    generalize S.L.length = N at *
    generalize Q.length = M at *
    go_enter Try.func35, Try.ntmps35
    go_wp2_with (go_at_call 55; refine A.mono ?_; rintro e w1 ⟨rfl, rfl⟩)
    go_region_law (first | (refine step_append_run rfl (.tmp 23) (.tmp 28) 43 rfl _ _ _ _ rfl rfl hrun ?_))
    all_goals go_wp2_with fail
    all_goals go_ret
    all_goals exact ⟨rfl, HC.out⟩

/-- A number put ahead of those who are ready. -/
theorem IsD.ahead {w : World} {q : Db} {S : Sd} {Q : List Int} (h : IsD w q S Q) (hl : Q.length ≤ 5000) (x : Int) {w1 : World} {g : Nat} (f1 : Fr none' w w1) (hg : w.heap.size ≤ g) (r1 : Row w1 g #[.int .i64 x] 3) :
    ∃ (va : Option Addr) (vn vc : Nat) (w' : World), (Builtin.append_ #[43, 43] 43 #[.slice (some ⟨g, 0, none⟩) 1 1, q.Qv]).run Try.prog w1 = .ok (.slice va vn vc) w' ∧ w'.cell? ⟨q.b, 4, none⟩ = some q.Qv ∧ w'.frozen? ⟨q.b, 4, none⟩ = false ∧ ChgD w q (w'.setCell ⟨q.b, 4, none⟩ (.slice va vn vc)) { q with Qv := .slice va vn vc } S (x :: Q) := by
  have hn : g < w1.heap.size := r1.lt
  have o1 : w1.ownsRow 0 3 1 (.slice (some ⟨g, 0, none⟩) 1 1) [x].length (vI [x]) := own_of (l := [x]) (cap := 1) r1 (by simp) (by simp [maxLen]) rfl (by
    intro j y hj
    match j, hj with
    | 0, hj => cases hj; rfl
    | j + 1, hj => simp at hj)
  obtain ⟨v', w', hrun, f2, h2, h3⟩ : ∃ v' w', (Builtin.append_ #[43, 43] 43 #[.slice (some ⟨g, 0, none⟩) 1 1, q.Qv]).run Try.prog w1 = .ok v' w' ∧ Fr (at' g) w1 w' ∧ w'.ownsRow 0 3 1 v' (x :: Q).length (vI (x :: Q)) ∧ (v'.ownBlock = some g ∨ v'.ownBlock = some w1.heap.size) := by
    rcases own_form h.que with ⟨e, rfl⟩ | ⟨gq, cap, e⟩
    · rw [e]
      have hi := info_i
      cases hq : Try.prog.info? 3 with
      | none => simp [hq] at hi
      | some i => exact ⟨_, _, run_append_owned_none (P := Try.prog) (w := w1) 0 43 43 3 i 1 Try.underlying43 hq _ _ _ o1, Fr.refl _ _, o1, Or.inl rfl⟩
    · have hq := h.que
      rw [e] at hq ⊢
      obtain ⟨_, hlc, hcm, cur, hr, hs, hx⟩ := own_cells hq
      have hr1 := hr.keep f1 (fun h => h)
      obtain ⟨v', w', a1, a2, a3, a4⟩ := append_q w1 (.slice (some ⟨g, 0, none⟩) 1 1) [x] Q ⟨gq, 0, none⟩ cap o1 (by simp; omega) (fun j u hu => by
        rw [add_lit', Nat.zero_add, hr1.cell]
        unfold vI at hu
        rw [List.getElem?_map] at hu
        cases hj : Q[j]? with
        | none => rw [hj] at hu; cases hu
        | some y => rw [hj] at hu; simp at hu; subst hu; exact hx j y hj)
      exact ⟨v', w', a1, a2.mono (fun k _ e => own_is e), a3, a4⟩
  obtain ⟨va, vn, vc, rfl⟩ : ∃ a n c, v' = .slice a n c := by
    rcases own_form h2 with ⟨e, _⟩ | ⟨g, cap, e⟩
    · exact ⟨_, _, _, e⟩
    · exact ⟨_, _, _, e⟩
  have fr : Fr none' w w' := f1.newer f2 hg
  have r2 : Row w' q.b (dC q S) 60 := h.row.keep fr (fun h => h)
  refine ⟨va, vn, vc, w', hrun, r2.cell 4, r2.frozen 4, h.setQ (fr.mono (fun _ _ h => h.elim)) h2 (fun k hk => ?_)⟩
  have := f1.size
  rcases h3 with h3 | h3
  · rw [h3] at hk
    have := Option.some.inj hk
    exact Or.inr (by omega)
  · rw [h3] at hk
    have := Option.some.inj hk
    exact Or.inr (by omega)

set_option maxRecDepth 100000 in
set_option maxHeartbeats 2000000 in
theorem rfront_any (w : World) (q : Db) (S : Sd) (Q : List Int) (h : IsD w q S Q) (hl : Q.length ≤ 5000) :
    Calls Try.prog 59 #[.pointer (some ⟨q.b, 0, none⟩)] w fun e w' => ∃ v, e = .returned v ∧ ∃ q', ChgD w q w' q' { S with c := -1 } (S.c :: Q) ∧ q'.Lv = q.Lv := by
  have k5 := h.cells.2.2.2.2.2
  have k4 := h.cells.2.2.2.2.1
  have f1 := ((Fr.refl none' w).alloc (.cells #[.int .i64 S.c] 3)).drew
  obtain ⟨va, vn, vc, w', hrun, b4, y4, C2⟩ := h.ahead hl S.c f1 (Nat.le_refl _) (show Row (w.alloc (.cells #[.int .i64 S.c] 3)).drew w.heap.size #[.int .i64 S.c] 3 from row_alloc _ _ _)
  have C3 := C2.is.setC (-1)
  have HC : Hid (∃ q', ChgD w q ((w'.setCell ⟨q.b, 4, none⟩ (.slice va vn vc)).setCell ⟨q.b, 5, none⟩ (.int .i64 (-1))) q' { S with c := -1 } (S.c :: Q) ∧ q'.Lv = q.Lv) := ⟨_, C2.trans C3, rfl⟩
  have b5' := C2.is.cells.2.2.2.2.2
  have y5' := C2.is.frozen 5
  dsimp only at b5' y5'
  obtain ⟨aq, cq, hqv, _⟩ := h.formQ
  rw [hqv] at hrun b4 k4
  have ca1 := cell_keep ((Fr.refl none' w).alloc (.cells #[.int .i64 S.c] 3)) k4 (fun h => h)
  clear h C2 C3 f1 hqv
  generalize Q.length = M at *
  go_enter Try.func59, Try.ntmps59
  go_wp2_with fail
  go_region_law (first | (refine step_append_run rfl (.tmp 7) (.tmp 11) 43 rfl _ _ _ _ rfl rfl hrun ?_))
  all_goals go_wp2_with fail
  all_goals refine post_void rfl rfl fun v => ?_
  all_goals exact ⟨v, rfl, HC.out⟩

set_option maxRecDepth 100000 in
set_option maxHeartbeats 2000000 in
theorem rthread_any (w : World) (q : Db) (S : Sd) (Q : List Int) (h : IsD w q S Q) (k : Int) :
    Calls Try.prog 39 #[.pointer (some ⟨q.b, 0, none⟩), .int .i64 k] w fun e w' => e = .returned (.tuple #[tkV (thrC S k), .int .i64 (thrE S k)]) ∧ Fr none' w w' := by
  have f0 := (Fr.refl none' w).alloc (.cells (tkA T0) 40)
  have h1 := h.keep0 f0
  unfold thrC thrE
  cases hf : fnd S.L k with
  | none =>
    have r0 := row_alloc w (tkA T0) 40
    have A := rat_no h1 hf
    unfold T0 at *
    dsimp only [tkA, Option.getD] at *
    clear h h1 hf
    go_enter Try.func39, Try.ntmps39
    go_wp2_with (go_at_call 55; refine A.mono ?_; rintro e w1 ⟨rfl, rfl⟩)
    refine bodyPost_ret (ret_tk_tmp rfl rfl r0 rfl) rfl ?_
    exact ⟨rfl, f0⟩
  | some x =>
    obtain ⟨j, hj⟩ := fnd_ix hf
    have A := rat_at h1 hf hj
    have hlt := lt_of_get hj
    obtain ⟨av, cp, hv, _, hn⟩ := h1.formL
    obtain ⟨g, rfl, hgb, d0, d1, d2, d3, d4, zz⟩ := hn j x hj
    have k3 := h1.cells.2.2.2.1
    rw [hv] at k3
    have i1 : 0 ≤ (j : Int) ∧ (j : Int) < (S.L.length : Int) := by omega
    have r0 := row_alloc w (tkA x) 40
    have f1 := (Fr.refl none' w).alloc (.cells (tkA x) 40)
    have hgn : g ≠ w.heap.size := by
      have hv0 : some g = q.Lv.ownBlock := by rw [hv]; rfl
      have := h.lt g (Or.inr (Or.inr (Or.inl hv0)))
      omega
    unfold T0 at *
    dsimp only [tkA, Option.getD] at *
    clear h h1 hf hj hn hv zz hlt hgb f0
    generalize S.L.length = N at *
    obtain ⟨a1, a2, a3, a4, a5⟩ := x
    dsimp only at *
    go_enter Try.func39, Try.ntmps39
    go_wp2_with (go_at_call 55; refine A.mono ?_; rintro e w1 ⟨rfl, rfl⟩)
    refine bodyPost_ret (ret_tk_tmp rfl rfl r0 rfl) rfl ?_
    exact ⟨rfl, f1⟩

end Go.Proofs.Ytipfgenbfnkpfaa
