/-
  Contracts of package sched's spend and Domain over the translation. No statement is proved here.
-/
import Derived.Test.YtipfgenbfnkpfaaSdStop
namespace Go.Proofs.Ytipfgenbfnkpfaa
open Go.RowKit Go.Maps Go.WideMaps

theorem ret_void {fn : Func} {R : Ending → World → Prop} {a : Act} {w : World} (hd : a.defers = []) (hr : fn.results = #[]) (h : ∀ v, R (.returned v) w) : bodyPost Try.prog fn R .ret a w :=
  bodyPost_ret (v := .tuple #[]) (by simp [results, hr]) hd (h _)

set_option maxRecDepth 100000 in
set_option maxHeartbeats 1000000 in
theorem spend_any (w : World) (p : Pb) (S : Sd) (h : IsS w p S) (ho : CurOk S) (hs : S.c ≠ -1 → 1 ≤ (curT S).s) (hl : Sh S) :
    Calls Try.prog 52 #[.pointer (some ⟨p.b, 0, none⟩)] w fun e w' => ∃ v, e = .returned v ∧ ∃ p', p'.b = p.b ∧ Chg w p S w' p' (speS S) := by
  have cc := h.cells.2.1
  unfold speS
  by_cases hc : S.c = -1
  · rw [if_pos hc]
    rw [hc, curV_none] at cc
    have HS : Hid (∃ p', p'.b = p.b ∧ Chg w p S w p' S) := ⟨p, rfl, Chg.same h (Fr.refl _ _)⟩
    clear h ho hl hc hs
    go_enter Try.func52, Try.ntmps52
    go_wp2
    refine ret_void rfl rfl fun v => ?_
    exact ⟨v, rfl, HS.out⟩
  · rw [if_neg hc]
    rw [curV_some hc] at cc
    have hf := ho.get hc
    have hmm := fnd_mem hf
    have r1 := h.tk _ hmm.1
    rw [hmm.2] at r1
    have c3 := r1.cells.2.2.2.1
    have z3 := r1.frozen 3
    have s0 := hs hc
    have hok := h.good.all _ hmm.1
    have s1 := hok.s1
    have hB : p.B (curT S).i = p.B S.c := by rw [hmm.2]
    have nb : p.B S.c ≠ p.b := by rw [← hB]; exact (h.bB hmm.1).1
    have nb' : p.b ≠ p.B S.c := fun e => nb e.symm
    have C1 := h.setTk hf (f := setSl ((curT S).s - 1)) (fun _ => rfl) (hok.setSl (by omega) (by omega)) (w' := w.setCell ⟨p.B S.c, 3, none⟩ (.int .i64 ((curT S).s - 1))) (by rw [hB]; exact fr_set _ _ _ _ (Fr.refl _ _)) (by rw [hB]; exact r1.setS _)
    have hw : IntKind.i64.wrap ((curT S).s - 1) = (curT S).s - 1 := by rw [IntKind.wrap_i64]; omega
    have hw2 : wrap64 ((curT S).s - 1) = (curT S).s - 1 := by unfold wrap64; omega
    have cc1 : (w.setCell ⟨p.B S.c, 3, none⟩ (.int .i64 ((curT S).s - 1))).cell? ⟨p.b, 257, none⟩ = some (pv (p.B S.c)) := by
      have := C1.is.cells.2.1
      rw [show curV p ({ S with L := upd S.L S.c (setSl ((curT S).s - 1)) } : Sd).c = pv (p.B S.c) from curV_some hc] at this
      exact this
    by_cases h1 : (curT S).s = 1
    · have t1 : ((curT S).s - 1 == 0) = true := by simp; omega
      have HI : Hid (Calls Try.prog 23 #[.pointer (some ⟨p.b, 0, none⟩)] (w.setCell ⟨p.B S.c, 3, none⟩ (.int .i64 ((curT S).s - 1))) fun e w' => ∃ v, e = .returned v ∧ ∃ p', p'.b = p.b ∧ Chg w p S w' p' (yieS { S with L := upd S.L S.c (setSl ((curT S).s - 1)) })) := (yield_any _ p _ C1.is (Or.inr ⟨_, fnd_upd_same hf (fun _ => rfl)⟩) hl).mono (by
        rintro e w' ⟨rfl, p', q1, q2⟩
        exact ⟨_, rfl, p', q1, C1.trans q2⟩)
      simp only [if_pos h1]
      generalize yieS { S with L := upd S.L S.c (setSl ((curT S).s - 1)) } = X at *
      clear h ho hl hc hs hf hmm r1 hok hB C1 h1
      generalize p.B S.c = g at *
      generalize (curT S).s = sl at *
      go_enter Try.func52, Try.ntmps52
      go_wp2_with (go_at_call 23; refine HI.out.mono ?_; rintro e w1 ⟨v, rfl, hC⟩; have HC : Hid _ := hC; clear hC)
      refine post_void rfl rfl fun v => ?_
      exact ⟨v, rfl, HC.out⟩
    · have t1 : ((curT S).s - 1 == 0) = false := by simp; omega
      simp only [if_neg h1]
      have HC : Hid (∃ p', p'.b = p.b ∧ Chg w p S (w.setCell ⟨p.B S.c, 3, none⟩ (.int .i64 ((curT S).s - 1))) p' { S with L := upd S.L S.c (setSl ((curT S).s - 1)) }) := exP C1 rfl
      clear h ho hl hs hf hmm r1 hok hB C1 h1
      generalize ({ S with L := upd S.L S.c (setSl ((curT S).s - 1)) } : Sd) = X at *
      generalize p.B S.c = g at *
      generalize (curT S).s = sl at *
      clear hc
      go_enter Try.func52, Try.ntmps52
      go_wp2_with fail
      refine post_void rfl rfl fun v => ?_
      exact ⟨v, rfl, HC.out⟩

theorem nexN_lt {S : Sd} (h : S.tn < S.tb.length) : nexN S < S.tb.length := Nat.mod_lt _ (by omega)
theorem turS_good {S : Sd} (g : GoodT { S with lf := 1 }) : GoodT (turS S) := by
  have hlt : nexN S < S.tb.length := nexN_lt g.tn
  have he : S.tb[nexN S]? = some S.tb[nexN S] := List.getElem?_eq_getElem hlt
  have hk := g.ok _ (List.mem_of_getElem? he)
  refine ⟨g.ok, g.len, hlt, ?_, ?_⟩
  · show 1 ≤ ((S.tb[nexN S]?).getD ⟨0, 1000⟩).n
    rw [he]
    exact hk.n0
  · show ((S.tb[nexN S]?).getD ⟨0, 1000⟩).n ≤ 1000
    rw [he]
    exact hk.n1
theorem tb_form {w : World} {p : Pb} {S : Sd} (h : IsS w p S) (hp : 0 < S.tb.length) : ∃ g cap, p.T = .slice (some ⟨g, 0, none⟩) S.tb.length cap ∧ g ≠ p.b ∧ ∀ w' : World, w'.heap[g]? = w.heap[g]? → ∀ j x, S.tb[j]? = some x → w'.cell? ⟨g, j * 2, none⟩ = some (.int .i64 x.d) ∧ w'.cell? ⟨g, j * 2 + 1, none⟩ = some (.int .i64 x.n) := by
  have hT := h.tbl
  obtain ⟨hl, hh | ⟨g, cap, cur, hv, hb, hg, hc, hm, hs, ht⟩⟩ := hT
  · rw [hh.2] at hp; omega
  · refine ⟨g, cap, hv, (h.bT (by rw [hv]; rfl)).1, fun w' hw' j x hj => ?_⟩
    have hlt : j < S.tb.length := by
      rcases Nat.lt_or_ge j S.tb.length with h' | h'
      · exact h'
      · rw [List.getElem?_eq_none h'] at hj; cases hj
    have hg' : Row w' g cur 33 := hw'.trans hg
    have key : ∀ r, r < 2 → w'.cell? ⟨g, j * 2 + r, none⟩ = (encN x)[r]? := fun r hr => by
      rw [hg'.cell, ← flatN_at S.tb j x hj r hr, ← ht, List.getElem?_take, if_pos (by omega)]
      simp
    exact ⟨key 0 (by omega), key 1 (by omega)⟩

theorem dom_lf (w : World) (p : Pb) (S : Sd) (h : IsS w p S) (gt : GoodT { S with lf := 1 }) :
    Calls Try.prog 15 #[.pointer (some ⟨p.b, 0, none⟩)] w fun e w' => e = .returned (.int .i64 (pe S)) ∧ ∃ n, w' = w.drewN n := by
  obtain ⟨_, _, ct, cn, _⟩ := h.cells
  obtain ⟨g, cap, hv, _, hx⟩ := tb_form h (by have := gt.tn; show 0 < S.tb.length; have e : S.tn < S.tb.length := gt.tn; omega)
  rw [hv] at ct
  have d0 := (hx w rfl _ _ gt.at).1
  have i1 : 0 ≤ (S.tn : Int) ∧ (S.tn : Int) < (S.tb.length : Int) := by have e : S.tn < S.tb.length := gt.tn; omega
  have HP : Hid ((pt { S with lf := 1 }).d = pe S) := rfl
  have d0' : w.cell? ⟨g, S.tn * 2, none⟩ = some (.int .i64 (pt { S with lf := 1 }).d) := d0
  clear d0
  generalize (pt { S with lf := 1 }).d = x at *
  generalize pe S = y at *
  obtain rfl : x = y := HP
  clear h hx hv gt
  generalize S.tn = tn at *
  generalize S.tb.length = m at *
  go_enter Try.func15, Try.ntmps15
  go_wp2_with fail
  go_quiet (fail)
  go_wp2_with fail
  go_ret
  exact ⟨rfl, _, rfl⟩

end Go.Proofs.Ytipfgenbfnkpfaa
