/-
  Contracts of package sched's putBack, ready, Domain, Current, Thread, Ready over the translation. No statement is proved here.
-/
import Derived.Test.YtipfgenbfnkpfaaSdApp
namespace Go.Proofs.Ytipfgenbfnkpfaa
open Go.RowKit Go.Maps Go.WideMaps

theorem curV_none (p : Pb) : curV p (-1) = .pointer none := rfl
theorem curV_some {p : Pb} {c : Int} (h : c ≠ -1) : curV p c = pv (p.B c) := by unfold curV; rw [if_neg h]

theorem equal_ptr {a b : Nat} {w : World} {ca cb : Array Value} {ta tb : TypeId} (ra : Row w a ca ta) (rb : Row w b cb tb) : (Op.equal 55 (pv a) (pv b)).run Try.prog w = .ok (decide (a = b)) w := by
  have hs : (sameAddr ⟨a, 0, none⟩ ⟨b, 0, none⟩).run Try.prog w = .ok (decide (a = b)) w := by
    by_cases e : a = b
    · subst e
      rw [run_sameAddr_same]
      simp
    · rw [run_sameAddr_other w (a := ⟨a, 0, none⟩) (b := ⟨b, 0, none⟩) (fun h => e (congrArg Addr.block h)) ra rb]
      simp [e]
  unfold Op.equal
  show (Op.equalIn (9999 + 1) _ _ _).run Try.prog w = _
  unfold Op.equalIn
  simp [run_underlying Try.underlying55, Result.andThen, hs]
theorem neq_ptr {a b : Nat} {w : World} {ca cb : Array Value} {ta tb : TypeId} (ra : Row w a ca ta) (rb : Row w b cb tb) : (binOp .neq 55 (pv a) (pv b)).run Try.prog w = .ok (.bool (!decide (a = b))) w := by
  have := equal_ptr ra rb
  simp [go_sem, binOp, this, Result.andThen]
theorem eql_ptr {a b : Nat} {w : World} {ca cb : Array Value} {ta tb : TypeId} (ra : Row w a ca ta) (rb : Row w b cb tb) : (binOp .eql 55 (pv a) (pv b)).run Try.prog w = .ok (.bool (decide (a = b))) w := by
  have := equal_ptr ra rb
  simp [go_sem, binOp, this, Result.andThen]

/-- The current one is a thread. -/
def CurOk (S : Sd) : Prop := S.c = -1 ∨ ∃ t, fnd S.L S.c = some t
theorem curT_of {S : Sd} {t : Tk} (h : fnd S.L S.c = some t) : curT S = t := by unfold curT; rw [h]; rfl
theorem CurOk.get {S : Sd} (h : CurOk S) (hc : S.c ≠ -1) : fnd S.L S.c = some (curT S) := by
  rcases h with h | ⟨t, h⟩
  · exact absurd h hc
  · rw [curT_of h]; exact h
theorem fnd_i {L : List Tk} {k : Int} {t : Tk} (h : fnd L k = some t) : t.i = k := (fnd_mem h).2

set_option maxHeartbeats 1000000 in
theorem back_any (w : World) (p : Pb) (S : Sd) (h : IsS w p S) {fn : Nat} {g : Int → List Int → List Int} (hm : Makes fn g) (hc : S.c ≠ -1) (hf : fnd S.L S.c = some (curT S)) (hl : (S.q (ky (curT S).d (curT S).p)).length ≤ 5000) :
    Calls Try.prog 42 #[.pointer (some ⟨p.b, 0, none⟩), .func (.func fn) #[] #[]] w fun e w' => ∃ v V', e = .returned v ∧ Chg w p S w' { p with V := V' } (back S g) := by
  have cc := h.cells.2.1
  rw [curV_some hc, ← fnd_i hf] at cc
  have HI : Hid (Calls Try.prog 46 #[.pointer (some ⟨p.b, 0, none⟩), pv (p.B (curT S).i), .func (.func fn) #[] #[]] w fun e w' => ∃ v, e = .returned v ∧ w'.cell? ⟨p.b, 257, none⟩ = some (pv (p.B (curT S).i)) ∧ w'.frozen? ⟨p.b, 257, none⟩ = false ∧ ∃ V', Chg w p S (w'.setCell ⟨p.b, 257, none⟩ (.pointer none)) { p with V := V' } (back S g)) := (apply_any w p S h hm hf hl).mono (by
    rintro e w' ⟨v, V', rfl, hC⟩
    have c2 := hC.is.cells.2.1
    have e2 : curV { p with V := V' } (app S (curT S) g).c = pv (p.B (curT S).i) := by rw [fnd_i hf]; exact curV_some hc
    rw [e2] at c2
    have h3 := hC.is.setCur (-1)
    rw [curV_none] at h3
    exact ⟨v, rfl, c2, hC.is.frozen 257, V', hC.trans h3⟩)
  clear h hm hf hl
  generalize p.B (curT S).i = gB at *
  generalize hpb : p.b = b at *
  go_enter Try.func42, Try.ntmps42
  go_wp2_with (go_at_call 46; refine HI.out.mono ?_; rintro e w1 ⟨v, rfl, c2, z2, V', hC⟩; have HC : Hid _ := hC; clear hC)
  refine post_void rfl rfl fun v => ?_
  exact ⟨v, V', rfl, HC.out⟩

/-- A thread's block and the current one's: one, if they are one thread. -/
theorem IsS.eqB {w : World} {p : Pb} {S : Sd} (h : IsS w p S) {a b : Int} {s t : Tk} (ha : fnd S.L a = some s) (hb : fnd S.L b = some t) : decide (p.B a = p.B b) = (a == b) := by
  have e1 := fnd_mem ha
  have e2 := fnd_mem hb
  by_cases e : a = b
  · subst e; simp
  · have : p.B a ≠ p.B b := fun he => e (by
      have := h.inj s e1.1 t e2.1 (by rw [e1.2, e2.2]; exact he)
      rw [e1.2, e2.2] at this
      exact this)
    simp [this, e]

set_option maxHeartbeats 1000000 in
theorem ready_any (w : World) (p : Pb) (S : Sd) (h : IsS w p S) (ho : CurOk S) {k : Int} {t : Tk} (hf : fnd S.L k = some t) :
    Calls Try.prog 54 #[.pointer (some ⟨p.b, 0, none⟩), pv (p.B k)] w fun e w' => e = .returned (.bool (rdy S t)) ∧ w' = w := by
  have hk := fnd_i hf
  have hmm := (fnd_mem hf).1
  have r1 := h.tk t hmm
  rw [hk] at r1
  have cc := h.cells.2.1
  have ca := r1.cells.2.2.2.2
  unfold rdy
  rw [hk]
  cases hA : t.a with
  | false =>
    rw [hA] at ca
    clear h r1
    go_enter Try.func54, Try.ntmps54
    go_wp2
    go_ret
    exact ⟨rfl, rfl⟩
  | true =>
    rw [hA] at ca
    by_cases hc : S.c = -1
    · rw [hc, curV_none] at cc
      have hk1 : (k == S.c) = false := by
        have := (h.good.all t hmm).i0
        rw [hc, ← hk]
        simp
        omega
      rw [hk1]
      clear h r1 ho
      go_enter Try.func54, Try.ntmps54
      go_wp2
      go_ret
      exact ⟨rfl, rfl⟩
    · have hg := ho.get hc
      have r2 := h.tk _ (fnd_mem hg).1
      rw [fnd_i hg] at r2
      rw [curV_some hc] at cc
      have hE := neq_ptr r1 r2
      rw [h.eqB hf hg] at hE
      generalize (k == S.c) = kb at *
      clear h r1 r2 ho hg
      go_enter Try.func54, Try.ntmps54
      go_wp2
      go_ret
      exact ⟨by simp, rfl⟩

theorem tb_cells {w : World} {p : Pb} {S : Sd} (h : IsS w p S) (gt : GoodT S) : ∃ g cap, p.T = .slice (some ⟨g, 0, none⟩) S.tb.length cap ∧ ∀ j x, S.tb[j]? = some x → w.cell? ⟨g, j * 2, none⟩ = some (.int .i64 x.d) ∧ w.cell? ⟨g, j * 2 + 1, none⟩ = some (.int .i64 x.n) := by
  obtain ⟨hl, hh | ⟨g, cap, cur, hv, hb, hg, hc, hm, hs, ht⟩⟩ := h.tbl
  · have := gt.tn; rw [hh.2] at this; omega
  · refine ⟨g, cap, hv, fun j x hj => ?_⟩
    have hlt : j < S.tb.length := by
      rcases Nat.lt_or_ge j S.tb.length with h' | h'
      · exact h'
      · rw [List.getElem?_eq_none h'] at hj; cases hj
    have key : ∀ r, r < 2 → w.cell? ⟨g, j * 2 + r, none⟩ = (encN x)[r]? := fun r hr => by
      rw [(show Row w g cur _ from hg).cell, ← flatN_at S.tb j x hj r hr, ← ht, List.getElem?_take, if_pos (by omega)]
      simp
    exact ⟨key 0 (by omega), key 1 (by omega)⟩

set_option maxHeartbeats 1000000 in
theorem domain_any (w : World) (p : Pb) (S : Sd) (h : IsS w p S) (gt : GoodT S) :
    Calls Try.prog 15 #[.pointer (some ⟨p.b, 0, none⟩)] w fun e w' => e = .returned (.int .i64 (pe S)) ∧ ∃ n, w' = w.drewN n := by
  obtain ⟨_, _, ct, cn, _⟩ := h.cells
  obtain ⟨g, cap, hv, hx⟩ := tb_cells h gt
  rw [hv] at ct
  have d0 := (hx _ _ gt.at).1
  have i1 : 0 ≤ (S.tn : Int) ∧ (S.tn : Int) < (S.tb.length : Int) := by have := gt.tn; omega
  have HP : Hid ((pt S).d = pe S) := rfl
  generalize (pt S).d = x at *
  generalize pe S = y at *
  obtain rfl : x = y := HP
  clear h hx hv gt
  generalize S.tn = tn at *
  generalize S.tb.length = m at *
  go_enter Try.func15, Try.ntmps15
  go_wp2_with fail
  go_quiet (fail)
  go_wp2_with fail
  go_ret
  exact ⟨rfl, _, rfl⟩

set_option maxHeartbeats 1000000 in
theorem current_any (w : World) (p : Pb) (S : Sd) (h : IsS w p S) (ho : CurOk S) :
    Calls Try.prog 16 #[.pointer (some ⟨p.b, 0, none⟩)] w fun e w' => e = .returned (.int .i64 S.c) ∧ w' = w := by
  have cc := h.cells.2.1
  by_cases hc : S.c = -1
  · rw [hc, curV_none] at cc
    rw [hc]
    clear h ho
    go_enter Try.func16, Try.ntmps16
    go_wp2
    go_ret
    exact ⟨rfl, rfl⟩
  · have hg := ho.get hc
    have r2 := h.tk _ (fnd_mem hg).1
    have c0 := r2.cells.1
    rw [fnd_i hg] at c0
    rw [curV_some hc] at cc
    clear h ho r2 hg
    go_enter Try.func16, Try.ntmps16
    go_wp2
    go_ret
    exact ⟨rfl, rfl⟩

theorem size_tk : (Try.prog.info? 40).map (·.size) = some 5 := by kernel_rfl
theorem ret_tk_tmp {fn : Func} {p u : Tmp} {tmps : Array Value} {g : Nat} {cs : Array Value} {w : World} (h : fn.results = #[.cell p 40, .tmp u]) (hp : tmps.getD p undef = .pointer (some ⟨g, 0, none⟩)) (hr : Row w g cs 40) (hs : cs.size = 5) :
    (results fn tmps).run Try.prog w = .ok (.tuple #[.agg cs, tmps.getD u undef]) w := by
  rw [results_cell_tmp h, hp]
  simp only [asAddr, Sem.run_pure, Result.andThen]
  rw [run_loadVar_row w g _ 40 cs (0, 0) _ hr Try.underlying40 rfl (by rw [hs]; exact size_tk)]

set_option maxRecDepth 100000 in
set_option maxHeartbeats 1000000 in
theorem thread_any (w : World) (p : Pb) (S : Sd) (h : IsS w p S) (k : Int) (hk : I64 k) :
    Calls Try.prog 17 #[.pointer (some ⟨p.b, 0, none⟩), .int .i64 k] w fun e w' => e = .returned (.tuple #[tkV (thrC S k), .int .i64 (thrE S k)]) ∧ Fr none' w w' := by
  have f0 := (Fr.refl none' w).alloc (.cells (tkA T0) 40)
  have h1 := h.keep0 f0
  have c0 := h1.cells.1
  unfold thrC thrE
  cases hf : fnd S.L k with
  | none =>
    have r0 := row_alloc w (tkA T0) 40
    have hL := h1.map.look_none hk (map_none hf)
    unfold T0 at *
    dsimp only [tkA, Option.getD] at *
    clear h h1 hk hf
    go_enter Try.func17, Try.ntmps17
    go_wp2
    refine bodyPost_ret (ret_tk_tmp rfl rfl r0 rfl) rfl ?_
    exact ⟨rfl, f0⟩
  | some x =>
    have hL := h1.map.look_some hk (map_some hf)
    have hm := (fnd_mem hf).1
    have hB : p.B x.i ≠ w.heap.size := by
      have := h.lt _ (Or.inr (Or.inr (Or.inl ⟨x, hm, rfl⟩)))
      omega
    obtain ⟨d0, d1, d2, d3, d4⟩ := (h1.tk x hm).cells
    have r0 := row_alloc w (tkA x) 40
    have f1 := (Fr.refl none' w).alloc (.cells (tkA x) 40)
    have hi := fnd_i hf
    subst hi
    unfold T0 at *
    dsimp only [tkA, Option.getD] at *
    clear h h1 hm f0 hf
    generalize p.B x.i = g at *
    obtain ⟨a1, a2, a3, a4, a5⟩ := x
    dsimp only at *
    go_enter Try.func17, Try.ntmps17
    go_wp2
    refine bodyPost_ret (ret_tk_tmp rfl rfl r0 rfl) rfl ?_
    exact ⟨rfl, f1⟩

end Go.Proofs.Ytipfgenbfnkpfaa
