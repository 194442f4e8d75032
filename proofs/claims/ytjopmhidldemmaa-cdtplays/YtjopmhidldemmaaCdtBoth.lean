/-
  Both forests beside one another, and an act by both. No statement is proved here.
-/
import Derived.Test.YtjopmhidldemmaaCdtGood
import Derived.Test.YtjopmhidldemmaaCdtRem
import Derived.Test.YtjopmhidldemmaaCdtPar
namespace Go.Proofs.Ytjopmhidldemmaa
open Go.RowKit Go.Maps Go.WideMaps

theorem ts_kind {w : World} {t : Nat} {T : Tr} (h : IsT w t T) {c : Nat} {cs : Array Value} {ty : TypeId} (r : Row w c cs ty) (h1 : ty ≠ 50) (h2 : ty ≠ 47) : ¬ T.s t c := by
  rintro (rfl | rfl | ⟨x, hx, rfl⟩)
  · have h' : w.heap[c]? = some (.cells cs ty (0, 0)) := r
    rw [show w.heap[c]? = _ from h.row] at h'
    cases h'
    exact h1 rfl
  · exact h.map.ne r rfl
  · obtain ⟨p', q', hr⟩ := h.ch.row x hx
    have h' : w.heap[x.b]? = some (.cells cs ty (0, 0)) := r
    rw [show w.heap[x.b]? = _ from hr] at h'
    cases h'
    exact h2 rfl
theorem ref_kind {w : World} {B c : Nat} {cs : Array Value} {ty : TypeId} (r : Row w c cs ty) (h1 : ty ≠ 30) (h2 : ty ≠ 64) (h3 : ty ≠ 3) : ¬ RefB B w c := by
  rintro ⟨_, cs', t', hr, ht⟩
  have h' : w.heap[c]? = some (.cells cs ty (0, 0)) := r
  rw [show w.heap[c]? = _ from hr] at h'
  cases h'
  rcases ht with h | h | h
  · exact h1 h
  · exact h2 h
  · exact h3 h
theorem ts_ref {w : World} {t B : Nat} {T : Tr} (h : IsT w t T) (k : Nat) (hk : T.s t k) : ¬ RefB B w k := by
  rintro ⟨_, cs', t', hr, ht⟩
  refine ts_kind h hr ?_ ?_ hk
  · rcases ht with rfl | rfl | rfl <;> decide
  · rcases ht with rfl | rfl | rfl <;> decide

/-- Both, newer than w0; at most n acts were done. -/
structure Bo (w0 w : World) (t r : Nat) (F : List En) (n : Nat) : Prop where
  ex : ∃ T q L ro, IsT w t T ∧ T.F = F ∧ (∀ k, T.s t k → w0.heap.size ≤ k) ∧ IsR w w0.heap.size r q L ro ∧ GoodR L ro ∧ L.length ≤ n
  wf : Wf F
  ln : F.length ≤ n
  fr : Fr none' w0 w

theorem Bo.keep0 {w0 w w' : World} {t r n : Nat} {F : List En} (h : Bo w0 w t r F n) (f : Fr none' w w') : Bo w0 w' t r F n := by
  obtain ⟨T, q, L, ro, h1, h2, h3, h4, h5⟩ := h.ex
  exact ⟨⟨T, q, L, ro, h1.keep0 f, h2, h3, h4.keep0 f, h5⟩, h.wf, h.ln, h.fr.trans f⟩
theorem Bo.mono {w0 w : World} {t r n m : Nat} {F : List En} (h : Bo w0 w t r F n) (hm : n ≤ m) : Bo w0 w t r F m := by
  obtain ⟨T, q, L, ro, h1, h2, h3, h4, h5, h6⟩ := h.ex
  exact ⟨⟨T, q, L, ro, h1, h2, h3, h4, h5, Nat.le_trans h6 hm⟩, h.wf, Nat.le_trans h.ln hm, h.fr⟩

theorem radd_len {L : List On} {ro : List Nat} (h : GoodR L ro) (a : Rf) : GoodR (raddL L a) (raddR L ro a) ∧ (raddL L a).length ≤ L.length + 1 := by
  unfold raddL raddR
  by_cases e : fdR a L = none
  · rw [if_pos e, if_pos e]
    exact ⟨good_add h a, by simp⟩
  · rw [if_neg e, if_neg e]
    exact ⟨h, by omega⟩
theorem rkid_len {L : List On} {ro : List Nat} (h : GoodR L ro) (p a : Rf) : GoodR (rkidL L p a) ro ∧ (rkidL L p a).length ≤ L.length + 1 := by
  unfold rkidL
  cases hp : fdR p L with
  | none => exact ⟨h, by simp⟩
  | some k =>
    cases ha : fdR a L with
    | some j => exact ⟨h, by simp⟩
    | none =>
      obtain ⟨o, ho, hg, _⟩ := fdR_some hp
      simp only [ho]
      exact ⟨good_kid h ho hg a, by rw [setK_len]; simp⟩
theorem rrem_len {L : List On} {ro : List Nat} (h : GoodR L ro) (a : Rf) : GoodR (rremL L a) (rremR L ro a) ∧ (rremL L a).length ≤ L.length + 1 := by
  refine ⟨good_rem h a, ?_⟩
  unfold rremL
  cases hp : fdR a L with
  | none => simp
  | some k =>
    simp only
    rw [setG_len]
    split
    · unfold rremM; rw [ups_len]; omega
    · rw [setK_len]; unfold rremM; rw [ups_len]; omega
theorem rmov_len {L : List On} {ro : List Nat} (h : GoodR L ro) (a b : Rf) : GoodR (rmovL L a b) ro ∧ (rmovL L a b).length ≤ L.length + 1 := by
  unfold rmovL
  split
  · exact ⟨good_ren h _ _, by rw [renR_len]; omega⟩
  · exact ⟨h, by omega⟩
theorem rswp_len {L : List On} {ro : List Nat} (h : GoodR L ro) (a b : Rf) : GoodR (rswpL L a b) ro ∧ (rswpL L a b).length ≤ L.length + 1 := by
  unfold rswpL
  split
  · exact ⟨good_ren (good_ren h _ _) _ _, by rw [renR_len, renR_len]; omega⟩
  · exact ⟨h, by omega⟩

/-- Behind both halves of an act. -/
theorem bo_step {w0 w w1 w2 : World} {t r n : Nat} {F' : List En} {T T' : Tr} {L' : List On} {ro' : List Nat} (hfr : Fr none' w0 w) (hT3 : ∀ k, T.s t k → w0.heap.size ≤ k) (cg : ChgT w t T w1 T') (hF' : T'.F = F') (cr : ChgR w1 w0.heap.size r w2 L' ro') (hg : GoodR L' ro') (hl : L'.length ≤ n) (wf : Wf F') (hln : F'.length ≤ n) : Bo w0 w2 t r F' n := by
  obtain ⟨h1, f1, n1⟩ := cg
  obtain ⟨q', h2, f2⟩ := cr
  have f1' : Fr none' w0 w1 := fr_high hfr f1 hT3
  refine ⟨⟨T', q', L', ro', h1.keep f2 (fun k hk => ts_ref h1 k hk), hF', fun k hk => ?_, h2, hg, hl⟩, wf, hln, fr_high f1' f2 (fun k hk => hk.1)⟩
  rcases n1 k hk with h | h
  · exact hT3 k h
  · exact Nat.le_trans hfr.size h

def acV (x : Ac) : Value := .agg #[.int .i64 x.op, .int .i64 x.a.n, .int .i64 x.a.i, .int .i64 x.b.n, .int .i64 x.b.i]

set_option maxRecDepth 100000 in
set_option maxHeartbeats 1000000 in
theorem does_1 (w0 w : World) (t r n : Nat) (F : List En) (h : Bo w0 w t r F n) (hn : n + 1 ≤ 900) (x : Ac) (hx : OkA x) (hop : x.op = 1) :
    Calls Try.prog 6 #[pv t, pv r, acV x] w fun e w' => (∃ b, e = .returned (.bool b)) ∧ Bo w0 w' t r (stepF F x) (n + 1) := by
  obtain ⟨T, q, L, ro, hT, hF, hT3, hR, hG, hL⟩ := h.ex
  have hfr := h.fr
  have hwf := h.wf
  have hlnF := h.ln
  subst hF
  have f1 := (Fr.refl none' w).alloc (.cells #[.int .i64 x.op, .int .i64 x.a.n, .int .i64 x.a.i, .int .i64 x.b.n, .int .i64 x.b.i] 35)
  have rx := row_alloc w #[.int .i64 x.op, .int .i64 x.a.n, .int .i64 x.a.i, .int .i64 x.b.n, .int .i64 x.b.i] 35
  have hT1 := hT.keep0 f1
  have hR1 := hR.keep0 f1
  have hfr1 := hfr.trans f1
  have hstep := wf_step hwf hx
  have hlstep := len_step T.F x
  have hsf : stepF T.F x = addS T.F x.a := by unfold stepF; rw [hop]; rfl
  have hlY : T.Y.length = T.F.length := by simp [Tr.F]
  have hp := add_any (w.alloc (.cells #[.int .i64 x.op, .int .i64 x.a.n, .int .i64 x.a.i, .int .i64 x.b.n, .int .i64 x.b.i] 35)) t T hT1 hwf x.a hx.a (by omega)
  have hx0 := hop
  obtain ⟨xop, xa, xb⟩ := x
  dsimp only at *
  subst hx0
  have HH : Hid _ := ⟨And.intro hT3 (And.intro hfr1 (And.intro hR1 (And.intro hG (And.intro hstep (And.intro hlstep (And.intro hL hsf))))))⟩
  have HT1 : Hid _ := ⟨hT1⟩
  have RX : Hid _ := ⟨rx⟩
  unfold acV
  clear h hT hR hG hT3 hfr hwf f1 hT1 hR1 hfr1 hstep hlstep hsf rx hop
  go_enter Try.func6, Try.ntmps6
  go_wp2_with fail
  refine hp.mono ?_
  rintro e w1 ⟨rfl, T', hF', cg⟩
  have rx := RX.out.keep cg.2.1 (ts_kind HT1.out RX.out (by decide) (by decide))
  have hR2 := HH.out.2.2.1.keep cg.2.1 (fun k hk hs => ts_ref HT1.out k hs (HH.out.2.2.1.kinds k hk))
  have a1 := rx.cell 1
  have a2 := rx.cell 2
  have a3 := rx.cell 3
  have a4 := rx.cell 4
  have hr := radd_any w1 w0.heap.size r q L ro hR2 xa (by have := HH.out.2.2.2.2.2.2.1; omega) (by have := HH.out.2.2.2.1.rl; have := HH.out.2.2.2.2.2.2.1; omega)
  clear rx hp
  go_wp2_with fail
  refine hr.mono ?_
  rintro e w2 ⟨rfl, cr⟩
  have hfin : Bo w0 w2 t r (stepF T.F ⟨1, xa, xb⟩) (n + 1) := by
    obtain ⟨hT3, hfr1, hR1, hG, hstep, hlstep, hL, hsf⟩ := HH.out
    have hgl := radd_len hG xa
    exact bo_step hfr1 hT3 cg (by rw [hF', hsf]) cr hgl.1 (by omega) hstep (by omega)
  have HB : Hid _ := ⟨hfin⟩
  clear hfin cr hr cg hR2 HH HT1 RX a1 a2 a3 a4
  go_wp2
  go_ret
  exact ⟨⟨_, rfl⟩, HB.out⟩

set_option maxRecDepth 100000 in
set_option maxHeartbeats 1000000 in
theorem does_2 (w0 w : World) (t r n : Nat) (F : List En) (h : Bo w0 w t r F n) (hn : n + 1 ≤ 900) (x : Ac) (hx : OkA x) (hop : x.op = 2) :
    Calls Try.prog 6 #[pv t, pv r, acV x] w fun e w' => (∃ b, e = .returned (.bool b)) ∧ Bo w0 w' t r (stepF F x) (n + 1) := by
  obtain ⟨T, q, L, ro, hT, hF, hT3, hR, hG, hL⟩ := h.ex
  have hfr := h.fr
  have hwf := h.wf
  have hlnF := h.ln
  subst hF
  have f1 := (Fr.refl none' w).alloc (.cells #[.int .i64 x.op, .int .i64 x.a.n, .int .i64 x.a.i, .int .i64 x.b.n, .int .i64 x.b.i] 35)
  have rx := row_alloc w #[.int .i64 x.op, .int .i64 x.a.n, .int .i64 x.a.i, .int .i64 x.b.n, .int .i64 x.b.i] 35
  have hT1 := hT.keep0 f1
  have hR1 := hR.keep0 f1
  have hfr1 := hfr.trans f1
  have hstep := wf_step hwf hx
  have hlstep := len_step T.F x
  have hsf : stepF T.F x = kidS T.F x.a x.b := by unfold stepF; rw [hop]; rfl
  have hlY : T.Y.length = T.F.length := by simp [Tr.F]
  have hp := child_any (w.alloc (.cells #[.int .i64 x.op, .int .i64 x.a.n, .int .i64 x.a.i, .int .i64 x.b.n, .int .i64 x.b.i] 35)) t T hT1 hwf x.a x.b hx.a hx.b (by omega)
  have hx0 := hop
  obtain ⟨xop, xa, xb⟩ := x
  dsimp only at *
  subst hx0
  have HH : Hid _ := ⟨And.intro hT3 (And.intro hfr1 (And.intro hR1 (And.intro hG (And.intro hstep (And.intro hlstep (And.intro hL hsf))))))⟩
  have HT1 : Hid _ := ⟨hT1⟩
  have RX : Hid _ := ⟨rx⟩
  unfold acV
  clear h hT hR hG hT3 hfr hwf f1 hT1 hR1 hfr1 hstep hlstep hsf rx hop
  go_enter Try.func6, Try.ntmps6
  go_wp2_with fail
  refine hp.mono ?_
  rintro e w1 ⟨rfl, T', hF', cg⟩
  have rx := RX.out.keep cg.2.1 (ts_kind HT1.out RX.out (by decide) (by decide))
  have hR2 := HH.out.2.2.1.keep cg.2.1 (fun k hk hs => ts_ref HT1.out k hs (HH.out.2.2.1.kinds k hk))
  have a1 := rx.cell 1
  have a2 := rx.cell 2
  have a3 := rx.cell 3
  have a4 := rx.cell 4
  have hr := rchild_any w1 w0.heap.size r q L ro hR2 xa xb (by have := HH.out.2.2.2.2.2.2.1; omega) (fun k o hk ho => by obtain ⟨o2, ho2, hg2, _⟩ := fdR_some hk; rw [ho] at ho2; cases ho2; have := HH.out.2.2.2.1.kl ho hg2; have := HH.out.2.2.2.2.2.2.1; omega)
  clear rx hp
  go_wp2_with fail
  refine hr.mono ?_
  rintro e w2 ⟨rfl, cr⟩
  have hfin : Bo w0 w2 t r (stepF T.F ⟨2, xa, xb⟩) (n + 1) := by
    obtain ⟨hT3, hfr1, hR1, hG, hstep, hlstep, hL, hsf⟩ := HH.out
    have hgl := rkid_len hG xa xb
    exact bo_step hfr1 hT3 cg (by rw [hF', hsf]) cr hgl.1 (by omega) hstep (by omega)
  have HB : Hid _ := ⟨hfin⟩
  clear hfin cr hr cg hR2 HH HT1 RX a1 a2 a3 a4
  go_wp2
  go_ret
  exact ⟨⟨_, rfl⟩, HB.out⟩

set_option maxRecDepth 100000 in
set_option maxHeartbeats 1000000 in
theorem does_3 (w0 w : World) (t r n : Nat) (F : List En) (h : Bo w0 w t r F n) (hn : n + 1 ≤ 900) (x : Ac) (hx : OkA x) (hop : x.op = 3) :
    Calls Try.prog 6 #[pv t, pv r, acV x] w fun e w' => (∃ b, e = .returned (.bool b)) ∧ Bo w0 w' t r (stepF F x) (n + 1) := by
  obtain ⟨T, q, L, ro, hT, hF, hT3, hR, hG, hL⟩ := h.ex
  have hfr := h.fr
  have hwf := h.wf
  have hlnF := h.ln
  subst hF
  have f1 := (Fr.refl none' w).alloc (.cells #[.int .i64 x.op, .int .i64 x.a.n, .int .i64 x.a.i, .int .i64 x.b.n, .int .i64 x.b.i] 35)
  have rx := row_alloc w #[.int .i64 x.op, .int .i64 x.a.n, .int .i64 x.a.i, .int .i64 x.b.n, .int .i64 x.b.i] 35
  have hT1 := hT.keep0 f1
  have hR1 := hR.keep0 f1
  have hfr1 := hfr.trans f1
  have hstep := wf_step hwf hx
  have hlstep := len_step T.F x
  have hsf : stepF T.F x = remF x.a T.F := by unfold stepF; rw [hop]; rfl
  have hlY : T.Y.length = T.F.length := by simp [Tr.F]
  have hp := remove_any (w.alloc (.cells #[.int .i64 x.op, .int .i64 x.a.n, .int .i64 x.a.i, .int .i64 x.b.n, .int .i64 x.b.i] 35)) t T hT1 hwf (by omega) x.a hx.a
  have hx0 := hop
  obtain ⟨xop, xa, xb⟩ := x
  dsimp only at *
  subst hx0
  have HH : Hid _ := ⟨And.intro hT3 (And.intro hfr1 (And.intro hR1 (And.intro hG (And.intro hstep (And.intro hlstep (And.intro hL hsf))))))⟩
  have HT1 : Hid _ := ⟨hT1⟩
  have RX : Hid _ := ⟨rx⟩
  unfold acV
  clear h hT hR hG hT3 hfr hwf f1 hT1 hR1 hfr1 hstep hlstep hsf rx hop
  go_enter Try.func6, Try.ntmps6
  go_wp2_with fail
  refine hp.mono ?_
  rintro e w1 ⟨rfl, T', hF', cg⟩
  have rx := RX.out.keep cg.2.1 (ts_kind HT1.out RX.out (by decide) (by decide))
  have hR2 := HH.out.2.2.1.keep cg.2.1 (fun k hk hs => ts_ref HT1.out k hs (HH.out.2.2.1.kinds k hk))
  have a1 := rx.cell 1
  have a2 := rx.cell 2
  have a3 := rx.cell 3
  have a4 := rx.cell 4
  have hr := rremove_any w1 w0.heap.size r q L ro hR2 xa (HH.out.2.2.2.1.rem (by have := HH.out.2.2.2.2.2.2.1; omega) xa)
  clear rx hp
  go_wp2_with fail
  refine hr.mono ?_
  rintro e w2 ⟨rfl, cr⟩
  have hfin : Bo w0 w2 t r (stepF T.F ⟨3, xa, xb⟩) (n + 1) := by
    obtain ⟨hT3, hfr1, hR1, hG, hstep, hlstep, hL, hsf⟩ := HH.out
    have hgl := rrem_len hG xa
    exact bo_step hfr1 hT3 cg (by rw [hF', hsf]) cr hgl.1 (by omega) hstep (by omega)
  have HB : Hid _ := ⟨hfin⟩
  clear hfin cr hr cg hR2 HH HT1 RX a1 a2 a3 a4
  go_wp2
  go_ret
  exact ⟨⟨_, rfl⟩, HB.out⟩

set_option maxRecDepth 100000 in
set_option maxHeartbeats 1000000 in
theorem does_4 (w0 w : World) (t r n : Nat) (F : List En) (h : Bo w0 w t r F n) (hn : n + 1 ≤ 900) (x : Ac) (hx : OkA x) (hop : x.op = 4) :
    Calls Try.prog 6 #[pv t, pv r, acV x] w fun e w' => (∃ b, e = .returned (.bool b)) ∧ Bo w0 w' t r (stepF F x) (n + 1) := by
  obtain ⟨T, q, L, ro, hT, hF, hT3, hR, hG, hL⟩ := h.ex
  have hfr := h.fr
  have hwf := h.wf
  have hlnF := h.ln
  subst hF
  have f1 := (Fr.refl none' w).alloc (.cells #[.int .i64 x.op, .int .i64 x.a.n, .int .i64 x.a.i, .int .i64 x.b.n, .int .i64 x.b.i] 35)
  have rx := row_alloc w #[.int .i64 x.op, .int .i64 x.a.n, .int .i64 x.a.i, .int .i64 x.b.n, .int .i64 x.b.i] 35
  have hT1 := hT.keep0 f1
  have hR1 := hR.keep0 f1
  have hfr1 := hfr.trans f1
  have hstep := wf_step hwf hx
  have hlstep := len_step T.F x
  have hsf : stepF T.F x = movS T.F x.a x.b := by unfold stepF; rw [hop]; rfl
  have hlY : T.Y.length = T.F.length := by simp [Tr.F]
  have hp := move_any (w.alloc (.cells #[.int .i64 x.op, .int .i64 x.a.n, .int .i64 x.a.i, .int .i64 x.b.n, .int .i64 x.b.i] 35)) t T hT1 hwf (by omega) x.a x.b hx.a hx.b
  have hx0 := hop
  obtain ⟨xop, xa, xb⟩ := x
  dsimp only at *
  subst hx0
  have HH : Hid _ := ⟨And.intro hT3 (And.intro hfr1 (And.intro hR1 (And.intro hG (And.intro hstep (And.intro hlstep (And.intro hL hsf))))))⟩
  have HT1 : Hid _ := ⟨hT1⟩
  have RX : Hid _ := ⟨rx⟩
  unfold acV
  clear h hT hR hG hT3 hfr hwf f1 hT1 hR1 hfr1 hstep hlstep hsf rx hop
  go_enter Try.func6, Try.ntmps6
  go_wp2_with fail
  refine hp.mono ?_
  rintro e w1 ⟨rfl, T', hF', cg⟩
  have rx := RX.out.keep cg.2.1 (ts_kind HT1.out RX.out (by decide) (by decide))
  have hR2 := HH.out.2.2.1.keep cg.2.1 (fun k hk hs => ts_ref HT1.out k hs (HH.out.2.2.1.kinds k hk))
  have a1 := rx.cell 1
  have a2 := rx.cell 2
  have a3 := rx.cell 3
  have a4 := rx.cell 4
  have hr := rmove_any w1 w0.heap.size r q L ro hR2 xa xb
  clear rx hp
  go_wp2_with fail
  refine hr.mono ?_
  rintro e w2 ⟨rfl, cr⟩
  have hfin : Bo w0 w2 t r (stepF T.F ⟨4, xa, xb⟩) (n + 1) := by
    obtain ⟨hT3, hfr1, hR1, hG, hstep, hlstep, hL, hsf⟩ := HH.out
    have hgl := rmov_len hG xa xb
    exact bo_step hfr1 hT3 cg (by rw [hF', hsf]) cr hgl.1 (by omega) hstep (by omega)
  have HB : Hid _ := ⟨hfin⟩
  clear hfin cr hr cg hR2 HH HT1 RX a1 a2 a3 a4
  go_wp2
  go_ret
  exact ⟨⟨_, rfl⟩, HB.out⟩

set_option maxRecDepth 100000 in
set_option maxHeartbeats 1000000 in
theorem does_5 (w0 w : World) (t r n : Nat) (F : List En) (h : Bo w0 w t r F n) (hn : n + 1 ≤ 900) (x : Ac) (hx : OkA x) (hop : x.op = 5) :
    Calls Try.prog 6 #[pv t, pv r, acV x] w fun e w' => (∃ b, e = .returned (.bool b)) ∧ Bo w0 w' t r (stepF F x) (n + 1) := by
  obtain ⟨T, q, L, ro, hT, hF, hT3, hR, hG, hL⟩ := h.ex
  have hfr := h.fr
  have hwf := h.wf
  have hlnF := h.ln
  subst hF
  have f1 := (Fr.refl none' w).alloc (.cells #[.int .i64 x.op, .int .i64 x.a.n, .int .i64 x.a.i, .int .i64 x.b.n, .int .i64 x.b.i] 35)
  have rx := row_alloc w #[.int .i64 x.op, .int .i64 x.a.n, .int .i64 x.a.i, .int .i64 x.b.n, .int .i64 x.b.i] 35
  have hT1 := hT.keep0 f1
  have hR1 := hR.keep0 f1
  have hfr1 := hfr.trans f1
  have hstep := wf_step hwf hx
  have hlstep := len_step T.F x
  have hsf : stepF T.F x = swpS T.F x.a x.b := by unfold stepF; rw [hop]; rfl
  have hlY : T.Y.length = T.F.length := by simp [Tr.F]
  have hp := swap_any (w.alloc (.cells #[.int .i64 x.op, .int .i64 x.a.n, .int .i64 x.a.i, .int .i64 x.b.n, .int .i64 x.b.i] 35)) t T hT1 hwf (by omega) x.a x.b hx.a hx.b
  have hx0 := hop
  obtain ⟨xop, xa, xb⟩ := x
  dsimp only at *
  subst hx0
  have HH : Hid _ := ⟨And.intro hT3 (And.intro hfr1 (And.intro hR1 (And.intro hG (And.intro hstep (And.intro hlstep (And.intro hL hsf))))))⟩
  have HT1 : Hid _ := ⟨hT1⟩
  have RX : Hid _ := ⟨rx⟩
  unfold acV
  clear h hT hR hG hT3 hfr hwf f1 hT1 hR1 hfr1 hstep hlstep hsf rx hop
  go_enter Try.func6, Try.ntmps6
  go_wp2_with fail
  refine hp.mono ?_
  rintro e w1 ⟨rfl, T', hF', cg⟩
  have rx := RX.out.keep cg.2.1 (ts_kind HT1.out RX.out (by decide) (by decide))
  have hR2 := HH.out.2.2.1.keep cg.2.1 (fun k hk hs => ts_ref HT1.out k hs (HH.out.2.2.1.kinds k hk))
  have a1 := rx.cell 1
  have a2 := rx.cell 2
  have a3 := rx.cell 3
  have a4 := rx.cell 4
  have hr := rswap_any w1 w0.heap.size r q L ro hR2 xa xb
  clear rx hp
  go_wp2_with fail
  refine hr.mono ?_
  rintro e w2 ⟨rfl, cr⟩
  have hfin : Bo w0 w2 t r (stepF T.F ⟨5, xa, xb⟩) (n + 1) := by
    obtain ⟨hT3, hfr1, hR1, hG, hstep, hlstep, hL, hsf⟩ := HH.out
    have hgl := rswp_len hG xa xb
    exact bo_step hfr1 hT3 cg (by rw [hF', hsf]) cr hgl.1 (by omega) hstep (by omega)
  have HB : Hid _ := ⟨hfin⟩
  clear hfin cr hr cg hR2 HH HT1 RX a1 a2 a3 a4
  go_wp2
  go_ret
  exact ⟨⟨_, rfl⟩, HB.out⟩

set_option maxRecDepth 100000 in
set_option maxHeartbeats 1000000 in
theorem does_0 (w0 w : World) (t r n : Nat) (F : List En) (h : Bo w0 w t r F n) (x : Ac) (h1 : x.op ≠ 1) (h2 : x.op ≠ 2) (h3 : x.op ≠ 3) (h4 : x.op ≠ 4) (h5 : x.op ≠ 5) :
    Calls Try.prog 6 #[pv t, pv r, acV x] w fun e w' => (∃ b, e = .returned (.bool b)) ∧ Bo w0 w' t r (stepF F x) (n + 1) := by
  have f1 := (Fr.refl none' w).alloc (.cells #[.int .i64 x.op, .int .i64 x.a.n, .int .i64 x.a.i, .int .i64 x.b.n, .int .i64 x.b.i] 35)
  have hB := (h.keep0 f1).mono (Nat.le_succ n)
  have hsf : stepF F x = F := by unfold stepF; rw [if_neg h1, if_neg h2, if_neg h3, if_neg h4, if_neg h5]
  rw [hsf]
  have HB : Hid _ := ⟨hB⟩
  have t1 : (x.op == 1) = false := by simpa using h1
  have t2 : (x.op == 2) = false := by simpa using h2
  have t3 : (x.op == 3) = false := by simpa using h3
  have t4 : (x.op == 4) = false := by simpa using h4
  have t5 : (x.op == 5) = false := by simpa using h5
  unfold acV
  clear h hB f1 hsf h1 h2 h3 h4 h5
  go_enter Try.func6, Try.ntmps6
  go_wp2
  go_ret
  exact ⟨⟨_, rfl⟩, HB.out⟩

theorem does_any (w0 w : World) (t r n : Nat) (F : List En) (h : Bo w0 w t r F n) (hn : n + 1 ≤ 900) (x : Ac) (hx : OkA x) :
    Calls Try.prog 6 #[pv t, pv r, acV x] w fun e w' => (∃ b, e = .returned (.bool b)) ∧ Bo w0 w' t r (stepF F x) (n + 1) := by
  by_cases h1 : x.op = 1
  · exact does_1 w0 w t r n F h hn x hx h1
  by_cases h2 : x.op = 2
  · exact does_2 w0 w t r n F h hn x hx h2
  by_cases h3 : x.op = 3
  · exact does_3 w0 w t r n F h hn x hx h3
  by_cases h4 : x.op = 4
  · exact does_4 w0 w t r n F h hn x hx h4
  by_cases h5 : x.op = 5
  · exact does_5 w0 w t r n F h hn x hx h5
  exact does_0 w0 w t r n F h x h1 h2 h3 h4 h5

end Go.Proofs.Ytjopmhidldemmaa
