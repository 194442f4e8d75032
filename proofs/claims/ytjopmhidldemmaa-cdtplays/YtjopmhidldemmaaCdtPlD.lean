/-
  An act by both forests: they answer alike, and tell one forest. No statement is proved here.
-/
import Derived.Test.YtjopmhidldemmaaCdtPr
import Derived.Test.YtjopmhidldemmaaCdtUndA
namespace Go.Proofs.Ytjopmhidldemmaa
open Go.RowKit Go.Maps Go.WideMaps

/-- Both, newer than w0, telling one forest; at most n acts were done. -/
structure BoP (w0 w : World) (t r : Nat) (F : List En) (n : Nat) : Prop where
  ex : ∃ T q L ro, IsT w t T ∧ T.F = F ∧ (∀ k, T.s t k → w0.heap.size ≤ k) ∧ IsR w w0.heap.size r q L ro ∧ Rel L ro F ∧ L.length ≤ n
  wf : Wf F
  ln : F.length ≤ n
  fr : Fr none' w0 w

theorem BoP.keep0 {w0 w w' : World} {t r n : Nat} {F : List En} (h : BoP w0 w t r F n) (f : Fr none' w w') : BoP w0 w' t r F n := by
  obtain ⟨T, q, L, ro, h1, h2, h3, h4, h5⟩ := h.ex
  exact ⟨⟨T, q, L, ro, h1.keep0 f, h2, h3, h4.keep0 f, h5⟩, h.wf, h.ln, h.fr.trans f⟩
theorem BoP.mono {w0 w : World} {t r n m : Nat} {F : List En} (h : BoP w0 w t r F n) (hm : n ≤ m) : BoP w0 w t r F m := by
  obtain ⟨T, q, L, ro, h1, h2, h3, h4, h5, h6⟩ := h.ex
  exact ⟨⟨T, q, L, ro, h1, h2, h3, h4, h5, Nat.le_trans h6 hm⟩, h.wf, Nat.le_trans h.ln hm, h.fr⟩
theorem BoP.pr {w0 w : World} {t r n : Nat} {F : List En} (h : BoP w0 w t r F n) (hn : n ≤ 200) : Pr w0 w t F := by
  obtain ⟨T, q, L, ro, h1, h2, h3, _⟩ := h.ex
  exact ⟨⟨T, h1, h2, h3⟩, h.wf, Nat.le_trans h.ln hn, h.fr⟩
theorem bop_step {w0 w w1 w2 : World} {t r n : Nat} {F' : List En} {T T' : Tr} {L' : List On} {ro' : List Nat} (hfr : Fr none' w0 w) (hT3 : ∀ k, T.s t k → w0.heap.size ≤ k) (cg : ChgT w t T w1 T') (hF' : T'.F = F') (cr : ChgR w1 w0.heap.size r w2 L' ro') (hg : Rel L' ro' F') (hl : L'.length ≤ n) (wf : Wf F') (hln : F'.length ≤ n) : BoP w0 w2 t r F' n := by
  obtain ⟨h1, f1, n1⟩ := cg
  obtain ⟨q', h2, f2⟩ := cr
  have f1' : Fr none' w0 w1 := fr_high hfr f1 hT3
  refine ⟨⟨T', q', L', ro', h1.keep f2 (fun k hk => ts_ref h1 k hk), hF', fun k hk => ?_, h2, hg, hl⟩, wf, hln, fr_high f1' f2 (fun k hk => hk.1)⟩
  rcases n1 k hk with h | h
  · exact hT3 k h
  · exact Nat.le_trans hfr.size h

set_option maxRecDepth 100000 in
set_option maxHeartbeats 1000000 in
theorem dop_1 (w0 w : World) (t r n : Nat) (F : List En) (h : BoP w0 w t r F n) (hn : n + 1 ≤ 900) (x : Ac) (hx : OkA x) (hop : x.op = 1) :
    Calls Try.prog 6 #[pv t, pv r, acV x] w fun e w' => e = .returned (.bool true) ∧ BoP w0 w' t r (stepF F x) (n + 1) := by
  obtain ⟨T, q, L, ro, hT, hF, hT3, hR, hRl, hL⟩ := h.ex
  have hG := hRl.good
  have hfr := h.fr
  have hwf := h.wf
  have hlnF := h.ln
  subst hF
  have f1 := (Fr.refl none' w).alloc (.cells #[.int .i64 x.op, .int .i64 x.a.n, .int .i64 x.a.i, .int .i64 x.b.n, .int .i64 x.b.i] 35)
  have rx := row_alloc w #[.int .i64 x.op, .int .i64 x.a.n, .int .i64 x.a.i, .int .i64 x.b.n, .int .i64 x.b.i] 35
  have hT1 := hT.keep0 f1
  have hR1 := hR.keep0 f1
  have hfr1 := hfr.trans f1
  have hstep := wf_step hwf hx
  have hlstep := len_step T.F x
  have hsf : stepF T.F x = addS T.F x.a := by unfold stepF; rw [hop]; rfl
  have hlY : T.Y.length = T.F.length := by simp [Tr.F]
  have hp := add_any (w.alloc (.cells #[.int .i64 x.op, .int .i64 x.a.n, .int .i64 x.a.i, .int .i64 x.b.n, .int .i64 x.b.i] 35)) t T hT1 hwf x.a hx.a (by omega)
  have hsm := hRl.addSS x.a
  rw [hsm.1] at hp
  have hx0 := hop
  obtain ⟨xop, xa, xb⟩ := x
  dsimp only at *
  subst hx0
  have HH : Hid _ := ⟨And.intro hT3 (And.intro hfr1 (And.intro hR1 (And.intro hG (And.intro hstep (And.intro hlstep (And.intro hL hsf))))))⟩
  have HT1 : Hid _ := ⟨hT1⟩
  have HSM : Hid _ := ⟨hsm.2⟩
  have RX : Hid _ := ⟨rx⟩
  unfold acV
  clear h hsm hRl hT hR hG hT3 hfr hwf f1 hT1 hR1 hfr1 hstep hlstep hsf rx hop
  go_enter Try.func6, Try.ntmps6
  go_wp2_with fail
  refine hp.mono ?_
  rintro e w1 ⟨rfl, T', hF', cg⟩
  have rx := RX.out.keep cg.2.1 (ts_kind HT1.out RX.out (by decide) (by decide))
  have hR2 := HH.out.2.2.1.keep cg.2.1 (fun k hk hs => ts_ref HT1.out k hs (HH.out.2.2.1.kinds k hk))
  have a1 := rx.cell 1
  have a2 := rx.cell 2
  have a3 := rx.cell 3
  have a4 := rx.cell 4
  have hr := radd_any w1 w0.heap.size r q L ro hR2 xa (by have := HH.out.2.2.2.2.2.2.1; omega) (by have := HH.out.2.2.2.1.rl; have := HH.out.2.2.2.2.2.2.1; omega)
  clear rx hp
  go_wp2_with fail
  refine hr.mono ?_
  rintro e w2 ⟨rfl, cr⟩
  have hfin : BoP w0 w2 t r (stepF T.F ⟨1, xa, xb⟩) (n + 1) := by
    obtain ⟨hT3, hfr1, hR1, hG, hstep, hlstep, hL, hsf⟩ := HH.out
    have hgl := radd_len hG xa
    exact bop_step hfr1 hT3 cg (by rw [hF', hsf]) cr (by rw [hsf]; exact HSM.out) (by omega) hstep (by omega)
  have HB : Hid _ := ⟨hfin⟩
  clear hfin cr hr cg hR2 HH HT1 RX a1 a2 a3 a4
  go_wp2
  go_ret
  exact ⟨rfl, HB.out⟩

set_option maxRecDepth 100000 in
set_option maxHeartbeats 1000000 in
theorem dop_2 (w0 w : World) (t r n : Nat) (F : List En) (h : BoP w0 w t r F n) (hn : n + 1 ≤ 900) (x : Ac) (hx : OkA x) (hop : x.op = 2) :
    Calls Try.prog 6 #[pv t, pv r, acV x] w fun e w' => e = .returned (.bool true) ∧ BoP w0 w' t r (stepF F x) (n + 1) := by
  obtain ⟨T, q, L, ro, hT, hF, hT3, hR, hRl, hL⟩ := h.ex
  have hG := hRl.good
  have hfr := h.fr
  have hwf := h.wf
  have hlnF := h.ln
  subst hF
  have f1 := (Fr.refl none' w).alloc (.cells #[.int .i64 x.op, .int .i64 x.a.n, .int .i64 x.a.i, .int .i64 x.b.n, .int .i64 x.b.i] 35)
  have rx := row_alloc w #[.int .i64 x.op, .int .i64 x.a.n, .int .i64 x.a.i, .int .i64 x.b.n, .int .i64 x.b.i] 35
  have hT1 := hT.keep0 f1
  have hR1 := hR.keep0 f1
  have hfr1 := hfr.trans f1
  have hstep := wf_step hwf hx
  have hlstep := len_step T.F x
  have hsf : stepF T.F x = kidS T.F x.a x.b := by unfold stepF; rw [hop]; rfl
  have hlY : T.Y.length = T.F.length := by simp [Tr.F]
  have hp := child_any (w.alloc (.cells #[.int .i64 x.op, .int .i64 x.a.n, .int .i64 x.a.i, .int .i64 x.b.n, .int .i64 x.b.i] 35)) t T hT1 hwf x.a x.b hx.a hx.b (by omega)
  have hsm := hRl.kidSS hwf x.a x.b hx.b
  rw [hsm.1] at hp
  have hx0 := hop
  obtain ⟨xop, xa, xb⟩ := x
  dsimp only at *
  subst hx0
  have HH : Hid _ := ⟨And.intro hT3 (And.intro hfr1 (And.intro hR1 (And.intro hG (And.intro hstep (And.intro hlstep (And.intro hL hsf))))))⟩
  have HT1 : Hid _ := ⟨hT1⟩
  have HSM : Hid _ := ⟨hsm.2⟩
  have RX : Hid _ := ⟨rx⟩
  unfold acV
  clear h hsm hRl hT hR hG hT3 hfr hwf f1 hT1 hR1 hfr1 hstep hlstep hsf rx hop
  go_enter Try.func6, Try.ntmps6
  go_wp2_with fail
  refine hp.mono ?_
  rintro e w1 ⟨rfl, T', hF', cg⟩
  have rx := RX.out.keep cg.2.1 (ts_kind HT1.out RX.out (by decide) (by decide))
  have hR2 := HH.out.2.2.1.keep cg.2.1 (fun k hk hs => ts_ref HT1.out k hs (HH.out.2.2.1.kinds k hk))
  have a1 := rx.cell 1
  have a2 := rx.cell 2
  have a3 := rx.cell 3
  have a4 := rx.cell 4
  have hr := rchild_any w1 w0.heap.size r q L ro hR2 xa xb (by have := HH.out.2.2.2.2.2.2.1; omega) (fun k o hk ho => by obtain ⟨o2, ho2, hg2, _⟩ := fdR_some hk; rw [ho] at ho2; cases ho2; have := HH.out.2.2.2.1.kl ho hg2; have := HH.out.2.2.2.2.2.2.1; omega)
  clear rx hp
  go_wp2_with fail
  refine hr.mono ?_
  rintro e w2 ⟨rfl, cr⟩
  have hfin : BoP w0 w2 t r (stepF T.F ⟨2, xa, xb⟩) (n + 1) := by
    obtain ⟨hT3, hfr1, hR1, hG, hstep, hlstep, hL, hsf⟩ := HH.out
    have hgl := rkid_len hG xa xb
    exact bop_step hfr1 hT3 cg (by rw [hF', hsf]) cr (by rw [hsf]; exact HSM.out) (by omega) hstep (by omega)
  have HB : Hid _ := ⟨hfin⟩
  clear hfin cr hr cg hR2 HH HT1 RX a1 a2 a3 a4
  go_wp2
  go_ret
  exact ⟨rfl, HB.out⟩

set_option maxRecDepth 100000 in
set_option maxHeartbeats 1000000 in
theorem dop_3 (w0 w : World) (t r n : Nat) (F : List En) (h : BoP w0 w t r F n) (hn : n + 1 ≤ 900) (x : Ac) (hx : OkA x) (hop : x.op = 3) :
    Calls Try.prog 6 #[pv t, pv r, acV x] w fun e w' => e = .returned (.bool true) ∧ BoP w0 w' t r (stepF F x) (n + 1) := by
  obtain ⟨T, q, L, ro, hT, hF, hT3, hR, hRl, hL⟩ := h.ex
  have hG := hRl.good
  have hfr := h.fr
  have hwf := h.wf
  have hlnF := h.ln
  subst hF
  have f1 := (Fr.refl none' w).alloc (.cells #[.int .i64 x.op, .int .i64 x.a.n, .int .i64 x.a.i, .int .i64 x.b.n, .int .i64 x.b.i] 35)
  have rx := row_alloc w #[.int .i64 x.op, .int .i64 x.a.n, .int .i64 x.a.i, .int .i64 x.b.n, .int .i64 x.b.i] 35
  have hT1 := hT.keep0 f1
  have hR1 := hR.keep0 f1
  have hfr1 := hfr.trans f1
  have hstep := wf_step hwf hx
  have hlstep := len_step T.F x
  have hsf : stepF T.F x = remF x.a T.F := by unfold stepF; rw [hop]; rfl
  have hlY : T.Y.length = T.F.length := by simp [Tr.F]
  have hp := remove_any (w.alloc (.cells #[.int .i64 x.op, .int .i64 x.a.n, .int .i64 x.a.i, .int .i64 x.b.n, .int .i64 x.b.i] 35)) t T hT1 hwf (by omega) x.a hx.a
  have hsm := hRl.remSS hwf x.a
  rw [hsm.1] at hp
  have hx0 := hop
  obtain ⟨xop, xa, xb⟩ := x
  dsimp only at *
  subst hx0
  have HH : Hid _ := ⟨And.intro hT3 (And.intro hfr1 (And.intro hR1 (And.intro hG (And.intro hstep (And.intro hlstep (And.intro hL hsf))))))⟩
  have HT1 : Hid _ := ⟨hT1⟩
  have HSM : Hid _ := ⟨hsm.2⟩
  have RX : Hid _ := ⟨rx⟩
  unfold acV
  clear h hsm hRl hT hR hG hT3 hfr hwf f1 hT1 hR1 hfr1 hstep hlstep hsf rx hop
  go_enter Try.func6, Try.ntmps6
  go_wp2_with fail
  refine hp.mono ?_
  rintro e w1 ⟨rfl, T', hF', cg⟩
  have rx := RX.out.keep cg.2.1 (ts_kind HT1.out RX.out (by decide) (by decide))
  have hR2 := HH.out.2.2.1.keep cg.2.1 (fun k hk hs => ts_ref HT1.out k hs (HH.out.2.2.1.kinds k hk))
  have a1 := rx.cell 1
  have a2 := rx.cell 2
  have a3 := rx.cell 3
  have a4 := rx.cell 4
  have hr := rremove_any w1 w0.heap.size r q L ro hR2 xa (HH.out.2.2.2.1.rem (by have := HH.out.2.2.2.2.2.2.1; omega) xa)
  clear rx hp
  go_wp2_with fail
  refine hr.mono ?_
  rintro e w2 ⟨rfl, cr⟩
  have hfin : BoP w0 w2 t r (stepF T.F ⟨3, xa, xb⟩) (n + 1) := by
    obtain ⟨hT3, hfr1, hR1, hG, hstep, hlstep, hL, hsf⟩ := HH.out
    have hgl := rrem_len hG xa
    exact bop_step hfr1 hT3 cg (by rw [hF', hsf]) cr (by rw [hsf]; exact HSM.out) (by omega) hstep (by omega)
  have HB : Hid _ := ⟨hfin⟩
  clear hfin cr hr cg hR2 HH HT1 RX a1 a2 a3 a4
  go_wp2
  go_ret
  exact ⟨rfl, HB.out⟩

set_option maxRecDepth 100000 in
set_option maxHeartbeats 1000000 in
theorem dop_4 (w0 w : World) (t r n : Nat) (F : List En) (h : BoP w0 w t r F n) (hn : n + 1 ≤ 900) (x : Ac) (hx : OkA x) (hop : x.op = 4) :
    Calls Try.prog 6 #[pv t, pv r, acV x] w fun e w' => e = .returned (.bool true) ∧ BoP w0 w' t r (stepF F x) (n + 1) := by
  obtain ⟨T, q, L, ro, hT, hF, hT3, hR, hRl, hL⟩ := h.ex
  have hG := hRl.good
  have hfr := h.fr
  have hwf := h.wf
  have hlnF := h.ln
  subst hF
  have f1 := (Fr.refl none' w).alloc (.cells #[.int .i64 x.op, .int .i64 x.a.n, .int .i64 x.a.i, .int .i64 x.b.n, .int .i64 x.b.i] 35)
  have rx := row_alloc w #[.int .i64 x.op, .int .i64 x.a.n, .int .i64 x.a.i, .int .i64 x.b.n, .int .i64 x.b.i] 35
  have hT1 := hT.keep0 f1
  have hR1 := hR.keep0 f1
  have hfr1 := hfr.trans f1
  have hstep := wf_step hwf hx
  have hlstep := len_step T.F x
  have hsf : stepF T.F x = movS T.F x.a x.b := by unfold stepF; rw [hop]; rfl
  have hlY : T.Y.length = T.F.length := by simp [Tr.F]
  have hp := move_any (w.alloc (.cells #[.int .i64 x.op, .int .i64 x.a.n, .int .i64 x.a.i, .int .i64 x.b.n, .int .i64 x.b.i] 35)) t T hT1 hwf (by omega) x.a x.b hx.a hx.b
  have hsm := hRl.movSS hwf x.a x.b hx.b
  rw [hsm.1] at hp
  have hx0 := hop
  obtain ⟨xop, xa, xb⟩ := x
  dsimp only at *
  subst hx0
  have HH : Hid _ := ⟨And.intro hT3 (And.intro hfr1 (And.intro hR1 (And.intro hG (And.intro hstep (And.intro hlstep (And.intro hL hsf))))))⟩
  have HT1 : Hid _ := ⟨hT1⟩
  have HSM : Hid _ := ⟨hsm.2⟩
  have RX : Hid _ := ⟨rx⟩
  unfold acV
  clear h hsm hRl hT hR hG hT3 hfr hwf f1 hT1 hR1 hfr1 hstep hlstep hsf rx hop
  go_enter Try.func6, Try.ntmps6
  go_wp2_with fail
  refine hp.mono ?_
  rintro e w1 ⟨rfl, T', hF', cg⟩
  have rx := RX.out.keep cg.2.1 (ts_kind HT1.out RX.out (by decide) (by decide))
  have hR2 := HH.out.2.2.1.keep cg.2.1 (fun k hk hs => ts_ref HT1.out k hs (HH.out.2.2.1.kinds k hk))
  have a1 := rx.cell 1
  have a2 := rx.cell 2
  have a3 := rx.cell 3
  have a4 := rx.cell 4
  have hr := rmove_any w1 w0.heap.size r q L ro hR2 xa xb
  clear rx hp
  go_wp2_with fail
  refine hr.mono ?_
  rintro e w2 ⟨rfl, cr⟩
  have hfin : BoP w0 w2 t r (stepF T.F ⟨4, xa, xb⟩) (n + 1) := by
    obtain ⟨hT3, hfr1, hR1, hG, hstep, hlstep, hL, hsf⟩ := HH.out
    have hgl := rmov_len hG xa xb
    exact bop_step hfr1 hT3 cg (by rw [hF', hsf]) cr (by rw [hsf]; exact HSM.out) (by omega) hstep (by omega)
  have HB : Hid _ := ⟨hfin⟩
  clear hfin cr hr cg hR2 HH HT1 RX a1 a2 a3 a4
  go_wp2
  go_ret
  exact ⟨rfl, HB.out⟩

set_option maxRecDepth 100000 in
set_option maxHeartbeats 1000000 in
theorem dop_5 (w0 w : World) (t r n : Nat) (F : List En) (h : BoP w0 w t r F n) (hn : n + 1 ≤ 900) (x : Ac) (hx : OkA x) (hop : x.op = 5) :
    Calls Try.prog 6 #[pv t, pv r, acV x] w fun e w' => e = .returned (.bool true) ∧ BoP w0 w' t r (stepF F x) (n + 1) := by
  obtain ⟨T, q, L, ro, hT, hF, hT3, hR, hRl, hL⟩ := h.ex
  have hG := hRl.good
  have hfr := h.fr
  have hwf := h.wf
  have hlnF := h.ln
  subst hF
  have f1 := (Fr.refl none' w).alloc (.cells #[.int .i64 x.op, .int .i64 x.a.n, .int .i64 x.a.i, .int .i64 x.b.n, .int .i64 x.b.i] 35)
  have rx := row_alloc w #[.int .i64 x.op, .int .i64 x.a.n, .int .i64 x.a.i, .int .i64 x.b.n, .int .i64 x.b.i] 35
  have hT1 := hT.keep0 f1
  have hR1 := hR.keep0 f1
  have hfr1 := hfr.trans f1
  have hstep := wf_step hwf hx
  have hlstep := len_step T.F x
  have hsf : stepF T.F x = swpS T.F x.a x.b := by unfold stepF; rw [hop]; rfl
  have hlY : T.Y.length = T.F.length := by simp [Tr.F]
  have hp := swap_any (w.alloc (.cells #[.int .i64 x.op, .int .i64 x.a.n, .int .i64 x.a.i, .int .i64 x.b.n, .int .i64 x.b.i] 35)) t T hT1 hwf (by omega) x.a x.b hx.a hx.b
  have hsm := hRl.swpSS hwf x.a x.b hx.a hx.b
  rw [hsm.1] at hp
  have hx0 := hop
  obtain ⟨xop, xa, xb⟩ := x
  dsimp only at *
  subst hx0
  have HH : Hid _ := ⟨And.intro hT3 (And.intro hfr1 (And.intro hR1 (And.intro hG (And.intro hstep (And.intro hlstep (And.intro hL hsf))))))⟩
  have HT1 : Hid _ := ⟨hT1⟩
  have HSM : Hid _ := ⟨hsm.2⟩
  have RX : Hid _ := ⟨rx⟩
  unfold acV
  clear h hsm hRl hT hR hG hT3 hfr hwf f1 hT1 hR1 hfr1 hstep hlstep hsf rx hop
  go_enter Try.func6, Try.ntmps6
  go_wp2_with fail
  refine hp.mono ?_
  rintro e w1 ⟨rfl, T', hF', cg⟩
  have rx := RX.out.keep cg.2.1 (ts_kind HT1.out RX.out (by decide) (by decide))
  have hR2 := HH.out.2.2.1.keep cg.2.1 (fun k hk hs => ts_ref HT1.out k hs (HH.out.2.2.1.kinds k hk))
  have a1 := rx.cell 1
  have a2 := rx.cell 2
  have a3 := rx.cell 3
  have a4 := rx.cell 4
  have hr := rswap_any w1 w0.heap.size r q L ro hR2 xa xb
  clear rx hp
  go_wp2_with fail
  refine hr.mono ?_
  rintro e w2 ⟨rfl, cr⟩
  have hfin : BoP w0 w2 t r (stepF T.F ⟨5, xa, xb⟩) (n + 1) := by
    obtain ⟨hT3, hfr1, hR1, hG, hstep, hlstep, hL, hsf⟩ := HH.out
    have hgl := rswp_len hG xa xb
    exact bop_step hfr1 hT3 cg (by rw [hF', hsf]) cr (by rw [hsf]; exact HSM.out) (by omega) hstep (by omega)
  have HB : Hid _ := ⟨hfin⟩
  clear hfin cr hr cg hR2 HH HT1 RX a1 a2 a3 a4
  go_wp2
  go_ret
  exact ⟨rfl, HB.out⟩

set_option maxRecDepth 100000 in
set_option maxHeartbeats 1000000 in
theorem dop_0 (w0 w : World) (t r n : Nat) (F : List En) (h : BoP w0 w t r F n) (x : Ac) (h1 : x.op ≠ 1) (h2 : x.op ≠ 2) (h3 : x.op ≠ 3) (h4 : x.op ≠ 4) (h5 : x.op ≠ 5) :
    Calls Try.prog 6 #[pv t, pv r, acV x] w fun e w' => e = .returned (.bool true) ∧ BoP w0 w' t r (stepF F x) (n + 1) := by
  have f1 := (Fr.refl none' w).alloc (.cells #[.int .i64 x.op, .int .i64 x.a.n, .int .i64 x.a.i, .int .i64 x.b.n, .int .i64 x.b.i] 35)
  have hB := (h.keep0 f1).mono (Nat.le_succ n)
  have hsf : stepF F x = F := by unfold stepF; rw [if_neg h1, if_neg h2, if_neg h3, if_neg h4, if_neg h5]
  rw [hsf]
  have HB : Hid _ := ⟨hB⟩
  have t1 : (x.op == 1) = false := by simpa using h1
  have t2 : (x.op == 2) = false := by simpa using h2
  have t3 : (x.op == 3) = false := by simpa using h3
  have t4 : (x.op == 4) = false := by simpa using h4
  have t5 : (x.op == 5) = false := by simpa using h5
  unfold acV
  clear h hB f1 hsf h1 h2 h3 h4 h5
  go_enter Try.func6, Try.ntmps6
  go_wp2
  go_ret
  exact ⟨rfl, HB.out⟩

theorem dop_any (w0 w : World) (t r n : Nat) (F : List En) (h : BoP w0 w t r F n) (hn : n + 1 ≤ 900) (x : Ac) (hx : OkA x) :
    Calls Try.prog 6 #[pv t, pv r, acV x] w fun e w' => e = .returned (.bool true) ∧ BoP w0 w' t r (stepF F x) (n + 1) := by
  by_cases h1 : x.op = 1
  · exact dop_1 w0 w t r n F h hn x hx h1
  by_cases h2 : x.op = 2
  · exact dop_2 w0 w t r n F h hn x hx h2
  by_cases h3 : x.op = 3
  · exact dop_3 w0 w t r n F h hn x hx h3
  by_cases h4 : x.op = 4
  · exact dop_4 w0 w t r n F h hn x hx h4
  by_cases h5 : x.op = 5
  · exact dop_5 w0 w t r n F h hn x hx h5
  exact dop_0 w0 w t r n F h x h1 h2 h3 h4 h5

end Go.Proofs.Ytjopmhidldemmaa
