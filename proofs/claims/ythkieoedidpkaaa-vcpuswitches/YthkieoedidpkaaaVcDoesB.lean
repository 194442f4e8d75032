/-
  viceroylaw18.does over the translation: what is left, and any act. No statement is proved here.
-/
import Derived.Test.YthkieoedidpkaaaVcDoesA
namespace Go.Proofs.Ythkieoedidpkaaa
open Go.RowKit Go.Maps Go.WideMaps

set_option maxRecDepth 100000 in
set_option maxHeartbeats 4000000 in
theorem does_6 (w0 w : World) (p : Pp) (q : Qd) (S R : Vp) (O : Nat → Prop) (h : Bx w0 w p q S R O) (i n m : Int) (b : Nat → Int) (on : Bool) : Calls Try.prog 8 #[pv p.b, pv q.b, .agg (acA ⟨6, i, n, m, b, on⟩)] w (DoP w0 w p q S R O ⟨6, i, n, m, b, on⟩) := by
  have fB := (Fr.refl none' w).alloc (.cells (acA ⟨6, i, n, m, b, on⟩) 35)
  have rb := row_alloc w (acA ⟨6, i, n, m, b, on⟩) 35
  have hB := h.keep0 fB
  have Y := leave_any _ p S hB.vx.is
  have HB : Hid _ := hB
  have HF : Hid _ := fB
  dsimp only [acA] at rb HB HF Y
  have c0 := rb.cell 0
  dsimp at c0
  unfold acA DoP
  clear h fB rb hB
  go_enter Try.func8, Try.ntmps8
  go_wp2_with fail
  refine Y.mono ?_
  clear Y
  rintro e w1 ⟨v, rfl, c⟩
  have hb := HB.out.onP c
  have HX : Hid _ := hb
  have c2 : w1.cell? ⟨q.b, 2, none⟩ = some (.int .i64 R.ld) := hb.1.d.row.cell 2
  have z2 : w1.frozen? ⟨q.b, 2, none⟩ = false := hb.1.d.row.frozen 2
  have HZ : Hid _ := hb.1.onD (hb.1.d.setLd (-1) (good_lea hb.1.d.good))
  clear hb c HB c0
  go_wp2_with fail
  go_ret
  exact ⟨_, rfl, fun _ => rfl, p, q, HZ.out.1, rfl, rfl, FrO.pre HF.out (HX.out.2.trans HZ.out.2)⟩
set_option maxRecDepth 100000 in
set_option maxHeartbeats 4000000 in
theorem does_8 (w0 w : World) (p : Pp) (q : Qd) (S R : Vp) (O : Nat → Prop) (h : Bx w0 w p q S R O) (i n m : Int) (b : Nat → Int) (on : Bool) (hi : I64 i) : Calls Try.prog 8 #[pv p.b, pv q.b, .agg (acA ⟨8, i, n, m, b, on⟩)] w (DoP w0 w p q S R O ⟨8, i, n, m, b, on⟩) := by
  have fB := (Fr.refl none' w).alloc (.cells (acA ⟨8, i, n, m, b, on⟩) 35)
  have rb := row_alloc w (acA ⟨8, i, n, m, b, on⟩) 35
  have hB := h.keep0 fB
  have X := read_any _ p S hB.vx.is i n hi
  have Y := dread_any _ q R hB.d i n
  have HB : Hid _ := hB
  have HF : Hid _ := fB
  dsimp only [acA] at rb HB HF X Y
  have c0 := rb.cell 0
  have c1 := rb.cell 1
  have c2 := rb.cell 2
  dsimp at c0 c1 c2
  have HE : Hid (S = R → reaW S i n = reaW R i n ∧ reaE S i n = reaE R i n) := fun h => by subst h; exact ⟨rfl, rfl⟩
  unfold acA DoP
  clear h fB rb hB hi
  generalize reaW S i n = a1 at *
  generalize reaW R i n = a2 at *
  generalize reaE S i n = a3 at *
  generalize reaE R i n = a4 at *
  cases e1 : a1 == a2 with
  | true =>
    go_enter Try.func8, Try.ntmps8
    go_wp2_with fail
    refine X.mono ?_
    clear X
    rintro e w1 ⟨rfl, rfl⟩
    go_wp2_with fail
    refine Y.mono ?_
    clear Y
    rintro e w1 ⟨rfl, rfl⟩
    go_wp2_with fail
    go_ret
    exact ⟨_, rfl, fun h => by rw [(HE.out h).2]; simp, p, q, HB.out, rfl, rfl, HF.out.mono (fun _ _ h => h.elim)⟩
  | false =>
    go_enter Try.func8, Try.ntmps8
    go_wp2_with fail
    refine X.mono ?_
    clear X
    rintro e w1 ⟨rfl, rfl⟩
    go_wp2_with fail
    refine Y.mono ?_
    clear Y
    rintro e w1 ⟨rfl, rfl⟩
    go_wp2_with fail
    go_ret
    exact ⟨_, rfl, fun h => by rw [(HE.out h).1] at e1; simp at e1, p, q, HB.out, rfl, rfl, HF.out.mono (fun _ _ h => h.elim)⟩
set_option maxRecDepth 100000 in
set_option maxHeartbeats 4000000 in
theorem does_12 (w0 w : World) (p : Pp) (q : Qd) (S : Vp) (O : Nat → Prop) (h : Bx w0 w p q S S O) (i n m : Int) (b : Nat → Int) (on : Bool) (hi : I64 i) : Calls Try.prog 8 #[pv p.b, pv q.b, .agg (acA ⟨12, i, n, m, b, on⟩)] w (DoP w0 w p q S S O ⟨12, i, n, m, b, on⟩) := by
  have fB := (Fr.refl none' w).alloc (.cells (acA ⟨12, i, n, m, b, on⟩) 35)
  have rb := row_alloc w (acA ⟨12, i, n, m, b, on⟩) 35
  have hB := h.keep0 fB
  have X := vgic_any _ p S hB.vx.is i hi
  have Y := dat_any _ q S hB.d i
  have HB : Hid _ := hB
  have HF : Hid _ := fB
  have hlenD := hB.d.dlen
  obtain ⟨aL, cap, hv, hnL⟩ := hB.d.fl.form encO_len
  have cL := hB.d.row.cell 0
  have HQ : Hid (q.L = .slice aL q.D.length cap) := hv
  rw [hv] at cL
  have HV : Hid (_) := hnL
  dsimp only [acA] at rb HB HF X Y cL HV
  have c0 := rb.cell 0
  have c1 := rb.cell 1
  dsimp at c0 c1 cL
  unfold acA DoP
  generalize hND : q.D.length = N at cL hlenD
  have HN : Hid (q.D.length = N) := hND
  clear h fB rb hB hi hv hnL hND
  cases hs : hasB S i with
  | false =>
    have HS : Hid (hasB S i = false) := hs
    rw [hs] at X
    clear hs
    go_enter Try.func8, Try.ntmps8
    go_wp2_with fail
    refine X.mono ?_
    clear X
    rintro e w1 ⟨rfl, rfl⟩
    go_wp2_with fail
    refine Y.mono ?_
    clear Y
    rintro e w1 ⟨rfl, k, rfl, hp⟩
    rcases hp with ⟨hn, rfl⟩ | ⟨j, y, hj, hid, hf, rfl⟩
    · have HE : Hid (stp ⟨12, i, n, m, b, on⟩ S = S) := by
        show ackI S i = S
        unfold ackI
        rw [HS.out]; rfl
      clear hn
      go_wp2_with fail
      go_ret
      rw [HE.out]
      exact ⟨_, rfl, fun _ => rfl, p, q, HB.out, rfl, rfl, HF.out.mono (fun _ _ h => h.elim)⟩
    · exact absurd (has_iff.2 ⟨_, hf⟩) (by rw [HS.out]; decide)
  | true =>
    obtain ⟨x, hx⟩ := has_iff.1 hs
    have HS : Hid (hasB S i = true ∧ fnd S.L i = some x) := ⟨hs, hx⟩
    rw [hs, if_pos rfl] at X
    clear hs
    go_enter Try.func8, Try.ntmps8
    go_wp2_with fail
    refine X.mono ?_
    clear X
    rintro e w1 ⟨rfl, rfl⟩
    go_wp2_with fail
    refine Y.mono ?_
    clear Y
    rintro e w1 ⟨rfl, k, rfl, hp⟩
    rcases hp with ⟨hn, rfl⟩ | ⟨j, y, hj, hid, hf, rfl⟩
    · rw [hx] at hn
      cases hn
    · have hxy : x = y.1 := by
        rw [hx] at hf
        exact Option.some.inj hf
      have hjN : j < N := by
        rw [← HN.out]
        rcases Nat.lt_or_ge j q.D.length with h' | h'
        · exact h'
        · rw [List.getElem?_eq_none h'] at hj; cases hj
      obtain ⟨g, rfl, hc, _⟩ := HV.out j y hj
      have HJ : Hid (q.D[j]? = some y ∧ y.1.id = i ∧ fnd S.L i = some y.1) := ⟨hj, hid, hf⟩
      have j0 : decide ((j : Int) < 0) = false := decide_eq_false (by omega)
      have j1 : decide (0 ≤ (j : Int)) = true := decide_eq_true (by omega)
      have Z := ack_any _ (p.K i) y.1.vg (HB.out.vx.vg HJ.out.2.2)
      clear hc hj hid hf hx hxy
      go_wp2_with fail
      refine Z.mono ?_
      clear Z
      rintro e w2 ⟨rfl, c⟩
      have hb := HB.out.onP (HB.out.vx.is.turnV HJ.out.2.2 c)
      have HX : Hid _ := hb
      have cL2 := hb.1.d.row.cell 0
      obtain ⟨a2, cap2, hv2, hn2⟩ := hb.1.d.fl.form encO_len
      obtain ⟨g2, e2, hc2, _⟩ := hn2 j y HJ.out.1
      have hg : g2 = g := sl_inj hv2.symm HQ.out e2
      subst hg
      have d10 : w2.cell? ⟨g2, j * 11 + 10, none⟩ = some (pv y.2) := hc2 10 _ rfl
      have Y2 := rack_any w2 y.2 y.1.vg (hb.1.d.vs y (List.mem_of_getElem? HJ.out.1))
      dsimp at cL2
      rw [HQ.out, HN.out] at cL2
      have HS2 : Hid (stp ⟨12, i, n, m, b, on⟩ S = { S with L := upd S.L i (setV (ackS y.1.vg)) }) := by
        show ackI S i = _
        unfold ackI
        rw [if_pos HS.out.1, vg_some HJ.out.2.2]
      clear hb c hv2 hn2 hc2 e2
      go_wp2_with fail
      refine Y2.mono ?_
      clear Y2
      rintro e w3 ⟨rfl, c3⟩
      have hz := HX.out.1.d.setVg HJ.out.1 c3
      rw [HJ.out.2.1] at hz
      have HZ : Hid _ := HX.out.1.onD hz
      clear hz c3
      go_wp2_with fail
      go_ret
      rw [HS2.out]
      exact ⟨_, rfl, fun _ => by simp, p, _, HZ.out.1, rfl, rfl, FrO.pre HF.out (HX.out.2.trans HZ.out.2)⟩
set_option maxRecDepth 100000 in
set_option maxHeartbeats 4000000 in
theorem does_0 (w0 w : World) (p : Pp) (q : Qd) (S R : Vp) (O : Nat → Prop) (h : Bx w0 w p q S R O) (d : Int) (i n m : Int) (b : Nat → Int) (on : Bool) (hd : ∀ k : Int, 1 ≤ k ∧ k ≤ 12 → d ≠ k) : Calls Try.prog 8 #[pv p.b, pv q.b, .agg (acA ⟨d, i, n, m, b, on⟩)] w (DoP w0 w p q S R O ⟨d, i, n, m, b, on⟩) := by
  have fB := (Fr.refl none' w).alloc (.cells (acA ⟨d, i, n, m, b, on⟩) 35)
  have rb := row_alloc w (acA ⟨d, i, n, m, b, on⟩) 35
  have HB : Hid _ := h.keep0 fB
  have HF : Hid _ := fB
  have HS : Hid (∀ Z, stp ⟨d, i, n, m, b, on⟩ Z = Z) := fun Z => by
    unfold stp
    dsimp only
    rw [if_neg (hd 1 (by omega))]
    rw [if_neg (hd 2 (by omega))]
    rw [if_neg (hd 3 (by omega))]
    rw [if_neg (hd 4 (by omega))]
    rw [if_neg (hd 5 (by omega))]
    rw [if_neg (hd 6 (by omega))]
    rw [if_neg (hd 7 (by omega))]
    rw [if_neg (hd 8 (by omega))]
    rw [if_neg (hd 9 (by omega))]
    rw [if_neg (hd 10 (by omega))]
    rw [if_neg (hd 11 (by omega))]
    rw [if_neg (hd 12 (by omega))]
  dsimp only [acA] at rb HB HF
  have c0 := rb.cell 0
  dsimp at c0
  have d1 : (d == 1) = false := by simpa using hd 1 (by omega)
  have d2 : (d == 2) = false := by simpa using hd 2 (by omega)
  have d3 : (d == 3) = false := by simpa using hd 3 (by omega)
  have d4 : (d == 4) = false := by simpa using hd 4 (by omega)
  have d5 : (d == 5) = false := by simpa using hd 5 (by omega)
  have d6 : (d == 6) = false := by simpa using hd 6 (by omega)
  have d7 : (d == 7) = false := by simpa using hd 7 (by omega)
  have d8 : (d == 8) = false := by simpa using hd 8 (by omega)
  have d9 : (d == 9) = false := by simpa using hd 9 (by omega)
  have d10 : (d == 10) = false := by simpa using hd 10 (by omega)
  have d11 : (d == 11) = false := by simpa using hd 11 (by omega)
  have d12 : (d == 12) = false := by simpa using hd 12 (by omega)
  unfold acA DoP
  clear h fB rb hd
  go_enter Try.func8, Try.ntmps8
  go_wp2_with fail
  go_ret
  rw [HS.out, HS.out]
  exact ⟨_, rfl, fun _ => rfl, p, q, HB.out, rfl, rfl, HF.out.mono (fun _ _ h => h.elim)⟩
/-- Any act; of an acknowledgement only where both stand alike. -/
theorem does_any (w0 w : World) (p : Pp) (q : Qd) (S R : Vp) (O : Nat → Prop) (h : Bx w0 w p q S R O) (A : Ac) (hA : OkAc A) (h12 : A.d = 12 → S = R) : Calls Try.prog 8 #[pv p.b, pv q.b, .agg (acA A)] w (DoP w0 w p q S R O A) := by
  obtain ⟨d, i, n, m, b, on⟩ := A
  have hi : I64 i := hA.2.1
  by_cases hd : 1 ≤ d ∧ d ≤ 12
  · have : d = 1 ∨ d = 2 ∨ d = 3 ∨ d = 4 ∨ d = 5 ∨ d = 6 ∨ d = 7 ∨ d = 8 ∨ d = 9 ∨ d = 10 ∨ d = 11 ∨ d = 12 := by omega
    rcases this with rfl | rfl | rfl | rfl | rfl | rfl | rfl | rfl | rfl | rfl | rfl | rfl
    · exact does_1 w0 w p q S R O h i n m b on hi
    · exact does_2 w0 w p q S R O h i n m b on hi
    · exact does_3 w0 w p q S R O h i n m b on hi
    · exact does_4 w0 w p q S R O h i n m b on hi
    · exact does_5 w0 w p q S R O h i n m b on hi
    · exact does_6 w0 w p q S R O h i n m b on
    · exact does_7 w0 w p q S R O h i n m b on hi
    · exact does_8 w0 w p q S R O h i n m b on hi
    · exact does_9 w0 w p q S R O h i n m b on hi
    · exact does_10 w0 w p q S R O h i n m b on hi
    · exact does_11 w0 w p q S R O h i n m b on hi
    · have e := h12 rfl
      subst e
      exact does_12 w0 w p q S O h i n m b on hi
  · exact does_0 w0 w p q S R O h d i n m b on (fun k hk e => hd (by omega))

end Go.Proofs.Ythkieoedidpkaaa
