/-
  The law's own awake and refs over the translation; both spaces newer than a law's begin ('NewB'). No statement is proved here.
-/
import Derived.Test.YtibdkadojoeopaaCsAwake
namespace Go.Proofs.Ytibdkadojoeopaa
open Go.RowKit Go.Maps Go.WideMaps

set_option maxRecDepth 100000 in
set_option maxHeartbeats 2000000 in
theorem awake_any (w : World) : Calls Try.prog 9 #[] w fun e w' => e = .returned (.bool true) ∧ Fr none' w w' := by
  have hE := example_any w
  have hr1 := fun w => eq_ref 10 1 10 1 w
  have hr2 := fun w => eq_ref 20 0 20 0 w
  rw [eqR_self] at hr1 hr2
  have A1 : ∀ (w : World) (p : Pb), IsP w p exL → Calls Try.prog 17 #[.pointer (some ⟨p.b, 0, none⟩), .agg #[.int .i64 2, .int .i64 10, .int .i64 0, .int .i64 0, .int .i64 2, .int .i64 5, .int .i64 3, .bool false], .int .u32 21, .int .i64 5] w fun e w' => e = .returned (.tuple #[.agg #[.int .i64 10, .int .i64 1], .int .i64 0, .int .i64 0]) ∧ Fr none' w w' := fun w p h => by
    have := resolve_any w p exL h exR ⟨by decide, by decide⟩ 21 (by omega) 5
    rw [ex1] at this
    exact this
  have A2 : ∀ (w : World) (p : Pb), IsP w p exL → Calls Try.prog 17 #[.pointer (some ⟨p.b, 0, none⟩), .agg #[.int .i64 2, .int .i64 10, .int .i64 0, .int .i64 0, .int .i64 2, .int .i64 5, .int .i64 3, .bool false], .int .u32 171, .int .i64 8] w fun e w' => e = .returned (.tuple #[.agg #[.int .i64 20, .int .i64 0], .int .i64 2, .int .i64 0]) ∧ Fr none' w w' := fun w p h => by
    have := resolve_any w p exL h exR ⟨by decide, by decide⟩ 171 (by omega) 8
    rw [ex2] at this
    exact this
  have A3 : ∀ (w : World) (p : Pb), IsP w p exL → Calls Try.prog 17 #[.pointer (some ⟨p.b, 0, none⟩), .agg #[.int .i64 2, .int .i64 10, .int .i64 0, .int .i64 0, .int .i64 2, .int .i64 5, .int .i64 3, .bool false], .int .u32 17, .int .i64 5] w fun e w' => e = .returned (.tuple #[.agg #[.int .i64 0, .int .i64 0], .int .i64 0, .int .i64 122]) ∧ Fr none' w w' := fun w p h => by
    have := resolve_any w p exL h exR ⟨by decide, by decide⟩ 17 (by omega) 5
    rw [ex3] at this
    exact this
  have A4 : ∀ (w : World) (p : Pb), IsP w p exL → Calls Try.prog 26 #[.pointer (some ⟨p.b, 0, none⟩), .agg #[.int .i64 2, .int .i64 10, .int .i64 0, .int .i64 0, .int .i64 2, .int .i64 5, .int .i64 3, .bool false], .int .u32 171, .int .i64 8] w fun e w' => e = .returned (.tuple #[.agg #[.int .i64 0, .int .i64 0], .int .i64 123]) ∧ Fr none' w w' := fun w p h => by
    have := slotx_any w p exL h exR ⟨by decide, by decide⟩ 171 (by omega) 8
    rw [ex4.1, ex4.2] at this
    exact this
  have A5 : ∀ (w : World) (p : Pb), IsP w p exL → Calls Try.prog 24 #[.pointer (some ⟨p.b, 0, none⟩), .int .i64 10] w fun e w' => e = .returned (.int .i64 130) ∧ Fr none' w w' := fun w p h => by
    have h5 := ex5
    unfold drE at h5
    cases hf : fnd exL 10 with
    | none => rw [hf] at h5; cases h5
    | some y =>
      cases hF : fulN y (2 ^ y.rx) with
      | false => rw [hf] at h5; simp [hF] at h5
      | true => exact drop_full w p exL h 10 ⟨by decide, by decide⟩ y hf hF
  have A6 : ∀ (w : World) (P : Value), Calls Try.prog 23 #[P, .int .i64 3, .int .i64 5] w fun e w' => e = .returned (.int .i64 1) ∧ w' = w := fun w P => add_arg w P 3 5 (by decide)
  generalize exL = L at *
  go_enter Try.func9, Try.ntmps9
  go_wp2_with fail
  refine hE.mono ?_
  rintro e w1 ⟨p, rfl, h1, f0⟩
  have g1 := (Fr.refl none' w1).alloc (.cells (cbox 2 10 0 0 2 5 3 false) 34)
  have r2 := row_alloc w1 (cbox 2 10 0 0 2 5 3 false) 34
  replace h1 := h1.keep0 g1
  replace f0 := f0.trans g1
  unfold cbox at g1 f0 h1 r2
  clear hE g1
  obtain ⟨k0, k1, k2, k3, k4, k5, k6, k7⟩ := cbox_cells r2
  go_wp2_with fail
  refine (A1 _ p h1).mono ?_
  rintro e w2 ⟨rfl, f1⟩
  clear k0 k1 k2 k3 k4 k5 k6 k7
  have g1 := f1.alloc (.cells #[.int .i64 10, .int .i64 1] 32)
  have r3 := row_alloc w2 #[.int .i64 10, .int .i64 1] 32
  replace h1 := h1.keep0 g1
  replace f0 := f0.trans g1
  replace r2 := r2.keep g1 (fun h => h)
  clear f1 g1
  obtain ⟨k0, k1, k2, k3, k4, k5, k6, k7⟩ := cbox_cells r2
  go_wp2_with fail
  refine (A2 _ p h1).mono ?_
  rintro e w3 ⟨rfl, f1⟩
  clear k0 k1 k2 k3 k4 k5 k6 k7
  have g1 := f1.alloc (.cells #[.int .i64 20, .int .i64 0] 32)
  have r6 := row_alloc w3 #[.int .i64 20, .int .i64 0] 32
  replace h1 := h1.keep0 g1
  replace f0 := f0.trans g1
  replace r2 := r2.keep g1 (fun h => h)
  replace r3 := r3.keep g1 (fun h => h)
  clear f1 g1
  obtain ⟨k0, k1, k2, k3, k4, k5, k6, k7⟩ := cbox_cells r2
  go_wp2_with fail
  refine (A3 _ p h1).mono ?_
  rintro e w4 ⟨rfl, f1⟩
  clear k0 k1 k2 k3 k4 k5 k6 k7
  have g1 := f1.alloc (.cells #[.int .i64 0, .int .i64 0] 32)
  replace h1 := h1.keep0 g1
  replace f0 := f0.trans g1
  replace r2 := r2.keep g1 (fun h => h)
  replace r3 := r3.keep g1 (fun h => h)
  replace r6 := r6.keep g1 (fun h => h)
  clear f1 g1
  obtain ⟨k0, k1, k2, k3, k4, k5, k6, k7⟩ := cbox_cells r2
  go_wp2_with fail
  refine (A4 _ p h1).mono ?_
  rintro e w5 ⟨rfl, f1⟩
  clear k0 k1 k2 k3 k4 k5 k6 k7 r2
  have g1 := f1.alloc (.cells #[.int .i64 0, .int .i64 0] 32)
  replace h1 := h1.keep0 g1
  replace f0 := f0.trans g1
  replace r3 := r3.keep g1 (fun h => h)
  replace r6 := r6.keep g1 (fun h => h)
  clear f1 g1
  go_wp2_with fail
  refine (A5 _ p h1).mono ?_
  rintro e w6 ⟨rfl, f1⟩
  replace f0 := f0.trans f1
  replace r3 := r3.keep f1 (fun h => h)
  replace r6 := r6.keep f1 (fun h => h)
  clear f1 h1
  go_wp2_with fail
  refine (A6 _ _).mono ?_
  rintro e w7 ⟨rfl, rfl⟩
  obtain ⟨s0, s1, _, _⟩ := pair_cells r3
  obtain ⟨t0, t1, _, _⟩ := pair_cells r6
  clear r3 r6 A1 A2 A3 A4 A5 A6
  go_wp2_with fail
  go_ret
  exact ⟨rfl, f0⟩

/-! ### refs -/
theorem RfS.cells {w : World} {B : Nat} {v : Value} {L : List Rf} (h : RfS w B v L) : ∃ a cap, v = .slice a L.length cap ∧ ∀ (i : Nat) (x : Rf), L[i]? = some x → ∃ g, a = some ⟨g, 0, none⟩ ∧ w.cell? ⟨g, i * 2, none⟩ = some (.int .i64 x.n) ∧ w.cell? ⟨g, i * 2 + 1, none⟩ = some (.int .i64 x.i) := by
  rcases h with ⟨rfl, rfl⟩ | ⟨g, cap, cs, rfl, _, _, _, hr, hx⟩
  · exact ⟨none, 0, rfl, fun i x hi => by simp at hi⟩
  · exact ⟨_, cap, rfl, fun i x hi => ⟨g, rfl, (hr.cell _).trans (hx i x hi).c0, (hr.cell _).trans (hx i x hi).c1⟩⟩

set_option maxRecDepth 100000 in
set_option maxHeartbeats 1000000 in
theorem refs_any (w : World) (B B' : Nat) (v v' : Value) (L : List Rf) (h : RfS w B v L) (h' : RfS w B' v' L) (hl : L.length ≤ 100000) : Calls Try.prog 14 #[v, v'] w fun e w' => e = .returned (.bool true) ∧ Fr none' w w' := by
  obtain ⟨a, cap, rfl, hc⟩ := h.cells
  obtain ⟨a', cap', rfl, hc'⟩ := h'.cells
  have HC : Hid (∀ (i : Nat) (x : Rf), L[i]? = some x → (∃ g, a = some ⟨g, 0, none⟩ ∧ w.cell? ⟨g, i * 2, none⟩ = some (.int .i64 x.n) ∧ w.cell? ⟨g, i * 2 + 1, none⟩ = some (.int .i64 x.i)) ∧ ∃ g, a' = some ⟨g, 0, none⟩ ∧ w.cell? ⟨g, i * 2, none⟩ = some (.int .i64 x.n) ∧ w.cell? ⟨g, i * 2 + 1, none⟩ = some (.int .i64 x.i)) := fun i x hi => ⟨hc i x hi, hc' i x hi⟩
  clear hc hc' h h'
  obtain ⟨N, hN⟩ : ∃ N, N = L.length := ⟨_, rfl⟩
  rw [← hN] at hl ⊢
  have HN : Hid (N = L.length) := hN
  clear hN
  have tt : ((N : Int) != (N : Int)) = false := by simp
  go_enter Try.func14, Try.ntmps14
  go_wp2_with fail
  go_loopw [5] (fun i wr => ∃ j : Nat, j ≤ N ∧ i = .int .i64 (j : Int) ∧ Fr none' w wr) (fun i _ => N - (intOf i).toNat)
  case atStart => exact ⟨0, by omega, rfl, Fr.refl _ _⟩
  case round =>
    obtain ⟨j, hj, rfl, fr⟩ := hrel
    by_cases hjN : j < N
    · have hjL : j < L.length := by rw [← HN.out]; exact hjN
      obtain ⟨⟨g, rfl, d0, d1⟩, g', rfl, d0', d1'⟩ := HC.out j L[j] (List.getElem?_eq_getElem hjL)
      generalize L[j] = x at *
      obtain ⟨xn, xi⟩ := x
      dsimp only at d0 d1 d0' d1'
      replace d0 := cell_keep fr d0 (fun h => h)
      replace d1 := cell_keep fr d1 (fun h => h)
      replace d0' := cell_keep fr d0' (fun h => h)
      replace d1' := cell_keep fr d1' (fun h => h)
      have hq := fun w => neq_ref xn xi xn xi w
      rw [eqR_self] at hq
      have HF : Hid (∀ m, Fr none' w (wr.drewN m)) := fun m => fr.trans (fr_drewN wr m)
      clear fr hjL
      go_wp2_with fail
      go_quiet (fail)
      go_wp2_with fail
      go_roundw
      case rel => exact ⟨j + 1, by omega, by go_num, HF.out _⟩
      case measure => simp [intOf]; omega
    · obtain rfl : j = N := by omega
      go_wp2_with fail
      go_ret
      exact ⟨rfl, fr⟩

/-! ### both, newer than w -/
structure NewB (w wr : World) (p : Pb) (q : Qb) (L : List Nd) : Prop where
  bo : BoAt wr p q L L
  fr : Fr none' w wr
  hi : ∀ k, boU p q L L k → w.heap.size ≤ k

theorem NewB.step {w w1 w2 : World} {p : Pb} {q : Qb} {L L' : List Nd} (h : NewB w w1 p q L) (c : ChgB w1 p q L w2 L') : ∃ (p' : Pb) (q' : Qb), p'.b = p.b ∧ q'.b = q.b ∧ NewB w w2 p' q' L' := by
  obtain ⟨p', q', e1, e2, h1, f, n⟩ := c
  exact ⟨p', q', e1, e2, h1, fr_two h.fr f (fun k hk => Or.inr (h.hi k hk)), fun k hk => by
    rcases n k hk with h2 | h2
    · exact h.hi k h2
    · have := h.fr.size; omega⟩
theorem NewB.keep0 {w wr w' : World} {p : Pb} {q : Qb} {L : List Nd} (h : NewB w wr p q L) (f : Fr none' wr w') : NewB w w' p q L := ⟨h.bo.keep0 f, h.fr.trans f, h.hi⟩
theorem NewB.good {w wr : World} {p : Pb} {q : Qb} {L : List Nd} (h : NewB w wr p q L) : GoodL L := h.bo.pr.good

/-- Both at the begin. -/
theorem newB_start {w w1 : World} {p : Pb} (f : Fr none' w w1) (h : IsP w1 p []) (hi : ∀ k, p.s [] k → w.heap.size ≤ k) : NewB w (w1.alloc (.cells #[.slice none 0 0] 29)) p ⟨w1.heap.size, .slice none 0 0, fun _ => 0⟩ [] := by
  have g := (Fr.refl none' w1).alloc (.cells #[.slice none 0 0] 29)
  refine ⟨⟨h.keep0 g, ⟨row_alloc w1 _ _, ⟨rfl, Or.inl ⟨rfl, rfl⟩⟩, by simp, by simp, by simp [Value.ownBlock], by simp, goodL_nil⟩, fun k hk hq => ?_⟩, f.trans g, fun k hk => ?_⟩
  · rcases hq with rfl | hq | ⟨n, hn, _⟩
    · have := h.lt _ hk
      exact absurd this (Nat.lt_irrefl _)
    · simp [Value.ownBlock] at hq
    · cases hn
  · rcases hk with hk | rfl | hq | ⟨n, hn, _⟩
    · exact hi k hk
    · exact f.size
    · simp [Value.ownBlock] at hq
    · cases hn

end Go.Proofs.Ytibdkadojoeopaa
