/-
  Contracts of the document's Fill over the translation, of a buffer whose entries are empty or right. No statement is proved here.
-/
import Derived.Test.YtgnoakidjnilpaaGreatTlbRef
namespace Go.Proofs.YtgnoakidjnilpaaGreat
open Go.RowKit

set_option maxHeartbeats 400000 in
theorem rfill_out (w : World) (p : Value) (i : Int) (x : Ln) (hi : inB i 0 7 = false) :
    Calls Tryz.prog 148 #[p, .int .i64 i, .agg #[.int .i64 x.v, .int .i64 x.a, .int .i64 x.p, .int .i64 x.f, .int .i64 x.r]] w fun e w' => e = .returned (.int .i64 1) ∧ Fr none' w w' := by
  have hi' : ¬ (0 ≤ i ∧ i ≤ 7) := fun h => by rw [inB_iff.mpr h] at hi; exact absurd hi (by decide)
  by_cases h0 : i < 0
  · have t1 : decide (i < 0) = true := by simpa using h0
    clear hi hi' h0
    go_enter Tryz.func148, Tryz.ntmps148
    go_wp2_with fail
    go_ret
    exact ⟨rfl, (Fr.refl _ _).alloc _⟩
  · have t1 : decide (i < 0) = false := by simpa using h0
    have t2 : decide (8 ≤ i) = true := by simp; omega
    clear hi hi' h0
    go_enter Tryz.func148, Tryz.ntmps148
    go_wp2_with fail
    go_ret
    exact ⟨rfl, (Fr.refl _ _).alloc _⟩

set_option maxHeartbeats 400000 in
theorem rfill_bad (w : World) (p : Value) (i : Int) (x : Ln) (hi : inB i 0 7 = true) (hx : rightL x = false) :
    Calls Tryz.prog 148 #[p, .int .i64 i, .agg #[.int .i64 x.v, .int .i64 x.a, .int .i64 x.p, .int .i64 x.f, .int .i64 x.r]] w fun e w' => e = .returned (.int .i64 30) ∧ Fr none' w w' := by
  have hi' := inB_iff.mp hi
  have t1 : decide (i < 0) = false := decide_eq_false (by omega)
  have t2 : decide (8 ≤ i) = false := decide_eq_false (by omega)
  have f0 := (Fr.refl none' w).alloc (.cells #[.int .i64 x.v, .int .i64 x.a, .int .i64 x.p, .int .i64 x.f, .int .i64 x.r] 101)
  clear hi hi'
  go_enter Tryz.func148, Tryz.ntmps148
  go_wp2_with fail
  refine (trright_any x _).mono ?_
  rintro e w2 ⟨rfl, f2⟩
  rw [hx]
  go_wp2_with fail
  go_ret
  exact ⟨rfl, f0.trans f2⟩

/-- One entry emptied is the page wiped, where no page stands twice. -/
theorem wipe_one {T : Nat → Ln} {x : Ln} {i : Nat} (hU : Uniq T) (hi : i < 8) (hh : hit x.v x.a x.p (T i) = true) (j : Nat) (hj : j < 8) : upd T i zl j = wipe (fun l => key l x) T j := by
  have hh' : emp (T i) = false ∧ key (T i) x = true := by
    have : (!emp (T i) && key (T i) x) = true := hh
    simpa using this
  by_cases hji : j = i
  · subst hji
    simp [upd_same, wipe, goes, hh']
  · rw [upd_other _ _ hji]
    have hg : goes (fun l => key l x) (T j) = false := by
      cases hg : goes (fun l => key l x) (T j) with
      | false => rfl
      | true =>
        have hg' : emp (T j) = false ∧ key (T j) x = true := by simpa [goes] using hg
        refine absurd (hU i j hi hj hh'.1 hg'.1 ?_) (fun e => hji e.symm)
        have a1 := key_iff.mp hh'.2
        have a2 := key_iff.mp hg'.2
        exact key_iff.mpr ⟨a1.1.trans a2.1.symm, a1.2.1.trans a2.2.1.symm, a1.2.2.trans a2.2.2.symm⟩
    simp [wipe, hg]

theorem wipe_none {T : Nat → Ln} {x : Ln} (hn : ∀ j, j < 8 → hit x.v x.a x.p (T j) = false) (j : Nat) (hj : j < 8) : T j = wipe (fun l => key l x) T j := by
  have hg : goes (fun l => key l x) (T j) = false := hn j hj
  simp [wipe, hg]

theorem upd_congr {T T' : Nat → Ln} (k : Nat) (l : Ln) (h : ∀ j, j < 8 → T j = T' j) (j : Nat) (hj : j < 8) : upd T k l j = upd T' k l j := by
  by_cases hjk : j = k
  · subst hjk; rw [upd_same, upd_same]
  · rw [upd_other _ _ hjk, upd_other _ _ hjk, h j hj]

set_option maxHeartbeats 2000000 in
theorem rfill_ok (w : World) (b : Nat) (T : Nat → Ln) (fo mi : Int) (h : IsTref w b T fo mi) (hG : GoodT T) (hU : Uniq T) (k : Nat) (hk : k < 8) (x : Ln) (hx : rightL x = true) :
    Calls Tryz.prog 148 #[.pointer (some ⟨b, 0, none⟩), .int .i64 (k : Int), .agg #[.int .i64 x.v, .int .i64 x.a, .int .i64 x.p, .int .i64 x.f, .int .i64 x.r]] w fun e w' =>
      e = .returned (.int .i64 0) ∧ Fr (at' b) w w' ∧ IsTref w' b (filled T k x) fo mi := by
  have t1 : decide ((k : Int) < 0) = false := decide_eq_false (by omega)
  have t2 : decide ((8 : Int) ≤ k) = false := decide_eq_false (by omega)
  have hb := h.lt
  have hbk : b ≠ w.heap.size := Nat.ne_of_lt hb
  have f0 := (Fr.refl (at' b) w).alloc (.cells #[.int .i64 x.v, .int .i64 x.a, .int .i64 x.p, .int .i64 x.f, .int .i64 x.r] 101)
  have r0 := row_alloc w #[.int .i64 x.v, .int .i64 x.a, .int .i64 x.p, .int .i64 x.f, .int .i64 x.r] 101
  have h0 := h.alloc (.cells #[.int .i64 x.v, .int .i64 x.a, .int .i64 x.p, .int .i64 x.f, .int .i64 x.r] 101)
  have i1 : 0 ≤ (k : Int) ∧ (k : Int) < 8 := by omega
  clear h hb
  rcases idx_cases T x.v x.a x.p 8 with ⟨hidx, hn⟩ | ⟨i, hi, hidx, hh, _⟩
  · go_enter Tryz.func148, Tryz.ntmps148
    go_wp2_with fail
    refine (trright_any x _).mono ?_
    rintro e w2 ⟨rfl, f2⟩
    rw [hx]
    replace r0 := r0.keep f2 (fun h => h)
    replace h0 := h0.keep f2 (fun h => h)
    replace f0 := f0.trans (f2.mono (T := at' b) (fun _ _ h => h.elim))
    clear f2
    obtain ⟨d0, d1, d2, d3, d4⟩ := row5 r0
    go_wp2_with fail
    refine (rat_any _ _ _ _ _ _ _ _ h0 hG).mono ?_
    rintro e w3 ⟨rfl, f3⟩
    rw [hidx]
    replace r0 := r0.keep f3 (fun h => h)
    replace h0 := h0.keep f3 (fun h => h)
    replace f0 := f0.trans (f3.mono (T := at' b) (fun _ _ h => h.elim))
    clear f3 d0 d1 d2 d3 d4
    obtain ⟨d0, d1, d2, d3, d4⟩ := row5 r0
    obtain ⟨c0, c1, c2, c3, c4⟩ := h0.cells k hk
    have g0 := h0.frozen (k * 5)
    have g1 := h0.frozen (k * 5 + 1)
    have g2 := h0.frozen (k * 5 + 2)
    have g3 := h0.frozen (k * 5 + 3)
    have g4 := h0.frozen (k * 5 + 4)
    go_wp2_with fail
    go_region
    all_goals (go_wp2_with fail)
    all_goals go_ret
    all_goals exact ⟨rfl, (set5_fr (l := x) f0 (Or.inr rfl)).drew, ((h0.setLine hk x).keep ((Fr.refl none' _).drew) (fun h => h)).congr (upd_congr k x (wipe_none hn))⟩
  · go_enter Tryz.func148, Tryz.ntmps148
    go_wp2_with fail
    refine (trright_any x _).mono ?_
    rintro e w2 ⟨rfl, f2⟩
    rw [hx]
    replace r0 := r0.keep f2 (fun h => h)
    replace h0 := h0.keep f2 (fun h => h)
    replace f0 := f0.trans (f2.mono (T := at' b) (fun _ _ h => h.elim))
    clear f2
    obtain ⟨d0, d1, d2, d3, d4⟩ := row5 r0
    go_wp2_with fail
    refine (rat_any _ _ _ _ _ _ _ _ h0 hG).mono ?_
    rintro e w3 ⟨rfl, f3⟩
    rw [hidx]
    replace r0 := r0.keep f3 (fun h => h)
    replace h0 := h0.keep f3 (fun h => h)
    replace f0 := f0.trans (f3.mono (T := at' b) (fun _ _ h => h.elim))
    clear f3 d0 d1 d2 d3 d4
    have i2 : 0 ≤ (i : Int) ∧ (i : Int) < 8 := by omega
    have h4 := h0.setLine hi zl
    have f4 := set5_fr (l := zl) (o := i * 5) f0 (Or.inr rfl)
    have r4 := (((((r0.setCell_other (p := ⟨b, i * 5, none⟩) hbk (.int .i64 zl.v)).setCell_other (p := ⟨b, i * 5 + 1, none⟩) hbk (.int .i64 zl.a)).setCell_other (p := ⟨b, i * 5 + 2, none⟩) hbk (.int .i64 zl.p)).setCell_other (p := ⟨b, i * 5 + 3, none⟩) hbk (.int .i64 zl.f)).setCell_other (p := ⟨b, i * 5 + 4, none⟩) hbk (.int .i64 zl.r))
    obtain ⟨c0, c1, c2, c3, c4⟩ := h0.cells i hi
    have g0 := h0.frozen (i * 5)
    have g1 := h0.frozen (i * 5 + 1)
    have g2 := h0.frozen (i * 5 + 2)
    have g3 := h0.frozen (i * 5 + 3)
    have g4 := h0.frozen (i * 5 + 4)
    go_wp2_with fail
    change Code.wp _ _ _ _ (set5 w3 b (i * 5) zl)
    change Row (set5 w3 b (i * 5) zl) _ _ _ at r4
    clear c0 c1 c2 c3 c4 g0 g1 g2 g3 g4
    obtain ⟨w5, hw5⟩ : ∃ w5, w5 = set5 w3 b (i * 5) zl := ⟨_, rfl⟩
    rw [← hw5] at h4 f4 r4 ⊢
    clear hw5 h0 r0 f0
    obtain ⟨d0, d1, d2, d3, d4⟩ := row5 r4
    obtain ⟨c0, c1, c2, c3, c4⟩ := h4.cells k hk
    have g0 := h4.frozen (k * 5)
    have g1 := h4.frozen (k * 5 + 1)
    have g2 := h4.frozen (k * 5 + 2)
    have g3 := h4.frozen (k * 5 + 3)
    have g4 := h4.frozen (k * 5 + 4)
    go_wp2_with fail
    go_region
    all_goals (go_wp2_with fail)
    all_goals go_ret
    all_goals exact ⟨rfl, (set5_fr (l := x) f4 (Or.inr rfl)).drew, ((h4.setLine hk x).keep ((Fr.refl none' _).drew) (fun h => h)).congr (upd_congr k x (wipe_one hU hi hh))⟩

end Go.Proofs.YtgnoakidjnilpaaGreat
