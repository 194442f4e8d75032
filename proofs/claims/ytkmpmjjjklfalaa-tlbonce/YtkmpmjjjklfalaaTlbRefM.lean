/-
  Contracts of the document's Flush and Fill over the translation, of a buffer whose entries are empty or right. No statement is proved here.
-/
import Derived.Test.YtkmpmjjjklfalaaTlbRef
namespace Go.Proofs.Ytkmpmjjjklfalaa
open Go.RowKit

/-- What the document's flush wants: below 0: whichever. -/
def flushG (vm sp pg : Int) : Ln → Bool := fun l => (decide (vm < 0) || l.v == vm) && ((decide (sp < 0) || l.a == sp) && (decide (pg < 0) || l.p == pg))

set_option maxHeartbeats 8000000 in
theorem rflush_any (w : World) (b : Nat) (T : Nat → Ln) (fo mi vm sp pg : Int) (h : IsRef w b T fo mi) (hG : Good T) :
    Calls Try.prog 28 #[.pointer (some ⟨b, 0, none⟩), .int .i64 vm, .int .i64 sp, .int .i64 pg] w fun e w' =>
      e = .returned (.int .i64 (cnt (flushG vm sp pg) T 8)) ∧ Fr (at' b) w w' ∧ IsRef w' b (wipe (flushG vm sp pg) T) fo mi := by
  go_enter Try.func28, Try.ntmps28
  go_wp2_with fail
  go_loopw [9, 10] (fun n i wr => ∃ k : Nat, k ≤ 8 ∧ i = .int .i64 k ∧ n = .int .i64 (cnt (flushG vm sp pg) T k) ∧ Fr (at' b) w wr ∧ IsRef wr b (part' (flushG vm sp pg) T k) fo mi) (fun _ i _ => 8 - (intOf i).toNat)
  case atStart => exact ⟨0, by omega, rfl, rfl, Fr.refl _ _, by rw [part_zero]; exact h⟩
  case round =>
    clear h
    obtain ⟨k, hk, rfl, rfl, fk, hT⟩ := hrel
    by_cases hlt : k < 8
    · have he := good_emp hG hlt
      have i1 : 0 ≤ (k : Int) ∧ (k : Int) < 8 := by omega
      have hcb := cnt_bounds (flushG vm sp pg) T k
      have hbk : b ≠ wr.heap.size := Nat.ne_of_lt hT.lt
      obtain ⟨c0, c1, c2, c3, c4⟩ := hT.cells k hlt
      rw [part_at] at c0 c1 c2 c3 c4
      have hT1 := hT.alloc (.cells #[.int .i64 (T k).v, .int .i64 (T k).a, .int .i64 (T k).p, .int .i64 (T k).f, .int .i64 (T k).r] 28)
      have rb := row_alloc wr #[.int .i64 (T k).v, .int .i64 (T k).a, .int .i64 (T k).p, .int .i64 (T k).f, .int .i64 (T k).r] 28
      have f1 := fk.alloc (.cells #[.int .i64 (T k).v, .int .i64 (T k).a, .int .i64 (T k).p, .int .i64 (T k).f, .int .i64 (T k).r] 28)
      obtain ⟨d0, d1, d2, d3, d4⟩ := row5 rb
      have g0 := hT1.frozen (k * 5)
      have g1 := hT1.frozen (k * 5 + 1)
      have g2 := hT1.frozen (k * 5 + 2)
      have g3 := hT1.frozen (k * 5 + 3)
      have g4 := hT1.frozen (k * 5 + 4)
      obtain ⟨x0, x1, x2, x3, x4⟩ := hT1.cells k hlt
      rw [part_at] at x0 x1 x2 x3 x4
      clear hT fk rb
      cases t0 : ((T k).v != 0) with
      | false =>
        have hz : ((T k).v == 0) = true := by simpa using t0
        have hgo : goes (flushG vm sp pg) (T k) = false := by simp [goes, flushG, he, hz]
        clear hz he
        go_wp2_with fail
        go_roundw
        case rel => exact ⟨k + 1, by omega, by go_num, by simp [cnt, hgo], f1, by rw [part_stays hgo]; exact hT1⟩
        case measure => simp [intOf]; omega
      | true =>
      have he' : emp (T k) = false := by rw [he]; simpa using t0
      clear he
      cases a0 : decide (vm < 0) with
      | true =>
        cases a1 : decide (sp < 0) with
        | true =>
          cases a2 : decide (pg < 0) with
          | true =>
            have hgo : goes (flushG vm sp pg) (T k) = true := by simp [goes, flushG, he', a0, a1, a2]
            have hcc : cnt (flushG vm sp pg) T (k + 1) = cnt (flushG vm sp pg) T k + 1 := by simp [cnt, hgo]
            go_wp2_with fail
            go_roundw
            case rel => exact ⟨k + 1, by omega, by go_num, by rw [hcc], set5_fr (l := zl) f1 (Or.inr rfl), by rw [part_goes hgo]; exact hT1.setLine hlt zl⟩
            case measure => simp [intOf]; omega
          | false =>
            cases b2 : ((T k).p == pg) with
            | false =>
              have hgo : goes (flushG vm sp pg) (T k) = false := by simp [goes, flushG, a2, b2]
              go_wp2_with fail
              go_roundw
              case rel => exact ⟨k + 1, by omega, by go_num, by simp [cnt, hgo], f1, by rw [part_stays hgo]; exact hT1⟩
              case measure => simp [intOf]; omega
            | true =>
              have hgo : goes (flushG vm sp pg) (T k) = true := by simp [goes, flushG, he', a0, a1, b2]
              have hcc : cnt (flushG vm sp pg) T (k + 1) = cnt (flushG vm sp pg) T k + 1 := by simp [cnt, hgo]
              go_wp2_with fail
              go_roundw
              case rel => exact ⟨k + 1, by omega, by go_num, by rw [hcc], set5_fr (l := zl) f1 (Or.inr rfl), by rw [part_goes hgo]; exact hT1.setLine hlt zl⟩
              case measure => simp [intOf]; omega
        | false =>
          cases b1 : ((T k).a == sp) with
          | false =>
            have hgo : goes (flushG vm sp pg) (T k) = false := by simp [goes, flushG, a1, b1]
            go_wp2_with fail
            go_roundw
            case rel => exact ⟨k + 1, by omega, by go_num, by simp [cnt, hgo], f1, by rw [part_stays hgo]; exact hT1⟩
            case measure => simp [intOf]; omega
          | true =>
            cases a2 : decide (pg < 0) with
            | true =>
              have hgo : goes (flushG vm sp pg) (T k) = true := by simp [goes, flushG, he', a0, b1, a2]
              have hcc : cnt (flushG vm sp pg) T (k + 1) = cnt (flushG vm sp pg) T k + 1 := by simp [cnt, hgo]
              go_wp2_with fail
              go_roundw
              case rel => exact ⟨k + 1, by omega, by go_num, by rw [hcc], set5_fr (l := zl) f1 (Or.inr rfl), by rw [part_goes hgo]; exact hT1.setLine hlt zl⟩
              case measure => simp [intOf]; omega
            | false =>
              cases b2 : ((T k).p == pg) with
              | false =>
                have hgo : goes (flushG vm sp pg) (T k) = false := by simp [goes, flushG, a2, b2]
                go_wp2_with fail
                go_roundw
                case rel => exact ⟨k + 1, by omega, by go_num, by simp [cnt, hgo], f1, by rw [part_stays hgo]; exact hT1⟩
                case measure => simp [intOf]; omega
              | true =>
                have hgo : goes (flushG vm sp pg) (T k) = true := by simp [goes, flushG, he', a0, b1, b2]
                have hcc : cnt (flushG vm sp pg) T (k + 1) = cnt (flushG vm sp pg) T k + 1 := by simp [cnt, hgo]
                go_wp2_with fail
                go_roundw
                case rel => exact ⟨k + 1, by omega, by go_num, by rw [hcc], set5_fr (l := zl) f1 (Or.inr rfl), by rw [part_goes hgo]; exact hT1.setLine hlt zl⟩
                case measure => simp [intOf]; omega
      | false =>
        cases b0 : ((T k).v == vm) with
        | false =>
          have hgo : goes (flushG vm sp pg) (T k) = false := by simp [goes, flushG, a0, b0]
          go_wp2_with fail
          go_roundw
          case rel => exact ⟨k + 1, by omega, by go_num, by simp [cnt, hgo], f1, by rw [part_stays hgo]; exact hT1⟩
          case measure => simp [intOf]; omega
        | true =>
          cases a1 : decide (sp < 0) with
          | true =>
            cases a2 : decide (pg < 0) with
            | true =>
              have hgo : goes (flushG vm sp pg) (T k) = true := by simp [goes, flushG, he', b0, a1, a2]
              have hcc : cnt (flushG vm sp pg) T (k + 1) = cnt (flushG vm sp pg) T k + 1 := by simp [cnt, hgo]
              go_wp2_with fail
              go_roundw
              case rel => exact ⟨k + 1, by omega, by go_num, by rw [hcc], set5_fr (l := zl) f1 (Or.inr rfl), by rw [part_goes hgo]; exact hT1.setLine hlt zl⟩
              case measure => simp [intOf]; omega
            | false =>
              cases b2 : ((T k).p == pg) with
              | false =>
                have hgo : goes (flushG vm sp pg) (T k) = false := by simp [goes, flushG, a2, b2]
                go_wp2_with fail
                go_roundw
                case rel => exact ⟨k + 1, by omega, by go_num, by simp [cnt, hgo], f1, by rw [part_stays hgo]; exact hT1⟩
                case measure => simp [intOf]; omega
              | true =>
                have hgo : goes (flushG vm sp pg) (T k) = true := by simp [goes, flushG, he', b0, a1, b2]
                have hcc : cnt (flushG vm sp pg) T (k + 1) = cnt (flushG vm sp pg) T k + 1 := by simp [cnt, hgo]
                go_wp2_with fail
                go_roundw
                case rel => exact ⟨k + 1, by omega, by go_num, by rw [hcc], set5_fr (l := zl) f1 (Or.inr rfl), by rw [part_goes hgo]; exact hT1.setLine hlt zl⟩
                case measure => simp [intOf]; omega
          | false =>
            cases b1 : ((T k).a == sp) with
            | false =>
              have hgo : goes (flushG vm sp pg) (T k) = false := by simp [goes, flushG, a1, b1]
              go_wp2_with fail
              go_roundw
              case rel => exact ⟨k + 1, by omega, by go_num, by simp [cnt, hgo], f1, by rw [part_stays hgo]; exact hT1⟩
              case measure => simp [intOf]; omega
            | true =>
              cases a2 : decide (pg < 0) with
              | true =>
                have hgo : goes (flushG vm sp pg) (T k) = true := by simp [goes, flushG, he', b0, b1, a2]
                have hcc : cnt (flushG vm sp pg) T (k + 1) = cnt (flushG vm sp pg) T k + 1 := by simp [cnt, hgo]
                go_wp2_with fail
                go_roundw
                case rel => exact ⟨k + 1, by omega, by go_num, by rw [hcc], set5_fr (l := zl) f1 (Or.inr rfl), by rw [part_goes hgo]; exact hT1.setLine hlt zl⟩
                case measure => simp [intOf]; omega
              | false =>
                cases b2 : ((T k).p == pg) with
                | false =>
                  have hgo : goes (flushG vm sp pg) (T k) = false := by simp [goes, flushG, a2, b2]
                  go_wp2_with fail
                  go_roundw
                  case rel => exact ⟨k + 1, by omega, by go_num, by simp [cnt, hgo], f1, by rw [part_stays hgo]; exact hT1⟩
                  case measure => simp [intOf]; omega
                | true =>
                  have hgo : goes (flushG vm sp pg) (T k) = true := by simp [goes, flushG, he', b0, b1, b2]
                  have hcc : cnt (flushG vm sp pg) T (k + 1) = cnt (flushG vm sp pg) T k + 1 := by simp [cnt, hgo]
                  go_wp2_with fail
                  go_roundw
                  case rel => exact ⟨k + 1, by omega, by go_num, by rw [hcc], set5_fr (l := zl) f1 (Or.inr rfl), by rw [part_goes hgo]; exact hT1.setLine hlt zl⟩
                  case measure => simp [intOf]; omega
    · obtain rfl : k = 8 := by omega
      go_wp2_with fail
      go_ret
      exact ⟨rfl, fk, hT.congr (part_all _ T)⟩

set_option maxHeartbeats 400000 in
theorem rfill_out (w : World) (p : Value) (i : Int) (x : Ln) (hi : inB i 0 7 = false) :
    Calls Try.prog 24 #[p, .int .i64 i, .agg #[.int .i64 x.v, .int .i64 x.a, .int .i64 x.p, .int .i64 x.f, .int .i64 x.r]] w fun e w' => e = .returned (.int .i64 1) ∧ Fr none' w w' := by
  have hi' : ¬ (0 ≤ i ∧ i ≤ 7) := fun h => by rw [inB_iff.mpr h] at hi; exact absurd hi (by decide)
  by_cases h0 : i < 0
  · have t1 : decide (i < 0) = true := by simpa using h0
    clear hi hi' h0
    go_enter Try.func24, Try.ntmps24
    go_wp2_with fail
    go_ret
    exact ⟨rfl, (Fr.refl _ _).alloc _⟩
  · have t1 : decide (i < 0) = false := by simpa using h0
    have t2 : decide (8 ≤ i) = true := by simp; omega
    clear hi hi' h0
    go_enter Try.func24, Try.ntmps24
    go_wp2_with fail
    go_ret
    exact ⟨rfl, (Fr.refl _ _).alloc _⟩

set_option maxHeartbeats 400000 in
theorem rfill_bad (w : World) (p : Value) (i : Int) (x : Ln) (hi : inB i 0 7 = true) (hx : rightL x = false) :
    Calls Try.prog 24 #[p, .int .i64 i, .agg #[.int .i64 x.v, .int .i64 x.a, .int .i64 x.p, .int .i64 x.f, .int .i64 x.r]] w fun e w' => e = .returned (.int .i64 30) ∧ Fr none' w w' := by
  have hi' := inB_iff.mp hi
  have t1 : decide (i < 0) = false := decide_eq_false (by omega)
  have t2 : decide (8 ≤ i) = false := decide_eq_false (by omega)
  have f0 := (Fr.refl none' w).alloc (.cells #[.int .i64 x.v, .int .i64 x.a, .int .i64 x.p, .int .i64 x.f, .int .i64 x.r] 28)
  clear hi hi'
  go_enter Try.func24, Try.ntmps24
  go_wp2_with fail
  refine (rright_any x _).mono ?_
  rintro e w2 ⟨rfl, f2⟩
  rw [hx]
  go_wp2_with fail
  go_ret
  exact ⟨rfl, f0.trans f2⟩

/-- One entry emptied is the page wiped, where no page stands twice. -/
theorem wipe_one {T : Nat → Ln} {x : Ln} {i : Nat} (hU : Uniq T) (hi : i < 8) (hh : hit x.v x.a x.p (T i) = true) (j : Nat) (hj : j < 8) : upd T i zl j = wipe (fun l => key l x) T j := by
  have hh' : emp (T i) = false ∧ key (T i) x = true := by
    have : (!emp (T i) && key (T i) x) = true := hh
    simpa using this
  by_cases hji : j = i
  · subst hji
    simp [upd_same, wipe, goes, hh']
  · rw [upd_other _ _ hji]
    have hg : goes (fun l => key l x) (T j) = false := by
      cases hg : goes (fun l => key l x) (T j) with
      | false => rfl
      | true =>
        have hg' : emp (T j) = false ∧ key (T j) x = true := by simpa [goes] using hg
        refine absurd (hU i j hi hj hh'.1 hg'.1 ?_) (fun e => hji e.symm)
        have a1 := key_iff.mp hh'.2
        have a2 := key_iff.mp hg'.2
        exact key_iff.mpr ⟨a1.1.trans a2.1.symm, a1.2.1.trans a2.2.1.symm, a1.2.2.trans a2.2.2.symm⟩
    simp [wipe, hg]

theorem wipe_none {T : Nat → Ln} {x : Ln} (hn : ∀ j, j < 8 → hit x.v x.a x.p (T j) = false) (j : Nat) (hj : j < 8) : T j = wipe (fun l => key l x) T j := by
  have hg : goes (fun l => key l x) (T j) = false := hn j hj
  simp [wipe, hg]

theorem upd_congr {T T' : Nat → Ln} (k : Nat) (l : Ln) (h : ∀ j, j < 8 → T j = T' j) (j : Nat) (hj : j < 8) : upd T k l j = upd T' k l j := by
  by_cases hjk : j = k
  · subst hjk; rw [upd_same, upd_same]
  · rw [upd_other _ _ hjk, upd_other _ _ hjk, h j hj]

set_option maxHeartbeats 2000000 in
theorem rfill_ok (w : World) (b : Nat) (T : Nat → Ln) (fo mi : Int) (h : IsRef w b T fo mi) (hG : Good T) (hU : Uniq T) (k : Nat) (hk : k < 8) (x : Ln) (hx : rightL x = true) :
    Calls Try.prog 24 #[.pointer (some ⟨b, 0, none⟩), .int .i64 (k : Int), .agg #[.int .i64 x.v, .int .i64 x.a, .int .i64 x.p, .int .i64 x.f, .int .i64 x.r]] w fun e w' =>
      e = .returned (.int .i64 0) ∧ Fr (at' b) w w' ∧ IsRef w' b (filled T k x) fo mi := by
  have t1 : decide ((k : Int) < 0) = false := decide_eq_false (by omega)
  have t2 : decide ((8 : Int) ≤ k) = false := decide_eq_false (by omega)
  have hb := h.lt
  have hbk : b ≠ w.heap.size := Nat.ne_of_lt hb
  have f0 := (Fr.refl (at' b) w).alloc (.cells #[.int .i64 x.v, .int .i64 x.a, .int .i64 x.p, .int .i64 x.f, .int .i64 x.r] 28)
  have r0 := row_alloc w #[.int .i64 x.v, .int .i64 x.a, .int .i64 x.p, .int .i64 x.f, .int .i64 x.r] 28
  have h0 := h.alloc (.cells #[.int .i64 x.v, .int .i64 x.a, .int .i64 x.p, .int .i64 x.f, .int .i64 x.r] 28)
  have i1 : 0 ≤ (k : Int) ∧ (k : Int) < 8 := by omega
  clear h hb
  rcases idx_cases T x.v x.a x.p 8 with ⟨hidx, hn⟩ | ⟨i, hi, hidx, hh, _⟩
  · go_enter Try.func24, Try.ntmps24
    go_wp2_with fail
    refine (rright_any x _).mono ?_
    rintro e w2 ⟨rfl, f2⟩
    rw [hx]
    replace r0 := r0.keep f2 (fun h => h)
    replace h0 := h0.keep f2 (fun h => h)
    replace f0 := f0.trans (f2.mono (T := at' b) (fun _ _ h => h.elim))
    clear f2
    obtain ⟨d0, d1, d2, d3, d4⟩ := row5 r0
    go_wp2_with fail
    refine (rat_any _ _ _ _ _ _ _ _ h0 hG).mono ?_
    rintro e w3 ⟨rfl, f3⟩
    rw [hidx]
    replace r0 := r0.keep f3 (fun h => h)
    replace h0 := h0.keep f3 (fun h => h)
    replace f0 := f0.trans (f3.mono (T := at' b) (fun _ _ h => h.elim))
    clear f3 d0 d1 d2 d3 d4
    obtain ⟨d0, d1, d2, d3, d4⟩ := row5 r0
    obtain ⟨c0, c1, c2, c3, c4⟩ := h0.cells k hk
    have g0 := h0.frozen (k * 5)
    have g1 := h0.frozen (k * 5 + 1)
    have g2 := h0.frozen (k * 5 + 2)
    have g3 := h0.frozen (k * 5 + 3)
    have g4 := h0.frozen (k * 5 + 4)
    go_wp2_with fail
    go_region
    all_goals (go_wp2_with fail)
    all_goals go_ret
    all_goals exact ⟨rfl, (set5_fr (l := x) f0 (Or.inr rfl)).drew, ((h0.setLine hk x).keep ((Fr.refl none' _).drew) (fun h => h)).congr (upd_congr k x (wipe_none hn))⟩
  · go_enter Try.func24, Try.ntmps24
    go_wp2_with fail
    refine (rright_any x _).mono ?_
    rintro e w2 ⟨rfl, f2⟩
    rw [hx]
    replace r0 := r0.keep f2 (fun h => h)
    replace h0 := h0.keep f2 (fun h => h)
    replace f0 := f0.trans (f2.mono (T := at' b) (fun _ _ h => h.elim))
    clear f2
    obtain ⟨d0, d1, d2, d3, d4⟩ := row5 r0
    go_wp2_with fail
    refine (rat_any _ _ _ _ _ _ _ _ h0 hG).mono ?_
    rintro e w3 ⟨rfl, f3⟩
    rw [hidx]
    replace r0 := r0.keep f3 (fun h => h)
    replace h0 := h0.keep f3 (fun h => h)
    replace f0 := f0.trans (f3.mono (T := at' b) (fun _ _ h => h.elim))
    clear f3 d0 d1 d2 d3 d4
    have i2 : 0 ≤ (i : Int) ∧ (i : Int) < 8 := by omega
    have h4 := h0.setLine hi zl
    have f4 := set5_fr (l := zl) (o := i * 5) f0 (Or.inr rfl)
    have r4 := (((((r0.setCell_other (p := ⟨b, i * 5, none⟩) hbk (.int .i64 zl.v)).setCell_other (p := ⟨b, i * 5 + 1, none⟩) hbk (.int .i64 zl.a)).setCell_other (p := ⟨b, i * 5 + 2, none⟩) hbk (.int .i64 zl.p)).setCell_other (p := ⟨b, i * 5 + 3, none⟩) hbk (.int .i64 zl.f)).setCell_other (p := ⟨b, i * 5 + 4, none⟩) hbk (.int .i64 zl.r))
    obtain ⟨c0, c1, c2, c3, c4⟩ := h0.cells i hi
    have g0 := h0.frozen (i * 5)
    have g1 := h0.frozen (i * 5 + 1)
    have g2 := h0.frozen (i * 5 + 2)
    have g3 := h0.frozen (i * 5 + 3)
    have g4 := h0.frozen (i * 5 + 4)
    go_wp2_with fail
    change Code.wp _ _ _ _ (set5 w3 b (i * 5) zl)
    change Row (set5 w3 b (i * 5) zl) _ _ _ at r4
    clear c0 c1 c2 c3 c4 g0 g1 g2 g3 g4
    obtain ⟨w5, hw5⟩ : ∃ w5, w5 = set5 w3 b (i * 5) zl := ⟨_, rfl⟩
    rw [← hw5] at h4 f4 r4 ⊢
    clear hw5 h0 r0 f0
    obtain ⟨d0, d1, d2, d3, d4⟩ := row5 r4
    obtain ⟨c0, c1, c2, c3, c4⟩ := h4.cells k hk
    have g0 := h4.frozen (k * 5)
    have g1 := h4.frozen (k * 5 + 1)
    have g2 := h4.frozen (k * 5 + 2)
    have g3 := h4.frozen (k * 5 + 3)
    have g4 := h4.frozen (k * 5 + 4)
    go_wp2_with fail
    go_region
    all_goals (go_wp2_with fail)
    all_goals go_ret
    all_goals exact ⟨rfl, (set5_fr (l := x) f4 (Or.inr rfl)).drew, ((h4.setLine hk x).keep ((Fr.refl none' _).drew) (fun h => h)).congr (upd_congr k x (wipe_one hU hi hh))⟩

end Go.Proofs.Ytkmpmjjjklfalaa
