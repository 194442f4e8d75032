/-
  Contracts of package gic's Running, heard, Next, Ack, End, State over the translation. No statement is proved here.
-/
import Derived.Test.YtcenojdcmmflaaaGicVal
namespace Go.Proofs.Ytcenojdcmmflaaa
open Go.RowKit

theorem row4 {w : World} {b : Nat} {c0 c1 c2 c3 : Value} {t : TypeId} (h : Row w b #[c0, c1, c2, c3] t) :
    w.cell? ⟨b, 0, none⟩ = some c0 ∧ w.cell? ⟨b, 1, none⟩ = some c1 ∧ w.cell? ⟨b, 2, none⟩ = some c2 ∧ w.cell? ⟨b, 3, none⟩ = some c3 :=
  ⟨h.cell 0, h.cell 1, h.cell 2, h.cell 3⟩

theorem min_go (a b : Int) : (if b < a then b else a) = min a b := by split <;> omega

set_option maxHeartbeats 2000000 in
theorem running_any (w : World) (b : Nat) (T : Nat → Li) (m : Int) (h : IsGic w b T m) :
    Calls Try.prog 13 #[.pointer (some ⟨b, 0, none⟩)] w fun e w' => e = .returned (.int .i64 (run T)) ∧ Fr none' w w' := by
  obtain ⟨A, hA, hl, hc⟩ := h.arr
  go_enter Try.func13, Try.ntmps13
  go_wp2_with (refine wpList_load_part rfl 55 _ rfl b rfl A _ hc Try.underlying55 rfl (by rw [hA]; exact size_lis) ?_)
  go_loopw [3, 10] (fun n i wr => ∃ k : Nat, k ≤ 32 ∧ i = .int .i64 k ∧ n = .int .i64 (runN T k) ∧ Fr none' w wr) (fun _ i _ => 32 - (intOf i).toNat)
  case atStart => exact ⟨0, by omega, rfl, rfl, Fr.refl _ _⟩
  case round =>
    clear hc
    obtain ⟨k, hk, rfl, rfl, fk⟩ := hrel
    by_cases hlt : k < 32
    · have hix := index_li hA hl k hlt
      have rb := row_alloc wr #[.int .i64 (T k).p, .int .i64 (T k).s, .bool (T k).en, .bool (T k).pe] 54
      obtain ⟨c0, c1, c2, c3⟩ := row4 rb
      have f1 := fk.alloc (.cells #[.int .i64 (T k).p, .int .i64 (T k).s, .bool (T k).en, .bool (T k).pe] 54)
      clear fk
      go_wp2_with fail
      go_roundw
      case rel => exact ⟨k + 1, by omega, by go_num, by simp only [runN, min_go], f1⟩
      case measure => simp [intOf]; omega
    · obtain rfl : k = 32 := by omega
      go_wp2_with fail
      go_ret
      exact ⟨rfl, fk⟩

set_option maxHeartbeats 1000000 in
theorem heard_any (w : World) (b : Nat) (T : Nat → Li) (m : Int) (h : IsGic w b T m) :
    Calls Try.prog 36 #[.pointer (some ⟨b, 0, none⟩)] w fun e w' => ∃ g, e = .returned (.func (.func 39) #[] #[.pointer (some ⟨g, 0, none⟩)]) ∧ Fr none' w w' ∧ w'.cell? ⟨g, 0, none⟩ = some (.int .i64 (bound T m)) := by
  have c0 := h.mask
  have h1 := h.alloc (.cells #[.int .i64 0] 3)
  have d0 := h1.mask
  have r1 := row_alloc w #[.int .i64 0] 3
  have f0 := (Fr.refl none' w).alloc (.cells #[.int .i64 0] 3)
  unfold bound
  rcases Int.lt_or_le (run T) m with hm | hm
  · rw [show min m (run T) = run T by omega]
    go_enter Try.func36, Try.ntmps36
    go_wp2_with fail
    go_region_with (go_at_call 13; first
      | (refine (running_any w.drew b T m h).mono ?_; rintro e w1 ⟨rfl, f1⟩; (replace f1 := f1.undrew); (replace c0 := cell_keep f1 c0 (fun h => h)); have c9 := cell_keep ((Fr.refl none' w1).alloc (.cells #[.int .i64 0] 3)) c0 (fun h => h))
      | (refine (running_any (w.alloc (.cells #[.int .i64 0] 3)).drew b T m h1).mono ?_; rintro e w1 ⟨rfl, f1⟩; (replace f1 := f1.undrew); (replace c0 := cell_keep f1 d0 (fun h => h)); (replace r1 := r1.keep f1 (fun h => h)); have z0 := r1.cell 0; have z1 := r1.frozen 0; (replace f1 := f0.trans f1)))
    all_goals (go_wp2_with fail)
    all_goals go_ret
    all_goals first
      | exact ⟨_, rfl, f1.alloc _, cell_of_alloc _ _ _⟩
      | exact ⟨_, rfl, f1.setCell (p := ⟨w.heap.size, 0, none⟩) (Or.inl (Nat.le_refl _)) _, (r1.setCell 0 _).cell 0⟩
  · rw [show min m (run T) = m by omega]
    have hm' : ¬ run T < m := by omega
    go_enter Try.func36, Try.ntmps36
    go_wp2_with fail
    go_region_with (go_at_call 13; first
      | (refine (running_any w.drew b T m h).mono ?_; rintro e w1 ⟨rfl, f1⟩; (replace f1 := f1.undrew); (replace c0 := cell_keep f1 c0 (fun h => h)); have c9 := cell_keep ((Fr.refl none' w1).alloc (.cells #[.int .i64 0] 3)) c0 (fun h => h))
      | (refine (running_any (w.alloc (.cells #[.int .i64 0] 3)).drew b T m h1).mono ?_; rintro e w1 ⟨rfl, f1⟩; (replace f1 := f1.undrew); (replace c0 := cell_keep f1 d0 (fun h => h)); (replace r1 := r1.keep f1 (fun h => h)); have z0 := r1.cell 0; have z1 := r1.frozen 0; (replace f1 := f0.trans f1)))
    all_goals (go_wp2_with fail)
    all_goals go_ret
    all_goals first
      | exact ⟨_, rfl, f1.alloc _, cell_of_alloc _ _ _⟩
      | exact ⟨_, rfl, f1.setCell (p := ⟨w.heap.size, 0, none⟩) (Or.inl (Nat.le_refl _)) _, (r1.setCell 0 _).cell 0⟩

set_option maxHeartbeats 1000000 in
theorem may1 (w : World) (g : Nat) (bd : Int) (l : Li) (hg : w.cell? ⟨g, 0, none⟩ = some (.int .i64 bd)) :
    Calls Try.prog 39 #[.agg #[.int .i64 l.p, .int .i64 l.s, .bool l.en, .bool l.pe], .pointer (some ⟨g, 0, none⟩)] w fun e w' => e = .returned (.bool (may bd l)) ∧ Fr none' w w' := by
  have rb := row_alloc w #[.int .i64 l.p, .int .i64 l.s, .bool l.en, .bool l.pe] 54
  have f0 := (Fr.refl none' w).alloc (.cells #[.int .i64 l.p, .int .i64 l.s, .bool l.en, .bool l.pe] 54)
  have hg0 := cell_keep f0 hg (fun h => h)
  have hne : g ≠ w.heap.size := Nat.ne_of_lt (cell_lt hg)
  clear hg
  unfold may
  cases h1 : l.en with
  | false =>
    rw [h1] at rb f0 hg0
    obtain ⟨c0, c1, c2, c3⟩ := row4 rb
    go_enter Try.func39, Try.ntmps39
    go_wp2_with fail
    go_ret
    exact ⟨rfl, f0⟩
  | true =>
    cases h2 : l.pe with
    | false =>
      rw [h1, h2] at rb f0 hg0
      obtain ⟨c0, c1, c2, c3⟩ := row4 rb
      go_enter Try.func39, Try.ntmps39
      go_wp2_with fail
      go_ret
      exact ⟨rfl, f0⟩
    | true =>
      rw [h1, h2] at rb f0 hg0
      have ha := active_any l (w.alloc (.cells #[.int .i64 l.p, .int .i64 l.s, .bool true, .bool true] 54))
      rw [h1, h2] at ha
      obtain ⟨c0, c1, c2, c3⟩ := row4 rb
      cases h3 : act l with
      | true =>
        rw [h3] at ha
        go_enter Try.func39, Try.ntmps39
        go_wp2_with fail
        refine ha.mono ?_
        rintro e w1 ⟨rfl, f1⟩
        go_wp2_with fail
        go_ret
        exact ⟨rfl, f0.trans f1⟩
      | false =>
        rw [h3] at ha
        go_enter Try.func39, Try.ntmps39
        go_wp2_with fail
        refine ha.mono ?_
        rintro e w1 ⟨rfl, f1⟩
        replace rb := rb.keep f1 (fun h => h)
        replace hg0 := cell_keep f1 hg0 (fun h => h)
        clear c0 c1 c2 c3
        obtain ⟨c0, c1, c2, c3⟩ := row4 rb
        go_wp2_with fail
        go_ret
        exact ⟨rfl, f0.trans f1⟩

end Go.Proofs.Ytcenojdcmmflaaa
