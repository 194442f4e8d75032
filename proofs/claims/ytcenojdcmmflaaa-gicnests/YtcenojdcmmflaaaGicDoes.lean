/-
  The contract of 'does' (an act by both) over the translation, act by act and whole: both answer the same, and both controllers hold the same afterwards. No statement is proved here.
-/
import Derived.Test.YtcenojdcmmflaaaGicNext
import Derived.Test.YtcenojdcmmflaaaGicRefN
namespace Go.Proofs.Ytcenojdcmmflaaa
open Go.RowKit

/-- The program's controller and the document's, both of the call's own: they hold the same. -/
structure Pair (w : World) (B bt br : Nat) (T : Nat → Li) (m : Int) : Prop where
  new1 : B ≤ bt
  new2 : B ≤ br
  ne : bt ≠ br
  gic : IsGic w bt T m
  ref : IsRef w br T m
  good : Good T m

theorem Pair.keep0 {w w' : World} {B bt br : Nat} {T : Nat → Li} {m : Int} (h : Pair w B bt br T m) (f : Fr none' w w') : Pair w' B bt br T m :=
  ⟨h.new1, h.new2, h.ne, h.gic.keep f (fun h => h), h.ref.keep f (fun h => h), h.good⟩

def DoneT (w : World) (B bt br : Nat) (T : Nat → Li) (m : Int) : Ending → World → Prop := fun e w' => e = .returned (.bool true) ∧ Fr (two bt br) w w' ∧ Pair w' B bt br T m

theorem ch_out {T : Nat → Li} {n : Int} (h : isL n = false) (f : Li → Li) : chT T n f = T := by simp [chT, h]
theorem ch_in {T : Nat → Li} {k : Nat} (h : isL (k : Int) = true) (f : Li → Li) : chT T k f = upd T k (f (T k)) := by simp [chT, h]
theorem err_out {n : Int} (h : isL n = false) : errL n = 1 := by simp [errL, h]
theorem err_in {n : Int} (h : isL n = true) : errL n = 0 := by simp [errL, h]
theorem pr_bad {T : Nat → Li} {n x : Int} (h : isP x = false) : prT T n x = T := by simp [prT, h]
theorem pr_ok {T : Nat → Li} {n x : Int} (h : isP x = true) : prT T n x = chT T n (fP x) := by simp [prT, h]
theorem pe_bad {n x : Int} (h : isP x = false) : prE n x = 1 := by simp [prE, h]
theorem pe_ok {n x : Int} (h : isP x = true) : prE n x = errL n := by simp [prE, h]

set_option maxRecDepth 100000 in
set_option maxHeartbeats 2000000 in
theorem does_raise (w : World) (B bt br : Nat) (T : Nat → Li) (m : Int) (h : Pair w B bt br T m) (n x : Int) (on : Bool) :
    Calls Try.prog 11 #[.pointer (some ⟨bt, 0, none⟩), .pointer (some ⟨br, 0, none⟩), .agg #[.int .i64 1, .int .i64 n, .int .i64 x, .bool on]] w (DoneT w B bt br (chT T n (fPe true)) m) := by
  have h0 := h.keep0 ((Fr.refl none' w).alloc (.cells #[.int .i64 1, .int .i64 n, .int .i64 x, .bool on] 30))
  have f0 := (Fr.refl (two bt br) w).alloc (.cells #[.int .i64 1, .int .i64 n, .int .i64 x, .bool on] 30)
  have r0 := row_alloc w #[.int .i64 1, .int .i64 n, .int .i64 x, .bool on] 30
  have n1 : w.heap.size ≠ bt := Nat.ne_of_gt h.gic.lt
  have n2 : w.heap.size ≠ br := Nat.ne_of_gt h.ref.lt
  cases hn : isL n with
  | false =>
    rw [ch_out hn]
    go_enter Try.func11, Try.ntmps11
    go_wp2_with fail
    refine (is_any _ _).mono ?_
    rintro e w0 ⟨rfl, rfl⟩
    rw [hn]
    go_wp2_with fail
    refine (raise_any _ _ _ _ h0.gic n).mono ?_
    rintro e w1 ⟨rfl, f1, t1⟩
    rw [ch_out hn] at t1
    rw [err_out hn]
    go_wp2_with fail
    go_ret
    exact ⟨rfl, f0.trans (f1.mono (fun _ _ e => Or.inl e)), h.new1, h.new2, h.ne, t1, h0.ref.keep f1 (fun e => h.ne e.symm), h.good⟩
  | true =>
    obtain ⟨k, rfl⟩ : ∃ k : Nat, n = (k : Int) := ⟨n.toNat, by have := isL_iff.mp hn; omega⟩
    have hk : k < 32 := by have := isL_iff.mp hn; omega
    have i1 : 0 ≤ (k : Int) ∧ (k : Int) < 32 := by omega
    have hg := good_ch h.good (k : Int) (fPe true) (fun l hl => by simpa only [fPe, fEn] using hl)
    rw [ch_in hn] at hg ⊢
    go_enter Try.func11, Try.ntmps11
    go_wp2_with fail
    refine (is_any _ _).mono ?_
    rintro e w0 ⟨rfl, rfl⟩
    rw [hn]
    go_wp2_with fail
    refine (raise_any _ _ _ _ h0.gic (k : Int)).mono ?_
    rintro e w1 ⟨rfl, f1, t1⟩
    rw [ch_in hn] at t1
    rw [err_in hn]
    have q1 := h0.ref.keep f1 (fun e => h.ne e.symm)
    replace r0 := r0.keep f1 n1
    replace f0 := f0.trans (f1.mono (T := two bt br) (fun _ _ e => Or.inl e))
    obtain ⟨k0, k1, k2, k3⟩ := row4 r0
    obtain ⟨c0, c1, c2, c3, _⟩ := q1.cells k hk
    have gg := q1.frozen (64 + k)
    have q2 := q1.setPe hk true
    have t2 := t1.keep (w' := w1.setCell ⟨br, 64 + k, none⟩ (.bool true)) ((Fr.refl (at' br) w1).setCell (p := ⟨br, 64 + k, none⟩) (Or.inr (show br = br from rfl)) _) h.ne
    have f2 := f0.setCell (p := ⟨br, 64 + k, none⟩) (Or.inr (show two bt br br from Or.inr rfl)) (.bool true)
    have Q2 := hid q2
    have T2 := hid t2
    clear f1 q1 q2 t1 t2 c0 r0 h0
    go_wp2_with fail
    go_region
    all_goals (go_wp2_with fail)
    all_goals go_ret
    all_goals exact ⟨rfl, f2.drew, h.new1, h.new2, h.ne, T2.out.keep (Fr.drew (Fr.refl none' _)) (fun h => h), Q2.out.keep (Fr.drew (Fr.refl none' _)) (fun h => h), hg⟩

set_option maxRecDepth 100000 in
set_option maxHeartbeats 2000000 in
theorem does_lower (w : World) (B bt br : Nat) (T : Nat → Li) (m : Int) (h : Pair w B bt br T m) (n x : Int) (on : Bool) :
    Calls Try.prog 11 #[.pointer (some ⟨bt, 0, none⟩), .pointer (some ⟨br, 0, none⟩), .agg #[.int .i64 2, .int .i64 n, .int .i64 x, .bool on]] w (DoneT w B bt br (chT T n (fPe false)) m) := by
  have h0 := h.keep0 ((Fr.refl none' w).alloc (.cells #[.int .i64 2, .int .i64 n, .int .i64 x, .bool on] 30))
  have f0 := (Fr.refl (two bt br) w).alloc (.cells #[.int .i64 2, .int .i64 n, .int .i64 x, .bool on] 30)
  have r0 := row_alloc w #[.int .i64 2, .int .i64 n, .int .i64 x, .bool on] 30
  have n1 : w.heap.size ≠ bt := Nat.ne_of_gt h.gic.lt
  have n2 : w.heap.size ≠ br := Nat.ne_of_gt h.ref.lt
  cases hn : isL n with
  | false =>
    rw [ch_out hn]
    go_enter Try.func11, Try.ntmps11
    go_wp2_with fail
    refine (is_any _ _).mono ?_
    rintro e w0 ⟨rfl, rfl⟩
    rw [hn]
    go_wp2_with fail
    refine (lower_any _ _ _ _ h0.gic n).mono ?_
    rintro e w1 ⟨rfl, f1, t1⟩
    rw [ch_out hn] at t1
    rw [err_out hn]
    go_wp2_with fail
    go_ret
    exact ⟨rfl, f0.trans (f1.mono (fun _ _ e => Or.inl e)), h.new1, h.new2, h.ne, t1, h0.ref.keep f1 (fun e => h.ne e.symm), h.good⟩
  | true =>
    obtain ⟨k, rfl⟩ : ∃ k : Nat, n = (k : Int) := ⟨n.toNat, by have := isL_iff.mp hn; omega⟩
    have hk : k < 32 := by have := isL_iff.mp hn; omega
    have i1 : 0 ≤ (k : Int) ∧ (k : Int) < 32 := by omega
    have hg := good_ch h.good (k : Int) (fPe false) (fun l hl => by simpa only [fPe, fEn] using hl)
    rw [ch_in hn] at hg ⊢
    go_enter Try.func11, Try.ntmps11
    go_wp2_with fail
    refine (is_any _ _).mono ?_
    rintro e w0 ⟨rfl, rfl⟩
    rw [hn]
    go_wp2_with fail
    refine (lower_any _ _ _ _ h0.gic (k : Int)).mono ?_
    rintro e w1 ⟨rfl, f1, t1⟩
    rw [ch_in hn] at t1
    rw [err_in hn]
    have q1 := h0.ref.keep f1 (fun e => h.ne e.symm)
    replace r0 := r0.keep f1 n1
    replace f0 := f0.trans (f1.mono (T := two bt br) (fun _ _ e => Or.inl e))
    obtain ⟨k0, k1, k2, k3⟩ := row4 r0
    obtain ⟨c0, c1, c2, c3, _⟩ := q1.cells k hk
    have gg := q1.frozen (64 + k)
    have q2 := q1.setPe hk false
    have t2 := t1.keep (w' := w1.setCell ⟨br, 64 + k, none⟩ (.bool false)) ((Fr.refl (at' br) w1).setCell (p := ⟨br, 64 + k, none⟩) (Or.inr (show br = br from rfl)) _) h.ne
    have f2 := f0.setCell (p := ⟨br, 64 + k, none⟩) (Or.inr (show two bt br br from Or.inr rfl)) (.bool false)
    have Q2 := hid q2
    have T2 := hid t2
    clear f1 q1 q2 t1 t2 c0 r0 h0
    go_wp2_with fail
    go_region
    all_goals (go_wp2_with fail)
    all_goals go_ret
    all_goals exact ⟨rfl, f2.drew, h.new1, h.new2, h.ne, T2.out.keep (Fr.drew (Fr.refl none' _)) (fun h => h), Q2.out.keep (Fr.drew (Fr.refl none' _)) (fun h => h), hg⟩

set_option maxRecDepth 100000 in
set_option maxHeartbeats 2000000 in
theorem does_enable (w : World) (B bt br : Nat) (T : Nat → Li) (m : Int) (h : Pair w B bt br T m) (n x : Int) (on : Bool) :
    Calls Try.prog 11 #[.pointer (some ⟨bt, 0, none⟩), .pointer (some ⟨br, 0, none⟩), .agg #[.int .i64 3, .int .i64 n, .int .i64 x, .bool on]] w (DoneT w B bt br (chT T n (fEn on)) m) := by
  have h0 := h.keep0 ((Fr.refl none' w).alloc (.cells #[.int .i64 3, .int .i64 n, .int .i64 x, .bool on] 30))
  have f0 := (Fr.refl (two bt br) w).alloc (.cells #[.int .i64 3, .int .i64 n, .int .i64 x, .bool on] 30)
  have r0 := row_alloc w #[.int .i64 3, .int .i64 n, .int .i64 x, .bool on] 30
  have n1 : w.heap.size ≠ bt := Nat.ne_of_gt h.gic.lt
  have n2 : w.heap.size ≠ br := Nat.ne_of_gt h.ref.lt
  cases hn : isL n with
  | false =>
    rw [ch_out hn]
    go_enter Try.func11, Try.ntmps11
    go_wp2_with fail
    refine (is_any _ _).mono ?_
    rintro e w0 ⟨rfl, rfl⟩
    rw [hn]
    go_wp2_with fail
    refine (enable_any _ _ _ _ h0.gic n on).mono ?_
    rintro e w1 ⟨rfl, f1, t1⟩
    rw [ch_out hn] at t1
    rw [err_out hn]
    go_wp2_with fail
    go_ret
    exact ⟨rfl, f0.trans (f1.mono (fun _ _ e => Or.inl e)), h.new1, h.new2, h.ne, t1, h0.ref.keep f1 (fun e => h.ne e.symm), h.good⟩
  | true =>
    obtain ⟨k, rfl⟩ : ∃ k : Nat, n = (k : Int) := ⟨n.toNat, by have := isL_iff.mp hn; omega⟩
    have hk : k < 32 := by have := isL_iff.mp hn; omega
    have i1 : 0 ≤ (k : Int) ∧ (k : Int) < 32 := by omega
    have hg := good_ch h.good (k : Int) (fEn on) (fun l hl => by simpa only [fPe, fEn] using hl)
    rw [ch_in hn] at hg ⊢
    go_enter Try.func11, Try.ntmps11
    go_wp2_with fail
    refine (is_any _ _).mono ?_
    rintro e w0 ⟨rfl, rfl⟩
    rw [hn]
    go_wp2_with fail
    refine (enable_any _ _ _ _ h0.gic (k : Int) on).mono ?_
    rintro e w1 ⟨rfl, f1, t1⟩
    rw [ch_in hn] at t1
    rw [err_in hn]
    have q1 := h0.ref.keep f1 (fun e => h.ne e.symm)
    replace r0 := r0.keep f1 n1
    replace f0 := f0.trans (f1.mono (T := two bt br) (fun _ _ e => Or.inl e))
    obtain ⟨k0, k1, k2, k3⟩ := row4 r0
    obtain ⟨c0, c1, c2, c3, _⟩ := q1.cells k hk
    have gg := q1.frozen (32 + k)
    have q2 := q1.setEn hk on
    have t2 := t1.keep (w' := w1.setCell ⟨br, 32 + k, none⟩ (.bool on)) ((Fr.refl (at' br) w1).setCell (p := ⟨br, 32 + k, none⟩) (Or.inr (show br = br from rfl)) _) h.ne
    have f2 := f0.setCell (p := ⟨br, 32 + k, none⟩) (Or.inr (show two bt br br from Or.inr rfl)) (.bool on)
    have Q2 := hid q2
    have T2 := hid t2
    clear f1 q1 q2 t1 t2 c0 r0 h0
    go_wp2_with fail
    go_region
    all_goals (go_wp2_with fail)
    all_goals go_ret
    all_goals exact ⟨rfl, f2.drew, h.new1, h.new2, h.ne, T2.out.keep (Fr.drew (Fr.refl none' _)) (fun h => h), Q2.out.keep (Fr.drew (Fr.refl none' _)) (fun h => h), hg⟩

set_option maxRecDepth 100000 in
set_option maxHeartbeats 2000000 in
theorem does_prior (w : World) (B bt br : Nat) (T : Nat → Li) (m : Int) (h : Pair w B bt br T m) (n x : Int) (on : Bool) :
    Calls Try.prog 11 #[.pointer (some ⟨bt, 0, none⟩), .pointer (some ⟨br, 0, none⟩), .agg #[.int .i64 4, .int .i64 n, .int .i64 x, .bool on]] w (DoneT w B bt br (prT T n x) m) := by
  have h0 := h.keep0 ((Fr.refl none' w).alloc (.cells #[.int .i64 4, .int .i64 n, .int .i64 x, .bool on] 30))
  have f0 := (Fr.refl (two bt br) w).alloc (.cells #[.int .i64 4, .int .i64 n, .int .i64 x, .bool on] 30)
  have r0 := row_alloc w #[.int .i64 4, .int .i64 n, .int .i64 x, .bool on] 30
  have n1 : w.heap.size ≠ bt := Nat.ne_of_gt h.gic.lt
  have n2 : w.heap.size ≠ br := Nat.ne_of_gt h.ref.lt
  cases hx : isP x with
  | false =>
    rw [pr_bad hx]
    by_cases hl : x < 0
    · have t1 : decide (x < 0) = true := decide_eq_true hl
      go_enter Try.func11, Try.ntmps11
      go_wp2_with fail
      refine (is_any _ _).mono ?_
      rintro e w0 ⟨rfl, rfl⟩
      cases hn : isL n with
      | false =>
        go_wp2_with fail
        refine (prior_any _ _ _ _ h0.gic n x).mono ?_
        rintro e w1 ⟨rfl, f1, t1⟩
        rw [pr_bad hx] at t1
        rw [pe_bad hx]
        replace r0 := r0.keep f1 n1
        obtain ⟨k0, k1, k2, k3⟩ := row4 r0
        go_wp2_with fail
        go_ret
        exact ⟨rfl, f0.trans (f1.mono (fun _ _ e => Or.inl e)), h.new1, h.new2, h.ne, t1, h0.ref.keep f1 (fun e => h.ne e.symm), h.good⟩
      | true =>
        go_wp2_with fail
        refine (prior_any _ _ _ _ h0.gic n x).mono ?_
        rintro e w1 ⟨rfl, f1, t1⟩
        rw [pr_bad hx] at t1
        rw [pe_bad hx]
        replace r0 := r0.keep f1 n1
        obtain ⟨k0, k1, k2, k3⟩ := row4 r0
        go_wp2_with fail
        go_ret
        exact ⟨rfl, f0.trans (f1.mono (fun _ _ e => Or.inl e)), h.new1, h.new2, h.ne, t1, h0.ref.keep f1 (fun e => h.ne e.symm), h.good⟩
    · have t1 : decide (x < 0) = false := decide_eq_false hl
      have t2 : decide (255 < x) = true := decide_eq_true (by
        rcases Int.lt_or_le 255 x with h' | h'
        · exact h'
        · rw [isP_iff.mpr ⟨by omega, h'⟩] at hx; exact absurd hx (by simp))
      go_enter Try.func11, Try.ntmps11
      go_wp2_with fail
      refine (is_any _ _).mono ?_
      rintro e w0 ⟨rfl, rfl⟩
      cases hn : isL n with
      | false =>
        go_wp2_with fail
        refine (prior_any _ _ _ _ h0.gic n x).mono ?_
        rintro e w1 ⟨rfl, f1, t1⟩
        rw [pr_bad hx] at t1
        rw [pe_bad hx]
        replace r0 := r0.keep f1 n1
        obtain ⟨k0, k1, k2, k3⟩ := row4 r0
        go_wp2_with fail
        go_ret
        exact ⟨rfl, f0.trans (f1.mono (fun _ _ e => Or.inl e)), h.new1, h.new2, h.ne, t1, h0.ref.keep f1 (fun e => h.ne e.symm), h.good⟩
      | true =>
        go_wp2_with fail
        refine (prior_any _ _ _ _ h0.gic n x).mono ?_
        rintro e w1 ⟨rfl, f1, t1⟩
        rw [pr_bad hx] at t1
        rw [pe_bad hx]
        replace r0 := r0.keep f1 n1
        obtain ⟨k0, k1, k2, k3⟩ := row4 r0
        go_wp2_with fail
        go_ret
        exact ⟨rfl, f0.trans (f1.mono (fun _ _ e => Or.inl e)), h.new1, h.new2, h.ne, t1, h0.ref.keep f1 (fun e => h.ne e.symm), h.good⟩
  | true =>
    rw [pr_ok hx]
    have hx' := isP_iff.mp hx
    have t1 : decide (x < 0) = false := decide_eq_false (by omega)
    have t2 : decide (255 < x) = false := decide_eq_false (by omega)
    have hg0 := good_ch h.good n (fP x) (fun l hl => by simp only [fP]; omega)
    clear hx'
    cases hn : isL n with
    | false =>
      rw [ch_out hn]
      go_enter Try.func11, Try.ntmps11
      go_wp2_with fail
      refine (is_any _ _).mono ?_
      rintro e w0 ⟨rfl, rfl⟩
      rw [hn]
      go_wp2_with fail
      refine (prior_any _ _ _ _ h0.gic n x).mono ?_
      rintro e w1 ⟨rfl, f1, t3⟩
      rw [pr_ok hx, ch_out hn] at t3
      rw [pe_ok hx, err_out hn]
      replace r0 := r0.keep f1 n1
      obtain ⟨k0, k1, k2, k3⟩ := row4 r0
      go_wp2_with fail
      go_ret
      exact ⟨rfl, f0.trans (f1.mono (fun _ _ e => Or.inl e)), h.new1, h.new2, h.ne, t3, h0.ref.keep f1 (fun e => h.ne e.symm), h.good⟩
    | true =>
      obtain ⟨k, rfl⟩ : ∃ k : Nat, n = (k : Int) := ⟨n.toNat, by have := isL_iff.mp hn; omega⟩
      have hk : k < 32 := by have := isL_iff.mp hn; omega
      have i1 : 0 ≤ (k : Int) ∧ (k : Int) < 32 := by omega
      rw [ch_in hn] at hg0 ⊢
      go_enter Try.func11, Try.ntmps11
      go_wp2_with fail
      refine (is_any _ _).mono ?_
      rintro e w0 ⟨rfl, rfl⟩
      rw [hn]
      go_wp2_with fail
      refine (prior_any _ _ _ _ h0.gic (k : Int) x).mono ?_
      rintro e w1 ⟨rfl, f1, t3⟩
      rw [pr_ok hx, ch_in hn] at t3
      rw [pe_ok hx, err_in hn]
      have q1 := h0.ref.keep f1 (fun e => h.ne e.symm)
      replace r0 := r0.keep f1 n1
      replace f0 := f0.trans (f1.mono (T := two bt br) (fun _ _ e => Or.inl e))
      obtain ⟨k0, k1, k2, k3⟩ := row4 r0
      obtain ⟨c0, c1, c2, c3, _⟩ := q1.cells k hk
      have gg := q1.frozen k
      have q2 := q1.setP hk x
      have t4 := t3.keep (w' := w1.setCell ⟨br, k, none⟩ (.int .i64 x)) ((Fr.refl (at' br) w1).setCell (p := ⟨br, k, none⟩) (Or.inr (show br = br from rfl)) _) h.ne
      have f2 := f0.setCell (p := ⟨br, k, none⟩) (Or.inr (show two bt br br from Or.inr rfl)) (.int .i64 x)
      have Q2 := hid q2
      have T2 := hid t4
      clear f1 q1 q2 t3 t4 c1 c2 c3 r0 h0
      go_wp2_with fail
      go_region
      all_goals (go_wp2_with fail)
      all_goals go_ret
      all_goals exact ⟨rfl, f2.drew, h.new1, h.new2, h.ne, T2.out.keep (Fr.drew (Fr.refl none' _)) (fun h => h), Q2.out.keep (Fr.drew (Fr.refl none' _)) (fun h => h), hg0⟩

set_option maxRecDepth 100000 in
set_option maxHeartbeats 2000000 in
theorem does_mask (w : World) (B bt br : Nat) (T : Nat → Li) (m : Int) (h : Pair w B bt br T m) (n x : Int) (on : Bool) :
    Calls Try.prog 11 #[.pointer (some ⟨bt, 0, none⟩), .pointer (some ⟨br, 0, none⟩), .agg #[.int .i64 5, .int .i64 n, .int .i64 x, .bool on]] w (DoneT w B bt br T (maM m x)) := by
  have h0 := h.keep0 ((Fr.refl none' w).alloc (.cells #[.int .i64 5, .int .i64 n, .int .i64 x, .bool on] 30))
  have f0 := (Fr.refl (two bt br) w).alloc (.cells #[.int .i64 5, .int .i64 n, .int .i64 x, .bool on] 30)
  have r0 := row_alloc w #[.int .i64 5, .int .i64 n, .int .i64 x, .bool on] 30
  have n1 : w.heap.size ≠ bt := Nat.ne_of_gt h.gic.lt
  have n2 : w.heap.size ≠ br := Nat.ne_of_gt h.ref.lt
  have hg0 := good_ma h.good x
  cases hx : isM x with
  | false =>
    have em : maM m x = m := by simp [maM, hx]
    have ee : maE x = 1 := by simp [maE, hx]
    rw [em] at hg0 ⊢
    by_cases hl : 0 ≤ x
    · have t1 : decide (0 ≤ x) = true := decide_eq_true hl
      have t2 : decide (x ≤ 256) = false := decide_eq_false (fun h' => by rw [isM_iff.mpr ⟨hl, h'⟩] at hx; exact absurd hx (by simp))
      go_enter Try.func11, Try.ntmps11
      go_wp2_with fail
      refine (is_any _ _).mono ?_
      rintro e w0 ⟨rfl, rfl⟩
      cases hn : isL n with
      | false =>
        go_wp2_with fail
        refine (mask_any _ _ _ _ h0.gic x).mono ?_
        rintro e w1 ⟨rfl, f1, t3⟩
        rw [em] at t3
        rw [ee]
        replace r0 := r0.keep f1 n1
        obtain ⟨k0, k1, k2, k3⟩ := row4 r0
        go_wp2_with fail
        go_ret
        exact ⟨rfl, f0.trans (f1.mono (fun _ _ e => Or.inl e)), h.new1, h.new2, h.ne, t3, h0.ref.keep f1 (fun e => h.ne e.symm), h.good⟩
      | true =>
        go_wp2_with fail
        refine (mask_any _ _ _ _ h0.gic x).mono ?_
        rintro e w1 ⟨rfl, f1, t3⟩
        rw [em] at t3
        rw [ee]
        replace r0 := r0.keep f1 n1
        obtain ⟨k0, k1, k2, k3⟩ := row4 r0
        go_wp2_with fail
        go_ret
        exact ⟨rfl, f0.trans (f1.mono (fun _ _ e => Or.inl e)), h.new1, h.new2, h.ne, t3, h0.ref.keep f1 (fun e => h.ne e.symm), h.good⟩
    · have t1 : decide (0 ≤ x) = false := decide_eq_false hl
      go_enter Try.func11, Try.ntmps11
      go_wp2_with fail
      refine (is_any _ _).mono ?_
      rintro e w0 ⟨rfl, rfl⟩
      cases hn : isL n with
      | false =>
        go_wp2_with fail
        refine (mask_any _ _ _ _ h0.gic x).mono ?_
        rintro e w1 ⟨rfl, f1, t3⟩
        rw [em] at t3
        rw [ee]
        replace r0 := r0.keep f1 n1
        obtain ⟨k0, k1, k2, k3⟩ := row4 r0
        go_wp2_with fail
        go_ret
        exact ⟨rfl, f0.trans (f1.mono (fun _ _ e => Or.inl e)), h.new1, h.new2, h.ne, t3, h0.ref.keep f1 (fun e => h.ne e.symm), h.good⟩
      | true =>
        go_wp2_with fail
        refine (mask_any _ _ _ _ h0.gic x).mono ?_
        rintro e w1 ⟨rfl, f1, t3⟩
        rw [em] at t3
        rw [ee]
        replace r0 := r0.keep f1 n1
        obtain ⟨k0, k1, k2, k3⟩ := row4 r0
        go_wp2_with fail
        go_ret
        exact ⟨rfl, f0.trans (f1.mono (fun _ _ e => Or.inl e)), h.new1, h.new2, h.ne, t3, h0.ref.keep f1 (fun e => h.ne e.symm), h.good⟩
  | true =>
    have em : maM m x = x := by simp [maM, hx]
    have ee : maE x = 0 := by simp [maE, hx]
    rw [em] at hg0 ⊢
    have hx' := isM_iff.mp hx
    have t1 : decide (0 ≤ x) = true := decide_eq_true (by omega)
    have t2 : decide (x ≤ 256) = true := decide_eq_true (by omega)
    clear hx'
    go_enter Try.func11, Try.ntmps11
    go_wp2_with fail
    refine (is_any _ _).mono ?_
    rintro e w0 ⟨rfl, rfl⟩
    cases hn : isL n with
    | false =>
      go_wp2_with fail
      refine (mask_any _ _ _ _ h0.gic x).mono ?_
      rintro e w1 ⟨rfl, f1, t3⟩
      rw [em] at t3
      rw [ee]
      have q1 := h0.ref.keep f1 (fun e => h.ne e.symm)
      replace r0 := r0.keep f1 n1
      replace f0 := f0.trans (f1.mono (T := two bt br) (fun _ _ e => Or.inl e))
      obtain ⟨k0, k1, k2, k3⟩ := row4 r0
      have c0 := q1.mask
      have gg := q1.frozen 160
      have q2 := q1.setMask x
      have t4 := t3.keep (w' := w1.setCell ⟨br, 160, none⟩ (.int .i64 x)) ((Fr.refl (at' br) w1).setCell (p := ⟨br, 160, none⟩) (Or.inr (show br = br from rfl)) _) h.ne
      have f2 := f0.setCell (p := ⟨br, 160, none⟩) (Or.inr (show two bt br br from Or.inr rfl)) (.int .i64 x)
      have Q2 := hid q2
      have T2 := hid t4
      clear f1 q1 q2 t3 t4 r0 h0
      go_wp2_with fail
      go_ret
      exact ⟨rfl, f2, h.new1, h.new2, h.ne, T2.out, Q2.out, hg0⟩
    | true =>
      go_wp2_with fail
      refine (mask_any _ _ _ _ h0.gic x).mono ?_
      rintro e w1 ⟨rfl, f1, t3⟩
      rw [em] at t3
      rw [ee]
      have q1 := h0.ref.keep f1 (fun e => h.ne e.symm)
      replace r0 := r0.keep f1 n1
      replace f0 := f0.trans (f1.mono (T := two bt br) (fun _ _ e => Or.inl e))
      obtain ⟨k0, k1, k2, k3⟩ := row4 r0
      have c0 := q1.mask
      have gg := q1.frozen 160
      have q2 := q1.setMask x
      have t4 := t3.keep (w' := w1.setCell ⟨br, 160, none⟩ (.int .i64 x)) ((Fr.refl (at' br) w1).setCell (p := ⟨br, 160, none⟩) (Or.inr (show br = br from rfl)) _) h.ne
      have f2 := f0.setCell (p := ⟨br, 160, none⟩) (Or.inr (show two bt br br from Or.inr rfl)) (.int .i64 x)
      have Q2 := hid q2
      have T2 := hid t4
      clear f1 q1 q2 t3 t4 r0 h0
      go_wp2_with fail
      go_ret
      exact ⟨rfl, f2, h.new1, h.new2, h.ne, T2.out, Q2.out, hg0⟩

set_option maxRecDepth 100000 in
set_option maxHeartbeats 2000000 in
theorem does_ack (w : World) (B bt br : Nat) (T : Nat → Li) (m : Int) (h : Pair w B bt br T m) (n x : Int) (on : Bool) :
    Calls Try.prog 11 #[.pointer (some ⟨bt, 0, none⟩), .pointer (some ⟨br, 0, none⟩), .agg #[.int .i64 6, .int .i64 n, .int .i64 x, .bool on]] w (DoneT w B bt br (ackT T m) m) := by
  have h0 := h.keep0 ((Fr.refl none' w).alloc (.cells #[.int .i64 6, .int .i64 n, .int .i64 x, .bool on] 30))
  have f0 := (Fr.refl (two bt br) w).alloc (.cells #[.int .i64 6, .int .i64 n, .int .i64 x, .bool on] 30)
  have r0 := row_alloc w #[.int .i64 6, .int .i64 n, .int .i64 x, .bool on] 30
  have n1 : w.heap.size ≠ bt := Nat.ne_of_gt h.gic.lt
  have n2 : w.heap.size ≠ br := Nat.ne_of_gt h.ref.lt
  have e1 : (ackA T m == ackA T m) = true := by simp
  go_enter Try.func11, Try.ntmps11
  go_wp2_with fail
  refine (is_any _ _).mono ?_
  rintro e w0 ⟨rfl, rfl⟩
  cases hn : isL n with
  | false =>
    go_wp2_with fail
    refine (ack_any _ _ _ _ h0.gic).mono ?_
    rintro e w1 ⟨rfl, f1, t1⟩
    have q1 := h0.ref.keep f1 (fun e => h.ne e.symm)
    replace r0 := r0.keep f1 n1
    replace f0 := f0.trans (f1.mono (T := two bt br) (fun _ _ e => Or.inl e))
    obtain ⟨k0, k1, k2, k3⟩ := row4 r0
    clear f1
    go_wp2_with fail
    refine (rack_any _ _ _ _ q1 h.good).mono ?_
    rintro e w2 ⟨rfl, f2, t2⟩
    go_wp2_with fail
    go_ret
    exact ⟨rfl, f0.trans (f2.mono (fun _ _ e => Or.inr e)), h.new1, h.new2, h.ne, t1.keep f2 h.ne, t2, good_ack h.good⟩
  | true =>
    go_wp2_with fail
    refine (ack_any _ _ _ _ h0.gic).mono ?_
    rintro e w1 ⟨rfl, f1, t1⟩
    have q1 := h0.ref.keep f1 (fun e => h.ne e.symm)
    replace r0 := r0.keep f1 n1
    replace f0 := f0.trans (f1.mono (T := two bt br) (fun _ _ e => Or.inl e))
    obtain ⟨k0, k1, k2, k3⟩ := row4 r0
    clear f1
    go_wp2_with fail
    refine (rack_any _ _ _ _ q1 h.good).mono ?_
    rintro e w2 ⟨rfl, f2, t2⟩
    go_wp2_with fail
    go_ret
    exact ⟨rfl, f0.trans (f2.mono (fun _ _ e => Or.inr e)), h.new1, h.new2, h.ne, t1.keep f2 h.ne, t2, good_ack h.good⟩

set_option maxRecDepth 100000 in
set_option maxHeartbeats 2000000 in
theorem does_end (w : World) (B bt br : Nat) (T : Nat → Li) (m : Int) (h : Pair w B bt br T m) (n x : Int) (on : Bool) :
    Calls Try.prog 11 #[.pointer (some ⟨bt, 0, none⟩), .pointer (some ⟨br, 0, none⟩), .agg #[.int .i64 7, .int .i64 n, .int .i64 x, .bool on]] w (DoneT w B bt br (enT T n) m) := by
  have h0 := h.keep0 ((Fr.refl none' w).alloc (.cells #[.int .i64 7, .int .i64 n, .int .i64 x, .bool on] 30))
  have f0 := (Fr.refl (two bt br) w).alloc (.cells #[.int .i64 7, .int .i64 n, .int .i64 x, .bool on] 30)
  have r0 := row_alloc w #[.int .i64 7, .int .i64 n, .int .i64 x, .bool on] 30
  have n1 : w.heap.size ≠ bt := Nat.ne_of_gt h.gic.lt
  have n2 : w.heap.size ≠ br := Nat.ne_of_gt h.ref.lt
  have e1 : (enE T n == enE T n) = true := by simp
  go_enter Try.func11, Try.ntmps11
  go_wp2_with fail
  refine (is_any _ _).mono ?_
  rintro e w0 ⟨rfl, rfl⟩
  cases hn : isL n with
  | false =>
    go_wp2_with fail
    refine (end_any _ _ _ _ h0.gic n).mono ?_
    rintro e w1 ⟨rfl, f1, t1⟩
    have q1 := h0.ref.keep f1 (fun e => h.ne e.symm)
    replace r0 := r0.keep f1 n1
    replace f0 := f0.trans (f1.mono (T := two bt br) (fun _ _ e => Or.inl e))
    obtain ⟨k0, k1, k2, k3⟩ := row4 r0
    clear f1
    go_wp2_with fail
    refine (rend_any _ _ _ _ q1 n).mono ?_
    rintro e w2 ⟨rfl, f2, t2⟩
    go_wp2_with fail
    go_ret
    exact ⟨rfl, f0.trans (f2.mono (fun _ _ e => Or.inr e)), h.new1, h.new2, h.ne, t1.keep f2 h.ne, t2, good_en h.good n⟩
  | true =>
    go_wp2_with fail
    refine (end_any _ _ _ _ h0.gic n).mono ?_
    rintro e w1 ⟨rfl, f1, t1⟩
    have q1 := h0.ref.keep f1 (fun e => h.ne e.symm)
    replace r0 := r0.keep f1 n1
    replace f0 := f0.trans (f1.mono (T := two bt br) (fun _ _ e => Or.inl e))
    obtain ⟨k0, k1, k2, k3⟩ := row4 r0
    clear f1
    go_wp2_with fail
    refine (rend_any _ _ _ _ q1 n).mono ?_
    rintro e w2 ⟨rfl, f2, t2⟩
    go_wp2_with fail
    go_ret
    exact ⟨rfl, f0.trans (f2.mono (fun _ _ e => Or.inr e)), h.new1, h.new2, h.ne, t1.keep f2 h.ne, t2, good_en h.good n⟩

set_option maxRecDepth 100000 in
set_option maxHeartbeats 2000000 in
theorem does_other (w : World) (B bt br : Nat) (T : Nat → Li) (m : Int) (h : Pair w B bt br T m) (n x : Int) (on : Bool) (d : Int) (hd : ¬ d = 1 ∧ ¬ d = 2 ∧ ¬ d = 3 ∧ ¬ d = 4 ∧ ¬ d = 5 ∧ ¬ d = 6 ∧ ¬ d = 7) :
    Calls Try.prog 11 #[.pointer (some ⟨bt, 0, none⟩), .pointer (some ⟨br, 0, none⟩), .agg #[.int .i64 d, .int .i64 n, .int .i64 x, .bool on]] w (DoneT w B bt br T m) := by
  have h0 := h.keep0 ((Fr.refl none' w).alloc (.cells #[.int .i64 d, .int .i64 n, .int .i64 x, .bool on] 30))
  have f0 := (Fr.refl (two bt br) w).alloc (.cells #[.int .i64 d, .int .i64 n, .int .i64 x, .bool on] 30)
  have r0 := row_alloc w #[.int .i64 d, .int .i64 n, .int .i64 x, .bool on] 30
  have n1 : w.heap.size ≠ bt := Nat.ne_of_gt h.gic.lt
  have n2 : w.heap.size ≠ br := Nat.ne_of_gt h.ref.lt
  have d1 : (d == 1) = false := by simpa using hd.1
  have d2 : (d == 2) = false := by simpa using hd.2.1
  have d3 : (d == 3) = false := by simpa using hd.2.2.1
  have d4 : (d == 4) = false := by simpa using hd.2.2.2.1
  have d5 : (d == 5) = false := by simpa using hd.2.2.2.2.1
  have d6 : (d == 6) = false := by simpa using hd.2.2.2.2.2.1
  have d7 : (d == 7) = false := by simpa using hd.2.2.2.2.2.2
  clear hd
  go_enter Try.func11, Try.ntmps11
  go_wp2_with fail
  refine (is_any _ _).mono ?_
  rintro e w0 ⟨rfl, rfl⟩
  cases hn : isL n with
  | false =>
    go_wp2_with fail
    go_ret
    exact ⟨rfl, f0, h0⟩
  | true =>
    go_wp2_with fail
    go_ret
    exact ⟨rfl, f0, h0⟩

theorem does_any (w : World) (B bt br : Nat) (T : Nat → Li) (m : Int) (h : Pair w B bt br T m) (d n x : Int) (on : Bool) :
    Calls Try.prog 11 #[.pointer (some ⟨bt, 0, none⟩), .pointer (some ⟨br, 0, none⟩), .agg #[.int .i64 d, .int .i64 n, .int .i64 x, .bool on]] w (DoneT w B bt br (stepT d n x on T m) (stepM d x m)) := by
  by_cases h1 : d = 1
  · subst h1; exact does_raise w B bt br T m h n x on
  by_cases h2 : d = 2
  · subst h2; exact does_lower w B bt br T m h n x on
  by_cases h3 : d = 3
  · subst h3; exact does_enable w B bt br T m h n x on
  by_cases h4 : d = 4
  · subst h4; exact does_prior w B bt br T m h n x on
  by_cases h5 : d = 5
  · subst h5; exact does_mask w B bt br T m h n x on
  by_cases h6 : d = 6
  · subst h6; exact does_ack w B bt br T m h n x on
  by_cases h7 : d = 7
  · subst h7; exact does_end w B bt br T m h n x on
  have e1 : stepT d n x on T m = T := by simp [stepT, h1, h2, h3, h4, h6, h7]
  have e2 : stepM d x m = m := by simp [stepM, h5]
  rw [e1, e2]
  exact does_other w B bt br T m h n x on d ⟨h1, h2, h3, h4, h5, h6, h7⟩

end Go.Proofs.Ytcenojdcmmflaaa
