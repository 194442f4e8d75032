/-
  The contracts of package iommu's Flush, FlushPage, Attach, Detach over the translation. No statement is proved here.
-/
import Derived.Test.YthmombgogmgobaaIoForget
namespace Go.Proofs.Ythmombgogmgobaa
open Go.RowKit

theorem io_boxed (w : World) (v : Value) (t : TypeId) : (w.alloc (.cells #[v] t)).cell? ⟨w.heap.size, 0, none⟩ = some v := (row_alloc w #[v] t).cell 0

set_option maxHeartbeats 400000 in
theorem iotest_s (w : World) (m g1 : Nat) (s : Int) (h1 : w.cell? ⟨g1, 0, none⟩ = some (.int .i64 s)) (n1 : g1 ≠ m) :
    IoTests 60 #[.pointer (some ⟨g1, 0, none⟩)] (goS s) m w := by
  refine ⟨enters_of Try.func60 (by kernel_rfl) rfl, fun w1 l f1 => ?_⟩
  have e1 := cell_keep f1 h1 n1
  have l1 := cell_lt e1
  have k1 : g1 ≠ w1.heap.size := Nat.ne_of_lt l1
  have a1 := cell_keep ((Fr.refl none' w1).alloc (.cells #[.int .i64 l.s, .int .i64 l.p, .int .i64 l.f, .int .i64 l.r] 112)) e1 (fun h => h)
  clear h1 f1 e1 l1
  show Calls Try.prog 60 #[.agg #[.int .i64 l.s, .int .i64 l.p, .int .i64 l.f, .int .i64 l.r], .pointer (some ⟨g1, 0, none⟩)] w1 _
  go_enter Try.func60, Try.ntmps60
  go_wp2_with fail
  go_ret
  exact ⟨rfl, (Fr.refl _ _).alloc _⟩

set_option maxHeartbeats 400000 in
theorem iotest_p (w : World) (m g1 g2 : Nat) (s x : Int) (h1 : w.cell? ⟨g1, 0, none⟩ = some (.int .i64 s)) (h2 : w.cell? ⟨g2, 0, none⟩ = some (.int .i64 x)) (n1 : g1 ≠ m) (n2 : g2 ≠ m) :
    IoTests 55 #[.pointer (some ⟨g1, 0, none⟩), .pointer (some ⟨g2, 0, none⟩)] (goP s x) m w := by
  refine ⟨enters_of Try.func55 (by kernel_rfl) rfl, fun w1 l f1 => ?_⟩
  have e1 := cell_keep f1 h1 n1
  have e2 := cell_keep f1 h2 n2
  have l1 := cell_lt e1
  have l2 := cell_lt e2
  have k1 : g1 ≠ w1.heap.size := Nat.ne_of_lt l1
  have k2 : g2 ≠ w1.heap.size := Nat.ne_of_lt l2
  have a1 := cell_keep ((Fr.refl none' w1).alloc (.cells #[.int .i64 l.s, .int .i64 l.p, .int .i64 l.f, .int .i64 l.r] 112)) e1 (fun h => h)
  have a2 := cell_keep ((Fr.refl none' w1).alloc (.cells #[.int .i64 l.s, .int .i64 l.p, .int .i64 l.f, .int .i64 l.r] 112)) e2 (fun h => h)
  clear h1 h2 f1 e1 e2 l1 l2
  show Calls Try.prog 55 #[.agg #[.int .i64 l.s, .int .i64 l.p, .int .i64 l.f, .int .i64 l.r], .pointer (some ⟨g1, 0, none⟩), .pointer (some ⟨g2, 0, none⟩)] w1 _
  cases t1 : (l.s == s) with
  | true =>
    go_enter Try.func55, Try.ntmps55
    go_wp2_with fail
    go_ret
    exact ⟨by simp [goP, t1], (Fr.refl _ _).alloc _⟩
  | false =>
    go_enter Try.func55, Try.ntmps55
    go_wp2_with fail
    go_ret
    exact ⟨by simp [goP, t1], (Fr.refl _ _).alloc _⟩

set_option maxHeartbeats 400000 in
theorem flush_at (w : World) (b m : Nat) (v : Value) (S : Io) (s : Int) (h : IoAt w b m v S) :
    Calls Try.prog 33 #[.pointer (some ⟨b, 0, none⟩), .int .i64 s] w fun e w' => e = .returned (.int .i64 ((iocnt (goS s) S.ln 8 : Nat) : Int)) ∧ Fr (at' m) w w' ∧ IoAt w' b m v (flushS S (goS s)) := by
  have hm := h.ln.lt
  have c1 := io_boxed w (.int .i64 s) 3
  have h1 := h.alloc (.cells #[.int .i64 s] 3)
  have f1 := (Fr.refl (at' m) w).alloc (.cells #[.int .i64 s] 3)
  have ht := iotest_s _ m _ s c1 (by omega)
  clear c1 h
  go_enter Try.func33, Try.ntmps33
  go_wp2_with fail
  refine (ioforget_any _ _ _ _ _ h1 _ _ _ ht).mono ?_
  rintro e w1 ⟨rfl, f3, h3⟩
  go_wp2_with fail
  go_ret
  exact ⟨rfl, f1.trans f3, h3⟩

set_option maxHeartbeats 400000 in
theorem flushpage_at (w : World) (b m : Nat) (v : Value) (S : Io) (s x : Int) (h : IoAt w b m v S) :
    Calls Try.prog 23 #[.pointer (some ⟨b, 0, none⟩), .int .i64 s, .int .i64 x] w fun e w' => e = .returned (.int .i64 ((iocnt (goP s x) S.ln 8 : Nat) : Int)) ∧ Fr (at' m) w w' ∧ IoAt w' b m v (flushS S (goP s x)) := by
  have hm := h.ln.lt
  have c1 := io_boxed w (.int .i64 s) 3
  have h1 := h.alloc (.cells #[.int .i64 s] 3)
  have f1 := (Fr.refl (at' m) w).alloc (.cells #[.int .i64 s] 3)
  have hs : (w.alloc (.cells #[.int .i64 s] 3)).heap.size = w.heap.size + 1 := by simp
  have c2 := io_boxed (w.alloc (.cells #[.int .i64 s] 3)) (.int .i64 x) 3
  rw [hs] at c2
  have c3 := cell_keep ((Fr.refl none' (w.alloc (.cells #[.int .i64 s] 3))).alloc (.cells #[.int .i64 x] 3)) c1 (fun h => h)
  have h2 := h1.alloc (.cells #[.int .i64 x] 3)
  have f2 := f1.alloc (.cells #[.int .i64 x] 3)
  have ht := iotest_p _ m _ _ s x c3 c2 (by omega) (by omega)
  clear hs c1 c2 c3 h1 f1 h
  go_enter Try.func23, Try.ntmps23
  go_wp2_with fail
  refine (ioforget_any _ _ _ _ _ h2 _ _ _ ht).mono ?_
  rintro e w1 ⟨rfl, f3, h3⟩
  go_wp2_with fail
  go_ret
  exact ⟨rfl, f2.trans f3, h3⟩

theorem ioflush_any (w : World) (b : Nat) (O : Nat → Prop) (S : Io) (s : Int) (h : IsIo w b O S) :
    Calls Try.prog 33 #[.pointer (some ⟨b, 0, none⟩), .int .i64 s] w fun e w' => e = .returned (.int .i64 ((iocnt (goS s) S.ln 8 : Nat) : Int)) ∧ ChgI w b O (flushS S (goS s)) w' := by
  obtain ⟨m, v, h, rfl⟩ := h
  refine (flush_at w b m v S s h).mono ?_
  rintro e w' ⟨rfl, f, h'⟩
  exact ⟨rfl, ChgI.at (f.mono (fun _ _ e => Or.inr (Or.inl e))) h'⟩
theorem ioflushpage_any (w : World) (b : Nat) (O : Nat → Prop) (S : Io) (s x : Int) (h : IsIo w b O S) :
    Calls Try.prog 23 #[.pointer (some ⟨b, 0, none⟩), .int .i64 s, .int .i64 x] w fun e w' => e = .returned (.int .i64 ((iocnt (goP s x) S.ln 8 : Nat) : Int)) ∧ ChgI w b O (flushS S (goP s x)) w' := by
  obtain ⟨m, v, h, rfl⟩ := h
  refine (flushpage_at w b m v S s x h).mono ?_
  rintro e w' ⟨rfl, f, h'⟩
  exact ⟨rfl, ChgI.at (f.mono (fun _ _ e => Or.inr (Or.inl e))) h'⟩

set_option maxHeartbeats 400000 in
theorem change_at (w : World) (b m : Nat) (v : Value) (S : Io) (k : Nat) (n : Int) (hk : k < 16) (hn : n = -1 ∨ (0 ≤ n ∧ n ≤ 1023)) (h : IoAt w b m v S) :
    Calls Try.prog 51 #[.pointer (some ⟨b, 0, none⟩), .int .i64 (k : Int), .int .i64 n] w fun e w' => (∃ x, e = .returned x) ∧ Fr (ioO b m v) w w' ∧ IoAt w' b m v { S with ro := ioset S.ro k n, ln := iowipe (goS (k : Int)) S.ln } := by
  have c0 := h.roots k hk
  have g0 := h.frozen k
  have i1 : 0 ≤ (k : Int) ∧ (k : Int) < 16 := by omega
  have h1 := h.setRo hk hn
  have f1 : Fr (ioO b m v) w (w.setCell ⟨b, k, none⟩ (.int .i64 n)) := (fr_set w b k _ (Fr.refl _ _)).mono (fun _ _ e => Or.inl e)
  clear h
  go_enter Try.func51, Try.ntmps51
  go_wp2_with fail
  refine (flush_at _ _ _ _ _ _ h1).mono ?_
  rintro e w1 ⟨rfl, f3, h3⟩
  go_wp2_with fail
  refine io_void rfl rfl (fun x => ?_)
  exact ⟨⟨x, rfl⟩, f1.trans (f3.mono (fun _ _ e => Or.inr (Or.inl e))), h3⟩

set_option maxHeartbeats 400000 in
theorem attach_any (w : World) (b : Nat) (O : Nat → Prop) (S : Io) (s n : Int) (h : IsIo w b O S) :
    Calls Try.prog 21 #[.pointer (some ⟨b, 0, none⟩), .int .i64 s, .int .i64 n] w fun e w' => e = .returned (.int .i64 (attE s n)) ∧ ChgI w b O (attS S s n) w' := by
  have h0 := h
  obtain ⟨m, v, h, rfl⟩ := h
  unfold attE attS
  cases hs : isS s with
  | false =>
    go_enter Try.func21, Try.ntmps21
    go_wp2_with fail
    refine (isStream_any _ _).mono ?_
    rintro e w1 ⟨rfl, rfl⟩
    rw [hs]
    go_wp2_with fail
    go_ret
    exact ⟨rfl, ChgI.same h0 (Fr.refl _ _)⟩
  | true =>
    have hb := isS_iff.mp hs
    obtain ⟨k, rfl⟩ := Int.eq_ofNat_of_zero_le hb.1
    have hk : k < 16 := by omega
    cases hf : isF n with
    | false =>
      have hf' : (decide (0 ≤ n) && decide (n ≤ 1023)) = false := hf
      go_enter Try.func21, Try.ntmps21
      go_wp2_with fail
      refine (isStream_any _ _).mono ?_
      rintro e w1 ⟨rfl, rfl⟩
      rw [hs]
      go_wp2_with fail
      refine (iowithin_any _ _ _ _).mono ?_
      rintro e w1 ⟨rfl, rfl⟩
      rw [hf']
      go_wp2_with fail
      go_ret
      exact ⟨rfl, ChgI.same h0 (Fr.refl _ _)⟩
    | true =>
      have hf' : (decide (0 ≤ n) && decide (n ≤ 1023)) = true := hf
      have hn := isF_iff.mp hf
      clear h0
      go_enter Try.func21, Try.ntmps21
      go_wp2_with fail
      refine (isStream_any _ _).mono ?_
      rintro e w1 ⟨rfl, rfl⟩
      rw [hs]
      go_wp2_with fail
      refine (iowithin_any _ _ _ _).mono ?_
      rintro e w1 ⟨rfl, rfl⟩
      rw [hf']
      go_wp2_with fail
      refine (change_at _ _ _ _ _ _ _ hk (Or.inr hn) h).mono ?_
      rintro e w2 ⟨⟨x, rfl⟩, f2, h2⟩
      go_wp2_with fail
      go_ret
      exact ⟨rfl, ChgI.at f2 h2⟩

set_option maxHeartbeats 400000 in
theorem detach_any (w : World) (b : Nat) (O : Nat → Prop) (S : Io) (s : Int) (h : IsIo w b O S) :
    Calls Try.prog 30 #[.pointer (some ⟨b, 0, none⟩), .int .i64 s] w fun e w' => e = .returned (.int .i64 (detE s)) ∧ ChgI w b O (detS S s) w' := by
  have h0 := h
  obtain ⟨m, v, h, rfl⟩ := h
  unfold detE detS
  cases hs : isS s with
  | false =>
    go_enter Try.func30, Try.ntmps30
    go_wp2_with fail
    refine (isStream_any _ _).mono ?_
    rintro e w1 ⟨rfl, rfl⟩
    rw [hs]
    go_wp2_with fail
    go_ret
    exact ⟨rfl, ChgI.same h0 (Fr.refl _ _)⟩
  | true =>
    have hb := isS_iff.mp hs
    obtain ⟨k, rfl⟩ := Int.eq_ofNat_of_zero_le hb.1
    have hk : k < 16 := by omega
    clear h0
    go_enter Try.func30, Try.ntmps30
    go_wp2_with fail
    refine (isStream_any _ _).mono ?_
    rintro e w1 ⟨rfl, rfl⟩
    rw [hs]
    go_wp2_with fail
    refine (change_at _ _ _ _ _ _ _ hk (Or.inl rfl) h).mono ?_
    rintro e w2 ⟨⟨x, rfl⟩, f2, h2⟩
    go_wp2_with fail
    go_ret
    exact ⟨rfl, ChgI.at f2 h2⟩

end Go.Proofs.Ythmombgogmgobaa
