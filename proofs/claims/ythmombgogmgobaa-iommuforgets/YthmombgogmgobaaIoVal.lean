/-
  A controller's blocks together ('IoAt', 'IsIo'), and the contracts of package iommu's small calls over the translation. No statement is proved here.
-/
import Derived.Test.YthmombgogmgobaaIoRow
namespace Go.Proofs.Ythmombgogmgobaa
open Go.RowKit Go.Maps Go.WideMaps

/-- The struct's cells. -/
structure Iv (cs : Array Value) (m : Nat) (v : Value) (S : Io) : Prop where
  size : cs.size = 19
  ro : ∀ j, j < 16 → cs[j]? = some (.int .i64 (S.ro j))
  m : cs[16]? = some (.map (some m))
  v : cs[17]? = some v
  lo : cs[18]? = some (.int .i64 S.lo)

structure IoAt (w : World) (b m : Nat) (v : Value) (S : Io) : Prop where
  row : ∃ cs, Row w b cs 89 ∧ Iv cs m v S
  ln : LM w m S.ln
  re : RcS w v S.re
  n1 : b ≠ m
  n2 : some b ≠ v.ownBlock
  n3 : some m ≠ v.ownBlock
  ok : IoOk S

def ioO (b m : Nat) (v : Value) : Nat → Prop := fun k => k = b ∨ k = m ∨ some k = v.ownBlock

section
variable {w : World} {b m : Nat} {v : Value} {S : Io}

theorem IoAt.keep {T : Nat → Prop} {w' : World} (h : IoAt w b m v S) (f : Fr T w w') (hs : ∀ k, ioO b m v k → ¬ T k) : IoAt w' b m v S := by
  obtain ⟨⟨cs, hr, hc⟩, h1, h2, h3, h4, h5, h6⟩ := h
  exact ⟨⟨cs, hr.keep f (hs _ (Or.inl rfl)), hc⟩, h1.keep f (hs _ (Or.inr (Or.inl rfl))), h2.keep f (fun g hg => hs g (Or.inr (Or.inr hg))), h3, h4, h5, h6⟩
theorem IoAt.keep0 {w' : World} (h : IoAt w b m v S) (f : Fr none' w w') : IoAt w' b m v S := h.keep f (fun _ _ h => h)
theorem IoAt.alloc (h : IoAt w b m v S) (o : Obj) : IoAt (w.alloc o) b m v S := h.keep0 ((Fr.refl none' w).alloc o)
theorem IoAt.lt (h : IoAt w b m v S) (k : Nat) (hk : ioO b m v k) : k < w.heap.size := by
  obtain ⟨⟨cs, hr, _⟩, h1, h2, _⟩ := h
  rcases hk with rfl | rfl | hk
  · exact hr.lt
  · exact h1.lt
  · exact h2.lt k hk
theorem IoAt.frozen (h : IoAt w b m v S) (i : Nat) : w.frozen? ⟨b, i, none⟩ = false := by obtain ⟨⟨cs, hr, _⟩, _⟩ := h; exact hr.frozen i
theorem IoAt.cells (h : IoAt w b m v S) : w.cell? ⟨b, 16, none⟩ = some (.map (some m)) ∧ w.cell? ⟨b, 17, none⟩ = some v ∧ w.cell? ⟨b, 18, none⟩ = some (.int .i64 S.lo) := by
  obtain ⟨⟨cs, hr, hc⟩, _⟩ := h
  exact ⟨(hr.cell _).trans hc.m, (hr.cell _).trans hc.v, (hr.cell _).trans hc.lo⟩
theorem IoAt.roots (h : IoAt w b m v S) (j : Nat) (hj : j < 16) : w.cell? ⟨b, j, none⟩ = some (.int .i64 (S.ro j)) := by
  obtain ⟨⟨cs, hr, hc⟩, _⟩ := h
  exact (hr.cell _).trans (hc.ro j hj)

/-- The map turned. -/
theorem IoAt.setLn {w' : World} (h : IoAt w b m v S) {f : Nat → Option Li} (hm : LM w' m f) (fr : Fr (at' m) w w') (ok : IoOk { S with ln := f }) : IoAt w' b m v { S with ln := f } := by
  obtain ⟨⟨cs, hr, hc⟩, h1, h2, h3, h4, h5, h6⟩ := h
  exact ⟨⟨cs, hr.keep fr h3, ⟨hc.size, hc.ro, hc.m, hc.v, hc.lo⟩⟩, hm, h2.keep fr (fun g hg e => h5 (by rw [← (e : g = m)]; exact hg)), h3, h4, h5, ok⟩
/-- A root turned. -/
theorem IoAt.setRo (h : IoAt w b m v S) {k : Nat} (hk : k < 16) {n : Int} (hn : n = -1 ∨ (0 ≤ n ∧ n ≤ 1023)) : IoAt (w.setCell ⟨b, k, none⟩ (.int .i64 n)) b m v { S with ro := ioset S.ro k n } := by
  obtain ⟨⟨cs, hr, hc⟩, h1, h2, h3, h4, h5, h6⟩ := h
  have f : Fr (at' b) w (w.setCell ⟨b, k, none⟩ (.int .i64 n)) := fr_set w b k _ (Fr.refl _ _)
  refine ⟨⟨_, hr.setCell k _, by simpa using hc.size, fun j hj => ?_, ?_, ?_, ?_⟩, h1.keep f (fun e => h3 e.symm), h2.keep f (fun g hg e => h4 (by rw [← (e : g = b)]; exact hg)), h3, h4, h5, h6.root hn k⟩
  · by_cases e : j = k
    · subst e; simp only [ioset_same]; rw [Array.getElem?_setIfInBounds, if_pos rfl, if_pos (by rw [hc.size]; omega)]
    · simp only [ioset_other _ _ e]
      rw [Array.getElem?_setIfInBounds, if_neg (fun e' => e e'.symm)]
      exact hc.ro j hj
  · rw [Array.getElem?_setIfInBounds, if_neg (by omega)]; exact hc.m
  · rw [Array.getElem?_setIfInBounds, if_neg (by omega)]; exact hc.v
  · rw [Array.getElem?_setIfInBounds, if_neg (by omega)]; exact hc.lo
/-- How many were lost, turned. -/
theorem IoAt.setLo (h : IoAt w b m v S) (n : Int) : IoAt (w.setCell ⟨b, 18, none⟩ (.int .i64 n)) b m v { S with lo := n } := by
  obtain ⟨⟨cs, hr, hc⟩, h1, h2, h3, h4, h5, h6⟩ := h
  have f : Fr (at' b) w (w.setCell ⟨b, 18, none⟩ (.int .i64 n)) := fr_set w b 18 _ (Fr.refl _ _)
  refine ⟨⟨_, hr.setCell 18 _, by simpa using hc.size, fun j hj => ?_, ?_, ?_, ?_⟩, h1.keep f (fun e => h3 e.symm), h2.keep f (fun g hg e => h4 (by rw [← (e : g = b)]; exact hg)), h3, h4, h5, ⟨h6.ln, h6.ro, h6.fr, h6.re⟩⟩
  · rw [Array.getElem?_setIfInBounds, if_neg (by omega)]; exact hc.ro j hj
  · rw [Array.getElem?_setIfInBounds, if_neg (by omega)]; exact hc.m
  · rw [Array.getElem?_setIfInBounds, if_neg (by omega)]; exact hc.v
  · simp [hc.size]
/-- The records' slice turned, which holds what is told of it already. -/
theorem IoAt.setRe (h : IoAt w b m v S) {w1 : World} {v' : Value} {l : List Rc} (f1 : Fr (fun k => some k = v.ownBlock) w w1) (hv : RcS w1 v' l) (hl : l.length ≤ 8) (hw : v'.ownBlock = v.ownBlock ∨ ∀ g, some g = v'.ownBlock → w.heap.size ≤ g) : IoAt (w1.setCell ⟨b, 17, none⟩ v') b m v' { S with re := l } := by
  have hb := h.lt b (Or.inl rfl)
  have hm := h.lt m (Or.inr (Or.inl rfl))
  obtain ⟨⟨cs, hr, hc⟩, h1, h2, h3, h4, h5, h6⟩ := h
  have n2 : some b ≠ v'.ownBlock := by
    rcases hw with hw | hw
    · rw [hw]; exact h4
    · intro e; have := hw b e; omega
  have n3 : some m ≠ v'.ownBlock := by
    rcases hw with hw | hw
    · rw [hw]; exact h5
    · intro e; have := hw m e; omega
  have f : Fr (at' b) w1 (w1.setCell ⟨b, 17, none⟩ v') := fr_set w1 b 17 _ (Fr.refl _ _)
  refine ⟨⟨_, (hr.keep f1 h4).setCell 17 _, by simpa using hc.size, fun j hj => ?_, ?_, ?_, ?_⟩, (h1.keep f1 h5).keep f (fun e => h3 e.symm), hv.keep f (fun g hg e => n2 (by rw [← (e : g = b)]; exact hg)), h3, n2, n3, ⟨h6.ln, h6.ro, h6.fr, hl⟩⟩
  · rw [Array.getElem?_setIfInBounds, if_neg (by omega)]; exact hc.ro j hj
  · rw [Array.getElem?_setIfInBounds, if_neg (by omega)]; exact hc.m
  · simp [hc.size]
  · rw [Array.getElem?_setIfInBounds, if_neg (by omega)]; exact hc.lo
end

/-- A controller whose blocks are just O. -/
def IsIo (w : World) (b : Nat) (O : Nat → Prop) (S : Io) : Prop := ∃ m v, IoAt w b m v S ∧ O = ioO b m v
theorem IsIo.keep {T : Nat → Prop} {w w' : World} {b : Nat} {O : Nat → Prop} {S : Io} (h : IsIo w b O S) (f : Fr T w w') (hs : ∀ k, O k → ¬ T k) : IsIo w' b O S := by
  obtain ⟨m, v, h, rfl⟩ := h
  exact ⟨m, v, h.keep f hs, rfl⟩
theorem IsIo.keep0 {w w' : World} {b : Nat} {O : Nat → Prop} {S : Io} (h : IsIo w b O S) (f : Fr none' w w') : IsIo w' b O S := h.keep f (fun _ _ h => h)
theorem IsIo.lt {w : World} {b : Nat} {O : Nat → Prop} {S : Io} (h : IsIo w b O S) (k : Nat) (hk : O k) : k < w.heap.size := by
  obtain ⟨m, v, h, rfl⟩ := h
  exact h.lt k hk
theorem IsIo.ok {w : World} {b : Nat} {O : Nat → Prop} {S : Io} (h : IsIo w b O S) : IoOk S := by
  obtain ⟨m, v, h, rfl⟩ := h
  exact h.ok
theorem IsIo.self {w : World} {b : Nat} {O : Nat → Prop} {S : Io} (h : IsIo w b O S) : O b := by
  obtain ⟨m, v, h, rfl⟩ := h
  exact Or.inl rfl

/-- What a call that turns a controller alone leaves. -/
def ChgI (w : World) (b : Nat) (O : Nat → Prop) (S : Io) (w' : World) : Prop := Fr O w w' ∧ ∃ O', IsIo w' b O' S ∧ ∀ k, O' k → O k ∨ w.heap.size ≤ k
theorem ChgI.same {w w' : World} {b : Nat} {O : Nat → Prop} {S : Io} (h : IsIo w b O S) (f : Fr none' w w') : ChgI w b O S w' := ⟨f.mono (fun _ _ h => h.elim), O, h.keep0 f, fun _ h => Or.inl h⟩
theorem ChgI.trans {w w1 w2 : World} {b : Nat} {O O1 : Nat → Prop} {S : Io} (f : Fr O w w1) (ho : ∀ k, O1 k → O k ∨ w.heap.size ≤ k) (c : ChgI w1 b O1 S w2) : ChgI w b O S w2 := by
  obtain ⟨g, O2, h, k⟩ := c
  refine ⟨⟨g.os.trans f.os, g.tape.trans f.tape, g.output.trans f.output, Nat.le_trans f.size g.size, fun i hi hn => (g.block i (Nat.lt_of_lt_of_le hi f.size) (fun e => ?_)).trans (f.block i hi hn)⟩, O2, h, fun i hi => ?_⟩
  · rcases ho i e with e | e
    · exact hn e
    · omega
  · rcases k i hi with e | e
    · exact ho i e
    · exact Or.inr (Nat.le_trans f.size e)
theorem ChgI.at {w w' : World} {b m : Nat} {v : Value} {S : Io} (f : Fr (ioO b m v) w w') (h : IoAt w' b m v S) : ChgI w b (ioO b m v) S w' := ⟨f, _, ⟨m, v, h, rfl⟩, fun _ h => Or.inl h⟩

/-! ### the small calls -/
set_option maxHeartbeats 400000 in
theorem iowithin_any (n a b : Int) (w : World) : Calls Try.prog 46 #[.int .i64 n, .int .i64 a, .int .i64 b] w fun e w' => e = .returned (.bool (decide (a ≤ n) && decide (n ≤ b))) ∧ w' = w := by
  cases h1 : decide (a ≤ n) with
  | false =>
    go_enter Try.func46, Try.ntmps46
    go_wp2_with fail
    go_ret
    exact ⟨rfl, rfl⟩
  | true =>
    go_enter Try.func46, Try.ntmps46
    go_wp2_with fail
    go_ret
    exact ⟨rfl, rfl⟩

set_option maxHeartbeats 400000 in
theorem isStream_any (s : Int) (w : World) : Calls Try.prog 40 #[.int .i64 s] w fun e w' => e = .returned (.bool (isS s)) ∧ w' = w := by
  go_enter Try.func40, Try.ntmps40
  go_wp2_with fail
  refine (iowithin_any _ _ _ _).mono ?_
  rintro e w1 ⟨rfl, rfl⟩
  go_wp2_with fail
  go_ret
  exact ⟨rfl, rfl⟩

set_option maxHeartbeats 400000 in
theorem ioright_any (wr : Bool) (w : World) : Calls Try.prog 48 #[.bool wr] w fun e w' => e = .returned (.int .i64 (wantI wr)) ∧ w' = w := by
  cases wr with
  | false =>
    go_enter Try.func48, Try.ntmps48
    go_wp2_with fail
    go_ret
    exact ⟨rfl, rfl⟩
  | true =>
    go_enter Try.func48, Try.ntmps48
    go_wp2_with fail
    go_ret
    exact ⟨rfl, rfl⟩

set_option maxHeartbeats 400000 in
theorem ioentry_any (p : Nat) (hp : p < 1024) (w : World) : Calls Try.prog 76 #[.int .i64 (p : Int)] w fun e w' => e = .returned (.int .i64 ((p % 8 : Nat) : Int)) ∧ w = w' := by
  go_enter Try.func76, Try.ntmps76
  go_wp2_with fail
  go_ret
  exact ⟨ret_i64 (by omega), rfl⟩

set_option maxHeartbeats 400000 in
theorem ioroot_any (w : World) (b : Nat) (O : Nat → Prop) (S : Io) (s : Int) (h : IsIo w b O S) :
    Calls Try.prog 12 #[.pointer (some ⟨b, 0, none⟩), .int .i64 s] w fun e w' => e = .returned (.int .i64 (rootO S s)) ∧ Fr none' w w' := by
  obtain ⟨m, v, h, rfl⟩ := h
  unfold rootO
  cases hs : isS s with
  | false =>
    go_enter Try.func12, Try.ntmps12
    go_wp2_with fail
    refine (isStream_any _ _).mono ?_
    rintro e w1 ⟨rfl, rfl⟩
    rw [hs]
    go_wp2_with fail
    go_ret
    exact ⟨rfl, Fr.refl _ _⟩
  | true =>
    have hb := isS_iff.mp hs
    obtain ⟨k, rfl⟩ := Int.eq_ofNat_of_zero_le hb.1
    have hk : k < 16 := by omega
    have c0 := h.roots k hk
    have i1 : 0 ≤ (k : Int) ∧ (k : Int) < 16 := by omega
    go_enter Try.func12, Try.ntmps12
    go_wp2_with fail
    refine (isStream_any _ _).mono ?_
    rintro e w1 ⟨rfl, rfl⟩
    rw [hs]
    go_wp2_with fail
    go_ret
    exact ⟨rfl, Fr.refl _ _⟩

set_option maxHeartbeats 400000 in
theorem iolost_any (w : World) (b : Nat) (O : Nat → Prop) (S : Io) (h : IsIo w b O S) :
    Calls Try.prog 19 #[.pointer (some ⟨b, 0, none⟩)] w fun e w' => e = .returned (.int .i64 S.lo) ∧ Fr none' w w' := by
  obtain ⟨m, v, h, rfl⟩ := h
  obtain ⟨c0, c1, c2⟩ := h.cells
  go_enter Try.func19, Try.ntmps19
  go_wp2_with fail
  go_ret
  exact ⟨rfl, Fr.refl _ _⟩

set_option maxHeartbeats 400000 in
theorem ioevict_any (w : World) (b : Nat) (O : Nat → Prop) (S : Io) (n : Int) (h : IsIo w b O S) :
    Calls Try.prog 16 #[.pointer (some ⟨b, 0, none⟩), .int .i64 n] w fun e w' => e = .returned (.int .i64 (evE n)) ∧ ChgI w b O (evS S n) w' := by
  have h0 := h
  have hok := h.ok.ev n
  obtain ⟨m, v, h, rfl⟩ := h
  unfold evE evS
  unfold evS at hok
  cases hs : isE n with
  | false =>
    have hs' : (decide (0 ≤ n) && decide (n ≤ 7)) = false := hs
    go_enter Try.func16, Try.ntmps16
    go_wp2_with fail
    refine (iowithin_any _ _ _ _).mono ?_
    rintro e w1 ⟨rfl, rfl⟩
    rw [hs']
    go_wp2_with fail
    go_ret
    exact ⟨rfl, ChgI.same h0 (Fr.refl _ _)⟩
  | true =>
    have hs' : (decide (0 ≤ n) && decide (n ≤ 7)) = true := hs
    rw [hs] at hok
    have hb := isE_iff.mp hs
    obtain ⟨k, rfl⟩ := Int.eq_ofNat_of_zero_le hb.1
    have hk : k < 8 := by omega
    obtain ⟨c0, c1, c2⟩ := h.cells
    obtain ⟨w2, hrun, hm, f2⟩ := h.ln.drop hk
    have h2 : IoAt w2 b m v { S with ln := ioset S.ln k none } := h.setLn hm f2 hok
    have HI : Hid (ChgI w b (ioO b m v) { S with ln := ioset S.ln k none } w2) := ChgI.at (f2.mono (fun _ _ e => Or.inr (Or.inl e))) h2
    clear h2 f2 hm hok h0 h
    go_enter Try.func16, Try.ntmps16
    go_wp2_with fail
    refine (iowithin_any _ _ _ _).mono ?_
    rintro e w1 ⟨rfl, rfl⟩
    rw [hs']
    go_wp2_with fail
    go_ret
    exact ⟨rfl, HI.out⟩

end Go.Proofs.Ythmombgogmgobaa
