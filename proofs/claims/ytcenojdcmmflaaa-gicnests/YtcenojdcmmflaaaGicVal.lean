/-
  Contracts of package gic's has, active, New, change and of all that change what a line is, over the translation. No statement is proved here.
-/
import Derived.Test.YtcenojdcmmflaaaGicRow
import Derived.Deep.RegionWith
namespace Go.Proofs.Ytcenojdcmmflaaa
open Go.RowKit

theorem post_void {fn : Func} {R : Ending → World → Prop} {a : Act} {w : World} (hd : a.defers = []) (hr : fn.results = #[]) (h : ∀ v, R (.returned v) w) : bodyPost Try.prog fn R .normal a w :=
  ⟨hd, .tuple #[], by simp [results, hr], h _⟩

set_option maxHeartbeats 400000 in
theorem has_any (n : Int) (w : World) : Calls Try.prog 28 #[.int .i64 n] w fun e w' => e = .returned (.bool (isL n)) ∧ w' = w := by
  unfold isL
  by_cases h : 0 ≤ n
  · have t1 : decide (0 ≤ n) = true := by simpa using h
    rw [t1]
    go_enter Try.func28, Try.ntmps28
    go_wp2
    go_ret
    exact ⟨rfl, rfl⟩
  · have t1 : decide (0 ≤ n) = false := by simpa using h
    rw [t1]
    go_enter Try.func28, Try.ntmps28
    go_wp2
    go_ret
    exact ⟨rfl, rfl⟩

set_option maxHeartbeats 400000 in
theorem active_any (l : Li) (w : World) : Calls Try.prog 29 #[.agg #[.int .i64 l.p, .int .i64 l.s, .bool l.en, .bool l.pe]] w fun e w' => e = .returned (.bool (act l)) ∧ Fr none' w w' := by
  go_enter Try.func29, Try.ntmps29
  go_wp2
  go_ret
  exact ⟨rfl, (Fr.refl _ _).alloc _⟩

/-- The first k lines are laid; the others are noughts. -/
def newT (k : Nat) : Nat → Li := fun j => if j < k then zi else ⟨0, 0, false, false⟩

def zcells : Array Value := #[.int .i64 0, .int .i64 0, .bool false, .bool false, .int .i64 0, .int .i64 0, .bool false, .bool false, .int .i64 0, .int .i64 0, .bool false, .bool false, .int .i64 0, .int .i64 0, .bool false, .bool false, .int .i64 0, .int .i64 0, .bool false, .bool false, .int .i64 0, .int .i64 0, .bool false, .bool false, .int .i64 0, .int .i64 0, .bool false, .bool false, .int .i64 0, .int .i64 0, .bool false, .bool false, .int .i64 0, .int .i64 0, .bool false, .bool false, .int .i64 0, .int .i64 0, .bool false, .bool false, .int .i64 0, .int .i64 0, .bool false, .bool false, .int .i64 0, .int .i64 0, .bool false, .bool false, .int .i64 0, .int .i64 0, .bool false, .bool false, .int .i64 0, .int .i64 0, .bool false, .bool false, .int .i64 0, .int .i64 0, .bool false, .bool false, .int .i64 0, .int .i64 0, .bool false, .bool false, .int .i64 0, .int .i64 0, .bool false, .bool false, .int .i64 0, .int .i64 0, .bool false, .bool false, .int .i64 0, .int .i64 0, .bool false, .bool false, .int .i64 0, .int .i64 0, .bool false, .bool false, .int .i64 0, .int .i64 0, .bool false, .bool false, .int .i64 0, .int .i64 0, .bool false, .bool false, .int .i64 0, .int .i64 0, .bool false, .bool false, .int .i64 0, .int .i64 0, .bool false, .bool false, .int .i64 0, .int .i64 0, .bool false, .bool false, .int .i64 0, .int .i64 0, .bool false, .bool false, .int .i64 0, .int .i64 0, .bool false, .bool false, .int .i64 0, .int .i64 0, .bool false, .bool false, .int .i64 0, .int .i64 0, .bool false, .bool false, .int .i64 0, .int .i64 0, .bool false, .bool false, .int .i64 0, .int .i64 0, .bool false, .bool false, .int .i64 0, .int .i64 0, .bool false, .bool false, .int .i64 0]

set_option maxRecDepth 100000 in
theorem zcells_lis : ∀ j, j < 32 → zcells[j * 4]? = some (.int .i64 0) ∧ zcells[j * 4 + 1]? = some (.int .i64 0) ∧ zcells[j * 4 + 2]? = some (.bool false) ∧ zcells[j * 4 + 3]? = some (.bool false) := by
  intro j hj
  iterate 32 (rcases j with _ | j; · exact ⟨rfl, rfl, rfl, rfl⟩)
  omega

set_option maxRecDepth 100000 in
theorem zero_gic (w : World) : Sem.run Try.prog (zeroValue 57) w = .ok (.agg zcells) w := by kernel_rfl

theorem zero_is : ∃ Z : Array Value, (∀ w, Sem.run Try.prog (zeroValue 57) w = .ok (.agg Z) w) ∧ Z.size = 129 ∧ ∀ w : World, IsGic (w.alloc (.cells (Z.setIfInBounds 128 (.int .i64 256)) 57)) w.heap.size (newT 0) 256 := by
  refine ⟨zcells, zero_gic, rfl, fun w => ⟨_, row_alloc _ _ _, by rw [Array.size_setIfInBounds]; rfl, fun j hj => ?_, ?_⟩⟩
  · have := zcells_lis j hj
    simp (disch := omega) only [Array.getElem?_setIfInBounds, if_neg]
    simpa [newT] using this
  · have h : zcells.size = 129 := rfl
    simp [h]

theorem newT_succ (k : Nat) : upd (newT k) k zi = newT (k + 1) := by
  funext j
  unfold upd newT
  by_cases h : j = k
  · subst h; simp
  · have : j < k + 1 ↔ j < k := by omega
    simp [h, this]

/-- Four cells from an offset on. -/
def set4 (w : World) (b o : Nat) (l : Li) : World :=
  (((w.setCell ⟨b, o, none⟩ (.int .i64 l.p)).setCell ⟨b, o + 1, none⟩ (.int .i64 l.s)).setCell ⟨b, o + 2, none⟩ (.bool l.en)).setCell ⟨b, o + 3, none⟩ (.bool l.pe)

theorem set4_fr {S : Nat → Prop} {w w1 : World} {b o : Nat} {l : Li} (h : Fr S w w1) (hb : w.heap.size ≤ b ∨ S b) : Fr S w (set4 w1 b o l) :=
  (((h.setCell (p := ⟨b, o, none⟩) hb _).setCell (p := ⟨b, o + 1, none⟩) hb _).setCell (p := ⟨b, o + 2, none⟩) hb _).setCell (p := ⟨b, o + 3, none⟩) hb _

theorem IsGic.setLine {w : World} {b : Nat} {T : Nat → Li} {m : Int} (h : IsGic w b T m) {k : Nat} (hk : k < 32) (l : Li) : IsGic (set4 w b (k * 4) l) b (upd T k l) m := by
  have h1 := h.setP hk l.p
  have h2 := h1.setAt (i := 1) (v := .int .i64 l.s) (l := ⟨l.p, l.s, (T k).en, (T k).pe⟩) hk (Or.inr (Or.inl ⟨rfl, rfl, by rw [upd_same]; exact ⟨rfl, rfl, rfl⟩⟩))
  rw [upd_upd] at h2
  have h3 := h2.setEn hk l.en
  rw [upd_same, upd_upd] at h3
  have h4 := h3.setPe hk l.pe
  rw [upd_same, upd_upd] at h4
  exact h4

set_option maxRecDepth 100000 in
set_option maxHeartbeats 2000000 in
theorem new_any (w : World) : Calls Try.prog 9 #[] w fun e w' => ∃ b, e = .returned (.pointer (some ⟨b, 0, none⟩)) ∧ w.heap.size ≤ b ∧ Fr none' w w' ∧ IsGic w' b (fun _ => zi) 256 := by
  obtain ⟨Z, hz, hs, hi⟩ := zero_is
  have h0 := hi w
  have f0 := (Fr.refl none' w).alloc (.cells (Z.setIfInBounds 128 (.int .i64 256)) 57)
  have hlt : (Z.size < 129) = False := by simp [hs]
  clear hi
  go_enter Try.func9, Try.ntmps9
  go_wp2_with fail
  go_loopw [5] (fun i wr => ∃ k : Nat, k ≤ 32 ∧ i = .int .i64 k ∧ Fr none' w wr ∧ IsGic wr w.heap.size (newT k) 256) (fun i _ => 32 - (intOf i).toNat)
  case atStart => exact ⟨0, by omega, rfl, f0, h0⟩
  case round =>
    clear f0 h0
    obtain ⟨k, hk, rfl, fk, hT⟩ := hrel
    by_cases hlt : k < 32
    · obtain ⟨c0, c1, c2, c3⟩ := hT.cells k hlt
      have g0 := hT.frozen (k * 4)
      have g1 := hT.frozen (k * 4 + 1)
      have g2 := hT.frozen (k * 4 + 2)
      have g3 := hT.frozen (k * 4 + 3)
      have i1 : 0 ≤ (k : Int) ∧ (k : Int) < 32 := by omega
      go_wp2_with fail
      go_roundw
      case rel => exact ⟨k + 1, by omega, by go_num, set4_fr (l := zi) fk (Or.inl (Nat.le_refl _)), by rw [← newT_succ]; exact hT.setLine hlt zi⟩
      case measure => simp [intOf]; omega
    · obtain rfl : k = 32 := by omega
      go_wp2_with fail
      go_ret
      exact ⟨_, rfl, Nat.le_refl _, fk, hT.congr (fun j hj => by simp [newT, hj])⟩

set_option maxHeartbeats 1000000 in
theorem change_in (w : World) (b : Nat) (T : Nat → Li) (m : Int) (h : IsGic w b T m) (k : Nat) (hk : k < 32) (fn : Nat) (caps : Array Value) (Q : World → Prop)
    (hen : ∀ (args : Array Value) (w1 : World), (callFunc fn args).run Try.prog w1 = .ok (.enter fn args) w1)
    (hc : Calls Try.prog fn (#[.pointer (some ⟨b, k * 4, none⟩)] ++ caps) w fun e w2 => (∃ v, e = .returned v) ∧ Q w2) :
    Calls Try.prog 30 #[.pointer (some ⟨b, 0, none⟩), .int .i64 (k : Int), .func (.func fn) #[] caps] w fun e w' => e = .returned (.int .i64 0) ∧ Q w' := by
  have hb : isL (k : Int) = true := isL_iff.mpr (by omega)
  have i1 : 0 ≤ (k : Int) ∧ (k : Int) < 32 := by omega
  go_enter Try.func30, Try.ntmps30
  go_wp2_with fail
  refine (has_any _ _).mono ?_
  rintro e w1 ⟨rfl, rfl⟩
  rw [hb]
  go_wp2_with fail
  refine hc.mono ?_
  rintro e w2 ⟨⟨v, rfl⟩, hQ⟩
  go_wp2_with fail
  go_ret
  exact ⟨rfl, hQ⟩

set_option maxHeartbeats 400000 in
theorem change_out (w : World) (p f : Value) (n : Int) (hn : isL n = false) :
    Calls Try.prog 30 #[p, .int .i64 n, f] w fun e w' => e = .returned (.int .i64 1) ∧ w' = w := by
  go_enter Try.func30, Try.ntmps30
  go_wp2_with fail
  refine (has_any _ _).mono ?_
  rintro e w1 ⟨rfl, rfl⟩
  rw [hn]
  go_wp2_with fail
  go_ret
  exact ⟨rfl, rfl⟩

/-- What a call that changes one line leaves. -/
def Chg (w : World) (b : Nat) (T : Nat → Li) (m : Int) (w' : World) : Prop := Fr (at' b) w w' ∧ IsGic w' b T m

set_option maxHeartbeats 400000 in
theorem raise1 (w : World) (b : Nat) (T : Nat → Li) (m : Int) (h : IsGic w b T m) (k : Nat) (hk : k < 32) :
    Calls Try.prog 34 #[.pointer (some ⟨b, k * 4, none⟩)] w fun e w' => (∃ v, e = .returned v) ∧ Chg w b (upd T k (fPe true (T k))) m w' := by
  obtain ⟨c0, c1, c2, c3⟩ := h.cells k hk
  have g3 := h.frozen (k * 4 + 3)
  go_enter Try.func34, Try.ntmps34
  go_wp2_with fail
  exact post_void rfl rfl (fun v => ⟨⟨v, rfl⟩, fr_set w b _ _ (Fr.refl _ _), h.setPe hk true⟩)

set_option maxHeartbeats 400000 in
theorem lower1 (w : World) (b : Nat) (T : Nat → Li) (m : Int) (h : IsGic w b T m) (k : Nat) (hk : k < 32) :
    Calls Try.prog 37 #[.pointer (some ⟨b, k * 4, none⟩)] w fun e w' => (∃ v, e = .returned v) ∧ Chg w b (upd T k (fPe false (T k))) m w' := by
  obtain ⟨c0, c1, c2, c3⟩ := h.cells k hk
  have g3 := h.frozen (k * 4 + 3)
  go_enter Try.func37, Try.ntmps37
  go_wp2_with fail
  exact post_void rfl rfl (fun v => ⟨⟨v, rfl⟩, fr_set w b _ _ (Fr.refl _ _), h.setPe hk false⟩)

set_option maxHeartbeats 400000 in
theorem enable1 (w : World) (b g : Nat) (T : Nat → Li) (m : Int) (h : IsGic w b T m) (k : Nat) (hk : k < 32) (on : Bool) (hg : w.cell? ⟨g, 0, none⟩ = some (.bool on)) :
    Calls Try.prog 33 #[.pointer (some ⟨b, k * 4, none⟩), .pointer (some ⟨g, 0, none⟩)] w fun e w' => (∃ v, e = .returned v) ∧ Chg w b (upd T k (fEn on (T k))) m w' := by
  obtain ⟨c0, c1, c2, c3⟩ := h.cells k hk
  have g2 := h.frozen (k * 4 + 2)
  go_enter Try.func33, Try.ntmps33
  go_wp2_with fail
  exact post_void rfl rfl (fun v => ⟨⟨v, rfl⟩, fr_set w b _ _ (Fr.refl _ _), h.setEn hk on⟩)

set_option maxHeartbeats 400000 in
theorem prior1 (w : World) (b g : Nat) (T : Nat → Li) (m : Int) (h : IsGic w b T m) (k : Nat) (hk : k < 32) (x : Int) (hg : w.cell? ⟨g, 0, none⟩ = some (.int .i64 x)) :
    Calls Try.prog 32 #[.pointer (some ⟨b, k * 4, none⟩), .pointer (some ⟨g, 0, none⟩)] w fun e w' => (∃ v, e = .returned v) ∧ Chg w b (upd T k (fP x (T k))) m w' := by
  obtain ⟨c0, c1, c2, c3⟩ := h.cells k hk
  have g0 := h.frozen (k * 4)
  go_enter Try.func32, Try.ntmps32
  go_wp2_with fail
  exact post_void rfl rfl (fun v => ⟨⟨v, rfl⟩, fr_set w b _ _ (Fr.refl _ _), h.setP hk x⟩)

set_option maxHeartbeats 400000 in
theorem ack1 (w : World) (b : Nat) (T : Nat → Li) (m : Int) (h : IsGic w b T m) (k : Nat) (hk : k < 32) :
    Calls Try.prog 31 #[.pointer (some ⟨b, k * 4, none⟩)] w fun e w' => (∃ v, e = .returned v) ∧ Chg w b (upd T k (fAck (T k))) m w' := by
  obtain ⟨c0, c1, c2, c3⟩ := h.cells k hk
  have g1 := h.frozen (k * 4 + 1)
  have g3 := h.frozen (k * 4 + 3)
  go_enter Try.func31, Try.ntmps31
  go_wp2_with fail
  exact post_void rfl rfl (fun v => ⟨⟨v, rfl⟩, fr_set w b _ _ (fr_set w b _ _ (Fr.refl _ _)), h.setAck hk⟩)

set_option maxHeartbeats 400000 in
theorem raise_any (w : World) (b : Nat) (T : Nat → Li) (m : Int) (h : IsGic w b T m) (n : Int) :
    Calls Try.prog 18 #[.pointer (some ⟨b, 0, none⟩), .int .i64 n] w fun e w' => e = .returned (.int .i64 (errL n)) ∧ Chg w b (chT T n (fPe true)) m w' := by
  unfold errL chT
  cases hn : isL n with
  | false =>
    go_enter Try.func18, Try.ntmps18
    go_wp2_with fail
    refine (change_out _ _ _ _ hn).mono ?_
    rintro e w1 ⟨rfl, rfl⟩
    go_wp2_with fail
    go_ret
    exact ⟨rfl, Fr.refl _ _, h⟩
  | true =>
    obtain ⟨k, rfl⟩ : ∃ k : Nat, n = (k : Int) := ⟨n.toNat, by have := isL_iff.mp hn; omega⟩
    have hk : k < 32 := by have := isL_iff.mp hn; omega
    have hc := change_in w b T m h k hk 34 #[] _ (enters_of Try.func34 (by kernel_rfl) rfl) (raise1 w b T m h k hk)
    go_enter Try.func18, Try.ntmps18
    go_wp2_with fail
    refine hc.mono ?_
    rintro e w1 ⟨rfl, f1⟩
    go_wp2_with fail
    go_ret
    exact ⟨rfl, f1⟩

set_option maxHeartbeats 400000 in
theorem lower_any (w : World) (b : Nat) (T : Nat → Li) (m : Int) (h : IsGic w b T m) (n : Int) :
    Calls Try.prog 23 #[.pointer (some ⟨b, 0, none⟩), .int .i64 n] w fun e w' => e = .returned (.int .i64 (errL n)) ∧ Chg w b (chT T n (fPe false)) m w' := by
  unfold errL chT
  cases hn : isL n with
  | false =>
    go_enter Try.func23, Try.ntmps23
    go_wp2_with fail
    refine (change_out _ _ _ _ hn).mono ?_
    rintro e w1 ⟨rfl, rfl⟩
    go_wp2_with fail
    go_ret
    exact ⟨rfl, Fr.refl _ _, h⟩
  | true =>
    obtain ⟨k, rfl⟩ : ∃ k : Nat, n = (k : Int) := ⟨n.toNat, by have := isL_iff.mp hn; omega⟩
    have hk : k < 32 := by have := isL_iff.mp hn; omega
    have hc := change_in w b T m h k hk 37 #[] _ (enters_of Try.func37 (by kernel_rfl) rfl) (lower1 w b T m h k hk)
    go_enter Try.func23, Try.ntmps23
    go_wp2_with fail
    refine hc.mono ?_
    rintro e w1 ⟨rfl, f1⟩
    go_wp2_with fail
    go_ret
    exact ⟨rfl, f1⟩

theorem cell_of_alloc (w : World) (v : Value) (t : TypeId) : (w.alloc (.cells #[v] t)).cell? ⟨w.heap.size, 0, none⟩ = some v := (row_alloc w #[v] t).cell 0

theorem Chg.pre {w w1 w2 : World} {b : Nat} {T : Nat → Li} {m : Int} (h : Chg w1 b T m w2) (f : Fr none' w w1) : Chg w b T m w2 := ⟨(f.mono (fun _ _ h => h.elim)).trans h.1, h.2⟩

set_option maxHeartbeats 400000 in
theorem enable_any (w : World) (b : Nat) (T : Nat → Li) (m : Int) (h : IsGic w b T m) (n : Int) (on : Bool) :
    Calls Try.prog 17 #[.pointer (some ⟨b, 0, none⟩), .int .i64 n, .bool on] w fun e w' => e = .returned (.int .i64 (errL n)) ∧ Chg w b (chT T n (fEn on)) m w' := by
  have h0 := h.alloc (.cells #[.bool on] 4)
  have f0 := (Fr.refl none' w).alloc (.cells #[.bool on] 4)
  have k0 := cell_of_alloc w (.bool on) 4
  unfold errL chT
  cases hn : isL n with
  | false =>
    go_enter Try.func17, Try.ntmps17
    go_wp2_with fail
    refine (change_out _ _ _ _ hn).mono ?_
    rintro e w1 ⟨rfl, rfl⟩
    go_wp2_with fail
    go_ret
    exact ⟨rfl, f0.mono (fun _ _ h => h.elim), h0⟩
  | true =>
    obtain ⟨k, rfl⟩ : ∃ k : Nat, n = (k : Int) := ⟨n.toNat, by have := isL_iff.mp hn; omega⟩
    have hk : k < 32 := by have := isL_iff.mp hn; omega
    have hc := change_in _ b T m h0 k hk 33 #[.pointer (some ⟨w.heap.size, 0, none⟩)] _ (enters_of Try.func33 (by kernel_rfl) rfl) (enable1 _ b w.heap.size T m h0 k hk on k0)
    go_enter Try.func17, Try.ntmps17
    go_wp2_with fail
    refine hc.mono ?_
    rintro e w1 ⟨rfl, f1⟩
    go_wp2_with fail
    go_ret
    exact ⟨rfl, f1.pre f0⟩

set_option maxHeartbeats 400000 in
theorem prior_bad (w : World) (b : Nat) (n x : Int) (hx : isP x = false) :
    Calls Try.prog 16 #[.pointer (some ⟨b, 0, none⟩), .int .i64 n, .int .i64 x] w fun e w' => e = .returned (.int .i64 1) ∧ Fr none' w w' := by
  have f0 := (Fr.refl none' w).alloc (.cells #[.int .i64 x] 3)
  by_cases h : x < 0
  · have t1 : decide (x < 0) = true := decide_eq_true h
    go_enter Try.func16, Try.ntmps16
    go_wp2_with fail
    go_ret
    exact ⟨rfl, f0⟩
  · have t1 : decide (x < 0) = false := decide_eq_false h
    have t2 : decide (255 < x) = true := decide_eq_true (by
      rcases Int.lt_or_le 255 x with h' | h'
      · exact h'
      · rw [isP_iff.mpr ⟨by omega, h'⟩] at hx; exact absurd hx (by simp))
    go_enter Try.func16, Try.ntmps16
    go_wp2_with fail
    go_ret
    exact ⟨rfl, f0⟩

set_option maxHeartbeats 400000 in
theorem prior_ok (w : World) (b : Nat) (T : Nat → Li) (m : Int) (h : IsGic w b T m) (n x : Int) (hx : isP x = true) :
    Calls Try.prog 16 #[.pointer (some ⟨b, 0, none⟩), .int .i64 n, .int .i64 x] w fun e w' => e = .returned (.int .i64 (errL n)) ∧ Chg w b (chT T n (fP x)) m w' := by
  have h0 := h.alloc (.cells #[.int .i64 x] 3)
  have f0 := (Fr.refl none' w).alloc (.cells #[.int .i64 x] 3)
  have k0 := cell_of_alloc w (.int .i64 x) 3
  have hx' := isP_iff.mp hx
  have t1 : decide (x < 0) = false := decide_eq_false (by omega)
  have t2 : decide (255 < x) = false := decide_eq_false (by omega)
  clear hx'
  unfold errL chT
  cases hn : isL n with
  | false =>
    go_enter Try.func16, Try.ntmps16
    go_wp2_with fail
    refine (change_out _ _ _ _ hn).mono ?_
    rintro e w1 ⟨rfl, rfl⟩
    go_wp2_with fail
    go_ret
    exact ⟨rfl, f0.mono (fun _ _ h => h.elim), h0⟩
  | true =>
    obtain ⟨k, rfl⟩ : ∃ k : Nat, n = (k : Int) := ⟨n.toNat, by have := isL_iff.mp hn; omega⟩
    have hk : k < 32 := by have := isL_iff.mp hn; omega
    have hc := change_in _ b T m h0 k hk 32 #[.pointer (some ⟨w.heap.size, 0, none⟩)] _ (enters_of Try.func32 (by kernel_rfl) rfl) (prior1 _ b w.heap.size T m h0 k hk x k0)
    go_enter Try.func16, Try.ntmps16
    go_wp2_with fail
    refine hc.mono ?_
    rintro e w1 ⟨rfl, f1⟩
    go_wp2_with fail
    go_ret
    exact ⟨rfl, f1.pre f0⟩

theorem prior_any (w : World) (b : Nat) (T : Nat → Li) (m : Int) (h : IsGic w b T m) (n x : Int) :
    Calls Try.prog 16 #[.pointer (some ⟨b, 0, none⟩), .int .i64 n, .int .i64 x] w fun e w' => e = .returned (.int .i64 (prE n x)) ∧ Chg w b (prT T n x) m w' := by
  unfold prE prT
  cases hx : isP x with
  | true => exact prior_ok w b T m h n x hx
  | false => exact (prior_bad w b n x hx).mono fun e w' ⟨he, hf⟩ => ⟨he, hf.mono (fun _ _ h => h.elim), h.keep hf (fun h => h)⟩

set_option maxHeartbeats 400000 in
theorem mask_any (w : World) (b : Nat) (T : Nat → Li) (m : Int) (h : IsGic w b T m) (x : Int) :
    Calls Try.prog 21 #[.pointer (some ⟨b, 0, none⟩), .int .i64 x] w fun e w' => e = .returned (.int .i64 (maE x)) ∧ Chg w b T (maM m x) w' := by
  have c0 := h.mask
  have g0 := h.frozen 128
  unfold maE maM
  cases hx : isM x with
  | true =>
    have hx' := isM_iff.mp hx
    have t1 : decide (x < 0) = false := decide_eq_false (by omega)
    have t2 : decide (256 < x) = false := decide_eq_false (by omega)
    clear hx'
    go_enter Try.func21, Try.ntmps21
    go_wp2_with fail
    go_ret
    exact ⟨rfl, fr_set w b _ _ (Fr.refl _ _), h.setMask x⟩
  | false =>
    by_cases hl : x < 0
    · have t1 : decide (x < 0) = true := decide_eq_true hl
      go_enter Try.func21, Try.ntmps21
      go_wp2_with fail
      go_ret
      exact ⟨rfl, Fr.refl _ _, h⟩
    · have t1 : decide (x < 0) = false := decide_eq_false hl
      have t2 : decide (256 < x) = true := decide_eq_true (by
        rcases Int.lt_or_le 256 x with h' | h'
        · exact h'
        · rw [isM_iff.mpr ⟨by omega, h'⟩] at hx; exact absurd hx (by simp))
      go_enter Try.func21, Try.ntmps21
      go_wp2_with fail
      go_ret
      exact ⟨rfl, Fr.refl _ _, h⟩

end Go.Proofs.Ytcenojdcmmflaaa
