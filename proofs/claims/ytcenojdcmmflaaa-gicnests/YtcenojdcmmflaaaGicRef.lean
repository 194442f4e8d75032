/-
  The document's controller: its block told as what its lines hold ('IsRef'), and the contracts of Is, New, Running, heard over the translation. No statement is proved here.
-/
import Derived.Test.YtcenojdcmmflaaaGicAsk
namespace Go.Proofs.Ytcenojdcmmflaaa
open Go.RowKit

/-- Cells that show the document's lines. -/
def IsRs (get : Nat → Option Value) (T : Nat → Li) : Prop :=
  ∀ j, j < 32 → get j = some (.int .i64 (T j).p) ∧ get (32 + j) = some (.bool (T j).en) ∧ get (64 + j) = some (.bool (T j).pe) ∧ get (96 + j) = some (.bool (act (T j))) ∧
    ∃ sv : Int, get (128 + j) = some (.int .i64 sv) ∧ (act (T j) = true → sv = (T j).s)

def IsRef (w : World) (b : Nat) (T : Nat → Li) (m : Int) : Prop :=
  ∃ cs, Row w b cs 37 ∧ cs.size = 161 ∧ IsRs (fun i => cs[i]?) T ∧ cs[160]? = some (.int .i64 m)

section
variable {w : World} {b : Nat} {T : Nat → Li} {m : Int}

theorem IsRef.congr {T' : Nat → Li} (h : IsRef w b T m) (e : ∀ j, j < 32 → T j = T' j) : IsRef w b T' m := by
  obtain ⟨cs, h1, h2, h3, h4⟩ := h; exact ⟨cs, h1, h2, fun j hj => by rw [← e j hj]; exact h3 j hj, h4⟩

theorem IsRef.keep {S : Nat → Prop} {w' : World} (h : IsRef w b T m) (f : Fr S w w') (hs : ¬ S b) : IsRef w' b T m := by
  obtain ⟨cs, h, r⟩ := h; exact ⟨cs, h.keep f hs, r⟩

theorem IsRef.alloc (h : IsRef w b T m) (o : Obj) : IsRef (w.alloc o) b T m := h.keep ((Fr.refl none' w).alloc o) (fun h => h)

theorem IsRef.lt (h : IsRef w b T m) : b < w.heap.size := by obtain ⟨cs, h, _⟩ := h; exact h.lt

theorem IsRef.frozen (h : IsRef w b T m) (i : Nat) : w.frozen? ⟨b, i, none⟩ = false := by obtain ⟨cs, h, _⟩ := h; exact h.frozen i

theorem IsRef.cells (h : IsRef w b T m) (j : Nat) (hj : j < 32) :
    w.cell? ⟨b, j, none⟩ = some (.int .i64 (T j).p) ∧ w.cell? ⟨b, 32 + j, none⟩ = some (.bool (T j).en) ∧ w.cell? ⟨b, 64 + j, none⟩ = some (.bool (T j).pe) ∧ w.cell? ⟨b, 96 + j, none⟩ = some (.bool (act (T j))) ∧
      ∃ sv : Int, w.cell? ⟨b, 128 + j, none⟩ = some (.int .i64 sv) ∧ (act (T j) = true → sv = (T j).s) := by
  obtain ⟨cs, hr, _, he, _⟩ := h
  obtain ⟨h0, h1, h2, h3, sv, h4, h5⟩ := he j hj
  exact ⟨(hr.cell _).trans h0, (hr.cell _).trans h1, (hr.cell _).trans h2, (hr.cell _).trans h3, sv, (hr.cell _).trans h4, h5⟩

theorem IsRef.mask (h : IsRef w b T m) : w.cell? ⟨b, 160, none⟩ = some (.int .i64 m) := by
  obtain ⟨cs, hr, _, _, h⟩ := h; exact (hr.cell _).trans h

theorem IsRef.setMask (h : IsRef w b T m) (x : Int) : IsRef (w.setCell ⟨b, 160, none⟩ (.int .i64 x)) b T x := by
  obtain ⟨cs, hr, hs, hl, h1⟩ := h
  refine ⟨_, hr.setCell 160 _, by simpa using hs, fun j hj => ?_, ?_⟩
  · obtain ⟨e0, e1, e2, e3, e4⟩ := hl j hj
    simp (disch := omega) only [Array.getElem?_setIfInBounds, if_neg]
    exact ⟨e0, e1, e2, e3, e4⟩
  · simp [hs]

/-- One cell of line k turned: the line is then l. -/
theorem IsRef.setAt (h : IsRef w b T m) {k o : Nat} {v : Value} {l : Li} (hk : k < 32)
    (hi : (o = 0 ∧ v = .int .i64 l.p ∧ l.s = (T k).s ∧ l.en = (T k).en ∧ l.pe = (T k).pe) ∨
      (o = 32 ∧ v = .bool l.en ∧ l.p = (T k).p ∧ l.s = (T k).s ∧ l.pe = (T k).pe) ∨ (o = 64 ∧ v = .bool l.pe ∧ l.p = (T k).p ∧ l.s = (T k).s ∧ l.en = (T k).en) ∨
      (o = 96 ∧ v = .bool false ∧ l.s = 256 ∧ l.p = (T k).p ∧ l.en = (T k).en ∧ l.pe = (T k).pe)) :
    IsRef (w.setCell ⟨b, o + k, none⟩ v) b (upd T k l) m := by
  obtain ⟨cs, hr, hs, hl, h1⟩ := h
  have ho : o = 0 ∨ o = 32 ∨ o = 64 ∨ o = 96 := by rcases hi with ⟨rfl, _⟩ | ⟨rfl, _⟩ | ⟨rfl, _⟩ | ⟨rfl, _⟩ <;> simp
  refine ⟨_, hr.setCell _ _, by simpa using hs, fun j hj => ?_, ?_⟩
  · obtain ⟨e0, e1, e2, e3, e4⟩ := hl j hj
    by_cases e : j = k
    · subst e
      rw [upd_same]
      rcases hi with ⟨rfl, rfl, a, c, d⟩ | ⟨rfl, rfl, a, c, d⟩ | ⟨rfl, rfl, a, c, d⟩ | ⟨rfl, rfl, a, c, d, f⟩
      · have ha : act l = act (T j) := by simp [act, a]
        rw [ha, a, c, d]; simp (disch := omega) only [Array.getElem?_setIfInBounds, if_neg, if_pos, if_true, Nat.zero_add]; exact ⟨trivial, e1, e2, e3, e4⟩
      · have ha : act l = act (T j) := by simp [act, c]
        rw [ha, a, c, d]; simp (disch := omega) only [Array.getElem?_setIfInBounds, if_neg, if_pos, if_true]; exact ⟨e0, trivial, e2, e3, e4⟩
      · have ha : act l = act (T j) := by simp [act, c]
        rw [ha, a, c, d]; simp (disch := omega) only [Array.getElem?_setIfInBounds, if_neg, if_pos, if_true]; exact ⟨e0, e1, trivial, e3, e4⟩
      · have ha : act l = false := by simp [act, a]
        obtain ⟨sv, e5, _⟩ := e4
        rw [ha, c, d, f]; simp (disch := omega) only [Array.getElem?_setIfInBounds, if_neg, if_pos, if_true]; exact ⟨e0, e1, e2, trivial, sv, e5, fun h => by simp at h⟩
    · rw [upd_other _ _ e]
      rcases ho with rfl | rfl | rfl | rfl <;> (simp (disch := omega) only [Array.getElem?_setIfInBounds, if_neg]; exact ⟨e0, e1, e2, e3, e4⟩)
  · rcases ho with rfl | rfl | rfl | rfl <;> (simp (disch := omega) only [Array.getElem?_setIfInBounds, if_neg]; exact h1)

theorem IsRef.setP (h : IsRef w b T m) {k : Nat} (hk : k < 32) (x : Int) : IsRef (w.setCell ⟨b, k, none⟩ (.int .i64 x)) b (upd T k (fP x (T k))) m := by
  have := h.setAt (o := 0) (v := .int .i64 x) (l := fP x (T k)) hk (Or.inl ⟨rfl, rfl, rfl, rfl, rfl⟩)
  rwa [Nat.zero_add] at this
theorem IsRef.setEn (h : IsRef w b T m) {k : Nat} (hk : k < 32) (x : Bool) : IsRef (w.setCell ⟨b, 32 + k, none⟩ (.bool x)) b (upd T k (fEn x (T k))) m :=
  h.setAt (o := 32) hk (Or.inr (Or.inl ⟨rfl, rfl, rfl, rfl, rfl⟩))
theorem IsRef.setPe (h : IsRef w b T m) {k : Nat} (hk : k < 32) (x : Bool) : IsRef (w.setCell ⟨b, 64 + k, none⟩ (.bool x)) b (upd T k (fPe x (T k))) m :=
  h.setAt (o := 64) hk (Or.inr (Or.inr (Or.inl ⟨rfl, rfl, rfl, rfl, rfl⟩)))
theorem IsRef.setEnd (h : IsRef w b T m) {k : Nat} (hk : k < 32) : IsRef (w.setCell ⟨b, 96 + k, none⟩ (.bool false)) b (upd T k (fEnd (T k))) m :=
  h.setAt (o := 96) hk (Or.inr (Or.inr (Or.inr ⟨rfl, rfl, rfl, rfl, rfl, rfl⟩)))

/-- The acknowledgement: three cells. -/
theorem IsRef.setAck (h : IsRef w b T m) {k : Nat} (hk : k < 32) (hp : (T k).p ≠ 256) : IsRef (((w.setCell ⟨b, 96 + k, none⟩ (.bool true)).setCell ⟨b, 64 + k, none⟩ (.bool false)).setCell ⟨b, 128 + k, none⟩ (.int .i64 (T k).p)) b (upd T k (fAck (T k))) m := by
  obtain ⟨cs, hr, hs, hl, h1⟩ := h
  refine ⟨_, ((hr.setCell _ _).setCell _ _).setCell _ _, by simpa using hs, fun j hj => ?_, ?_⟩
  · obtain ⟨e0, e1, e2, e3, e4⟩ := hl j hj
    by_cases e : j = k
    · subst e
      rw [upd_same]
      have ha : act (fAck (T j)) = true := by simp [act, fAck, hp]
      rw [ha]
      simp (disch := (first | omega | (simp only [Array.size_setIfInBounds]; omega))) only [Array.getElem?_setIfInBounds, if_neg, if_pos, if_true, fAck]
      exact ⟨e0, e1, trivial, trivial, _, rfl, fun _ => rfl⟩
    · rw [upd_other _ _ e]
      simp (disch := omega) only [Array.getElem?_setIfInBounds, if_neg]
      exact ⟨e0, e1, e2, e3, e4⟩
  · simp (disch := omega) only [Array.getElem?_setIfInBounds, if_neg]; exact h1

end

set_option maxHeartbeats 400000 in
theorem is_any (n : Int) (w : World) : Calls Try.prog 22 #[.int .i64 n] w fun e w' => e = .returned (.bool (isL n)) ∧ w' = w := by
  unfold isL
  by_cases h : 0 ≤ n
  · have t1 : decide (0 ≤ n) = true := by simpa using h
    rw [t1]
    go_enter Try.func22, Try.ntmps22
    go_wp2
    go_ret
    exact ⟨rfl, rfl⟩
  · have t1 : decide (0 ≤ n) = false := by simpa using h
    rw [t1]
    go_enter Try.func22, Try.ntmps22
    go_wp2
    go_ret
    exact ⟨rfl, rfl⟩

/-- The first k lines have their priority; the others' are noughts. -/
def rnewT (k : Nat) : Nat → Li := fun j => if j < k then zi else ⟨0, 256, false, false⟩

def rzcells : Array Value := #[.int .i64 0, .int .i64 0, .int .i64 0, .int .i64 0, .int .i64 0, .int .i64 0, .int .i64 0, .int .i64 0, .int .i64 0, .int .i64 0, .int .i64 0, .int .i64 0, .int .i64 0, .int .i64 0, .int .i64 0, .int .i64 0, .int .i64 0, .int .i64 0, .int .i64 0, .int .i64 0, .int .i64 0, .int .i64 0, .int .i64 0, .int .i64 0, .int .i64 0, .int .i64 0, .int .i64 0, .int .i64 0, .int .i64 0, .int .i64 0, .int .i64 0, .int .i64 0, .bool false, .bool false, .bool false, .bool false, .bool false, .bool false, .bool false, .bool false, .bool false, .bool false, .bool false, .bool false, .bool false, .bool false, .bool false, .bool false, .bool false, .bool false, .bool false, .bool false, .bool false, .bool false, .bool false, .bool false, .bool false, .bool false, .bool false, .bool false, .bool false, .bool false, .bool false, .bool false, .bool false, .bool false, .bool false, .bool false, .bool false, .bool false, .bool false, .bool false, .bool false, .bool false, .bool false, .bool false, .bool false, .bool false, .bool false, .bool false, .bool false, .bool false, .bool false, .bool false, .bool false, .bool false, .bool false, .bool false, .bool false, .bool false, .bool false, .bool false, .bool false, .bool false, .bool false, .bool false, .bool false, .bool false, .bool false, .bool false, .bool false, .bool false, .bool false, .bool false, .bool false, .bool false, .bool false, .bool false, .bool false, .bool false, .bool false, .bool false, .bool false, .bool false, .bool false, .bool false, .bool false, .bool false, .bool false, .bool false, .bool false, .bool false, .bool false, .bool false, .bool false, .bool false, .bool false, .bool false, .int .i64 0, .int .i64 0, .int .i64 0, .int .i64 0, .int .i64 0, .int .i64 0, .int .i64 0, .int .i64 0, .int .i64 0, .int .i64 0, .int .i64 0, .int .i64 0, .int .i64 0, .int .i64 0, .int .i64 0, .int .i64 0, .int .i64 0, .int .i64 0, .int .i64 0, .int .i64 0, .int .i64 0, .int .i64 0, .int .i64 0, .int .i64 0, .int .i64 0, .int .i64 0, .int .i64 0, .int .i64 0, .int .i64 0, .int .i64 0, .int .i64 0, .int .i64 0, .int .i64 0]

set_option maxRecDepth 100000 in
theorem rzcells_rs : ∀ j, j < 32 → rzcells[j]? = some (.int .i64 0) ∧ rzcells[32 + j]? = some (.bool false) ∧ rzcells[64 + j]? = some (.bool false) ∧ rzcells[96 + j]? = some (.bool false) ∧ rzcells[128 + j]? = some (.int .i64 0) := by
  intro j hj
  have : j = 0 ∨ j = 1 ∨ j = 2 ∨ j = 3 ∨ j = 4 ∨ j = 5 ∨ j = 6 ∨ j = 7 ∨ j = 8 ∨ j = 9 ∨ j = 10 ∨ j = 11 ∨ j = 12 ∨ j = 13 ∨ j = 14 ∨ j = 15 ∨ j = 16 ∨ j = 17 ∨ j = 18 ∨ j = 19 ∨ j = 20 ∨ j = 21 ∨ j = 22 ∨ j = 23 ∨ j = 24 ∨ j = 25 ∨ j = 26 ∨ j = 27 ∨ j = 28 ∨ j = 29 ∨ j = 30 ∨ j = 31 := by omega
  rcases this with rfl | rfl | rfl | rfl | rfl | rfl | rfl | rfl | rfl | rfl | rfl | rfl | rfl | rfl | rfl | rfl | rfl | rfl | rfl | rfl | rfl | rfl | rfl | rfl | rfl | rfl | rfl | rfl | rfl | rfl | rfl | rfl <;> exact ⟨rfl, rfl, rfl, rfl, rfl⟩

set_option maxRecDepth 100000 in
theorem rzero_gic (w : World) : Sem.run Try.prog (zeroValue 37) w = .ok (.agg rzcells) w := by kernel_rfl

set_option maxRecDepth 100000 in
theorem rzero_is : ∃ Z : Array Value, (∀ w, Sem.run Try.prog (zeroValue 37) w = .ok (.agg Z) w) ∧ Z.size = 161 ∧ ∀ w : World, IsRef (w.alloc (.cells (Z.setIfInBounds 160 (.int .i64 256)) 37)) w.heap.size (rnewT 0) 256 := by
  refine ⟨rzcells, rzero_gic, rfl, fun w => ⟨_, row_alloc _ _ _, by rw [Array.size_setIfInBounds]; rfl, fun j hj => ?_, ?_⟩⟩
  · obtain ⟨e0, e1, e2, e3, e4⟩ := rzcells_rs j hj
    simp (disch := omega) only [Array.getElem?_setIfInBounds, if_neg]
    exact ⟨e0, e1, e2, e3, 0, e4, fun h => by simp [rnewT, act] at h⟩
  · have h : rzcells.size = 161 := rfl
    simp [h]

theorem rnewT_succ (k : Nat) : upd (rnewT k) k (fP 255 (rnewT k k)) = rnewT (k + 1) := by
  funext j
  unfold upd rnewT
  by_cases h : j = k
  · subst h; simp [fP, zi]
  · have : j < k + 1 ↔ j < k := by omega
    simp [h, this]

set_option maxRecDepth 100000 in
set_option maxHeartbeats 2000000 in
theorem rnew_any (w : World) : Calls Try.prog 10 #[] w fun e w' => ∃ b, e = .returned (.pointer (some ⟨b, 0, none⟩)) ∧ w.heap.size ≤ b ∧ Fr none' w w' ∧ IsRef w' b (fun _ => zi) 256 := by
  obtain ⟨Z, hz, hs, hi⟩ := rzero_is
  have h0 := hi w
  have f0 := (Fr.refl none' w).alloc (.cells (Z.setIfInBounds 160 (.int .i64 256)) 37)
  have hlt : (Z.size < 161) = False := by simp [hs]
  clear hi
  go_enter Try.func10, Try.ntmps10
  go_wp2_with fail
  go_loopw [2] (fun i wr => ∃ k : Nat, k ≤ 32 ∧ i = .int .i64 k ∧ Fr none' w wr ∧ IsRef wr w.heap.size (rnewT k) 256) (fun i _ => 32 - (intOf i).toNat)
  case atStart => exact ⟨0, by omega, rfl, f0, h0⟩
  case round =>
    clear f0 h0
    obtain ⟨k, hk, rfl, fk, hT⟩ := hrel
    by_cases hlt : k < 32
    · obtain ⟨c0, c1, c2, c3, c4⟩ := hT.cells k hlt
      have g0 := hT.frozen k
      have i1 : 0 ≤ (k : Int) ∧ (k : Int) < 32 := by omega
      clear c1 c2 c3 c4
      go_wp2_with fail
      go_roundw
      case rel => exact ⟨k + 1, by omega, by go_num, fk.setCell (p := ⟨w.heap.size, k, none⟩) (Or.inl (Nat.le_refl _)) _, by rw [← rnewT_succ]; exact hT.setP hlt 255⟩
      case measure => simp [intOf]; omega
    · obtain rfl : k = 32 := by omega
      go_wp2_with fail
      go_ret
      exact ⟨_, rfl, Nat.le_refl _, fk, hT.congr (fun j hj => by simp [rnewT, hj])⟩

set_option maxHeartbeats 2000000 in
theorem rrunning_any (w : World) (b : Nat) (T : Nat → Li) (m : Int) (h : IsRef w b T m) :
    Calls Try.prog 27 #[.pointer (some ⟨b, 0, none⟩)] w fun e w' => e = .returned (.int .i64 (run T)) ∧ Fr none' w w' := by
  go_enter Try.func27, Try.ntmps27
  go_wp2_with fail
  go_loopw [3, 4] (fun n i wr => ∃ k : Nat, k ≤ 32 ∧ i = .int .i64 k ∧ n = .int .i64 (runN T k) ∧ Fr none' w wr) (fun _ i _ => 32 - (intOf i).toNat)
  case atStart => exact ⟨0, by omega, rfl, rfl, Fr.refl _ _⟩
  case round =>
    obtain ⟨k, hk, rfl, rfl, fk⟩ := hrel
    by_cases hlt : k < 32
    · obtain ⟨c0, c1, c2, c3, sv, c4, hsv⟩ := (h.keep fk (fun h => h)).cells k hlt
      have i1 : 0 ≤ (k : Int) ∧ (k : Int) < 32 := by omega
      have hle := (runN_le T k).1
      clear c0 c1 c2
      cases ha : act (T k) with
      | false =>
        rw [ha] at c3
        have hs : runN T (k + 1) = runN T k := by
          have : (T k).s = 256 := by simpa [act] using ha
          simp only [runN]; omega
        clear hsv hle ha
        go_wp2_with fail
        go_roundw
        case rel => exact ⟨k + 1, by omega, by go_num, by rw [hs], fk⟩
        case measure => simp [intOf]; omega
      | true =>
        rw [ha] at c3
        obtain rfl := hsv ha
        clear hsv hle ha
        by_cases hl : (T k).s < runN T k
        · have u1 : decide ((T k).s < runN T k) = true := decide_eq_true hl
          have hs : runN T (k + 1) = (T k).s := by simp only [runN]; omega
          go_wp2_with fail
          go_roundw
          case rel => exact ⟨k + 1, by omega, by go_num, by rw [hs], fk⟩
          case measure => simp [intOf]; omega
        · have u1 : decide ((T k).s < runN T k) = false := decide_eq_false hl
          have hs : runN T (k + 1) = runN T k := by simp only [runN]; omega
          go_wp2_with fail
          go_roundw
          case rel => exact ⟨k + 1, by omega, by go_num, by rw [hs], fk⟩
          case measure => simp [intOf]; omega
    · obtain rfl : k = 32 := by omega
      go_wp2_with fail
      go_ret
      exact ⟨rfl, fk⟩

theorem may_two (T : Nat → Li) (m : Int) (l : Li) : may (bound T m) l = (l.en && (l.pe && (!act l && (decide (l.p < m) && decide (l.p < run T))))) := by
  unfold may bound
  have : decide (l.p < min m (run T)) = (decide (l.p < m) && decide (l.p < run T)) := by
    rw [← Bool.decide_and]
    congr 1
    simp only [eq_iff_iff]
    omega
  rw [this]

end Go.Proofs.Ytcenojdcmmflaaa
