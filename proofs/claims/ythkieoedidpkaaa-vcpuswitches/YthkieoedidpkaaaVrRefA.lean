/-
  Contracts of the document's New, Inject, Enable, SetMask, End and Running over the translation. No statement is proved here.
-/
import Derived.Test.YthkieoedidpkaaaVrRef
namespace Go.Proofs.Ythkieoedidpkaaa
open Go.RowKit

set_option maxHeartbeats 400000 in
theorem is_any (n : Int) (w : World) : Calls Try.prog 61 #[.int .i64 n] w fun e w' => e = .returned (.bool (isI n)) ∧ w' = w := by
  have hi : isI n = (decide (0 ≤ n) && decide (n < 64)) := by
    unfold isI
    by_cases h : n ≤ 63
    · rw [decide_eq_true h, decide_eq_true (show n < 64 by omega)]
    · rw [decide_eq_false h, decide_eq_false (show ¬ n < 64 by omega)]
  rw [hi]
  by_cases h : 0 ≤ n
  · have t1 : decide (0 ≤ n) = true := by simpa using h
    rw [t1]
    go_enter Try.func61, Try.ntmps61
    go_wp2
    go_ret
    exact ⟨rfl, rfl⟩
  · have t1 : decide (0 ≤ n) = false := by simpa using h
    rw [t1]
    go_enter Try.func61, Try.ntmps61
    go_wp2
    go_ret
    exact ⟨rfl, rfl⟩

def zone : One := ⟨false, false, false, 0, 0, false, false⟩
def rep : Nat → List Value
  | 0 => []
  | n + 1 => oneV zone ++ rep n
theorem rep_len : ∀ n, (rep n).length = n * 7
  | 0 => rfl
  | n + 1 => by
    have : (oneV zone).length = 7 := rfl
    simp only [rep, List.length_append, rep_len n, this]
    omega
theorem rep_at : ∀ n j r, j < n → r < 7 → (rep n)[j * 7 + r]? = (oneV zone)[r]?
  | n + 1, 0, r, _, hr => by
    have h7 : (oneV zone).length = 7 := rfl
    rw [Nat.zero_mul, Nat.zero_add]
    exact List.getElem?_append_left (by omega)
  | n + 1, j + 1, r, hj, hr => by
    have h7 : (oneV zone).length = 7 := rfl
    simp only [rep]
    rw [List.getElem?_append_right (by omega), h7, show (j + 1) * 7 + r - 7 = j * 7 + r by omega]
    exact rep_at n j r (by omega) hr

def ztail : List Value := [.int .i64 0, .int .i64 0, .int .i64 0, .int .i64 0, .int .i64 0]
def zref : Array Value := (rep 64 ++ ztail).toArray

set_option maxRecDepth 100000 in
theorem zero_ref (w : World) : Sem.run Try.prog (zeroValue 90) w = .ok (.agg zref) w := by kernel_rfl
theorem zref_size : zref.size = 453 := by
  have : ztail.length = 5 := rfl
  simp [zref, rep_len, this]
theorem zref_num (i : Nat) (h : 448 ≤ i) (h' : i < 453) : zref[i]? = some (.int .i64 0) := by
  have e : zref[i]? = (rep 64 ++ ztail)[i]? := by simp [zref]
  rw [e, List.getElem?_append_right (by rw [rep_len]; omega), rep_len]
  have hh : i = 448 ∨ i = 449 ∨ i = 450 ∨ i = 451 ∨ i = 452 := by omega
  rcases hh with rfl | rfl | rfl | rfl | rfl <;> rfl

theorem sr_zero (n : Int) : Sr ((zref.setIfInBounds 448 (.int .i64 n)).setIfInBounds 449 (.int .i64 256)) (fun _ => zone) (zeroV n) := by
  refine ⟨by simp [zref_size], fun j r hj hr => ?_, ?_, ?_, ?_, ?_, ?_⟩
  · rw [Array.getElem?_setIfInBounds, if_neg (by omega), Array.getElem?_setIfInBounds, if_neg (by omega)]
    have e : zref[j * 7 + r]? = (rep 64 ++ ztail)[j * 7 + r]? := by simp [zref]
    rw [e, List.getElem?_append_left (by rw [rep_len]; omega)]
    exact rep_at 64 j r hj hr
  · simp [zref_size, zeroV]
  · simp [zref_size, zeroV]
  · rw [Array.getElem?_setIfInBounds, if_neg (by omega), Array.getElem?_setIfInBounds, if_neg (by omega)]; exact zref_num 450 (by omega) (by omega)
  · rw [Array.getElem?_setIfInBounds, if_neg (by omega), Array.getElem?_setIfInBounds, if_neg (by omega)]; exact zref_num 451 (by omega) (by omega)
  · rw [Array.getElem?_setIfInBounds, if_neg (by omega), Array.getElem?_setIfInBounds, if_neg (by omega)]; exact zref_num 452 (by omega) (by omega)

set_option maxHeartbeats 400000 in
theorem rnew_bad (w : World) (n : Int) (hn : isR n = false) : Calls Try.prog 51 #[.int .i64 n] w fun e w' => e = .returned (.tuple #[.pointer none, .int .i64 1]) ∧ w' = w := by
  by_cases h : n < 1
  · have u : decide (n < 1) = true := decide_eq_true h
    go_enter Try.func51, Try.ntmps51
    go_wp2_with fail
    go_ret2
    exact ⟨rfl, rfl⟩
  · have u : decide (n < 1) = false := decide_eq_false h
    have u2 : decide (16 < n) = true := decide_eq_true (by
      rcases Int.lt_or_le 16 n with h' | h'
      · exact h'
      · rw [isR_iff.mpr ⟨by omega, h'⟩] at hn; cases hn)
    go_enter Try.func51, Try.ntmps51
    go_wp2_with fail
    go_ret2
    exact ⟨rfl, rfl⟩

set_option maxRecDepth 100000 in
set_option maxHeartbeats 1000000 in
theorem rnew_ok (w : World) (n : Int) (hn : isR n = true) : Calls Try.prog 51 #[.int .i64 n] w fun e w' => ∃ b, e = .returned (.tuple #[.pointer (some ⟨b, 0, none⟩), .int .i64 0]) ∧ w.heap.size ≤ b ∧ Fr none' w w' ∧ IsRv w' b (zeroV n) := by
  have hr := isR_iff.mp hn
  have u : decide (n < 1) = false := decide_eq_false (by omega)
  have u2 : decide (16 < n) = false := decide_eq_false (by omega)
  have hz := zero_ref
  have hs := sr_zero n
  have hsz := zref_size
  obtain ⟨Z, hZ⟩ : ∃ Z, Z = zref := ⟨_, rfl⟩
  rw [← hZ] at hz hs hsz
  have q1 : (Z.size < 449) = False := by simp [hsz]
  have q2 : (Z.size < 450) = False := by simp [hsz]
  have HS : Hid (Sr ((Z.setIfInBounds 448 (.int .i64 n)).setIfInBounds 449 (.int .i64 256)) (fun _ => zone) (zeroV n)) := hs
  have HG : Hid (Good (zeroV n)) := good_zero hr
  clear hZ hs hsz hr
  go_enter Try.func51, Try.ntmps51
  go_wp2_with fail
  go_ret2
  exact ⟨w.heap.size, rfl, Nat.le_refl _, (Fr.refl none' w).alloc _, ⟨fun _ => zone, ⟨_, row_alloc _ _ _, HS.out⟩, ⟨fun _ _ => rfl, fun _ _ => rfl, fun _ _ => rfl⟩⟩, HG.out⟩

set_option maxRecDepth 100000 in
set_option maxHeartbeats 1000000 in
theorem rinject_any (w : World) (b : Nat) (S : Vg) (h : IsRv w b S) (n p : Int) (l : Bool) :
    Calls Try.prog 53 #[.pointer (some ⟨b, 0, none⟩), .int .i64 n, .int .i64 p, .bool l] w fun e w' => e = .returned (.int .i64 (injE S n p)) ∧ Rch w b (injS S n p l) w' := by
  unfold injE injS
  cases hn : isI n with
  | false =>
    go_enter Try.func53, Try.ntmps53
    go_wp2_with fail
    refine (is_any _ _).mono ?_
    rintro e w1 ⟨rfl, rfl⟩
    rw [hn]
    go_wp2_with fail
    go_ret
    exact ⟨rfl, Rch.same h (Fr.refl _ _)⟩
  | true =>
    obtain ⟨k, rfl, hk⟩ := isI_nat hn
    have i1 : 0 ≤ (k : Int) ∧ (k : Int) < 64 := by omega
    cases hp : isP p with
    | false =>
      have hcs : decide (p < 0) = true ∨ (decide (p < 0) = false ∧ decide (255 < p) = true) := by
        by_cases h0 : p < 0
        · exact Or.inl (decide_eq_true h0)
        · refine Or.inr ⟨decide_eq_false h0, decide_eq_true ?_⟩
          rcases Int.lt_or_le 255 p with h' | h'
          · exact h'
          · rw [isP_iff.mpr ⟨by omega, h'⟩] at hp; cases hp
      rcases hcs with u1 | ⟨u1, u2⟩
      all_goals
        go_enter Try.func53, Try.ntmps53
        go_wp2_with fail
        refine (is_any _ _).mono ?_
        rintro e w1 ⟨rfl, rfl⟩
        rw [hn]
        go_wp2_with fail
        go_ret
        exact ⟨rfl, Rch.same h (Fr.refl _ _)⟩
    | true =>
      have hpb := isP_iff.mp hp
      have u1 : decide (p < 0) = false := decide_eq_false (by omega)
      have u2 : decide (255 < p) = false := decide_eq_false (by omega)
      obtain ⟨⟨T, hT, hR⟩, hg⟩ := h
      obtain ⟨c0, c1, c2, c3, c4, c5, c6⟩ := hT.cells hk
      rw [hR.pe_some hk] at c1
      show Calls _ _ _ _ fun e w' => e = .returned (.int .i64 (bif (S.pe k).isSome then 80 else 0)) ∧ Rch w b (bif (S.pe k).isSome then S else { S with pe := set1 S.pe k (some (p, l)), inj := inc S.inj }) w'
      cases hs : (S.pe k).isSome with
      | true =>
        rw [hs] at c1
        have HR : Hid (Rch w b S w) := ⟨Fr.refl _ _, ⟨T, hT, hR⟩, hg⟩
        clear hT hR hg c0 c2 c3 c4 c5 c6 hpb
        go_enter Try.func53, Try.ntmps53
        go_wp2_with fail
        refine (is_any _ _).mono ?_
        rintro e w1 ⟨rfl, rfl⟩
        rw [hn]
        go_wp2_with fail
        go_ret
        exact ⟨rfl, HR.out⟩
      | false =>
        rw [hs] at c1
        have g1 := hT.frozen (k * 7 + 1)
        have h1 := hT.setOne (r := 1) hk (by omega) (v := .bool true) (o := { T k with pe := true }) rfl
        obtain ⟨_, _, _, d3, _⟩ := h1.cells hk
        rw [updT_same] at d3
        have g3 := h1.frozen (k * 7 + 3)
        have h2 := h1.setOne (r := 3) hk (by omega) (v := .int .i64 p) (o := { T k with pe := true, p := p }) (by rw [updT_same]; rfl)
        rw [updT_updT] at h2
        obtain ⟨_, _, _, _, _, d5, _⟩ := h2.cells hk
        rw [updT_same] at d5
        have g5 := h2.frozen (k * 7 + 5)
        have h3 := h2.setOne (r := 5) hk (by omega) (v := .bool l) (o := { T k with pe := true, p := p, lv := l }) (by rw [updT_same]; rfl)
        rw [updT_updT] at h3
        obtain ⟨_, _, e0, _, _⟩ := h3.nums
        have g6 := h3.frozen 450
        have h4 := h3.setInj (wrap64 (S.inj + 1))
        have hrel : Rel (updT T k { T k with pe := true, p := p, lv := l }) { S with pe := set1 S.pe k (some (p, l)), inj := inc S.inj } :=
          hR.line ⟨hR.off k hk, by show set1 S.pe k (some (p, l)) k = _; rw [set1_same]; rfl, hR.ac k hk⟩ (fun j hj => ⟨rfl, set1_other _ _ hj, rfl⟩)
        have hgood : Good { S with pe := set1 S.pe k (some (p, l)), inj := inc S.inj } := ⟨goodF_set hg.pe _ _ (fun q l' e => by cases e; omega), hg.ac, hg.mask, hg.lrs⟩
        have HR : Hid (Rch w b { S with pe := set1 S.pe k (some (p, l)), inj := inc S.inj } ((((w.setCell ⟨b, k * 7 + 1, none⟩ (.bool true)).setCell ⟨b, k * 7 + 3, none⟩ (.int .i64 p)).setCell ⟨b, k * 7 + 5, none⟩ (.bool l)).setCell ⟨b, 450, none⟩ (.int .i64 (wrap64 (S.inj + 1))))) :=
          ⟨fr_set _ b _ _ (fr_set _ b _ _ (fr_set _ b _ _ (fr_set _ b _ _ (Fr.refl _ _)))), ⟨_, h4.nums_eq rfl rfl rfl rfl rfl, hrel⟩, hgood⟩
        clear hT hR hg h1 h2 h3 h4 hrel hgood c0 c2 c4 c6 hpb
        go_enter Try.func53, Try.ntmps53
        go_wp2_with fail
        refine (is_any _ _).mono ?_
        rintro e w1 ⟨rfl, rfl⟩
        rw [hn]
        go_wp2_with fail
        go_ret
        exact ⟨rfl, HR.out⟩

end Go.Proofs.Ythkieoedidpkaaa
