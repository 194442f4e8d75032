/-
  Contracts of package vgic's Lrs and of the law's own 'lists' over the translation. No statement is proved here.
-/
import Derived.Test.YtlbflaebjicmaaaVgAll
namespace Go.Proofs.Ytlbflaebjicmaaa
open Go.RowKit Go.Sort

/-- A slice's address that leads to these registers. -/
def LrA (w : World) (a : Option Addr) (L : List Lr) : Prop :=
  ∀ i x, L[i]? = some x → ∃ g, a = some ⟨g, 0, none⟩ ∧ w.cell? ⟨g, i * 5, none⟩ = some (.int .i64 x.id) ∧ w.cell? ⟨g, i * 5 + 1, none⟩ = some (.int .i64 x.p) ∧ w.cell? ⟨g, i * 5 + 2, none⟩ = some (.bool x.lv) ∧ w.cell? ⟨g, i * 5 + 3, none⟩ = some (.bool x.pe) ∧ w.cell? ⟨g, i * 5 + 4, none⟩ = some (.bool x.ac)

theorem LrS.open {w : World} {B : Nat} {v : Value} {L : List Lr} (h : LrS w B v L) : ∃ a cap, v = .slice a L.length cap ∧ L.length ≤ cap ∧ cap ≤ maxLen ∧ LrA w a L ∧ LrS w B (.slice a L.length cap) L := by
  rcases h with ⟨rfl, rfl⟩ | ⟨g, cap, cs, rfl, hb, hc, hm, hr, hx⟩
  · exact ⟨none, 0, rfl, Nat.le_refl _, by simp [maxLen], fun i x h => by simp at h, Or.inl ⟨rfl, rfl⟩⟩
  · refine ⟨_, cap, rfl, hc, hm, fun i x h => ?_, Or.inr ⟨g, cap, cs, rfl, hb, hc, hm, hr, hx⟩⟩
    have q := hx i x h
    exact ⟨g, rfl, (hr.cell _).trans q.c0, (hr.cell _).trans q.c1, (hr.cell _).trans q.c2, (hr.cell _).trans q.c3, (hr.cell _).trans q.c4⟩

theorem neq_lr (i p i' p' : Int) (l e a l' e' a' : Bool) (w : World) : (binOp .neq 53 (.agg #[.int .i64 i, .int .i64 p, .bool l, .bool e, .bool a]) (.agg #[.int .i64 i', .int .i64 p', .bool l', .bool e', .bool a'])).run Try.prog w = .ok (.bool !(i == i' && (p == p' && (l == l' && (e == e' && a == a'))))) w := by
  simp [go_sem]
  repeat' split
  all_goals simp_all

theorem neq_is (x y : Lr) : (!(x.id == y.id && (x.p == y.p && (x.lv == y.lv && (x.pe == y.pe && x.ac == y.ac))))) = !decide (x = y) := by
  obtain ⟨i, p, l, e, a⟩ := x
  obtain ⟨i', p', l', e', a'⟩ := y
  by_cases h : (⟨i, p, l, e, a⟩ : Lr) = ⟨i', p', l', e', a'⟩
  · cases h; simp
  · rw [decide_eq_false h]
    simp only [Lr.mk.injEq] at h
    cases he : (i == i' && (p == p' && (l == l' && (e == e' && a == a')))) with
    | false => rfl
    | true => simp only [Bool.and_eq_true, beq_iff_eq] at he; exact (h he).elim

set_option maxHeartbeats 2000000 in
theorem lists_any (w : World) (a1 a2 : Option Addr) (c1 c2 : Nat) (L1 L2 : List Lr) (h1 : LrA w a1 L1) (h2 : LrA w a2 L2) (hl1 : L1.length ≤ 1000) :
    Calls Try.prog 19 #[.slice a1 L1.length c1, .slice a2 L2.length c2] w fun e w' => e = .returned (.bool (decide (L1 = L2))) ∧ Fr none' w w' := by
  by_cases hn : L1.length = L2.length
  · have HA : Hid (LrA w a1 L1 ∧ LrA w a2 L2 ∧ L1.length = L2.length) := ⟨h1, h2, hn⟩
    rw [← hn]
    generalize hnn : L1.length = n at *
    have HN : Hid (L1.length = n ∧ L2.length = n) := ⟨hnn, hn.symm⟩
    have u0 : ((n : Int) != (n : Int)) = false := by simp
    clear h1 h2 hn hnn
    go_enter Try.func19, Try.ntmps19
    go_wp2_with fail
    go_loopw [5] (fun i wr => ∃ k : Nat, k ≤ n ∧ i = .int .i64 k ∧ Fr none' w wr ∧ L1.take k = L2.take k) (fun i _ => n - (intOf i).toNat)
    case atStart => exact ⟨0, by omega, rfl, Fr.refl _ _, by simp⟩
    case round =>
      obtain ⟨k, hk, rfl, fk, ht⟩ := hrel
      have HT : Hid (L1.take k = L2.take k) := ht
      clear ht
      by_cases hlt : k < n
      · obtain ⟨x, hx⟩ : ∃ x, L1[k]? = some x := ⟨_, List.getElem?_eq_getElem (by rw [HN.out.1]; exact hlt)⟩
        obtain ⟨y, hy⟩ : ∃ y, L2[k]? = some y := ⟨_, List.getElem?_eq_getElem (by rw [HN.out.2]; exact hlt)⟩
        obtain ⟨g, rfl, p0, p1, p2, p3, p4⟩ := HA.out.1 k x hx
        obtain ⟨g', rfl, q0, q1, q2, q3, q4⟩ := HA.out.2.1 k y hy
        have k0 := cell_keep fk p0 (fun h => h)
        have k1 := cell_keep fk p1 (fun h => h)
        have k2 := cell_keep fk p2 (fun h => h)
        have k3 := cell_keep fk p3 (fun h => h)
        have k4 := cell_keep fk p4 (fun h => h)
        have m0 := cell_keep fk q0 (fun h => h)
        have m1 := cell_keep fk q1 (fun h => h)
        have m2 := cell_keep fk q2 (fun h => h)
        have m3 := cell_keep fk q3 (fun h => h)
        have m4 := cell_keep fk q4 (fun h => h)
        have i1 : 0 ≤ (k : Int) ∧ (k : Int) < (n : Int) := by omega
        have u1 : decide (k < n) = true := decide_eq_true hlt
        have hcmp : ∀ W, (binOp .neq 53 (.agg #[.int .i64 x.id, .int .i64 x.p, .bool x.lv, .bool x.pe, .bool x.ac]) (.agg #[.int .i64 y.id, .int .i64 y.p, .bool y.lv, .bool y.pe, .bool y.ac])).run Try.prog W = .ok (.bool !decide (x = y)) W := fun W => by rw [neq_lr, neq_is]
        have HX : Hid (L1[k]? = some x ∧ L2[k]? = some y) := ⟨hx, hy⟩
        clear p0 p1 p2 p3 p4 q0 q1 q2 q3 q4 hx hy
        by_cases he : x = y
        · have HS : Hid (L1.take (k + 1) = L2.take (k + 1)) := by
            show _ = _
            rw [List.take_add_one, List.take_add_one, HT.out, HX.out.1, HX.out.2, he]
          rw [decide_eq_true he] at hcmp
          generalize x.id = xi at *; generalize x.p = xp at *; generalize x.lv = xl at *; generalize x.pe = xe at *; generalize x.ac = xa at *
          generalize y.id = yi at *; generalize y.p = yp at *; generalize y.lv = yl at *; generalize y.pe = ye at *; generalize y.ac = ya at *
          clear he
          go_wp2_with fail
          go_quiet (fail)
          go_wp2_with fail
          go_roundw
          case rel => exact ⟨k + 1, by omega, by go_num, fk.trans (fr_drewN _ _), HS.out⟩
          case measure => simp [intOf]; omega
        · have HD : Hid (L1 ≠ L2) := fun e => he (by
            have h := HX.out
            rw [e, h.2] at h
            exact (Option.some.inj h.1).symm)
          rw [decide_eq_false he] at hcmp
          generalize x.id = xi at *; generalize x.p = xp at *; generalize x.lv = xl at *; generalize x.pe = xe at *; generalize x.ac = xa at *
          generalize y.id = yi at *; generalize y.p = yp at *; generalize y.lv = yl at *; generalize y.pe = ye at *; generalize y.ac = ya at *
          clear he
          go_wp2_with fail
          go_quiet (fail)
          go_wp2_with fail
          go_ret
          exact ⟨ret_bool (decide_eq_false HD.out).symm, fk.trans (fr_drewN _ _)⟩
      · obtain rfl : k = n := by omega
        have u1 : decide (k < k) = false := by simp
        have HS : Hid (L1 = L2) := by
          have h := HT.out
          rw [List.take_of_length_le (by rw [HN.out.1]; exact Nat.le_refl _), List.take_of_length_le (by rw [HN.out.2]; exact Nat.le_refl _)] at h
          exact h
        go_wp2_with fail
        go_ret
        exact ⟨ret_bool (decide_eq_true HS.out).symm, fk⟩
  · have u0 : ((L1.length : Int) != (L2.length : Int)) = true := by simp; omega
    have u1 : (L1.length != L2.length) = true := by simpa using hn
    have HD : Hid (L1 ≠ L2) := fun e => hn (by rw [e])
    clear h1 h2 hn
    go_enter Try.func19, Try.ntmps19
    go_wp2_with fail
    go_ret
    exact ⟨ret_bool (decide_eq_false HD.out).symm, Fr.refl _ _⟩

theorem LrS.take {w : World} {B : Nat} {a : Option Addr} {cap : Nat} {L : List Lr} (h : LrS w B (.slice a L.length cap) L) (n : Nat) (hn : n ≤ L.length) : LrS w B (.slice a n cap) (L.take n) := by
  rcases h with ⟨rfl, h⟩ | ⟨g, cap', cs, h, hb, hc, hm, hr, hx⟩
  · cases h
    obtain rfl : n = 0 := by simpa using hn
    exact Or.inl ⟨rfl, rfl⟩
  · cases h
    refine Or.inr ⟨g, cap, cs, by rw [List.length_take, Nat.min_eq_left hn], hb, by rw [List.length_take]; omega, hm, hr, fun i x hi => hx i x ?_⟩
    rw [List.getElem?_take] at hi
    split at hi
    · exact hi
    · cases hi

set_option maxHeartbeats 1000000 in
theorem lrs_any (w : World) (B : Bk) (S : Vg) (h : IsVg w B S) :
    Calls Try.prog 18 #[.pointer (some ⟨B.b, 0, none⟩)] w fun e w' => ∃ v, e = .returned v ∧ LrS w' w.heap.size v ((allL S).take S.lrs.toNat) ∧ Fr none' w w' := by
  have ha := all_any w B S h
  have hg := h.good
  have hlen := len_all hg
  go_enter Try.func18, Try.ntmps18
  go_wp2_with fail
  refine ha.mono ?_
  rintro e w1 ⟨v, rfl, hv, f1⟩
  obtain ⟨a, cap, rfl, hcap, hmax, _, hs⟩ := hv.open
  obtain ⟨c0, c1, c2, c3⟩ := (h.keep0 f1).cells
  obtain ⟨hl1, hl2⟩ := hg.lrs
  obtain ⟨r, hr⟩ : ∃ r : Nat, S.lrs = (r : Int) := ⟨S.lrs.toNat, by omega⟩
  rw [hr] at c0 hl1 hl2
  have HS : Hid (LrS w1 w.heap.size (.slice a (allL S).length cap) (allL S)) := hs
  have HE : Hid (S.lrs.toNat = r) := by show _ = _; rw [hr]; simp
  have HT : Hid ((allL S).take S.lrs.toNat = (allL S).take r) := by show _ = _; rw [HE.out]
  generalize hn : (allL S).length = n at *
  have HN : Hid ((allL S).length = n) := hn
  clear ha hv hs h hg c1 c2 c3 hn hr
  have i1 : 0 ≤ min (r : Int) (n : Int) ∧ min (r : Int) (n : Int) ≤ (cap : Int) := by omega
  go_wp2_with fail
  go_ret
  have e1 : (min (r : Int) (n : Int)).toNat = min r n := by omega
  have e2 : (allL S).take S.lrs.toNat = (allL S).take (min r n) := by
    rw [HT.out, ← HN.out]
    rw [← List.take_take, List.take_of_length_le (Nat.le_refl (allL S).length)]
  rw [e2]
  refine ⟨_, rfl, ?_, f1⟩
  have hs := HS.out
  rw [← HN.out] at hs
  have := hs.take (min r n) (by rw [HN.out]; omega)
  show LrS w1 w.heap.size (.slice a (min (r : Int) (n : Int)).toNat cap) _
  rw [e1]
  exact this

end Go.Proofs.Ytlbflaebjicmaaa
