/-
  GicUrgent over the translation: whatever acts came in, the law returns true, and nothing old turns. No statement is proved here.
-/
import Derived.Test.YtcenojdcmmflaaaGicActs
import Derived.Deep.CutBlock
import Derived.Deep.CutRange
namespace Go.Proofs.Ytcenojdcmmflaaa
open Go.RowKit

/-- Cells that show what State told of the first n lines. -/
def IsLrs (get : Nat → Option Value) (n : Nat) (T : Nat → Li) : Prop :=
  ∀ j, j < n → get (j * 5) = some (.int .i64 (j : Int)) ∧ get (j * 5 + 1) = some (.int .i64 (T j).p) ∧ get (j * 5 + 2) = some (.bool (T j).en) ∧ get (j * 5 + 3) = some (.bool (T j).pe) ∧ get (j * 5 + 4) = some (.bool (act (T j)))

def LrRow (w : World) (g n : Nat) (T : Nat → Li) : Prop := ∃ cs, Row w g cs 40 ∧ cs.size = 160 ∧ IsLrs (fun i => cs[i]?) n T

section
variable {w : World} {g n : Nat} {T : Nat → Li}

theorem LrRow.keep {S : Nat → Prop} {w' : World} (h : LrRow w g n T) (f : Fr S w w') (hs : ¬ S g) : LrRow w' g n T := by
  obtain ⟨cs, h, r⟩ := h; exact ⟨cs, h.keep f hs, r⟩
theorem LrRow.lt (h : LrRow w g n T) : g < w.heap.size := by obtain ⟨cs, h, _⟩ := h; exact h.lt
theorem LrRow.frozen (h : LrRow w g n T) (i : Nat) : w.frozen? ⟨g, i, none⟩ = false := by obtain ⟨cs, h, _⟩ := h; exact h.frozen i
theorem LrRow.cells (h : LrRow w g n T) (j : Nat) (hj : j < n) :
    w.cell? ⟨g, j * 5, none⟩ = some (.int .i64 (j : Int)) ∧ w.cell? ⟨g, j * 5 + 1, none⟩ = some (.int .i64 (T j).p) ∧ w.cell? ⟨g, j * 5 + 2, none⟩ = some (.bool (T j).en) ∧ w.cell? ⟨g, j * 5 + 3, none⟩ = some (.bool (T j).pe) ∧ w.cell? ⟨g, j * 5 + 4, none⟩ = some (.bool (act (T j))) := by
  obtain ⟨cs, hr, _, he⟩ := h
  obtain ⟨h0, h1, h2, h3, h4⟩ := he j hj
  exact ⟨(hr.cell _).trans h0, (hr.cell _).trans h1, (hr.cell _).trans h2, (hr.cell _).trans h3, (hr.cell _).trans h4⟩
theorem LrRow.olds (h : LrRow w g n T) (j : Nat) (hj : j < 160) : ∃ v, w.cell? ⟨g, j, none⟩ = some v := by
  obtain ⟨cs, hr, hs, he⟩ := h
  exact ⟨cs[j]'(by omega), (hr.cell _).trans (Array.getElem?_eq_getElem (by omega))⟩
theorem LrRow.next (h : LrRow w g n T) (hn : n < 32) :
    LrRow (((((w.setCell ⟨g, n * 5, none⟩ (.int .i64 (n : Int))).setCell ⟨g, n * 5 + 1, none⟩ (.int .i64 (T n).p)).setCell ⟨g, n * 5 + 2, none⟩ (.bool (T n).en)).setCell ⟨g, n * 5 + 3, none⟩ (.bool (T n).pe)).setCell ⟨g, n * 5 + 4, none⟩ (.bool (act (T n)))) g (n + 1) T := by
  obtain ⟨cs, hr, hs, he⟩ := h
  refine ⟨_, ((((hr.setCell _ _).setCell _ _).setCell _ _).setCell _ _).setCell _ _, by simpa using hs, fun j hj => ?_⟩
  by_cases e : j = n
  · subst e
    simp (disch := (first | omega | (simp only [Array.size_setIfInBounds]; omega))) only [Array.getElem?_setIfInBounds, if_neg, if_pos, if_true]
    exact ⟨trivial, trivial, trivial, trivial, trivial⟩
  · obtain ⟨h0, h1, h2, h3, h4⟩ := he j (by omega)
    simp (disch := omega) only [Array.getElem?_setIfInBounds, if_neg]
    exact ⟨h0, h1, h2, h3, h4⟩

end

set_option maxRecDepth 100000 in
theorem zero_lrs : ∃ Z : Array Value, (∀ w, Sem.run Try.prog (zeroValue 40) w = .ok (.agg Z) w) ∧ Z.size = 160 :=
  ⟨#[.int .i64 0, .int .i64 0, .bool false, .bool false, .bool false, .int .i64 0, .int .i64 0, .bool false, .bool false, .bool false, .int .i64 0, .int .i64 0, .bool false, .bool false, .bool false, .int .i64 0, .int .i64 0, .bool false, .bool false, .bool false, .int .i64 0, .int .i64 0, .bool false, .bool false, .bool false, .int .i64 0, .int .i64 0, .bool false, .bool false, .bool false, .int .i64 0, .int .i64 0, .bool false, .bool false, .bool false, .int .i64 0, .int .i64 0, .bool false, .bool false, .bool false, .int .i64 0, .int .i64 0, .bool false, .bool false, .bool false, .int .i64 0, .int .i64 0, .bool false, .bool false, .bool false, .int .i64 0, .int .i64 0, .bool false, .bool false, .bool false, .int .i64 0, .int .i64 0, .bool false, .bool false, .bool false, .int .i64 0, .int .i64 0, .bool false, .bool false, .bool false, .int .i64 0, .int .i64 0, .bool false, .bool false, .bool false, .int .i64 0, .int .i64 0, .bool false, .bool false, .bool false, .int .i64 0, .int .i64 0, .bool false, .bool false, .bool false, .int .i64 0, .int .i64 0, .bool false, .bool false, .bool false, .int .i64 0, .int .i64 0, .bool false, .bool false, .bool false, .int .i64 0, .int .i64 0, .bool false, .bool false, .bool false, .int .i64 0, .int .i64 0, .bool false, .bool false, .bool false, .int .i64 0, .int .i64 0, .bool false, .bool false, .bool false, .int .i64 0, .int .i64 0, .bool false, .bool false, .bool false, .int .i64 0, .int .i64 0, .bool false, .bool false, .bool false, .int .i64 0, .int .i64 0, .bool false, .bool false, .bool false, .int .i64 0, .int .i64 0, .bool false, .bool false, .bool false, .int .i64 0, .int .i64 0, .bool false, .bool false, .bool false, .int .i64 0, .int .i64 0, .bool false, .bool false, .bool false, .int .i64 0, .int .i64 0, .bool false, .bool false, .bool false, .int .i64 0, .int .i64 0, .bool false, .bool false, .bool false, .int .i64 0, .int .i64 0, .bool false, .bool false, .bool false, .int .i64 0, .int .i64 0, .bool false, .bool false, .bool false, .int .i64 0, .int .i64 0, .bool false, .bool false, .bool false], fun w => by kernel_rfl, rfl⟩

set_option maxRecDepth 100000 in
set_option maxHeartbeats 4000000 in
theorem urgent_row (a0 : Option Addr) (len cap : Nat) (w : World) (hl : len ≤ 9223372036854775807) (ha : Acts w a0 len) :
    Calls Try.prog 4 #[.slice a0 len cap] w fun e w' => e = .returned (.bool true) ∧ Fr none' w w' := by
  have HA : Hid (Acts w a0 len) := ha
  obtain ⟨Z, hz, hzs⟩ := zero_lrs
  have HZ := hid hzs
  have hq := neq_lr
  clear ha hzs
  go_enter Try.func4, Try.ntmps4
  go_wp2_with fail
  refine (awake_any _).mono ?_
  rintro e w1 ⟨rfl, f1⟩
  go_wp2_with fail
  refine (new_any _).mono ?_
  rintro e w2 ⟨bt, rfl, hb, f2, t2⟩
  replace f2 := f1.trans f2
  replace hb := Nat.le_trans f1.size hb
  go_wp2_with fail
  refine (rnew_any _).mono ?_
  rintro e w3 ⟨br, rfl, hr, f3, t3⟩
  have p2 : Pair w3 w.heap.size bt br (fun _ => zi) 256 := ⟨hb, Nat.le_trans f2.size hr, Nat.ne_of_lt (Nat.lt_of_lt_of_le t2.lt hr), t2.keep f3 (fun h => h), t3, good_zero⟩
  replace f2 := f2.trans f3
  clear f1 t2 t3 f3 hb hr
  go_upto_block 0 with fail
  go_cut [6] from 25 to 41 (fun s wx => ∃ (T : Nat → Li) (m : Int), Fr none' w wx ∧ Pair wx w.heap.size bt br T m)
  case first =>
    go_wp2_with fail
    go_loopw [6] (fun i wr => ∃ (k : Nat) (T : Nat → Li) (m : Int), k ≤ len ∧ k ≤ 100 ∧ i = .int .i64 k ∧ Fr none' w wr ∧ Pair wr w.heap.size bt br T m) (fun i _ => 100 - (intOf i).toNat)
    case atStart => exact ⟨0, fun _ => zi, 256, by omega, by omega, rfl, f2, p2⟩
    case round =>
      clear f2 p2
      obtain ⟨k, T, m, hk1, hk2, rfl, fk, pk⟩ := hrel
      by_cases hkl : k < len
      · by_cases hk3 : k < 100
        · obtain ⟨b, o, d, n, x, on, rfl, hact⟩ := HA.out k hkl
          obtain ⟨c0, c1, c2, c3⟩ := hact.keep fk (fun h => h)
          have i1 : 0 ≤ (k : Int) ∧ (k : Int) < (len : Int) := by omega
          have u1 : decide ((k : Int) < (len : Int)) = true := decide_eq_true (by omega)
          have u2 : decide ((k : Int) < 100) = true := decide_eq_true (by omega)
          go_wp2_with fail
          refine (does_any _ _ _ _ _ _ pk d n x on).mono ?_
          rintro e w5 ⟨rfl, f5, p5⟩
          replace f5 := fk.pair f5 pk.new1 pk.new2
          clear c0 c1 c2 c3 hact fk pk
          go_wp2_with fail
          go_roundw
          case rel => exact ⟨k + 1, stepT d n x on T m, stepM d x m, by omega, by omega, by go_num, f5, p5⟩
          case measure => simp [intOf]; omega
        · have u1 : decide ((k : Int) < (len : Int)) = true := decide_eq_true (by omega)
          have u2 : decide ((k : Int) < 100) = false := decide_eq_false (by omega)
          go_wp2_with fail
          go_meet
          exact ⟨T, m, fk, pk⟩
      · have u1 : decide ((k : Int) < (len : Int)) = false := decide_eq_false (by omega)
        go_wp2_with fail
        go_meet
        exact ⟨T, m, fk, pk⟩
  case rest =>
  clear f2 p2 HA
  obtain ⟨T, m, fk, pk⟩ := hcut
  go_wp2_with fail
  refine (running_any _ _ _ _ pk.gic).mono ?_
  rintro e w4 ⟨rfl, f4⟩
  replace fk := fk.trans f4
  replace pk := pk.keep0 f4
  clear f4
  have cm := pk.ref.mask
  have f5 := (Fr.refl none' w4).alloc (.cells Z 40)
  have l0 : LrRow (w4.alloc (.cells Z 40)) w4.heap.size 0 T := ⟨Z, row_alloc _ _ _, HZ.out, fun j hj => by omega⟩
  have HB := hid fk.size
  have hnt : w4.heap.size ≠ bt := Nat.ne_of_gt pk.gic.lt
  have hnr : w4.heap.size ≠ br := Nat.ne_of_gt pk.ref.lt
  replace fk := fk.trans f5
  replace pk := pk.keep0 f5
  go_wp2_with fail
  go_loopw [10] (fun i wr => ∃ k : Nat, k ≤ 32 ∧ i = .int .i64 k ∧ Fr none' w wr ∧ Pair wr w.heap.size bt br T m ∧ LrRow wr w4.heap.size k T) (fun i _ => 32 - (intOf i).toNat)
  case atStart => exact ⟨0, by omega, rfl, fk, pk, l0⟩
  case round =>
    clear fk pk l0 f5 cm
    obtain ⟨k, hk, rfl, fk, pk, lk⟩ := hrel
    by_cases hlt : k < 32
    · have i1 : 0 ≤ (k : Int) ∧ (k : Int) < 32 := by omega
      have u1 : decide ((k : Int) < 32) = true := decide_eq_true (by omega)
      have H := state_in _ _ _ _ pk.gic k hlt
      unfold lrc at H
      go_wp2_with fail
      refine H.mono ?_
      rintro e w5 ⟨rfl, f5⟩
      replace fk := fk.trans f5
      replace pk := pk.keep0 f5
      replace lk := lk.keep f5 (fun h => h)
      clear f5 H
      have fa := (Fr.refl none' w5).alloc (.cells #[.int .i64 (k : Int), .int .i64 (T k).p, .bool (T k).en, .bool (T k).pe, .bool (act (T k))] 39)
      have ra := row_alloc w5 #[.int .i64 (k : Int), .int .i64 (T k).p, .bool (T k).en, .bool (T k).pe, .bool (act (T k))] 39
      have hn5 : w4.heap.size ≠ w5.heap.size := Nat.ne_of_lt lk.lt
      replace pk := pk.keep0 fa
      replace fk := fk.trans fa
      replace lk := lk.keep fa (fun h => h)
      obtain ⟨d0, d1, d2, d3, d4⟩ := row5 ra
      obtain ⟨v0, c0⟩ := lk.olds (k * 5) (by omega)
      obtain ⟨v1, c1⟩ := lk.olds (k * 5 + 1) (by omega)
      obtain ⟨v2, c2⟩ := lk.olds (k * 5 + 2) (by omega)
      obtain ⟨v3, c3⟩ := lk.olds (k * 5 + 3) (by omega)
      obtain ⟨v4, c4⟩ := lk.olds (k * 5 + 4) (by omega)
      have g0 := lk.frozen (k * 5)
      have g1 := lk.frozen (k * 5 + 1)
      have g2 := lk.frozen (k * 5 + 2)
      have g3 := lk.frozen (k * 5 + 3)
      have g4 := lk.frozen (k * 5 + 4)
      go_wp2_with fail
      go_roundw
      case rel =>
        have f6 : Fr (at' w4.heap.size) (w5.alloc (.cells #[.int .i64 (k : Int), .int .i64 (T k).p, .bool (T k).en, .bool (T k).pe, .bool (act (T k))] 39)) (((((((w5.alloc (.cells #[.int .i64 (k : Int), .int .i64 (T k).p, .bool (T k).en, .bool (T k).pe, .bool (act (T k))] 39)).setCell ⟨w4.heap.size, k * 5, none⟩ (.int .i64 (k : Int))).setCell ⟨w4.heap.size, k * 5 + 1, none⟩ (.int .i64 (T k).p)).setCell ⟨w4.heap.size, k * 5 + 2, none⟩ (.bool (T k).en)).setCell ⟨w4.heap.size, k * 5 + 3, none⟩ (.bool (T k).pe)).setCell ⟨w4.heap.size, k * 5 + 4, none⟩ (.bool (act (T k))))) :=
          fr_set _ _ _ _ (fr_set _ _ _ _ (fr_set _ _ _ _ (fr_set _ _ _ _ (fr_set _ _ _ _ (Fr.refl _ _)))))
        exact ⟨k + 1, by omega, by go_num, fk.newer f6 HB.out, ⟨pk.new1, pk.new2, pk.ne, pk.gic.keep f6 (fun e => hnt e.symm), pk.ref.keep f6 (fun e => hnr e.symm), pk.good⟩, lk.next hlt⟩
      case measure => simp [intOf]; omega
    · obtain rfl : k = 32 := by omega
      obtain ⟨w6, hw6⟩ : ∃ w6, w6 = wr := ⟨wr, rfl⟩
      subst hw6
      have A := ack_any _ _ _ _ pk.gic
      cases ho : nextO T m with
      | false =>
        obtain ⟨ea, et⟩ := ack_no ho
        rw [ea, et] at A
        go_wp2_with fail
        refine A.mono ?_
        rintro e w7 ⟨rfl, f7, t7⟩
        have l7 := lk.keep f7 hnt
        replace f7 := fk.lone f7 pk.new1
        have hG := hid (fun (j : Nat) (hj : j < 32) => next_none (j := j) ho hj)
        clear A ea et lk pk fk
        go_wp2_with fail
        go_loopw [14] (fun i wr => ∃ k : Nat, k ≤ 32 ∧ i = .int .i64 k ∧ Fr none' w wr ∧ IsGic wr bt T m ∧ LrRow wr w4.heap.size 32 T) (fun i _ => 32 - (intOf i).toNat)
        case atStart => exact ⟨0, by omega, rfl, f7, t7, l7⟩
        case round =>
          clear f7 t7 l7
          obtain ⟨k, hk, rfl, fk, tk, lk⟩ := hrel
          by_cases hlt : k < 32
          · have hmay := hG.out k hlt
            have i1 : 0 ≤ (k : Int) ∧ (k : Int) < 32 := by omega
            have u1 : decide ((k : Int) < 32) = true := decide_eq_true (by omega)
            have fa := (Fr.refl none' wr).alloc (.cells #[.int .i64 (k : Int), .int .i64 (T k).p, .bool (T k).en, .bool (T k).pe, .bool (act (T k))] 39)
            have ra := row_alloc wr #[.int .i64 (k : Int), .int .i64 (T k).p, .bool (T k).en, .bool (T k).pe, .bool (act (T k))] 39
            obtain ⟨c0, c1, c2, c3, c4⟩ := lk.cells k hlt
            replace fk := fk.trans fa
            replace tk := tk.keep fa (fun h => h)
            replace lk := lk.keep fa (fun h => h)
            obtain ⟨d0, d1, d2, d3, d4⟩ := row5 ra
            go_upto_region 23 with fail
            go_cut [16] from 63 to 157 (fun s wx => s = .bool (may (bound T m) (T k)) ∧ wx = wr.alloc (.cells #[.int .i64 (k : Int), .int .i64 (T k).p, .bool (T k).en, .bool (T k).pe, .bool (act (T k))] 39))
            case first =>
              clear c0 c1 c2 c3 c4 fk tk lk ra fa
              cases h1 : (T k).en with
              | false =>
                rw [h1] at d2
                go_wp2_with fail
                go_meet
                exact ⟨by rw [may_two]; simp [h1], by rw [h1]⟩
              | true =>
                rw [h1] at d2
                cases h2 : (T k).pe with
                | false =>
                  rw [h2] at d3
                  go_wp2_with fail
                  go_meet
                  exact ⟨by rw [may_two]; simp [h1, h2], by rw [h1, h2]⟩
                | true =>
                  rw [h2] at d3
                  cases h3 : act (T k) with
                  | true =>
                    rw [h3] at d4
                    go_wp2_with fail
                    go_meet
                    exact ⟨by rw [may_two]; simp [h1, h2, h3], by rw [h1, h2, h3]⟩
                  | false =>
                    rw [h3] at d4
                    cases h4 : decide ((T k).p < m) with
                    | false =>
                      go_wp2_with fail
                      go_meet
                      exact ⟨by rw [may_two]; simp [h1, h2, h3, h4], by rw [h1, h2, h3]⟩
                    | true =>
                      go_wp2_with fail
                      go_meet
                      exact ⟨by rw [may_two]; simp [h1, h2, h3, h4], by rw [h1, h2, h3]⟩
            case rest =>
            clear c0 c1 c2 c3 c4
            rw [hmay] at hcut
            obtain ⟨rfl, rfl⟩ := hcut
            have u3 : ((1023 : Int) == 1023) = true := by decide
            have u4 : ((1023 : Int) != 1023) = false := by decide
            have u5 : ((k : Int) != 1023) = true := by simp; omega
            have u6 : ((k : Int) == 1023) = false := by simp; omega
            have H : ∀ w', Fr none' (wr.alloc (.cells #[.int .i64 (k : Int), .int .i64 (T k).p, .bool (T k).en, .bool (T k).pe, .bool (act (T k))] 39)) w' → Calls Try.prog 14 #[.pointer (some ⟨bt, 0, none⟩), .int .i64 (k : Int)] w' fun e w2 => e = .returned (.tuple #[.agg #[.int .i64 (k : Int), .int .i64 (T k).p, .bool (T k).en, .bool (T k).pe, .bool (act (T k))], .int .i64 0]) ∧ Fr none' w' w2 := fun w' f => by
              have := state_in w' bt _ m (tk.keep f (fun h => h)) k hlt
              exact this
            go_upto_region 26 with fail
            refine wp_region_any (by kernel_rfl) ?_
            change wpAny _ _ _ _ _ _ _ (World.drew _)
            refine wpAny_take (i := 0) (v := ?_) rfl (by kernel_rfl) (by kernel_rfl) (by kernel_rfl) (fun _ _ _ h => h) (Or.inl ⟨by kernel_rfl, fun w => ?_⟩) ?_
            rotate_left
            · go_simp
              try with_reducible rfl
            show wpAny _ _ _ _ _ _ (Act.put _ (some 98) _) _
            simp only [Act.put, List.setIfInBounds_toArray, List.set_cons_succ, List.set_cons_zero]
            refine wpAny_take (i := 1) (v := ?_) rfl (by kernel_rfl) (by kernel_rfl) (by kernel_rfl) (fun _ _ _ h => h) (Or.inl ⟨by kernel_rfl, fun w => ?_⟩) ?_
            rotate_left
            · go_simp
              try with_reducible rfl
            show wpAny _ _ _ _ _ _ (Act.put _ (some 99) _) _
            simp only [Act.put, List.setIfInBounds_toArray, List.set_cons_succ, List.set_cons_zero]
            refine wpAny_take (i := 2) (v := ?_) rfl (by kernel_rfl) (by kernel_rfl) (by kernel_rfl) (fun _ _ _ h => h) (Or.inl ⟨by kernel_rfl, fun w => ?_⟩) ?_
            rotate_left
            · go_simp
              try with_reducible rfl
            show wpAny _ _ _ _ _ _ (Act.put _ (some 100) _) _
            simp only [Act.put, List.setIfInBounds_toArray, List.set_cons_succ, List.set_cons_zero]
            refine wpAny_take (i := 3) (v := undef) rfl (by kernel_rfl) (by kernel_rfl) (by kernel_rfl) (fun _ _ _ h => h) (Or.inr ⟨by kernel_rfl, rfl⟩) ?_
            show wpAny _ _ _ _ _ _ (Act.put _ (some 101) _) _
            simp only [Act.put, List.setIfInBounds_toArray, List.set_cons_succ, List.set_cons_zero]
            refine wpAny_take (i := 4) (v := ?_) rfl (by kernel_rfl) (by kernel_rfl) (by kernel_rfl) (fun _ _ _ h => h) (Or.inl ⟨by kernel_rfl, fun w => ?_⟩) ?_
            rotate_left
            · go_simp
              try with_reducible rfl
            show wpAny _ _ _ _ _ _ (Act.put _ (some 102) _) _
            simp only [Act.put, List.setIfInBounds_toArray, List.set_cons_succ, List.set_cons_zero]
            refine wpAny_take (i := 5) (v := ?_) rfl (by kernel_rfl) (by kernel_rfl) (by kernel_rfl) (fun _ _ _ h => h) (Or.inl ⟨by kernel_rfl, fun w => ?_⟩) ?_
            rotate_left
            · go_simp
              try with_reducible rfl
            show wpAny _ _ _ _ _ _ (Act.put _ (some 103) _) _
            simp only [Act.put, List.setIfInBounds_toArray, List.set_cons_succ, List.set_cons_zero]
            refine wpAny_take (i := 6) (v := undef) rfl (by kernel_rfl) (by kernel_rfl) (by kernel_rfl) (fun _ _ _ h => h) (Or.inr ⟨by kernel_rfl, rfl⟩) ?_
            show wpAny _ _ _ _ _ _ (Act.put _ (some 104) _) _
            simp only [Act.put, List.setIfInBounds_toArray, List.set_cons_succ, List.set_cons_zero]
            refine wpAny_take (i := 7) (v := undef) rfl (by kernel_rfl) (by kernel_rfl) (by kernel_rfl) (fun _ _ _ h => h) (Or.inr ⟨by kernel_rfl, rfl⟩) ?_
            show wpAny _ _ _ _ _ _ (Act.put _ (some 105) _) _
            simp only [Act.put, List.setIfInBounds_toArray, List.set_cons_succ, List.set_cons_zero]
            refine wpAny_take (i := 8) (v := undef) rfl (by kernel_rfl) (by kernel_rfl) (by kernel_rfl) (fun _ _ _ h => h) (Or.inr ⟨by kernel_rfl, rfl⟩) ?_
            show wpAny _ _ _ _ _ _ (Act.put _ (some 106) _) _
            simp only [Act.put, List.setIfInBounds_toArray, List.set_cons_succ, List.set_cons_zero]
            refine wpAny_take (i := 9) (v := undef) rfl (by kernel_rfl) (by kernel_rfl) (by kernel_rfl) (fun _ _ _ h => h) (Or.inr ⟨by kernel_rfl, rfl⟩) ?_
            show wpAny _ _ _ _ _ _ (Act.put _ (some 107) _) _
            simp only [Act.put, List.setIfInBounds_toArray, List.set_cons_succ, List.set_cons_zero]
            refine wpAny_take (i := 10) (v := undef) rfl (by kernel_rfl) (by kernel_rfl) (by kernel_rfl) (fun _ _ _ h => h) (Or.inr ⟨by kernel_rfl, rfl⟩) ?_
            show wpAny _ _ _ _ _ _ (Act.put _ (some 108) _) _
            simp only [Act.put, List.setIfInBounds_toArray, List.set_cons_succ, List.set_cons_zero]
            refine wpAny_take (i := 11) (v := undef) rfl (by kernel_rfl) (by kernel_rfl) (by kernel_rfl) (fun _ _ _ h => h) (Or.inr ⟨by kernel_rfl, rfl⟩) ?_
            show wpAny _ _ _ _ _ _ (Act.put _ (some 109) _) _
            simp only [Act.put, List.setIfInBounds_toArray, List.set_cons_succ, List.set_cons_zero]
            refine wpAny_take (i := 12) (v := undef) rfl (by kernel_rfl) (by kernel_rfl) (by kernel_rfl) (fun _ _ _ h => h) (Or.inr ⟨by kernel_rfl, rfl⟩) ?_
            show wpAny _ _ _ _ _ _ (Act.put _ (some 110) _) _
            simp only [Act.put, List.setIfInBounds_toArray, List.set_cons_succ, List.set_cons_zero]
            refine wpAny_take (i := 13) (v := undef) rfl (by kernel_rfl) (by kernel_rfl) (by kernel_rfl) (fun _ _ _ h => h) (Or.inr ⟨by kernel_rfl, rfl⟩) ?_
            show wpAny _ _ _ _ _ _ (Act.put _ (some 111) _) _
            simp only [Act.put, List.setIfInBounds_toArray, List.set_cons_succ, List.set_cons_zero]
            refine wpAny_take (i := 14) (v := undef) rfl (by kernel_rfl) (by kernel_rfl) (by kernel_rfl) (fun _ _ _ h => h) (Or.inr ⟨by kernel_rfl, rfl⟩) ?_
            show wpAny _ _ _ _ _ _ (Act.put _ (some 112) _) _
            simp only [Act.put, List.setIfInBounds_toArray, List.set_cons_succ, List.set_cons_zero]
            refine wpAny_take (i := 15) (v := undef) rfl (by kernel_rfl) (by kernel_rfl) (by kernel_rfl) (fun _ _ _ h => h) (Or.inr ⟨by kernel_rfl, rfl⟩) ?_
            show wpAny _ _ _ _ _ _ (Act.put _ (some 113) _) _
            simp only [Act.put, List.setIfInBounds_toArray, List.set_cons_succ, List.set_cons_zero]
            refine wpAny_take (i := 16) (v := undef) rfl (by kernel_rfl) (by kernel_rfl) (by kernel_rfl) (fun _ _ _ h => h) (Or.inr ⟨by kernel_rfl, rfl⟩) ?_
            show wpAny _ _ _ _ _ _ (Act.put _ (some 114) _) _
            simp only [Act.put, List.setIfInBounds_toArray, List.set_cons_succ, List.set_cons_zero]
            refine wpAny_take (i := 17) (v := undef) rfl (by kernel_rfl) (by kernel_rfl) (by kernel_rfl) (fun _ _ _ h => h) (Or.inr ⟨by kernel_rfl, rfl⟩) ?_
            show wpAny _ _ _ _ _ _ (Act.put _ (some 115) _) _
            simp only [Act.put, List.setIfInBounds_toArray, List.set_cons_succ, List.set_cons_zero]
            refine wpAny_take (i := 18) (v := undef) rfl (by kernel_rfl) (by kernel_rfl) (by kernel_rfl) (fun _ _ _ h => h) (Or.inr ⟨by kernel_rfl, rfl⟩) ?_
            show wpAny _ _ _ _ _ _ (Act.put _ (some 116) _) _
            simp only [Act.put, List.setIfInBounds_toArray, List.set_cons_succ, List.set_cons_zero]
            refine wpAny_take (i := 19) (v := undef) rfl (by kernel_rfl) (by kernel_rfl) (by kernel_rfl) (fun _ _ _ h => h) (Or.inr ⟨by kernel_rfl, rfl⟩) ?_
            show wpAny _ _ _ _ _ _ (Act.put _ (some 117) _) _
            simp only [Act.put, List.setIfInBounds_toArray, List.set_cons_succ, List.set_cons_zero]
            refine wpAny_take (i := 20) (v := undef) rfl (by kernel_rfl) (by kernel_rfl) (by kernel_rfl) (fun _ _ _ h => h) (Or.inr ⟨by kernel_rfl, rfl⟩) ?_
            show wpAny _ _ _ _ _ _ (Act.put _ (some 118) _) _
            simp only [Act.put, List.setIfInBounds_toArray, List.set_cons_succ, List.set_cons_zero]
            refine wpAny_take (i := 21) (v := undef) rfl (by kernel_rfl) (by kernel_rfl) (by kernel_rfl) (fun _ _ _ h => h) (Or.inr ⟨by kernel_rfl, rfl⟩) ?_
            show wpAny _ _ _ _ _ _ (Act.put _ (some 119) _) _
            simp only [Act.put, List.setIfInBounds_toArray, List.set_cons_succ, List.set_cons_zero]
            refine wpAny_take (i := 22) (v := undef) rfl (by kernel_rfl) (by kernel_rfl) (by kernel_rfl) (fun _ _ _ h => h) (Or.inr ⟨by kernel_rfl, rfl⟩) ?_
            show wpAny _ _ _ _ _ _ (Act.put _ (some 120) _) _
            simp only [Act.put, List.setIfInBounds_toArray, List.set_cons_succ, List.set_cons_zero]
            refine wpAny_take (i := 23) (v := undef) rfl (by kernel_rfl) (by kernel_rfl) (by kernel_rfl) (fun _ _ _ h => h) (Or.inr ⟨by kernel_rfl, rfl⟩) ?_
            show wpAny _ _ _ _ _ _ (Act.put _ (some 121) _) _
            simp only [Act.put, List.setIfInBounds_toArray, List.set_cons_succ, List.set_cons_zero]
            refine wpAny_take (i := 24) (v := undef) rfl (by kernel_rfl) (by kernel_rfl) (by kernel_rfl) (fun _ _ _ h => h) (Or.inr ⟨by kernel_rfl, rfl⟩) ?_
            show wpAny _ _ _ _ _ _ (Act.put _ (some 122) _) _
            simp only [Act.put, List.setIfInBounds_toArray, List.set_cons_succ, List.set_cons_zero]
            refine wpAny_take (i := 25) (v := undef) rfl (by kernel_rfl) (by kernel_rfl) (by kernel_rfl) (fun _ _ _ h => h) (Or.inr ⟨by kernel_rfl, rfl⟩) ?_
            show wpAny _ _ _ _ _ _ (Act.put _ (some 123) _) _
            simp only [Act.put, List.setIfInBounds_toArray, List.set_cons_succ, List.set_cons_zero]
            refine wpAny_take (i := 26) (v := undef) rfl (by kernel_rfl) (by kernel_rfl) (by kernel_rfl) (fun _ _ _ h => h) (Or.inr ⟨by kernel_rfl, rfl⟩) ?_
            show wpAny _ _ _ _ _ _ (Act.put _ (some 124) _) _
            simp only [Act.put, List.setIfInBounds_toArray, List.set_cons_succ, List.set_cons_zero]
            refine wpAny_take (i := 27) (v := ?_) rfl (by kernel_rfl) (by kernel_rfl) (by kernel_rfl) (fun _ _ _ h => h) (Or.inl ⟨by kernel_rfl, fun w => ?_⟩) ?_
            rotate_left
            · go_simp
              try with_reducible rfl
            show wpAny _ _ _ _ _ _ (Act.put _ (some 125) _) _
            simp only [Act.put, List.setIfInBounds_toArray, List.set_cons_succ, List.set_cons_zero]
            refine wpAny_done (by kernel_rfl) ?_ _
            go_wp2_with fail
            refine (H _ (Fr.drew (Fr.refl none' _))).mono ?_
            rintro e w8 ⟨rfl, f8⟩
            replace f8 := f8.undrew
            replace fk := fk.trans f8
            replace tk := tk.keep f8 (fun h => h)
            replace lk := lk.keep f8 (fun h => h)
            replace ra := ra.keep f8 (fun h => h)
            clear f8 H d0 d1 d2 d3 d4
            have fb := (Fr.refl none' w8).alloc (.cells #[.int .i64 (k : Int), .int .i64 (T k).p, .bool (T k).en, .bool (T k).pe, .bool (act (T k))] 39)
            have rb := row_alloc w8 #[.int .i64 (k : Int), .int .i64 (T k).p, .bool (T k).en, .bool (T k).pe, .bool (act (T k))] 39
            have nb : wr.heap.size ≠ w8.heap.size := Nat.ne_of_lt ra.lt
            replace fk := fk.trans fb
            replace tk := tk.keep fb (fun h => h)
            replace lk := lk.keep fb (fun h => h)
            replace ra := ra.keep fb (fun h => h)
            obtain ⟨d0, d1, d2, d3, d4⟩ := row5 ra
            obtain ⟨e0, e1, e2, e3, e4⟩ := row5 rb
            go_wp2_with fail
            go_roundw
            case rel => exact ⟨k + 1, by omega, by go_num, fk, tk, lk⟩
            case measure => simp [intOf]; omega
          · obtain rfl : k = 32 := by omega
            have u7 : (run T == run T) = true := by simp
            have u8 : ((1023 : Int) == 1023) = true := by decide
            go_wp2_with fail
            refine (running_any _ _ _ _ tk).mono ?_
            rintro e w8 ⟨rfl, f8⟩
            go_wp2_with fail
            go_ret
            exact ⟨rfl, fk.trans f8⟩
      | true =>
        obtain ⟨q, hqe⟩ : ∃ q, nextL T m = q := ⟨_, rfl⟩
        obtain ⟨ea, et⟩ := ack_yes ho hqe
        have hq32 : q < 32 := hqe ▸ next_lt ho
        have hqm : may (bound T m) (T q) = true := hqe ▸ next_may ho
        have hrun : run (upd T q (fAck (T q))) = (T q).p := by rw [← et, run_ack ho, hqe]
        have hleast : ∀ j, j < 32 → may (bound T m) (T j) = true → (T q).p < (T j).p ∨ ((T q).p = (T j).p ∧ q ≤ j) := fun j hj hm => hqe ▸ next_least ho hj hm
        have hpq : (T q).p ≠ 256 := by have := pk.good.line q hq32; omega
        rw [ea, et] at A
        go_wp2_with fail
        refine A.mono ?_
        rintro e w7 ⟨rfl, f7, t7⟩
        have l7 := lk.keep f7 hnt
        replace f7 := fk.lone f7 pk.new1
        have HL := hid hleast
        have HQ := hid hqm
        have HP := hid hpq
        have HU := hid hrun
        have i2 : 0 ≤ (q : Int) ∧ (q : Int) < 32 := by omega
        clear A ea et lk pk fk hleast hqm hpq hrun ho hqe
        go_wp2_with fail
        go_loopw [14] (fun i wr => ∃ k : Nat, k ≤ 32 ∧ i = .int .i64 k ∧ Fr none' w wr ∧ IsGic wr bt (upd T q (fAck (T q))) m ∧ LrRow wr w4.heap.size 32 T) (fun i _ => 32 - (intOf i).toNat)
        case atStart => exact ⟨0, by omega, rfl, f7, t7, l7⟩
        case round =>
          clear f7 t7 l7
          obtain ⟨k, hk, rfl, fk, tk, lk⟩ := hrel
          have u3 : ((q : Int) == 1023) = false := by simp; omega
          have u4 : ((q : Int) != 1023) = true := by simp; omega
          by_cases hlt : k < 32
          · cases hmay : may (bound T m) (T k) with
            | false =>
              have i1 : 0 ≤ (k : Int) ∧ (k : Int) < 32 := by omega
              have u1 : decide ((k : Int) < 32) = true := decide_eq_true (by omega)
              have fa := (Fr.refl none' wr).alloc (.cells #[.int .i64 (k : Int), .int .i64 (T k).p, .bool (T k).en, .bool (T k).pe, .bool (act (T k))] 39)
              have ra := row_alloc wr #[.int .i64 (k : Int), .int .i64 (T k).p, .bool (T k).en, .bool (T k).pe, .bool (act (T k))] 39
              obtain ⟨c0, c1, c2, c3, c4⟩ := lk.cells k hlt
              replace fk := fk.trans fa
              replace tk := tk.keep fa (fun h => h)
              replace lk := lk.keep fa (fun h => h)
              obtain ⟨d0, d1, d2, d3, d4⟩ := row5 ra
              go_upto_region 23 with fail
              go_cut [16] from 63 to 157 (fun s wx => s = .bool (may (bound T m) (T k)) ∧ wx = wr.alloc (.cells #[.int .i64 (k : Int), .int .i64 (T k).p, .bool (T k).en, .bool (T k).pe, .bool (act (T k))] 39))
              case first =>
                clear c0 c1 c2 c3 c4 fk tk lk ra fa
                cases h1 : (T k).en with
                | false =>
                  rw [h1] at d2
                  go_wp2_with fail
                  go_meet
                  exact ⟨by rw [may_two]; simp [h1], by rw [h1]⟩
                | true =>
                  rw [h1] at d2
                  cases h2 : (T k).pe with
                  | false =>
                    rw [h2] at d3
                    go_wp2_with fail
                    go_meet
                    exact ⟨by rw [may_two]; simp [h1, h2], by rw [h1, h2]⟩
                  | true =>
                    rw [h2] at d3
                    cases h3 : act (T k) with
                    | true =>
                      rw [h3] at d4
                      go_wp2_with fail
                      go_meet
                      exact ⟨by rw [may_two]; simp [h1, h2, h3], by rw [h1, h2, h3]⟩
                    | false =>
                      rw [h3] at d4
                      cases h4 : decide ((T k).p < m) with
                      | false =>
                        go_wp2_with fail
                        go_meet
                        exact ⟨by rw [may_two]; simp [h1, h2, h3, h4], by rw [h1, h2, h3]⟩
                      | true =>
                        go_wp2_with fail
                        go_meet
                        exact ⟨by rw [may_two]; simp [h1, h2, h3, h4], by rw [h1, h2, h3]⟩
              case rest =>
              clear c0 c1 c2 c3 c4
              rw [hmay] at hcut
              obtain ⟨rfl, rfl⟩ := hcut
              have hkq : k ≠ q := fun e => by rw [e, HQ.out] at hmay; exact absurd hmay (by simp)
              have u5 : ((k : Int) != (q : Int)) = true := by simp; omega
              have u6 : ((k : Int) == (q : Int)) = false := by simp; omega
              have H : ∀ w', Fr none' (wr.alloc (.cells #[.int .i64 (k : Int), .int .i64 (T k).p, .bool (T k).en, .bool (T k).pe, .bool (act (T k))] 39)) w' → Calls Try.prog 14 #[.pointer (some ⟨bt, 0, none⟩), .int .i64 (k : Int)] w' fun e w2 => e = .returned (.tuple #[.agg #[.int .i64 (k : Int), .int .i64 (T k).p, .bool (T k).en, .bool (T k).pe, .bool (act (T k))], .int .i64 0]) ∧ Fr none' w' w2 := fun w' f => by
                have := state_in w' bt _ m (tk.keep f (fun h => h)) k hlt
                rw [upd_other _ _ hkq] at this
                exact this
              go_upto_region 26 with fail
              refine wp_region_any (by kernel_rfl) ?_
              change wpAny _ _ _ _ _ _ _ (World.drew _)
              refine wpAny_take (i := 0) (v := ?_) rfl (by kernel_rfl) (by kernel_rfl) (by kernel_rfl) (fun _ _ _ h => h) (Or.inl ⟨by kernel_rfl, fun w => ?_⟩) ?_
              rotate_left
              · go_simp
                try with_reducible rfl
              show wpAny _ _ _ _ _ _ (Act.put _ (some 98) _) _
              simp only [Act.put, List.setIfInBounds_toArray, List.set_cons_succ, List.set_cons_zero]
              refine wpAny_take (i := 1) (v := ?_) rfl (by kernel_rfl) (by kernel_rfl) (by kernel_rfl) (fun _ _ _ h => h) (Or.inl ⟨by kernel_rfl, fun w => ?_⟩) ?_
              rotate_left
              · go_simp
                try with_reducible rfl
              show wpAny _ _ _ _ _ _ (Act.put _ (some 99) _) _
              simp only [Act.put, List.setIfInBounds_toArray, List.set_cons_succ, List.set_cons_zero]
              refine wpAny_take (i := 2) (v := ?_) rfl (by kernel_rfl) (by kernel_rfl) (by kernel_rfl) (fun _ _ _ h => h) (Or.inl ⟨by kernel_rfl, fun w => ?_⟩) ?_
              rotate_left
              · go_simp
                try with_reducible rfl
              show wpAny _ _ _ _ _ _ (Act.put _ (some 100) _) _
              simp only [Act.put, List.setIfInBounds_toArray, List.set_cons_succ, List.set_cons_zero]
              refine wpAny_take (i := 3) (v := ?_) rfl (by kernel_rfl) (by kernel_rfl) (by kernel_rfl) (fun _ _ _ h => h) (Or.inl ⟨by kernel_rfl, fun w => ?_⟩) ?_
              rotate_left
              · go_simp
                try with_reducible rfl
              show wpAny _ _ _ _ _ _ (Act.put _ (some 101) _) _
              simp only [Act.put, List.setIfInBounds_toArray, List.set_cons_succ, List.set_cons_zero]
              refine wpAny_take (i := 4) (v := ?_) rfl (by kernel_rfl) (by kernel_rfl) (by kernel_rfl) (fun _ _ _ h => h) (Or.inl ⟨by kernel_rfl, fun w => ?_⟩) ?_
              rotate_left
              · go_simp
                try with_reducible rfl
              show wpAny _ _ _ _ _ _ (Act.put _ (some 102) _) _
              simp only [Act.put, List.setIfInBounds_toArray, List.set_cons_succ, List.set_cons_zero]
              refine wpAny_take (i := 5) (v := ?_) rfl (by kernel_rfl) (by kernel_rfl) (by kernel_rfl) (fun _ _ _ h => h) (Or.inl ⟨by kernel_rfl, fun w => ?_⟩) ?_
              rotate_left
              · go_simp
                try with_reducible rfl
              show wpAny _ _ _ _ _ _ (Act.put _ (some 103) _) _
              simp only [Act.put, List.setIfInBounds_toArray, List.set_cons_succ, List.set_cons_zero]
              refine wpAny_take (i := 6) (v := undef) rfl (by kernel_rfl) (by kernel_rfl) (by kernel_rfl) (fun _ _ _ h => h) (Or.inr ⟨by kernel_rfl, rfl⟩) ?_
              show wpAny _ _ _ _ _ _ (Act.put _ (some 104) _) _
              simp only [Act.put, List.setIfInBounds_toArray, List.set_cons_succ, List.set_cons_zero]
              refine wpAny_take (i := 7) (v := undef) rfl (by kernel_rfl) (by kernel_rfl) (by kernel_rfl) (fun _ _ _ h => h) (Or.inr ⟨by kernel_rfl, rfl⟩) ?_
              show wpAny _ _ _ _ _ _ (Act.put _ (some 105) _) _
              simp only [Act.put, List.setIfInBounds_toArray, List.set_cons_succ, List.set_cons_zero]
              refine wpAny_take (i := 8) (v := undef) rfl (by kernel_rfl) (by kernel_rfl) (by kernel_rfl) (fun _ _ _ h => h) (Or.inr ⟨by kernel_rfl, rfl⟩) ?_
              show wpAny _ _ _ _ _ _ (Act.put _ (some 106) _) _
              simp only [Act.put, List.setIfInBounds_toArray, List.set_cons_succ, List.set_cons_zero]
              refine wpAny_take (i := 9) (v := undef) rfl (by kernel_rfl) (by kernel_rfl) (by kernel_rfl) (fun _ _ _ h => h) (Or.inr ⟨by kernel_rfl, rfl⟩) ?_
              show wpAny _ _ _ _ _ _ (Act.put _ (some 107) _) _
              simp only [Act.put, List.setIfInBounds_toArray, List.set_cons_succ, List.set_cons_zero]
              refine wpAny_take (i := 10) (v := undef) rfl (by kernel_rfl) (by kernel_rfl) (by kernel_rfl) (fun _ _ _ h => h) (Or.inr ⟨by kernel_rfl, rfl⟩) ?_
              show wpAny _ _ _ _ _ _ (Act.put _ (some 108) _) _
              simp only [Act.put, List.setIfInBounds_toArray, List.set_cons_succ, List.set_cons_zero]
              refine wpAny_take (i := 11) (v := undef) rfl (by kernel_rfl) (by kernel_rfl) (by kernel_rfl) (fun _ _ _ h => h) (Or.inr ⟨by kernel_rfl, rfl⟩) ?_
              show wpAny _ _ _ _ _ _ (Act.put _ (some 109) _) _
              simp only [Act.put, List.setIfInBounds_toArray, List.set_cons_succ, List.set_cons_zero]
              refine wpAny_take (i := 12) (v := undef) rfl (by kernel_rfl) (by kernel_rfl) (by kernel_rfl) (fun _ _ _ h => h) (Or.inr ⟨by kernel_rfl, rfl⟩) ?_
              show wpAny _ _ _ _ _ _ (Act.put _ (some 110) _) _
              simp only [Act.put, List.setIfInBounds_toArray, List.set_cons_succ, List.set_cons_zero]
              refine wpAny_take (i := 13) (v := undef) rfl (by kernel_rfl) (by kernel_rfl) (by kernel_rfl) (fun _ _ _ h => h) (Or.inr ⟨by kernel_rfl, rfl⟩) ?_
              show wpAny _ _ _ _ _ _ (Act.put _ (some 111) _) _
              simp only [Act.put, List.setIfInBounds_toArray, List.set_cons_succ, List.set_cons_zero]
              refine wpAny_take (i := 14) (v := undef) rfl (by kernel_rfl) (by kernel_rfl) (by kernel_rfl) (fun _ _ _ h => h) (Or.inr ⟨by kernel_rfl, rfl⟩) ?_
              show wpAny _ _ _ _ _ _ (Act.put _ (some 112) _) _
              simp only [Act.put, List.setIfInBounds_toArray, List.set_cons_succ, List.set_cons_zero]
              refine wpAny_take (i := 15) (v := undef) rfl (by kernel_rfl) (by kernel_rfl) (by kernel_rfl) (fun _ _ _ h => h) (Or.inr ⟨by kernel_rfl, rfl⟩) ?_
              show wpAny _ _ _ _ _ _ (Act.put _ (some 113) _) _
              simp only [Act.put, List.setIfInBounds_toArray, List.set_cons_succ, List.set_cons_zero]
              refine wpAny_take (i := 16) (v := undef) rfl (by kernel_rfl) (by kernel_rfl) (by kernel_rfl) (fun _ _ _ h => h) (Or.inr ⟨by kernel_rfl, rfl⟩) ?_
              show wpAny _ _ _ _ _ _ (Act.put _ (some 114) _) _
              simp only [Act.put, List.setIfInBounds_toArray, List.set_cons_succ, List.set_cons_zero]
              refine wpAny_take (i := 17) (v := undef) rfl (by kernel_rfl) (by kernel_rfl) (by kernel_rfl) (fun _ _ _ h => h) (Or.inr ⟨by kernel_rfl, rfl⟩) ?_
              show wpAny _ _ _ _ _ _ (Act.put _ (some 115) _) _
              simp only [Act.put, List.setIfInBounds_toArray, List.set_cons_succ, List.set_cons_zero]
              refine wpAny_take (i := 18) (v := undef) rfl (by kernel_rfl) (by kernel_rfl) (by kernel_rfl) (fun _ _ _ h => h) (Or.inr ⟨by kernel_rfl, rfl⟩) ?_
              show wpAny _ _ _ _ _ _ (Act.put _ (some 116) _) _
              simp only [Act.put, List.setIfInBounds_toArray, List.set_cons_succ, List.set_cons_zero]
              refine wpAny_take (i := 19) (v := undef) rfl (by kernel_rfl) (by kernel_rfl) (by kernel_rfl) (fun _ _ _ h => h) (Or.inr ⟨by kernel_rfl, rfl⟩) ?_
              show wpAny _ _ _ _ _ _ (Act.put _ (some 117) _) _
              simp only [Act.put, List.setIfInBounds_toArray, List.set_cons_succ, List.set_cons_zero]
              refine wpAny_take (i := 20) (v := undef) rfl (by kernel_rfl) (by kernel_rfl) (by kernel_rfl) (fun _ _ _ h => h) (Or.inr ⟨by kernel_rfl, rfl⟩) ?_
              show wpAny _ _ _ _ _ _ (Act.put _ (some 118) _) _
              simp only [Act.put, List.setIfInBounds_toArray, List.set_cons_succ, List.set_cons_zero]
              refine wpAny_take (i := 21) (v := undef) rfl (by kernel_rfl) (by kernel_rfl) (by kernel_rfl) (fun _ _ _ h => h) (Or.inr ⟨by kernel_rfl, rfl⟩) ?_
              show wpAny _ _ _ _ _ _ (Act.put _ (some 119) _) _
              simp only [Act.put, List.setIfInBounds_toArray, List.set_cons_succ, List.set_cons_zero]
              refine wpAny_take (i := 22) (v := undef) rfl (by kernel_rfl) (by kernel_rfl) (by kernel_rfl) (fun _ _ _ h => h) (Or.inr ⟨by kernel_rfl, rfl⟩) ?_
              show wpAny _ _ _ _ _ _ (Act.put _ (some 120) _) _
              simp only [Act.put, List.setIfInBounds_toArray, List.set_cons_succ, List.set_cons_zero]
              refine wpAny_take (i := 23) (v := undef) rfl (by kernel_rfl) (by kernel_rfl) (by kernel_rfl) (fun _ _ _ h => h) (Or.inr ⟨by kernel_rfl, rfl⟩) ?_
              show wpAny _ _ _ _ _ _ (Act.put _ (some 121) _) _
              simp only [Act.put, List.setIfInBounds_toArray, List.set_cons_succ, List.set_cons_zero]
              refine wpAny_take (i := 24) (v := undef) rfl (by kernel_rfl) (by kernel_rfl) (by kernel_rfl) (fun _ _ _ h => h) (Or.inr ⟨by kernel_rfl, rfl⟩) ?_
              show wpAny _ _ _ _ _ _ (Act.put _ (some 122) _) _
              simp only [Act.put, List.setIfInBounds_toArray, List.set_cons_succ, List.set_cons_zero]
              refine wpAny_take (i := 25) (v := undef) rfl (by kernel_rfl) (by kernel_rfl) (by kernel_rfl) (fun _ _ _ h => h) (Or.inr ⟨by kernel_rfl, rfl⟩) ?_
              show wpAny _ _ _ _ _ _ (Act.put _ (some 123) _) _
              simp only [Act.put, List.setIfInBounds_toArray, List.set_cons_succ, List.set_cons_zero]
              refine wpAny_take (i := 26) (v := undef) rfl (by kernel_rfl) (by kernel_rfl) (by kernel_rfl) (fun _ _ _ h => h) (Or.inr ⟨by kernel_rfl, rfl⟩) ?_
              show wpAny _ _ _ _ _ _ (Act.put _ (some 124) _) _
              simp only [Act.put, List.setIfInBounds_toArray, List.set_cons_succ, List.set_cons_zero]
              refine wpAny_take (i := 27) (v := ?_) rfl (by kernel_rfl) (by kernel_rfl) (by kernel_rfl) (fun _ _ _ h => h) (Or.inl ⟨by kernel_rfl, fun w => ?_⟩) ?_
              rotate_left
              · go_simp
                try with_reducible rfl
              show wpAny _ _ _ _ _ _ (Act.put _ (some 125) _) _
              simp only [Act.put, List.setIfInBounds_toArray, List.set_cons_succ, List.set_cons_zero]
              refine wpAny_done (by kernel_rfl) ?_ _
              go_wp2_with fail
              refine (H _ (Fr.drew (Fr.refl none' _))).mono ?_
              rintro e w8 ⟨rfl, f8⟩
              replace f8 := f8.undrew
              replace fk := fk.trans f8
              replace tk := tk.keep f8 (fun h => h)
              replace lk := lk.keep f8 (fun h => h)
              replace ra := ra.keep f8 (fun h => h)
              clear f8 H d0 d1 d2 d3 d4
              have fb := (Fr.refl none' w8).alloc (.cells #[.int .i64 (k : Int), .int .i64 (T k).p, .bool (T k).en, .bool (T k).pe, .bool (act (T k))] 39)
              have rb := row_alloc w8 #[.int .i64 (k : Int), .int .i64 (T k).p, .bool (T k).en, .bool (T k).pe, .bool (act (T k))] 39
              have nb : wr.heap.size ≠ w8.heap.size := Nat.ne_of_lt ra.lt
              replace fk := fk.trans fb
              replace tk := tk.keep fb (fun h => h)
              replace lk := lk.keep fb (fun h => h)
              replace ra := ra.keep fb (fun h => h)
              obtain ⟨d0, d1, d2, d3, d4⟩ := row5 ra
              obtain ⟨e0, e1, e2, e3, e4⟩ := row5 rb
              go_wp2_with fail
              go_roundw
              case rel => exact ⟨k + 1, by omega, by go_num, fk, tk, lk⟩
              case measure => simp [intOf]; omega
            | true =>
              have i1 : 0 ≤ (k : Int) ∧ (k : Int) < 32 := by omega
              have u1 : decide ((k : Int) < 32) = true := decide_eq_true (by omega)
              have fa := (Fr.refl none' wr).alloc (.cells #[.int .i64 (k : Int), .int .i64 (T k).p, .bool (T k).en, .bool (T k).pe, .bool (act (T k))] 39)
              have ra := row_alloc wr #[.int .i64 (k : Int), .int .i64 (T k).p, .bool (T k).en, .bool (T k).pe, .bool (act (T k))] 39
              obtain ⟨c0, c1, c2, c3, c4⟩ := lk.cells k hlt
              replace fk := fk.trans fa
              replace tk := tk.keep fa (fun h => h)
              replace lk := lk.keep fa (fun h => h)
              obtain ⟨d0, d1, d2, d3, d4⟩ := row5 ra
              go_upto_region 23 with fail
              go_cut [16] from 63 to 157 (fun s wx => s = .bool (may (bound T m) (T k)) ∧ wx = wr.alloc (.cells #[.int .i64 (k : Int), .int .i64 (T k).p, .bool (T k).en, .bool (T k).pe, .bool (act (T k))] 39))
              case first =>
                clear c0 c1 c2 c3 c4 fk tk lk ra fa
                cases h1 : (T k).en with
                | false =>
                  rw [h1] at d2
                  go_wp2_with fail
                  go_meet
                  exact ⟨by rw [may_two]; simp [h1], by rw [h1]⟩
                | true =>
                  rw [h1] at d2
                  cases h2 : (T k).pe with
                  | false =>
                    rw [h2] at d3
                    go_wp2_with fail
                    go_meet
                    exact ⟨by rw [may_two]; simp [h1, h2], by rw [h1, h2]⟩
                  | true =>
                    rw [h2] at d3
                    cases h3 : act (T k) with
                    | true =>
                      rw [h3] at d4
                      go_wp2_with fail
                      go_meet
                      exact ⟨by rw [may_two]; simp [h1, h2, h3], by rw [h1, h2, h3]⟩
                    | false =>
                      rw [h3] at d4
                      cases h4 : decide ((T k).p < m) with
                      | false =>
                        go_wp2_with fail
                        go_meet
                        exact ⟨by rw [may_two]; simp [h1, h2, h3, h4], by rw [h1, h2, h3]⟩
                      | true =>
                        go_wp2_with fail
                        go_meet
                        exact ⟨by rw [may_two]; simp [h1, h2, h3, h4], by rw [h1, h2, h3]⟩
              case rest =>
              clear c0 c1 c2 c3 c4
              rw [hmay] at hcut
              obtain ⟨rfl, rfl⟩ := hcut
              obtain ⟨y0, y1, y2, y3, y4⟩ := lk.cells q hq32
              by_cases hkq : k = q
              · subst hkq
                have v1 : decide ((T k).p < (T k).p) = false := decide_eq_false (by omega)
                have v2 : ((T k).p == (T k).p) = true := by simp
                have v3 : decide ((k : Int) < (k : Int)) = false := decide_eq_false (by omega)
                have u5 : ((k : Int) != (k : Int)) = false := by simp
                have u6 : ((k : Int) == (k : Int)) = true := by simp
                have hact : act (fAck (T k)) = true := by simp [act, fAck, HP.out]
                have H : ∀ w', Fr none' (wr.alloc (.cells #[.int .i64 (k : Int), .int .i64 (T k).p, .bool (T k).en, .bool (T k).pe, .bool (act (T k))] 39)) w' → Calls Try.prog 14 #[.pointer (some ⟨bt, 0, none⟩), .int .i64 (k : Int)] w' fun e w2 => e = .returned (.tuple #[.agg #[.int .i64 (k : Int), .int .i64 (T k).p, .bool (T k).en, .bool false, .bool true], .int .i64 0]) ∧ Fr none' w' w2 := fun w' f => by
                  have := state_in w' bt _ m (tk.keep f (fun h => h)) k hlt
                  rw [upd_same, lrc, hact] at this
                  exact this
                go_wp2_with fail
                go_quiet (fail)
                go_wp2_with fail
                refine (H _ (fr_drewN _ _)).mono ?_
                rintro e w8 ⟨rfl, f8⟩
                replace f8 := (fr_drewN _ _).trans f8
                replace fk := fk.trans f8
                replace tk := tk.keep f8 (fun h => h)
                replace lk := lk.keep f8 (fun h => h)
                replace ra := ra.keep f8 (fun h => h)
                clear f8 H d0 d1 d2 d3 d4 y0 y1 y2 y3 y4
                have fb := (Fr.refl none' w8).alloc (.cells #[.int .i64 (k : Int), .int .i64 (T k).p, .bool (T k).en, .bool false, .bool true] 39)
                have rb := row_alloc w8 #[.int .i64 (k : Int), .int .i64 (T k).p, .bool (T k).en, .bool false, .bool true] 39
                have nb : wr.heap.size ≠ w8.heap.size := Nat.ne_of_lt ra.lt
                replace fk := fk.trans fb
                replace tk := tk.keep fb (fun h => h)
                replace lk := lk.keep fb (fun h => h)
                replace ra := ra.keep fb (fun h => h)
                obtain ⟨d0, d1, d2, d3, d4⟩ := row5 ra
                obtain ⟨e0, e1, e2, e3, e4⟩ := row5 rb
                go_wp2_with fail
                go_roundw
                case rel => exact ⟨k + 1, by omega, by go_num, fk, tk, lk⟩
                case measure => simp [intOf]; omega
              · have hle := HL.out k hlt hmay
                have v1 : decide ((T k).p < (T q).p) = false := decide_eq_false (by omega)
                have u5 : ((k : Int) != (q : Int)) = true := by simp; omega
                have u6 : ((k : Int) == (q : Int)) = false := by simp; omega
                have H : ∀ w', Fr none' (wr.alloc (.cells #[.int .i64 (k : Int), .int .i64 (T k).p, .bool (T k).en, .bool (T k).pe, .bool (act (T k))] 39)) w' → Calls Try.prog 14 #[.pointer (some ⟨bt, 0, none⟩), .int .i64 (k : Int)] w' fun e w2 => e = .returned (.tuple #[.agg #[.int .i64 (k : Int), .int .i64 (T k).p, .bool (T k).en, .bool (T k).pe, .bool (act (T k))], .int .i64 0]) ∧ Fr none' w' w2 := fun w' f => by
                  have := state_in w' bt _ m (tk.keep f (fun h => h)) k hlt
                  rw [upd_other _ _ hkq] at this
                  exact this
                by_cases hpp : (T k).p = (T q).p
                · have v2 : ((T k).p == (T q).p) = true := by simpa using hpp
                  have v3 : decide ((k : Int) < (q : Int)) = false := decide_eq_false (by omega)
                  have v4 : decide (k < q) = false := decide_eq_false (by omega)
                  clear hle hpp
                  go_wp2_with fail
                  go_quiet (fail)
                  go_wp2_with fail
                  refine (H _ (fr_drewN _ _)).mono ?_
                  rintro e w8 ⟨rfl, f8⟩
                  replace f8 := (fr_drewN _ _).trans f8
                  replace fk := fk.trans f8
                  replace tk := tk.keep f8 (fun h => h)
                  replace lk := lk.keep f8 (fun h => h)
                  replace ra := ra.keep f8 (fun h => h)
                  clear f8 H d0 d1 d2 d3 d4 y0 y1 y2 y3 y4
                  have fb := (Fr.refl none' w8).alloc (.cells #[.int .i64 (k : Int), .int .i64 (T k).p, .bool (T k).en, .bool (T k).pe, .bool (act (T k))] 39)
                  have rb := row_alloc w8 #[.int .i64 (k : Int), .int .i64 (T k).p, .bool (T k).en, .bool (T k).pe, .bool (act (T k))] 39
                  have nb : wr.heap.size ≠ w8.heap.size := Nat.ne_of_lt ra.lt
                  replace fk := fk.trans fb
                  replace tk := tk.keep fb (fun h => h)
                  replace lk := lk.keep fb (fun h => h)
                  replace ra := ra.keep fb (fun h => h)
                  obtain ⟨d0, d1, d2, d3, d4⟩ := row5 ra
                  obtain ⟨e0, e1, e2, e3, e4⟩ := row5 rb
                  go_wp2_with fail
                  go_roundw
                  case rel => exact ⟨k + 1, by omega, by go_num, fk, tk, lk⟩
                  case measure => simp [intOf]; omega
                · have v2 : ((T k).p == (T q).p) = false := by simpa using hpp
                  clear hle hpp
                  go_wp2_with fail
                  go_quiet (fail)
                  go_wp2_with fail
                  refine (H _ (fr_drewN _ _)).mono ?_
                  rintro e w8 ⟨rfl, f8⟩
                  replace f8 := (fr_drewN _ _).trans f8
                  replace fk := fk.trans f8
                  replace tk := tk.keep f8 (fun h => h)
                  replace lk := lk.keep f8 (fun h => h)
                  replace ra := ra.keep f8 (fun h => h)
                  clear f8 H d0 d1 d2 d3 d4 y0 y1 y2 y3 y4
                  have fb := (Fr.refl none' w8).alloc (.cells #[.int .i64 (k : Int), .int .i64 (T k).p, .bool (T k).en, .bool (T k).pe, .bool (act (T k))] 39)
                  have rb := row_alloc w8 #[.int .i64 (k : Int), .int .i64 (T k).p, .bool (T k).en, .bool (T k).pe, .bool (act (T k))] 39
                  have nb : wr.heap.size ≠ w8.heap.size := Nat.ne_of_lt ra.lt
                  replace fk := fk.trans fb
                  replace tk := tk.keep fb (fun h => h)
                  replace lk := lk.keep fb (fun h => h)
                  replace ra := ra.keep fb (fun h => h)
                  obtain ⟨d0, d1, d2, d3, d4⟩ := row5 ra
                  obtain ⟨e0, e1, e2, e3, e4⟩ := row5 rb
                  go_wp2_with fail
                  go_roundw
                  case rel => exact ⟨k + 1, by omega, by go_num, fk, tk, lk⟩
                  case measure => simp [intOf]; omega
          · obtain rfl : k = 32 := by omega
            obtain ⟨y0, y1, y2, y3, y4⟩ := lk.cells q hq32
            have R := running_any _ _ _ _ tk
            rw [HU.out] at R
            have u7 : ((T q).p == (T q).p) = true := by simp
            have v4 : decide (0 ≤ (q : Int)) = true := decide_eq_true (by omega)
            have v5 : decide ((q : Int) < 32) = true := decide_eq_true (by omega)
            go_wp2_with fail
            refine R.mono ?_
            rintro e w8 ⟨rfl, f8⟩
            replace y1 := cell_keep f8 y1 (fun h => h)
            go_wp2_with fail
            go_ret
            exact ⟨rfl, fk.trans f8⟩

theorem urgent_any (a0 : Option Addr) (len cap : Nat) (w : World) (hl : len ≤ 9223372036854775807) (ha : Acts w a0 len) :
    Calls Try.prog 4 #[.slice a0 len cap] w fun e w' => e = .returned (.bool true) ∧ Below w.heap.size w w' :=
  (urgent_row a0 len cap w hl ha).mono fun _ _ ⟨he, hf⟩ => ⟨he, hf.below (Nat.le_refl _) (fun _ h => h.elim)⟩

end Go.Proofs.Ytcenojdcmmflaaa
