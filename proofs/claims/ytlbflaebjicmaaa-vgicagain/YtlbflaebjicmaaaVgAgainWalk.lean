/-
  VgicAgain over the translation: whatever came in, the law returns true, and nothing old turns. No statement is proved here.
-/
import Derived.Test.YtlbflaebjicmaaaVgAwake
import Derived.Test.YtlbflaebjicmaaaVgSole
namespace Go.Proofs.Ytlbflaebjicmaaa
open Go.RowKit

set_option maxRecDepth 100000 in
set_option maxHeartbeats 4000000 in
theorem again_row (lrs id pr : Int) (a0 : Option Addr) (len cap : Nat) (w : World) (hl : len ≤ 9223372036854775807) (ha : Flags w a0 len) :
    Calls Try.prog 8 #[.int .i64 lrs, .int .i64 id, .int .i64 pr, .slice a0 len cap] w fun e w' => e = .returned (.bool true) ∧ Fr none' w w' := by
  have HA : Hid (Flags w a0 len) := ha
  clear ha
  go_enter Try.func8, Try.ntmps8
  go_wp2_with fail
  refine (awake_any _).mono ?_
  rintro e w1 ⟨rfl, f1⟩
  go_wp2_with fail
  refine (new_any _ lrs).mono ?_
  rintro e w2 (⟨_, rfl, rfl⟩ | ⟨_, B, rfl, hb, f2, t2⟩)
  · go_wp2_with fail
    go_ret
    exact ⟨rfl, f1⟩
  · have hb0 : ∀ k, B.s k → w.heap.size ≤ k := fun k hk => Nat.le_trans f1.size (hb k hk)
    replace f2 := f1.trans f2
    clear hb f1
    by_cases hin : 0 ≤ id ∧ id ≤ 63 ∧ 0 ≤ pr ∧ pr ≤ 255 ∧ 0 < len
    · obtain ⟨g1, g2, g3, g4, g5⟩ := hin
      obtain ⟨k, rfl⟩ : ∃ k : Nat, id = (k : Int) := ⟨id.toNat, by omega⟩
      have hk : k < 64 := by omega
      have hp : isP pr = true := isP_iff.mpr ⟨g3, g4⟩
      have v1 : decide ((k : Int) < 0) = false := decide_eq_false (by omega)
      have v2 : decide (63 < (k : Int)) = false := decide_eq_false (by omega)
      have v2' : decide (63 < k) = false := decide_eq_false (by omega)
      have v3 : decide (pr < 0) = false := decide_eq_false (by omega)
      have v4 : decide (255 < pr) = false := decide_eq_false (by omega)
      have v5 : ((len : Int) == 0) = false := by simp; omega
      have v6 : (len == 0) = false := by simp; omega
      obtain ⟨b0, o, x0, rfl, hx0⟩ := HA.out 0 g5
      have c0 := cell_keep f2 hx0 (fun h => h)
      rw [Nat.add_zero] at c0
      have i0 : (0 : Int) ≤ 0 ∧ (0 : Int) < (len : Int) := by omega
      have hs := (sole_zero lrs k).inj hk hp x0
      have hi := inject_any _ B _ t2 (k : Int) pr x0
      rw [hs.1] at hi
      have hx0' : w.cell? ⟨b0, o + 0, none⟩ = some (.bool x0) := hx0
      go_wp2_with fail
      refine hi.mono ?_
      rintro e w3 ⟨rfl, f3, t3⟩
      have F3 := f2.lone f3 hb0
      have HS3 : Hid (Sole (injS (zeroV lrs) k pr x0) k (some (pr, x0)) none) := hs.2
      generalize injS (zeroV lrs) k pr x0 = S3 at *
      have HX0 : Hid (w.cell? ⟨b0, o + 0, none⟩ = some (.bool x0)) := hx0
      have HG : Hid (k < 64 ∧ isP pr = true ∧ pr ≤ 255 ∧ 0 < len) := ⟨hk, hp, g4, g5⟩
      clear hi hs f2 t2 f3 hx0 hx0' c0 g1 g2 g3 g4 g5 v1 v2 v3 v4 v5 v6 i0 hp v2'
      go_wp2_with fail
      go_loopw [13] (fun i wr => ∃ (m : Nat) (S : Vg) (x : Bool), m ≤ len ∧ m ≤ 40 ∧ i = .int .i64 m ∧ Fr none' w wr ∧ IsVg wr B S ∧ ((m < len ∧ m < 40 ∧ w.cell? ⟨b0, o + m, none⟩ = some (.bool x) ∧ Sole S k (some (pr, x)) none) ∨ (¬ (m < len ∧ m < 40) ∧ Sole S k none none))) (fun i _ => 40 - (intOf i).toNat)
      case atStart => exact ⟨0, S3, x0, by omega, by omega, rfl, F3, t3, Or.inl ⟨HG.out.2.2.2, by omega, HX0.out, HS3.out⟩⟩
      case round =>
        clear F3 t3
        obtain ⟨m, S, x, hm1, hm2, rfl, fk, hT, hcase⟩ := hrel
        rcases hcase with ⟨hml, hm40, hx, hsole⟩ | ⟨hno, hsole⟩
        · have c1 := cell_keep fk hx (fun h => h)
          have u1 : decide ((m : Int) < (len : Int)) = true := decide_eq_true (by omega)
          have u1' : decide (m < len) = true := decide_eq_true hml
          have u2 : decide ((m : Int) < 40) = true := decide_eq_true (by omega)
          have u2' : decide (m < 40) = true := decide_eq_true hm40
          have u3 : ((k : Int) != (k : Int)) = false := by simp
          have i1 : 0 ≤ (m : Int) ∧ (m : Int) < (len : Int) := by omega
          have hak := hsole.ack HG.out.1 HG.out.2.2.1
          have ha := ack_any _ B S hT
          rw [hak.1] at ha
          have HX : Hid (w.cell? ⟨b0, o + m, none⟩ = some (.bool x)) := hx
          go_wp2_with fail
          refine ha.mono ?_
          rintro e w4 ⟨rfl, f4, t4⟩
          have F4 := fk.lone f4 hb0
          have HS4 : Hid (Sole (ackS S) k none (some (pr, x))) := hak.2
          generalize ackS S = S4 at *
          have c4 := cell_keep F4 HX.out (fun h => h)
          clear ha hak fk hT f4 c1 hx hsole
          by_cases hnx : m + 1 < len ∧ m < 39
          · obtain ⟨b1, o1, y, e1, hy⟩ := HA.out (m + 1) hnx.1
            obtain ⟨rfl, rfl⟩ : b0 = b1 ∧ o = o1 := by simpa using e1
            have c5 := cell_keep F4 hy (fun h => h)
            have w1' : decide ((m : Int) + 1 < (len : Int)) = true := decide_eq_true (by omega)
            have w1'' : decide (m + 1 < len) = true := decide_eq_true hnx.1
            have w2' : decide ((m : Int) < 39) = true := decide_eq_true (by omega)
            have w2'' : decide (m < 39) = true := decide_eq_true hnx.2
            have i2 : 0 ≤ (m : Int) + 1 ∧ (m : Int) + 1 < (len : Int) := by omega
            have i3 : 0 ≤ ((m + 1 : Nat) : Int) ∧ ((m + 1 : Nat) : Int) < (len : Int) := by omega
            have hs := HS4.out.inj HG.out.1 HG.out.2.1 y
            have hi := inject_any _ B S4 t4 (k : Int) pr y
            rw [hs.1] at hi
            have HY : Hid (w.cell? ⟨b0, o + (m + 1), none⟩ = some (.bool y)) := hy
            clear hy e1
            go_wp2_with fail
            refine hi.mono ?_
            rintro e w5 ⟨rfl, f5, t5⟩
            have F5 := F4.lone f5 hb0
            have hq := hs.2.quiet (Or.inr rfl)
            have ha := ack_any _ B _ t5
            rw [hq.1, hq.2] at ha
            have HS5 : Hid (Sole (injS S4 k pr y) k (some (pr, y)) (some (pr, x))) := hs.2
            generalize injS S4 k pr y = S5 at *
            clear hi hs hq f5 F4 t4 c4 c5
            go_wp2_with fail
            refine ha.mono ?_
            rintro e w6 ⟨rfl, f6, t6⟩
            have F6 := F5.lone f6 hb0
            have he := HS5.out.end HG.out.1
            have hen := end_any _ B S5 t6 (k : Int)
            rw [he.1, he.2.1] at hen
            have c6 := cell_keep F6 HX.out (fun h => h)
            clear ha f6 F5 t5
            go_wp2_with fail
            refine hen.mono ?_
            rintro e w7 ⟨rfl, f7, t7⟩
            have F7 := F6.lone f7 hb0
            have HS7 : Hid (Sole (endS S5 k) k (some (pr, y)) none) := he.2.2
            generalize endS S5 k = S7 at *
            have c7 := cell_keep F7 HX.out (fun h => h)
            have u7 : (x != x) = false := by simp
            clear hen he f7 F6 t6 c6
            go_wp2_with fail
            go_roundw
            case rel => exact ⟨m + 1, S7, y, by omega, by omega, by go_num, F7, t7, Or.inl ⟨hnx.1, by omega, HY.out, HS7.out⟩⟩
            case measure => simp [intOf]; omega
          · have hcs : (decide ((m : Int) + 1 < (len : Int)) = false ∧ decide (m + 1 < len) = false) ∨ (decide ((m : Int) + 1 < (len : Int)) = true ∧ decide (m + 1 < len) = true ∧ decide ((m : Int) < 39) = false ∧ decide (m < 39) = false) := by
              by_cases h : m + 1 < len
              · exact Or.inr ⟨decide_eq_true (by omega), decide_eq_true h, decide_eq_false (by omega), decide_eq_false (by omega)⟩
              · exact Or.inl ⟨decide_eq_false (by omega), decide_eq_false h⟩
            have HN : Hid (¬ (m + 1 < len ∧ m + 1 < 40)) := fun h => hnx ⟨h.1, by omega⟩
            have he := HS4.out.end HG.out.1
            have hen := end_any _ B S4 t4 (k : Int)
            rw [he.1, he.2.1] at hen
            have HS7 : Hid (Sole (endS S4 k) k none none) := he.2.2
            generalize endS S4 k = S7 at *
            have u7 : (x != x) = false := by simp
            clear he hnx
            rcases hcs with ⟨w1', w1''⟩ | ⟨w1', w1'', w2', w2''⟩
            all_goals
              go_wp2_with fail
              refine hen.mono ?_
              rintro e w7 ⟨rfl, f7, t7⟩
              have F7 := F4.lone f7 hb0
              have c7 := cell_keep F7 HX.out (fun h => h)
              clear hen f7 F4 t4 c4
              go_wp2_with fail
              go_roundw
              case rel => exact ⟨m + 1, S7, false, by omega, by omega, by go_num, F7, t7, Or.inr ⟨HN.out, HS7.out⟩⟩
              case measure => simp [intOf]; omega
        · have hcs : (decide ((m : Int) < (len : Int)) = false ∧ decide (m < len) = false) ∨ (decide ((m : Int) < (len : Int)) = true ∧ decide (m < len) = true ∧ decide ((m : Int) < 40) = false ∧ decide (m < 40) = false) := by
            by_cases h : m < len
            · exact Or.inr ⟨decide_eq_true (by omega), decide_eq_true h, decide_eq_false (by omega), decide_eq_false (by omega)⟩
            · exact Or.inl ⟨decide_eq_false (by omega), decide_eq_false h⟩
          have hq := hsole.quiet (Or.inl rfl)
          have ha := ack_any _ B S hT
          rw [hq.1, hq.2] at ha
          have he := hsole.end_none HG.out.1
          clear hq hsole hno
          rcases hcs with ⟨w1', w1''⟩ | ⟨w1', w1'', w2', w2''⟩
          all_goals
            go_wp2_with fail
            refine ha.mono ?_
            rintro e w4 ⟨rfl, f4, t4⟩
            have F4 := fk.lone f4 hb0
            have hen := end_any _ B S t4 (k : Int)
            rw [he] at hen
            generalize endF S k = vf at *
            clear ha f4 fk hT
            go_wp2_with fail
            refine hen.mono ?_
            rintro e w5 ⟨rfl, f5, t5⟩
            have F5 := F4.lone f5 hb0
            clear hen f5 F4 t4 t5
            go_wp2_with fail
            go_ret
            exact ⟨rfl, F5⟩
    · have hcs : decide (id < 0) = true ∨ (decide (id < 0) = false ∧ decide (63 < id) = true) ∨ (decide (id < 0) = false ∧ decide (63 < id) = false ∧ decide (pr < 0) = true) ∨ (decide (id < 0) = false ∧ decide (63 < id) = false ∧ decide (pr < 0) = false ∧ decide (255 < pr) = true) ∨ (decide (id < 0) = false ∧ decide (63 < id) = false ∧ decide (pr < 0) = false ∧ decide (255 < pr) = false ∧ len = 0) := by
        simp only [decide_eq_true_eq, decide_eq_false_iff_not]
        omega
      clear hin t2
      rcases hcs with h1 | ⟨h1, h2⟩ | ⟨h1, h2, h3⟩ | ⟨h1, h2, h3, h4⟩ | ⟨h1, h2, h3, h4, rfl⟩
      all_goals
        go_wp2_with fail
        go_ret
        exact ⟨rfl, f2⟩

theorem again_any (lrs id pr : Int) (a0 : Option Addr) (len cap : Nat) (w : World) (hl : len ≤ 9223372036854775807) (ha : Flags w a0 len) :
    Calls Try.prog 8 #[.int .i64 lrs, .int .i64 id, .int .i64 pr, .slice a0 len cap] w fun e w' => e = .returned (.bool true) ∧ Below w.heap.size w w' :=
  (again_row lrs id pr a0 len cap w hl ha).mono fun _ _ ⟨he, hf⟩ => ⟨he, hf.below (Nat.le_refl _) (fun _ h => h.elim)⟩

end Go.Proofs.Ytlbflaebjicmaaa
