/-
  VgicServes over the translation: whatever priorities and flags came in, the law returns true, and nothing old turns. No statement is proved here.
-/
import Derived.Test.YtlbflaebjicmaaaVgServesP
import Derived.Deep.CutBlock
import Derived.Deep.CutRange
import Derived.Deep.RegionHeld3
namespace Go.Proofs.Ytlbflaebjicmaaa
open Go.RowKit

theorem wrap_small {n : Int} (h0 : -9223372036854775808 ≤ n) (h1 : n ≤ 9223372036854775807) : IntKind.i64.wrap n = n := by
  simp only [IntKind.wrap, IntKind.bits, IntKind.signed]
  simp
  omega

/-- The controller, the priorities and the flags, each a block of its own. -/
structure Desk (w : World) (W0 : Nat) (B : Bk) (gp gf : Nat) (S : Vg) (P : Nat → Int) (F : Nat → Bool) : Prop where
  vg : IsVg w B S
  p : Arr w gp P
  f : ArrB w gf F
  new : W0 ≤ gp ∧ W0 ≤ gf
  ne : gp ≠ gf
  off : ¬ B.s gp ∧ ¬ B.s gf

theorem Desk.chg {w w' : World} {W0 : Nat} {B : Bk} {gp gf : Nat} {S S' : Vg} {P : Nat → Int} {F : Nat → Bool} (h : Desk w W0 B gp gf S P F) (f : Fr B.s w w') (t : IsVg w' B S') : Desk w' W0 B gp gf S' P F :=
  ⟨t, h.p.keep f h.off.1, h.f.keep f h.off.2, h.new, h.ne, h.off⟩
theorem Desk.keep0 {w w' : World} {W0 : Nat} {B : Bk} {gp gf : Nat} {S : Vg} {P : Nat → Int} {F : Nat → Bool} (h : Desk w W0 B gp gf S P F) (f : Fr none' w w') : Desk w' W0 B gp gf S P F :=
  ⟨h.vg.keep0 f, h.p.keep f (fun h => h), h.f.keep f (fun h => h), h.new, h.ne, h.off⟩
theorem fr_cell' (w : World) (g j : Nat) (v : Value) : Fr (at' g) w (w.setCell ⟨g, j, none⟩ v) := fr_set w g j v (Fr.refl _ _)
theorem Desk.setP {w : World} {W0 : Nat} {B : Bk} {gp gf : Nat} {S : Vg} {P : Nat → Int} {F : Nat → Bool} (h : Desk w W0 B gp gf S P F) {k : Nat} (hk : k < 64) (x : Int) : Desk (w.setCell ⟨gp, k, none⟩ (.int .i64 x)) W0 B gp gf S (updI P k x) F :=
  ⟨h.vg.keep (fr_cell' w gp k _) (fun q hq e => h.off.1 (by have e' : q = gp := e; rwa [e'] at hq)), h.p.set hk x, h.f.keep (fr_cell' w gp k _) (fun e => h.ne e.symm), h.new, h.ne, h.off⟩
theorem Desk.setF {w : World} {W0 : Nat} {B : Bk} {gp gf : Nat} {S : Vg} {P : Nat → Int} {F : Nat → Bool} (h : Desk w W0 B gp gf S P F) {k : Nat} (hk : k < 64) (x : Bool) : Desk (w.setCell ⟨gf, k, none⟩ (.bool x)) W0 B gp gf S P (setB F k x) :=
  ⟨h.vg.keep (fr_cell' w gf k _) (fun q hq e => h.off.2 (by have e' : q = gf := e; rwa [e'] at hq)), h.p.keep (fr_cell' w gf k _) h.ne, h.f.set hk x, h.new, h.ne, h.off⟩
theorem updI_updI (f : Nat → Int) (k : Nat) (x y : Int) : updI (updI f k x) k y = updI f k y := by funext j; unfold updI; split <;> rfl

theorem mod_bnd (x : Int) : -255 ≤ x.tmod 256 ∧ x.tmod 256 ≤ 255 := by
  have h1 := Int.tmod_lt_of_pos x (show (0 : Int) < 256 by decide)
  have h2 : -256 < x.tmod 256 := by
    rcases Int.le_total 0 x with h | h
    · have := Int.tmod_nonneg (256 : Int) h; omega
    · have h3 := Int.tmod_lt_of_pos (-x) (show (0 : Int) < 256 by decide)
      rw [Int.neg_tmod] at h3; omega
  omega

set_option maxRecDepth 100000 in
set_option maxHeartbeats 4000000 in
theorem serves_row (lrs : Int) (a0 : Option Addr) (len cap : Nat) (a1 : Option Addr) (len1 cap1 : Nat) (w : World) (hl : len ≤ 9223372036854775807) (ha : Nums w a0 len) (_hl1 : len1 ≤ 9223372036854775807) (ha1 : Flags w a1 len1) :
    Calls Try.prog 6 #[.int .i64 lrs, .slice a0 len cap, .slice a1 len1 cap1] w fun e w' => e = .returned (.bool true) ∧ Fr none' w w' := by
  have HA : Hid (Nums w a0 len) := ha
  have HA1 : Hid (Flags w a1 len1) := ha1
  obtain ⟨Z, hz, hzi⟩ := zero_ints
  obtain ⟨Y, hy, hyi⟩ := zero_bools
  have HZ : Hid (∀ w : World, Arr (w.alloc (.cells Z 51)) w.heap.size (fun _ => 0)) := hzi
  have HY : Hid (∀ w : World, ArrB (w.alloc (.cells Y 56)) w.heap.size (fun _ => false)) := hyi
  clear ha ha1 hzi hyi
  go_enter Try.func6, Try.ntmps6
  go_wp2_with fail
  refine (awake_any _).mono ?_
  rintro e w1 ⟨rfl, f1⟩
  go_wp2_with fail
  refine (new_any _ lrs).mono ?_
  rintro e w2 (⟨_, rfl, rfl⟩ | ⟨_, B, rfl, hb, f2, t2⟩)
  · go_wp2_with fail
    go_ret
    exact ⟨rfl, f1⟩
  · have HB0 : Hid (∀ k, B.s k → w.heap.size ≤ k) := fun k hk => Nat.le_trans f1.size (hb k hk)
    replace f2 := f1.trans f2
    have p1 := (Fr.refl none' w2).alloc (.cells Z 51)
    have p2 := (Fr.refl none' (w2.alloc (.cells Z 51))).alloc (.cells Y 56)
    have z1 := HZ.out w2
    have z2 := HY.out (w2.alloc (.cells Z 51))
    rw [show (w2.alloc (.cells Z 51)).heap.size = w2.heap.size + 1 by simp] at z2
    have dk : Desk ((w2.alloc (.cells Z 51)).alloc (.cells Y 56)) w.heap.size B w2.heap.size (w2.heap.size + 1) (zeroV lrs) (fun _ => 0) (fun _ => false) :=
      ⟨(t2.keep0 p1).keep0 p2, z1.keep p2 (fun h => h), z2, ⟨f2.size, by have := f2.size; omega⟩, by omega, ⟨fun e => by have := t2.lt _ e; omega, fun e => by have := t2.lt _ e; omega⟩⟩
    have F2 := (f2.trans p1).trans p2
    clear z1 z2 p1 p2 t2 f2 hb f1
    go_upto_block 0 with fail
    generalize w2.heap.size = gp at *
    generalize hgf : gp + 1 = gf at *
    clear hgf
    go_cut [12, 13] from 30 to 81 (fun s i wx => ∃ (n : Nat) (S : Vg) (P : Nat → Int) (F : Nat → Bool), s = .int .i64 (n : Int) ∧ n ≤ 64 ∧ Fr none' w wx ∧ Desk wx w.heap.size B gp gf S P F ∧ Hid (Left S n n P F (-1)))
    case first =>
      go_wp2_with fail
      go_loopw [12, 13] (fun s i wr => ∃ (k : Nat) (S : Vg) (P : Nat → Int) (F : Nat → Bool), k ≤ len ∧ k ≤ 64 ∧ s = .int .i64 k ∧ i = .int .i64 k ∧ Fr none' w wr ∧ Desk wr w.heap.size B gp gf S P F ∧ Hid (Left S k k P F (-1))) (fun _ i _ => 64 - (intOf i).toNat)
      case atStart => exact ⟨0, _, _, _, by omega, by omega, rfl, rfl, F2, dk, left_zero lrs _ _⟩
      case round =>
        clear F2 dk
        obtain ⟨k, S, P, F, hk1, hk2, rfl, rfl, fk, hD, HL⟩ := hrel
        by_cases hin : k < len ∧ k < 64
        · obtain ⟨b0, o0, x, rfl, hcell⟩ := HA.out k hin.1
          have c0 := cell_keep fk hcell (fun h => h)
          have i1 : 0 ≤ (k : Int) ∧ (k : Int) < (len : Int) := by omega
          have i2 : 0 ≤ (k : Int) ∧ (k : Int) < 64 := by omega
          have u1 : decide ((k : Int) < (len : Int)) = true := decide_eq_true (by omega)
          have u2 : decide ((k : Int) < 64) = true := decide_eq_true (by omega)
          have hm := mod_bnd x
          have y0 := hD.p.cell hin.2
          have y1 := hD.p.frozen k
          have D1 := hD.setP hin.2 (x.tmod 256)
          have y2 := D1.p.cell hin.2
          rw [updI_same] at y2
          have y3 := D1.p.frozen k
          have F1 := fk.newer (fr_cell' wr gp k (.int .i64 (x.tmod 256))) hD.new.1
          by_cases hneg : x.tmod 256 < 0
          · have u3 : decide (x.tmod 256 < 0) = true := decide_eq_true hneg
            have hw : IntKind.i64.wrap (-(x.tmod 256)) = -(x.tmod 256) := wrap_small (by omega) (by omega)
            have hw2 : wrap64 (-(x.tmod 256)) = -(x.tmod 256) := by unfold wrap64; omega
            have D2 := D1.setP hin.2 (-(x.tmod 256))
            rw [updI_updI] at D2
            have F2 := F1.newer (fr_cell' (wr.setCell ⟨gp, k, none⟩ (.int .i64 (x.tmod 256))) gp k (.int .i64 (-(x.tmod 256)))) hD.new.1
            have z3 := D2.f.cell hin.2
            have z4 := D2.f.frozen k
            by_cases hfl : k < len1
            · obtain ⟨b1, o1, y, rfl, hyc⟩ := HA1.out k hfl
              have d0 := cell_keep F2 hyc (fun h => h)
              have i3 : 0 ≤ (k : Int) ∧ (k : Int) < (len1 : Int) := by omega
              have u4 : decide ((k : Int) < (len1 : Int)) = true := decide_eq_true (by omega)
              have u4' : decide (k < len1) = true := decide_eq_true hfl
              clear hyc
              have D3 := D2.setF hin.2 y
              have F3 := F2.newer (fr_cell' ((wr.setCell ⟨gp, k, none⟩ (.int .i64 (x.tmod 256))).setCell ⟨gp, k, none⟩ (.int .i64 (-(x.tmod 256)))) gf k (.bool y)) D2.new.2
              have hj := HL.out.inj hin.2 (-(x.tmod 256)) ⟨by omega, by omega⟩ y
              have hI : ∀ W, IsVg W B S → Calls Try.prog 21 #[.pointer (some ⟨B.b, 0, none⟩), .int .i64 (k : Int), .int .i64 (-(x.tmod 256)), .bool y] W fun e w' => e = .returned (.int .i64 0) ∧ Chg W B (injS S k (-(x.tmod 256)) y) w' := fun W h => by
                have := inject_any W B S h (k : Int) (-(x.tmod 256)) y
                rwa [hj.1] at this
              have HN : Hid (Left (injS S k (-(x.tmod 256)) y) (k + 1) (k + 1) (updI P k (-(x.tmod 256))) (setB F k y) (-1)) := hj.2
              obtain ⟨V, hV⟩ : ∃ V, V = (((wr.setCell ⟨gp, k, none⟩ (.int .i64 (x.tmod 256))).setCell ⟨gp, k, none⟩ (.int .i64 (-(x.tmod 256)))).setCell ⟨gf, k, none⟩ (.bool y)) := ⟨_, rfl⟩
              rw [← hV] at D3 F3
              have e1 := D3.p.cell hin.2
              have e2 := D3.f.cell hin.2
              rw [updI_same] at e1
              rw [setB_same] at e2
              generalize injS S k (-(x.tmod 256)) y = S' at *
              clear hj D1 D2 hD F1 F2 fk
              go_wp2_with fail
              rw [← hV]
              clear hV
              go_region_held3 (fun w' => w'.cell? ⟨gp, k, none⟩ = some (.int .i64 (-(x.tmod 256))) ∧ w'.cell? ⟨gf, k, none⟩ = some (.bool y)) (first | with_reducible exact ⟨e1, e2⟩ | with_reducible exact ⟨x1, x2⟩ | go_keep) (first | (go_at_call 21; refine (hI _ (D3.vg.keep0 (Fr.refl none' V).drew)).mono ?_; rintro e w5 ⟨rfl, f5, t5⟩; (have D5 := (D3.keep0 (Fr.refl none' V).drew).chg f5 t5); (have x1 := D5.p.cell hin.2); (have x2 := D5.f.cell hin.2); (rw [updI_same] at x1); (rw [setB_same] at x2)))
              all_goals
                have F5 := (F3.trans (Fr.refl none' V).drew).lone f5 HB0.out
                clear f5 t5 hI D3 F3
                go_wp2_with fail
                go_roundw
                all_goals first
                  | exact ⟨k + 1, S', _, _, by omega, by omega, by go_num, by go_num, F5, D5, HN⟩
                  | (simp [intOf]; omega)
            · have u4 : decide ((k : Int) < (len1 : Int)) = false := decide_eq_false (by omega)
              have u4' : decide (k < len1) = false := decide_eq_false hfl
              have D3 := D2.setF hin.2 false
              have F3 := F2.newer (fr_cell' ((wr.setCell ⟨gp, k, none⟩ (.int .i64 (x.tmod 256))).setCell ⟨gp, k, none⟩ (.int .i64 (-(x.tmod 256)))) gf k (.bool false)) D2.new.2
              have hj := HL.out.inj hin.2 (-(x.tmod 256)) ⟨by omega, by omega⟩ false
              have hI : ∀ W, IsVg W B S → Calls Try.prog 21 #[.pointer (some ⟨B.b, 0, none⟩), .int .i64 (k : Int), .int .i64 (-(x.tmod 256)), .bool false] W fun e w' => e = .returned (.int .i64 0) ∧ Chg W B (injS S k (-(x.tmod 256)) false) w' := fun W h => by
                have := inject_any W B S h (k : Int) (-(x.tmod 256)) false
                rwa [hj.1] at this
              have HN : Hid (Left (injS S k (-(x.tmod 256)) false) (k + 1) (k + 1) (updI P k (-(x.tmod 256))) (setB F k false) (-1)) := hj.2
              obtain ⟨V, hV⟩ : ∃ V, V = (((wr.setCell ⟨gp, k, none⟩ (.int .i64 (x.tmod 256))).setCell ⟨gp, k, none⟩ (.int .i64 (-(x.tmod 256)))).setCell ⟨gf, k, none⟩ (.bool false)) := ⟨_, rfl⟩
              rw [← hV] at D3 F3
              have e1 := D3.p.cell hin.2
              have e2 := D3.f.cell hin.2
              rw [updI_same] at e1
              rw [setB_same] at e2
              generalize injS S k (-(x.tmod 256)) false = S' at *
              clear hj D1 D2 hD F1 F2 fk
              go_wp2_with fail
              rw [← hV]
              clear hV
              go_region_held3 (fun w' => w'.cell? ⟨gp, k, none⟩ = some (.int .i64 (-(x.tmod 256))) ∧ w'.cell? ⟨gf, k, none⟩ = some (.bool false)) (first | with_reducible exact ⟨e1, e2⟩ | with_reducible exact ⟨x1, x2⟩ | go_keep) (first | (go_at_call 21; refine (hI _ (D3.vg.keep0 (Fr.refl none' V).drew)).mono ?_; rintro e w5 ⟨rfl, f5, t5⟩; (have D5 := (D3.keep0 (Fr.refl none' V).drew).chg f5 t5); (have x1 := D5.p.cell hin.2); (have x2 := D5.f.cell hin.2); (rw [updI_same] at x1); (rw [setB_same] at x2)))
              all_goals
                have F5 := (F3.trans (Fr.refl none' V).drew).lone f5 HB0.out
                clear f5 t5 hI D3 F3
                go_wp2_with fail
                go_roundw
                all_goals first
                  | exact ⟨k + 1, S', _, _, by omega, by omega, by go_num, by go_num, F5, D5, HN⟩
                  | (simp [intOf]; omega)
          · have u3 : decide (x.tmod 256 < 0) = false := decide_eq_false hneg
            have D2 := D1
            have F2 := F1
            have z3 := D2.f.cell hin.2
            have z4 := D2.f.frozen k
            by_cases hfl : k < len1
            · obtain ⟨b1, o1, y, rfl, hyc⟩ := HA1.out k hfl
              have d0 := cell_keep F2 hyc (fun h => h)
              have i3 : 0 ≤ (k : Int) ∧ (k : Int) < (len1 : Int) := by omega
              have u4 : decide ((k : Int) < (len1 : Int)) = true := decide_eq_true (by omega)
              have u4' : decide (k < len1) = true := decide_eq_true hfl
              clear hyc
              have D3 := D2.setF hin.2 y
              have F3 := F2.newer (fr_cell' (wr.setCell ⟨gp, k, none⟩ (.int .i64 (x.tmod 256))) gf k (.bool y)) D2.new.2
              have hj := HL.out.inj hin.2 (x.tmod 256) ⟨by omega, by omega⟩ y
              have hI : ∀ W, IsVg W B S → Calls Try.prog 21 #[.pointer (some ⟨B.b, 0, none⟩), .int .i64 (k : Int), .int .i64 (x.tmod 256), .bool y] W fun e w' => e = .returned (.int .i64 0) ∧ Chg W B (injS S k (x.tmod 256) y) w' := fun W h => by
                have := inject_any W B S h (k : Int) (x.tmod 256) y
                rwa [hj.1] at this
              have HN : Hid (Left (injS S k (x.tmod 256) y) (k + 1) (k + 1) (updI P k (x.tmod 256)) (setB F k y) (-1)) := hj.2
              obtain ⟨V, hV⟩ : ∃ V, V = ((wr.setCell ⟨gp, k, none⟩ (.int .i64 (x.tmod 256))).setCell ⟨gf, k, none⟩ (.bool y)) := ⟨_, rfl⟩
              rw [← hV] at D3 F3
              have e1 := D3.p.cell hin.2
              have e2 := D3.f.cell hin.2
              rw [updI_same] at e1
              rw [setB_same] at e2
              generalize injS S k (x.tmod 256) y = S' at *
              clear hj D1 D2 hD F1 F2 fk
              go_wp2_with fail
              rw [← hV]
              clear hV
              go_region_held3 (fun w' => w'.cell? ⟨gp, k, none⟩ = some (.int .i64 (x.tmod 256)) ∧ w'.cell? ⟨gf, k, none⟩ = some (.bool y)) (first | with_reducible exact ⟨e1, e2⟩ | with_reducible exact ⟨x1, x2⟩ | go_keep) (first | (go_at_call 21; refine (hI _ (D3.vg.keep0 (Fr.refl none' V).drew)).mono ?_; rintro e w5 ⟨rfl, f5, t5⟩; (have D5 := (D3.keep0 (Fr.refl none' V).drew).chg f5 t5); (have x1 := D5.p.cell hin.2); (have x2 := D5.f.cell hin.2); (rw [updI_same] at x1); (rw [setB_same] at x2)))
              all_goals
                have F5 := (F3.trans (Fr.refl none' V).drew).lone f5 HB0.out
                clear f5 t5 hI D3 F3
                go_wp2_with fail
                go_roundw
                all_goals first
                  | exact ⟨k + 1, S', _, _, by omega, by omega, by go_num, by go_num, F5, D5, HN⟩
                  | (simp [intOf]; omega)
            · have u4 : decide ((k : Int) < (len1 : Int)) = false := decide_eq_false (by omega)
              have u4' : decide (k < len1) = false := decide_eq_false hfl
              have D3 := D2.setF hin.2 false
              have F3 := F2.newer (fr_cell' (wr.setCell ⟨gp, k, none⟩ (.int .i64 (x.tmod 256))) gf k (.bool false)) D2.new.2
              have hj := HL.out.inj hin.2 (x.tmod 256) ⟨by omega, by omega⟩ false
              have hI : ∀ W, IsVg W B S → Calls Try.prog 21 #[.pointer (some ⟨B.b, 0, none⟩), .int .i64 (k : Int), .int .i64 (x.tmod 256), .bool false] W fun e w' => e = .returned (.int .i64 0) ∧ Chg W B (injS S k (x.tmod 256) false) w' := fun W h => by
                have := inject_any W B S h (k : Int) (x.tmod 256) false
                rwa [hj.1] at this
              have HN : Hid (Left (injS S k (x.tmod 256) false) (k + 1) (k + 1) (updI P k (x.tmod 256)) (setB F k false) (-1)) := hj.2
              obtain ⟨V, hV⟩ : ∃ V, V = ((wr.setCell ⟨gp, k, none⟩ (.int .i64 (x.tmod 256))).setCell ⟨gf, k, none⟩ (.bool false)) := ⟨_, rfl⟩
              rw [← hV] at D3 F3
              have e1 := D3.p.cell hin.2
              have e2 := D3.f.cell hin.2
              rw [updI_same] at e1
              rw [setB_same] at e2
              generalize injS S k (x.tmod 256) false = S' at *
              clear hj D1 D2 hD F1 F2 fk
              go_wp2_with fail
              rw [← hV]
              clear hV
              go_region_held3 (fun w' => w'.cell? ⟨gp, k, none⟩ = some (.int .i64 (x.tmod 256)) ∧ w'.cell? ⟨gf, k, none⟩ = some (.bool false)) (first | with_reducible exact ⟨e1, e2⟩ | with_reducible exact ⟨x1, x2⟩ | go_keep) (first | (go_at_call 21; refine (hI _ (D3.vg.keep0 (Fr.refl none' V).drew)).mono ?_; rintro e w5 ⟨rfl, f5, t5⟩; (have D5 := (D3.keep0 (Fr.refl none' V).drew).chg f5 t5); (have x1 := D5.p.cell hin.2); (have x2 := D5.f.cell hin.2); (rw [updI_same] at x1); (rw [setB_same] at x2)))
              all_goals
                have F5 := (F3.trans (Fr.refl none' V).drew).lone f5 HB0.out
                clear f5 t5 hI D3 F3
                go_wp2_with fail
                go_roundw
                all_goals first
                  | exact ⟨k + 1, S', _, _, by omega, by omega, by go_num, by go_num, F5, D5, HN⟩
                  | (simp [intOf]; omega)
        · have hcs : (¬ k < len) ∨ (k < len ∧ k = 64) := by omega
          clear hin
          rcases hcs with u1 | ⟨u1, rfl⟩
          · go_wp2_with fail
            go_meet
            exact ⟨k, S, P, F, rfl, hk2, fk, hD, HL⟩
          · go_wp2_with fail
            go_meet
            exact ⟨64, S, P, F, rfl, hk2, fk, hD, HL⟩
    case rest =>
    clear F2 dk HA HA1
    obtain ⟨n, S, P, F, rfl, hn, fk, hD, HL⟩ := hcut
    go_wp2_with fail
    go_loopw [15, 16] (fun la i wr => ∃ (k : Nat) (last : Int) (S : Vg), k ≤ n ∧ -1 ≤ last ∧ last < (n : Int) ∧ la = .int .i64 last ∧ i = .int .i64 k ∧ Fr none' w wr ∧ Desk wr w.heap.size B gp gf S P F ∧ Hid (Left S n (n - k) P F last)) (fun _ i _ => n - (intOf i).toNat)
    case atStart => exact ⟨0, -1, S, by omega, by omega, by omega, rfl, rfl, fk, hD, HL⟩
    case round =>
      clear fk hD HL
      obtain ⟨k, last, S, hk, hla, hlb, rfl, rfl, fk, hD, HL⟩ := hrel
      by_cases hlt : k < n
      · have u1 : decide ((k : Int) < (n : Int)) = true := decide_eq_true (by omega)
        have u2 : decide (k < n) = true := decide_eq_true hlt
        obtain ⟨q, hqn, eA, hbe, eF, eE, hleft⟩ := Left.more (S := S) (c := n - k - 1) (by have := HL.out; rwa [show n - k = n - k - 1 + 1 by omega] at this) hn
        have A := ack_any _ B S hD.vg
        rw [eA] at A
        have HF : Hid (Left (endS (ackS S) q) n (n - k - 1) P F q) := hleft
        have HE : Hid (last = -1 ∨ (0 ≤ last ∧ (P last.toNat < P q ∨ (P last.toNat = P q ∧ last < (q : Int))))) := hbe
        have hEn : ∀ W, IsVg W B (ackS S) → Calls Try.prog 23 #[.pointer (some ⟨B.b, 0, none⟩), .int .i64 (q : Int)] W fun e w' => e = .returned (.tuple #[.bool (F q), .int .i64 0]) ∧ Chg W B (endS (ackS S) q) w' := fun W h => by
          have := end_any W B (ackS S) h (q : Int)
          rwa [eF, eE] at this
        generalize endS (ackS S) q = S2 at *
        generalize ackS S = S1 at *
        have hq64 : q < 64 := by omega
        have i1 : 0 ≤ (q : Int) ∧ (q : Int) < 64 := by omega
        have g1 : decide ((q : Int) < 0) = false := decide_eq_false (by omega)
        have g2 : decide ((n : Int) ≤ (q : Int)) = false := decide_eq_false (by omega)
        have g3 : decide (n ≤ q) = false := decide_eq_false (by omega)
        clear eA eF eE hleft hbe HL
        go_wp2_with fail
        refine A.mono ?_
        rintro e w5 ⟨rfl, f5, t5⟩
        have D5 := hD.chg f5 t5
        have F5 := fk.lone f5 HB0.out
        have y1 := D5.p.cell hq64
        clear A hD fk f5 t5
        have hfin : ∀ W, Fr none' w5 W → Calls Try.prog 23 #[.pointer (some ⟨B.b, 0, none⟩), .int .i64 (q : Int)] W fun e w' => e = .returned (.tuple #[.bool (F q), .int .i64 0]) ∧ Fr none' w w' ∧ Desk w' w.heap.size B gp gf S2 P F := fun W fW =>
          (hEn W (D5.vg.keep0 fW)).mono fun e w' ⟨he, h1, h2⟩ => ⟨he, (F5.trans fW).lone h1 HB0.out, (D5.keep0 fW).chg h1 h2⟩
        have hcs : last = -1 ∨ ∃ lt : Nat, last = (lt : Int) ∧ lt < 64 ∧ decide (P q < P lt) = false ∧ (((P q == P lt) = true ∧ decide ((q : Int) ≤ (lt : Int)) = false ∧ decide (q ≤ lt) = false) ∨ (P q == P lt) = false) := by
          rcases HE.out with h | ⟨h0, h⟩
          · exact Or.inl h
          · refine Or.inr ⟨last.toNat, by omega, by omega, decide_eq_false (by omega), ?_⟩
            by_cases e : P q = P last.toNat
            · exact Or.inl ⟨by simpa using e, decide_eq_false (by omega), decide_eq_false (by omega)⟩
            · exact Or.inr (by simpa using e)
        have v7 : (F q != F q) = false := by simp
        generalize hFq : F q = fq at *
        have HFq : Hid (F q = fq) := hFq
        have D5f := D5.f
        clear hEn HE hFq
        rcases hcs with rfl | ⟨lt, rfl, hlt64, v1, v2⟩
        · go_wp2_with fail
          go_quiet (fail)
          go_wp2_with fail
          refine (hfin _ (fr_drewN _ _)).mono ?_
          rintro e w7 ⟨rfl, F7, D7⟩
          have y7 := D7.f.cell hq64
          rw [HFq.out] at y7
          clear hfin D5 F5 y1 D5f
          go_wp2_with fail
          go_roundw
          case rel => exact ⟨k + 1, q, S2, by omega, by omega, by omega, rfl, by go_num, F7, D7, by rw [show n - (k + 1) = n - k - 1 by omega]; exact HF⟩
          case measure => simp [intOf]; omega
        · have y2 := D5.p.cell hlt64
          have i3 : 0 ≤ (lt : Int) ∧ (lt : Int) < 64 := by omega
          have v0 : decide (0 ≤ (lt : Int)) = true := decide_eq_true (by omega)
          rcases v2 with ⟨v3, v4, v5⟩ | v3
          all_goals
            go_wp2_with fail
            go_quiet (fail)
            go_wp2_with fail
            refine (hfin _ (fr_drewN _ _)).mono ?_
            rintro e w7 ⟨rfl, F7, D7⟩
            have y7 := D7.f.cell hq64
            rw [HFq.out] at y7
            clear hfin D5 F5 y1 D5f y2
            go_wp2_with fail
            go_roundw
            case rel => exact ⟨k + 1, q, S2, by omega, by omega, by omega, rfl, by go_num, F7, D7, by rw [show n - (k + 1) = n - k - 1 by omega]; exact HF⟩
            case measure => simp [intOf]; omega
      · obtain rfl : k = n := by omega
        have u1 : decide ((k : Int) < (k : Int)) = false := decide_eq_false (by omega)
        have u2 : decide (k < k) = false := decide_eq_false (by omega)
        obtain ⟨ea, et⟩ := Left.done (S := S) (n := k) (P := P) (F := F) (last := last) (by have := HL.out; rwa [Nat.sub_self] at this)
        have A := ack_any _ B S hD.vg
        rw [ea, et] at A
        clear ea et
        go_wp2_with fail
        refine A.mono ?_
        rintro e w5 ⟨rfl, f5, t5⟩
        have F5 := fk.lone f5 HB0.out
        clear A fk f5 t5 hD
        go_wp2_with fail
        go_ret
        exact ⟨rfl, F5⟩

theorem serves_any (lrs : Int) (a0 : Option Addr) (len cap : Nat) (a1 : Option Addr) (len1 cap1 : Nat) (w : World) (hl : len ≤ 9223372036854775807) (ha : Nums w a0 len) (_hl1 : len1 ≤ 9223372036854775807) (ha1 : Flags w a1 len1) :
    Calls Try.prog 6 #[.int .i64 lrs, .slice a0 len cap, .slice a1 len1 cap1] w fun e w' => e = .returned (.bool true) ∧ Below w.heap.size w w' :=
  (serves_row lrs a0 len cap a1 len1 cap1 w hl ha _hl1 ha1).mono fun _ _ ⟨he, hf⟩ => ⟨he, hf.below (Nat.le_refl _) (fun _ h => h.elim)⟩

end Go.Proofs.Ytlbflaebjicmaaa
