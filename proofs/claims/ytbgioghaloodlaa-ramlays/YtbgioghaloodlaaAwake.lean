/-
  The contract of 'awake' (some of the chapter's examples) over the translation: it answers true; nothing old turns. No statement is proved here.
-/
import Derived.Test.YtbgioghaloodlaaSame
namespace Go.Proofs.Ytbgioghaloodlaa
open Go.RowKit

def awB0 : List UInt8 := List.replicate (64 * 2) 0
def awB1 : List UInt8 := storeB awB0 4 4 2 287454020
def awB2 : List UInt8 := putAt awB1 (1 * 64) [9, 8]

theorem aw_new (w : World) : Calls Try.prog 9 #[.int .i64 2] w fun e w' => e = .returned (.tuple #[.pointer (some ⟨w.heap.size + 1, 0, none⟩), .int .i64 0]) ∧
    Fr none' w w' ∧ IsRam w' (w.heap.size + 1) w.heap.size 2 awB0 := new_any 2 w (by omega)
theorem aw_store (w : World) (p bf : Nat) (h : IsRam w p bf 2 awB0) : Calls Try.prog 17 #[.pointer (some ⟨p, 0, none⟩), .int .i64 4, .int .i64 4, .int .u32 287454020] w fun e w' =>
    e = .returned (.int .i64 0) ∧ Fr (at' bf) w w' ∧ IsRam w' p bf 2 awB1 := store_any w p bf 2 awB0 4 4 287454020 h (by omega) (by omega)
theorem aw_load1 (w : World) (p bf : Nat) (h : IsRam w p bf 2 awB1) : Calls Try.prog 18 #[.pointer (some ⟨p, 0, none⟩), .int .i64 4, .int .i64 1] w fun e w' =>
    e = .returned (.tuple #[.int .u32 68, .int .i64 0]) ∧ w' = w := by
  have := load_any w p bf 2 awB1 4 1 h (by omega)
  rwa [show loadV awB1 4 1 2 = 68 by decide +kernel, show errOf 4 1 2 = 0 by decide +kernel] at this
theorem aw_load2 (w : World) (p bf : Nat) (h : IsRam w p bf 2 awB1) : Calls Try.prog 18 #[.pointer (some ⟨p, 0, none⟩), .int .i64 6, .int .i64 2] w fun e w' =>
    e = .returned (.tuple #[.int .u32 4386, .int .i64 0]) ∧ w' = w := by
  have := load_any w p bf 2 awB1 6 2 h (by omega)
  rwa [show loadV awB1 6 2 2 = 4386 by decide +kernel, show errOf 6 2 2 = 0 by decide +kernel] at this
theorem aw_load3 (w : World) (p bf : Nat) (h : IsRam w p bf 2 awB1) : Calls Try.prog 18 #[.pointer (some ⟨p, 0, none⟩), .int .i64 3, .int .i64 3] w fun e w' =>
    e = .returned (.tuple #[.int .u32 0, .int .i64 1]) ∧ w' = w := by
  have := load_any w p bf 2 awB1 3 3 h (by omega)
  rwa [show loadV awB1 3 3 2 = 0 by decide +kernel, show errOf 3 3 2 = 1 by decide +kernel] at this
theorem aw_load4 (w : World) (p bf : Nat) (h : IsRam w p bf 2 awB1) : Calls Try.prog 18 #[.pointer (some ⟨p, 0, none⟩), .int .i64 (-1), .int .i64 2] w fun e w' =>
    e = .returned (.tuple #[.int .u32 0, .int .i64 11]) ∧ w' = w := by
  have := load_any w p bf 2 awB1 (-1) 2 h (by omega)
  rwa [show loadV awB1 (-1) 2 2 = 0 by decide +kernel, show errOf (-1) 2 2 = 11 by decide +kernel] at this
theorem aw_load5 (w : World) (p bf : Nat) (h : IsRam w p bf 2 awB1) : Calls Try.prog 18 #[.pointer (some ⟨p, 0, none⟩), .int .i64 128, .int .i64 1] w fun e w' =>
    e = .returned (.tuple #[.int .u32 0, .int .i64 10]) ∧ w' = w := by
  have := load_any w p bf 2 awB1 128 1 h (by omega)
  rwa [show loadV awB1 128 1 2 = 0 by decide +kernel, show errOf 128 1 2 = 10 by decide +kernel] at this
theorem aw_lay (w : World) (p bf b : Nat) (h : IsRam w p bf 2 awB1) (hr : Row w b #[.int .u8 9, .int .u8 8] 5) : Calls Try.prog 19 #[.pointer (some ⟨p, 0, none⟩), .int .i64 1, .slice (some ⟨b, 0, none⟩) 2 2] w fun e w' =>
    e = .returned (.int .i64 0) ∧ Fr (at' bf) w w' ∧ IsRam w' p bf 2 awB2 :=
  lay_ok w p bf 2 awB1 1 h (by omega) (some ⟨b, 0, none⟩) 2 2 [9, 8] rfl (fun _ => ⟨_, rfl, fun j hj => by
    have hadd : (⟨b, 0, none⟩ : Addr).add j = ⟨b, j, none⟩ := by unfold Addr.add; split <;> simp_all
    rw [hadd, hr.cell]
    match j, hj with
    | 0, _ => rfl
    | 1, _ => rfl⟩) (by omega)
theorem aw_load6 (w : World) (p bf : Nat) (h : IsRam w p bf 2 awB2) : Calls Try.prog 18 #[.pointer (some ⟨p, 0, none⟩), .int .i64 64, .int .i64 2] w fun e w' =>
    e = .returned (.tuple #[.int .u32 2057, .int .i64 0]) ∧ w' = w := by
  have := load_any w p bf 2 awB2 64 2 h (by omega)
  rwa [show loadV awB2 64 2 2 = 2057 by decide +kernel, show errOf 64 2 2 = 0 by decide +kernel] at this

theorem Fr.newer {w w1 w2 : World} {b : Nat} (f : Fr none' w w1) (g : Fr (at' b) w1 w2) (hb : w.heap.size ≤ b) : Fr none' w w2 :=
  ⟨g.os.trans f.os, g.tape.trans f.tape, g.output.trans f.output, Nat.le_trans f.size g.size, fun i hi hn => (g.block i (Nat.lt_of_lt_of_le hi f.size) (fun e => by have e' : i = b := e; omega)).trans (f.block i hi hn)⟩

set_option maxHeartbeats 800000 in
theorem awake_any (w : World) : Calls Try.prog 8 #[] w fun e w' => e = .returned (.bool true) ∧ Fr none' w w' := by
  go_enter Try.func8, Try.ntmps8
  go_wp2_with fail
  refine (aw_new _).mono ?_
  rintro e w1 ⟨rfl, f1, r1⟩
  go_wp2_with fail
  refine (aw_store _ _ _ r1).mono ?_
  rintro e w2 ⟨rfl, f2, r2⟩
  replace f2 := f1.newer f2 (Nat.le_refl _)
  clear f1 r1
  go_wp2_with fail
  refine (aw_load1 _ _ _ r2).mono ?_
  rintro e w' ⟨rfl, rfl⟩
  go_wp2_with fail
  refine (aw_load2 _ _ _ r2).mono ?_
  rintro e w2 ⟨rfl, rfl⟩
  go_wp2_with fail
  refine (aw_load3 _ _ _ r2).mono ?_
  rintro e w' ⟨rfl, rfl⟩
  go_wp2_with fail
  refine (aw_load4 _ _ _ r2).mono ?_
  rintro e w2 ⟨rfl, rfl⟩
  go_wp2_with fail
  refine (aw_load5 _ _ _ r2).mono ?_
  rintro e w' ⟨rfl, rfl⟩
  go_wp2_with fail
  refine (aw_lay _ _ _ w'.heap.size (r2.keep ((Fr.refl none' _).alloc _) (fun h => h) (fun h => h)) (row_alloc _ _ _)).mono ?_
  rintro e w3 ⟨rfl, f3, r3⟩
  replace f3 := (f2.alloc _).newer f3 (Nat.le_refl _)
  clear f2 r2
  go_wp2_with fail
  refine (aw_load6 _ _ _ r3).mono ?_
  rintro e w4 ⟨rfl, rfl⟩
  go_wp2_with fail
  refine (new_none 0 _ (by omega)).mono ?_
  rintro e w5 ⟨rfl, rfl⟩
  go_wp2_with fail
  go_ret
  exact ⟨rfl, f3⟩

end Go.Proofs.Ytbgioghaloodlaa
