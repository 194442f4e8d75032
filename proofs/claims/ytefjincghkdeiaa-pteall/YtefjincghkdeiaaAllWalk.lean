/-
  The walk of the law PteAll: of all words just those are entries that are some entry's word: for every word the law returns true and nothing old turns.
-/
import Derived.Test.YtefjincghkdeiaaPteAwake
namespace Go.Proofs.Ytefjincghkdeiaa
open Go.RowKit

theorem dec_no (x : Nat) (w : World) (hx : x < 65536) (h : decOk x = false) :
    Calls Try.prog 14 #[.int .u16 (x : Int)] w fun e w' => e = .returned (.tuple #[.agg #[.bool false, .bool false, .int .i64 0, .int .i64 0], .int .i64 20]) ∧ Fr none' w w' := by
  have := dec_any x w hx
  unfold dv dl dr df de at this
  rw [h] at this
  simpa using this

set_option maxHeartbeats 800000 in
theorem all_no (x : Nat) (w : World) (hx : x < 65536) (h : decOk x = false) :
    Calls Try.prog 5 #[.int .u16 (x : Int)] w fun e w' => e = .returned (.bool true) ∧ Fr none' w w' := by
  go_enter Try.func5, Try.ntmps5
  go_wp2_with fail
  refine (awake_any _).mono ?_
  rintro e w1 ⟨rfl, f1⟩
  go_wp2_with fail
  refine (dec_no _ _ hx h).mono ?_
  rintro e w2 ⟨rfl, f2⟩
  replace f2 := (f1.trans f2).alloc (.cells #[.bool false, .bool false, .int .i64 0, .int .i64 0] 23)
  clear f1
  go_wp2_with fail
  go_ret
  exact ⟨rfl, f2⟩

set_option maxHeartbeats 800000 in
theorem all_yes (x : Nat) (w : World) (hx : x < 65536) (h : decOk x = true) :
    Calls Try.prog 5 #[.int .u16 (x : Int)] w fun e w' => e = .returned (.bool true) ∧ Fr none' w w' := by
  have t1 : ((x : Int) == (x : Int)) = true := by simp
  go_enter Try.func5, Try.ntmps5
  go_wp2_with fail
  refine (awake_any _).mono ?_
  rintro e w1 ⟨rfl, f1⟩
  go_wp2_with fail
  refine (dec_good _ _ hx h).mono ?_
  rintro e w2 ⟨rfl, f2⟩
  replace f2 := (f1.trans f2).alloc (.cells #[.bool (pv x), .bool (pl x), .int .i64 (pr x), .int .i64 (pf x)] 23)
  clear f1
  go_wp2_with fail
  refine (enc_parts _ _ h).mono ?_
  rintro e w3 ⟨rfl, f3⟩
  replace f3 := f2.trans f3
  clear f2
  go_wp2_with fail
  go_ret
  exact ⟨rfl, f3⟩

theorem all_any (x : Int) (w : World) (h0 : 0 ≤ x) (hx : x ≤ 65535) :
    Calls Try.prog 5 #[.int .u16 x] w fun e w' => e = .returned (.bool true) ∧ Below w.heap.size w w' := by
  obtain ⟨x, rfl⟩ := Int.eq_ofNat_of_zero_le h0
  have key : Calls Try.prog 5 #[.int .u16 (x : Int)] w fun e w' => e = .returned (.bool true) ∧ Fr none' w w' := by
    by_cases h : decOk x = true
    · exact all_yes x w (by omega) h
    · exact all_no x w (by omega) (by simpa using h)
  exact key.mono fun e w' ⟨he, hf⟩ => ⟨he, hf.below (Nat.le_refl _) (fun k h => h.elim)⟩

end Go.Proofs.Ytefjincghkdeiaa
