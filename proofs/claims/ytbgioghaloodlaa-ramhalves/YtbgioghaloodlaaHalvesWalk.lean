/-
  The walk of the law RamHalves: two stores of halves are one of the whole, and a word is its bytes: for every address and word the law returns true and nothing old turns.
-/
import Derived.Test.YtbgioghaloodlaaBackWalk
namespace Go.Proofs.Ytbgioghaloodlaa
open Go.RowKit

def hvZ : List UInt8 := List.replicate (64 * 8) 0
def hvA (a v : Nat) : List UInt8 := putAt hvZ a (bytesOf 4 v)

theorem hv_two (bs : List UInt8) (a v : Nat) : putAt (putAt bs a (bytesOf 2 v)) (a + 2) (bytesOf 2 (v / 65536)) = putAt bs a (bytesOf 4 v) := by
  simp only [bytesOf, putAt, Nat.div_div_eq_div_mul, Nat.add_assoc]
theorem hv_four (bs : List UInt8) (a v : Nat) : putAt (putAt (putAt (putAt bs a (bytesOf 1 v)) (a + 1) (bytesOf 1 (v / 256))) (a + 2) (bytesOf 1 (v / 65536))) (a + 3) (bytesOf 1 (v / 16777216)) = putAt bs a (bytesOf 4 v) := by
  simp only [bytesOf, putAt, Nat.div_div_eq_div_mul, Nat.add_assoc]

theorem hv_new (w : World) : Calls Try.prog 9 #[.int .i64 8] w fun e w' => e = .returned (.tuple #[.pointer (some ⟨w.heap.size + 1, 0, none⟩), .int .i64 0]) ∧
    Fr none' w w' ∧ IsRam w' (w.heap.size + 1) w.heap.size 8 hvZ := new_any 8 w (by omega)

theorem hv_err (x s : Int) (h0 : 0 ≤ x) (h1 : x < 512) (hs : s = 1 ∨ s = 2 ∨ s = 4) (hm : x % s = 0) : errOf x s 8 = 0 := by
  refine err_none (by omega) ?_ (by omega)
  rw [Int.tmod_eq_emod_of_nonneg h0]; omega

theorem hv_store (w : World) (p bf a v : Nat) (x s y : Int) (bs : List UInt8) (h : IsRam w p bf 8 bs) (hx : x = (a : Int)) (h1 : a < 512) (hs : s = 1 ∨ s = 2 ∨ s = 4) (hm : x % s = 0) (hy : y = (v : Int)) (hv : v < 4294967296) :
    Calls Try.prog 17 #[.pointer (some ⟨p, 0, none⟩), .int .i64 x, .int .i64 s, .int .u32 y] w fun e w' =>
      e = .returned (.int .i64 0) ∧ Fr (at' bf) w w' ∧ IsRam w' p bf 8 (putAt bs a (bytesOf s.toNat v)) := by
  subst hx hy
  exact back_store w p bf 8 a v s bs h (hv_err a s (by omega) (by omega) hs hm) hv

theorem hv_frame (w : World) (p bf n : Nat) (x : Int) (bs : List UInt8) (h : IsRam w p bf 8 bs) (hx : x = (n : Int)) (hn : n < 8) :
    Calls Try.prog 14 #[.pointer (some ⟨p, 0, none⟩), .int .i64 x] w fun e w' => e = .returned (.tuple #[.slice (some ⟨w.heap.size, 0, none⟩) 64 64, .int .i64 0]) ∧
      Fr none' w w' ∧ Row w' w.heap.size (byteVals (frameOf bs n)) 5 := by
  subst hx; exact frame_ok w p bf 8 bs n h hn

theorem src_row {w : World} {b : Nat} {bs : List UInt8} {t : TypeId} (h : Row w b (byteVals bs) t) : Src w (some ⟨b, 0, none⟩) bs := by
  intro _
  refine ⟨_, rfl, fun j hj => ?_⟩
  have hadd : (⟨b, 0, none⟩ : Addr).add j = ⟨b, j, none⟩ := by unfold Addr.add; split <;> simp_all
  rw [hadd, h.cell, byteVals_get bs j hj]

theorem hv_same (w : World) (b0 b1 : Nat) (d : List UInt8) (hd : d.length = 64) (h0 : Row w b0 (byteVals d) 5) (h1 : Row w b1 (byteVals d) 5) :
    Calls Try.prog 16 #[.slice (some ⟨b0, 0, none⟩) 64 64, .slice (some ⟨b1, 0, none⟩) 64 64] w fun e w' => e = .returned (.bool true) ∧ Fr none' w w' := by
  refine (same_any w _ _ 64 64 64 64 d d hd hd (by omega) (src_row h0) (src_row h1)).mono ?_
  rintro e w' ⟨rfl, f⟩
  exact ⟨ret_bool (decide_eq_true rfl), f⟩

theorem not_at {b k : Nat} (h : k ≠ b) : ¬ at' b k := h
theorem not_none {k : Nat} : ¬ none' k := fun h => h

set_option maxHeartbeats 1600000 in
theorem halves_ok (a v : Nat) (w : World) (ha : a ≤ 508) (hm : a % 4 = 0) (hv : v < 4294967296) :
    Calls Try.prog 6 #[.int .i64 (a : Int), .int .u32 (v : Int)] w fun e w' => e = .returned (.bool true) ∧ Fr none' w w' := by
  have t1 : decide ((a : Int) < 0) = false := by simp
  have t2 : decide ((508 : Int) < (a : Int)) = false := by simp; omega
  have t3 : ((a : Int) % 4 != 0) = false := by simp; omega
  have HM : Hid (a % 4 = 0) := hm
  clear hm
  go_enter Try.func6, Try.ntmps6
  go_wp2_with fail
  refine (awake_any _).mono ?_
  rintro e w1 ⟨rfl, f1⟩
  go_wp2_with fail
  refine (hv_new _).mono ?_
  rintro e w2 ⟨rfl, f2, ra⟩
  have z1 := f1.size
  replace f2 := f1.trans f2
  clear f1
  go_wp2_with fail
  refine (hv_new _).mono ?_
  rintro e w3 ⟨rfl, f3, rb⟩
  have z2 := ra.head.lt
  replace ra := ra.keep f3 not_none not_none
  replace f3 := f2.trans f3
  clear f2
  go_wp2_with fail
  refine (hv_new _).mono ?_
  rintro e w4 ⟨rfl, f4, rc⟩
  have z3 := rb.head.lt
  replace ra := ra.keep f4 not_none not_none
  replace rb := rb.keep f4 not_none not_none
  replace f4 := f3.trans f4
  clear f3
  go_wp2_with fail
  refine (hv_store _ _ _ a v _ _ _ _ ra rfl (by omega) (by omega) (by have := HM.out; omega) rfl hv).mono ?_
  rintro e w5 ⟨rfl, f5, ra'⟩
  replace rb := rb.keep f5 (not_at (by omega)) (not_at (by omega))
  replace rc := rc.keep f5 (not_at (by omega)) (not_at (by omega))
  replace f5 := f4.newer f5 (by omega)
  clear f4 ra
  go_wp2_with fail
  refine (hv_store _ _ _ a v _ _ _ _ rb rfl (by omega) (by omega) (by have := HM.out; omega) rfl hv).mono ?_
  rintro e w6 ⟨rfl, f6, rb'⟩
  replace ra' := ra'.keep f6 (not_at (by omega)) (not_at (by omega))
  replace rc := rc.keep f6 (not_at (by omega)) (not_at (by omega))
  replace f6 := f5.newer f6 (by omega)
  clear f5 rb
  go_wp2_with fail
  refine (hv_store _ _ _ (a + 2) (v / 65536) _ _ _ _ rb' (by omega) (by omega) (by omega) (by have := HM.out; omega) (by omega) (by omega)).mono ?_
  rintro e w7 ⟨rfl, f7, rb''⟩
  replace ra' := ra'.keep f7 (not_at (by omega)) (not_at (by omega))
  replace rc := rc.keep f7 (not_at (by omega)) (not_at (by omega))
  replace f7 := f6.newer f7 (by omega)
  rw [show (2 : Int).toNat = 2 from rfl, hv_two] at rb''
  rw [show (4 : Int).toNat = 4 from rfl] at ra'
  clear f6 rb'
  go_wp2_with fail
  refine wp_loop_rounds 5 ?_
  rw [rounds_succ]; go_wp2_with fail
  refine (hv_store _ _ _ a v _ _ _ _ rc (by omega) (by omega) (by omega) (by omega) (by omega) (by omega)).mono ?_
  rintro e w8 ⟨rfl, f8, rc0⟩
  replace ra' := ra'.keep f8 (not_at (by omega)) (not_at (by omega))
  replace rb'' := rb''.keep f8 (not_at (by omega)) (not_at (by omega))
  replace f8 := f7.newer f8 (by omega)
  clear f7 rc
  go_wp2_with fail
  rw [rounds_succ]; go_wp2_with fail
  refine (hv_store _ _ _ (a + 1) (v / 256) _ _ _ _ rc0 (by omega) (by omega) (by omega) (by omega) (by omega) (by omega)).mono ?_
  rintro e w9 ⟨rfl, f9, rc1⟩
  replace ra' := ra'.keep f9 (not_at (by omega)) (not_at (by omega))
  replace rb'' := rb''.keep f9 (not_at (by omega)) (not_at (by omega))
  replace f9 := f8.newer f9 (by omega)
  clear f8 rc0
  go_wp2_with fail
  rw [rounds_succ]; go_wp2_with fail
  refine (hv_store _ _ _ (a + 2) (v / 65536) _ _ _ _ rc1 (by omega) (by omega) (by omega) (by omega) (by omega) (by omega)).mono ?_
  rintro e w10 ⟨rfl, f10, rc2⟩
  replace ra' := ra'.keep f10 (not_at (by omega)) (not_at (by omega))
  replace rb'' := rb''.keep f10 (not_at (by omega)) (not_at (by omega))
  replace f10 := f9.newer f10 (by omega)
  clear f9 rc1
  go_wp2_with fail
  rw [rounds_succ]; go_wp2_with fail
  refine (hv_store _ _ _ (a + 3) (v / 16777216) _ _ _ _ rc2 (by omega) (by omega) (by omega) (by omega) (by omega) (by omega)).mono ?_
  rintro e w11 ⟨rfl, f11, rc3⟩
  replace ra' := ra'.keep f11 (not_at (by omega)) (not_at (by omega))
  replace rb'' := rb''.keep f11 (not_at (by omega)) (not_at (by omega))
  replace f11 := f10.newer f11 (by omega)
  clear f10 rc2
  go_wp2_with fail
  rw [rounds_succ]; go_wp2_with fail
  rw [show (1 : Int).toNat = 1 from rfl, hv_four] at rc3
  generalize HB : putAt hvZ a (bytesOf 4 v) = B at *
  have HB' : Hid (putAt hvZ a (bytesOf 4 v) = B) := HB
  clear HB HB'
  refine (hv_frame _ _ _ (a / 64) _ _ ra' (by omega) (by omega)).mono ?_
  rintro e w12 ⟨rfl, f12, x12⟩
  replace rb'' := rb''.keep f12 not_none not_none
  replace rc3 := rc3.keep f12 not_none not_none
  replace f12 := f11.trans f12
  have HL : Hid ((frameOf B (a / 64)).length = 64) := length_frameOf B (a / 64) 8 ra'.len (by omega)
  clear f11 ra'
  go_wp2_with fail
  refine (hv_frame _ _ _ (a / 64) _ _ rb'' (by omega) (by omega)).mono ?_
  rintro e w13 ⟨rfl, f13, x13⟩
  replace x12 := x12.keep f13 not_none
  replace rc3 := rc3.keep f13 not_none not_none
  replace f13 := f12.trans f13
  clear f12 rb''
  go_wp2_with fail
  refine (hv_frame _ _ _ (a / 64) _ _ rc3 (by omega) (by omega)).mono ?_
  rintro e w14 ⟨rfl, f14, x14⟩
  replace x12 := x12.keep f14 not_none
  replace x13 := x13.keep f14 not_none
  replace f14 := f13.trans f14
  clear f13 rc3
  go_wp2_with fail
  refine (hv_same _ _ _ _ HL x12 x13).mono ?_
  rintro e w15 ⟨rfl, f15⟩
  replace x12 := x12.keep f15 not_none
  replace x14 := x14.keep f15 not_none
  replace f15 := f14.trans f15
  clear f14 x13
  go_wp2_with fail
  refine (hv_same _ _ _ _ HL x12 x14).mono ?_
  rintro e w16 ⟨rfl, f16⟩
  replace f16 := f15.trans f16
  clear f15 x12 x14
  go_wp2_with fail
  go_ret
  exact ⟨rfl, f16⟩

set_option maxHeartbeats 800000 in
theorem halves_out (a v : Int) (w : World) (h : a < 0 ∨ 508 < a ∨ a % 4 ≠ 0) (hm : a ≤ 9223372036854775807) :
    Calls Try.prog 6 #[.int .i64 a, .int .u32 v] w fun e w' => e = .returned (.bool true) ∧ Fr none' w w' := by
  by_cases h1 : a < 0
  · have t1 : decide (a < 0) = true := by simpa using h1
    clear h h1
    go_enter Try.func6, Try.ntmps6
    go_wp2_with fail
    refine (awake_any _).mono ?_
    rintro e w1 ⟨rfl, f1⟩
    go_wp2_with fail
    refine (hv_new _).mono ?_
    rintro e w2 ⟨rfl, f2, ra⟩
    go_wp2_with fail
    refine (hv_new _).mono ?_
    rintro e w3 ⟨rfl, f3, rb⟩
    go_wp2_with fail
    refine (hv_new _).mono ?_
    rintro e w4 ⟨rfl, f4, rc⟩
    go_wp2_with fail
    go_ret
    exact ⟨rfl, ((f1.trans f2).trans f3).trans f4⟩
  · have t1 : decide (a < 0) = false := by simpa using h1
    by_cases h2 : 508 < a
    · have t2 : decide (508 < a) = true := by simpa using h2
      clear h
      go_enter Try.func6, Try.ntmps6
      go_wp2_with fail
      refine (awake_any _).mono ?_
      rintro e w1 ⟨rfl, f1⟩
      go_wp2_with fail
      refine (hv_new _).mono ?_
      rintro e w2 ⟨rfl, f2, ra⟩
      go_wp2_with fail
      refine (hv_new _).mono ?_
      rintro e w3 ⟨rfl, f3, rb⟩
      go_wp2_with fail
      refine (hv_new _).mono ?_
      rintro e w4 ⟨rfl, f4, rc⟩
      go_wp2_with fail
      go_ret
      exact ⟨rfl, ((f1.trans f2).trans f3).trans f4⟩
    · have t2 : decide (508 < a) = false := by simpa using h2
      have h0 : 0 ≤ a := by omega
      have t3 : (a % 4 != 0) = true := by simp; omega
      clear h
      go_enter Try.func6, Try.ntmps6
      go_wp2_with fail
      refine (awake_any _).mono ?_
      rintro e w1 ⟨rfl, f1⟩
      go_wp2_with fail
      refine (hv_new _).mono ?_
      rintro e w2 ⟨rfl, f2, ra⟩
      go_wp2_with fail
      refine (hv_new _).mono ?_
      rintro e w3 ⟨rfl, f3, rb⟩
      go_wp2_with fail
      refine (hv_new _).mono ?_
      rintro e w4 ⟨rfl, f4, rc⟩
      go_wp2_with fail
      go_ret
      exact ⟨rfl, ((f1.trans f2).trans f3).trans f4⟩

theorem halves_any (a v : Int) (w : World) (ha : a ≤ 9223372036854775807) (hv0 : 0 ≤ v) (hv : v ≤ 4294967295) :
    Calls Try.prog 6 #[.int .i64 a, .int .u32 v] w fun e w' => e = .returned (.bool true) ∧ Below w.heap.size w w' := by
  have key : Calls Try.prog 6 #[.int .i64 a, .int .u32 v] w fun e w' => e = .returned (.bool true) ∧ Fr none' w w' := by
    by_cases h : a < 0 ∨ 508 < a ∨ a % 4 ≠ 0
    · exact halves_out a v w h ha
    · obtain ⟨v, rfl⟩ := Int.eq_ofNat_of_zero_le hv0
      obtain ⟨a, rfl⟩ := Int.eq_ofNat_of_zero_le (show 0 ≤ a by omega)
      exact halves_ok a v w (by omega) (by omega) (by omega)
  exact key.mono fun e w' ⟨he, hf⟩ => ⟨he, hf.below (Nat.le_refl _) (fun k h => h.elim)⟩

end Go.Proofs.Ytbgioghaloodlaa
