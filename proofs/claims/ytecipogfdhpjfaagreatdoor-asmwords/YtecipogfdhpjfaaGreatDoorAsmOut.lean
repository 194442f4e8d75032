/-
  Contracts of package asm's mnemonic, Mnemonic, part and item over the translation. No statement is proved here.
-/
import Derived.Test.YtecipogfdhpjfaaGreatDoorAsmHex
import Derived.Test.YtecipogfdhpjfaaGreatDoorAsmStm
import Derived.Test.YtecipogfdhpjfaaGreatDoorAsmBackP
namespace Go.Proofs.YtecipogfdhpjfaaGreatDoor
open Go.RowKit

def mnL (op : Nat) : List UInt8 := if op = 0 then wordB else mnOf (op : Int)
theorem mnB_get (op : Nat) (h : op < 26) : mnB.getD op ByteArray.empty = ⟨(mnL op).toArray⟩ := by
  have : op = 0 ∨ op = 1 ∨ op = 2 ∨ op = 3 ∨ op = 4 ∨ op = 5 ∨ op = 6 ∨ op = 7 ∨ op = 8 ∨ op = 9 ∨ op = 10 ∨ op = 11 ∨ op = 12 ∨ op = 13 ∨ op = 14 ∨ op = 15 ∨ op = 16 ∨ op = 17 ∨ op = 18 ∨ op = 19 ∨ op = 20 ∨ op = 21 ∨ op = 22 ∨ op = 23 ∨ op = 24 ∨ op = 25 := by omega
  rcases this with rfl | rfl | rfl | rfl | rfl | rfl | rfl | rfl | rfl | rfl | rfl | rfl | rfl | rfl | rfl | rfl | rfl | rfl | rfl | rfl | rfl | rfl | rfl | rfl | rfl | rfl <;> rfl

set_option maxHeartbeats 1000000 in
theorem mn_any (op : Nat) (h : op < 26) (w : World) (hE : Env w) : Calls Tryz.prog 22 #[.int .i64 (op : Int)] w fun e w' => e = .returned (strV (mnL op)) ∧ Fr none' w w' := by
  have hF := fields_any w hE
  unfold mnC at hF
  have c0 := mn_row w op (by show op < 26; exact h)
  rw [mnB_get op h, Nat.zero_add] at c0
  have i1 : 0 ≤ (op : Int) ∧ (op : Int) < 26 := by omega
  have fr := (Fr.refl none' w).alloc (.cells (mnB.map Value.string).toArray 9)
  obtain ⟨o, ho⟩ : ∃ o, o = Obj.cells (mnB.map Value.string).toArray 9 := ⟨_, rfl⟩
  rw [← ho] at hF c0 fr
  clear ho
  go_enter Tryz.func22, Tryz.ntmps22
  go_wp2_with fail
  refine hF.mono ?_
  rintro e w1 ⟨rfl, rfl⟩
  go_wp2_with fail
  go_ret
  exact ⟨rfl, fr⟩

theorem kf_zero (op : Int) : kf op = 0 ↔ (op < 1 ∨ 25 < op) := by
  by_cases h : 1 ≤ op ∧ op ≤ 25
  · have hh : ∀ n : Fin 26, 1 ≤ n.val → kf (n.val : Int) ≠ 0 := by decide +kernel
    have := hh ⟨op.toNat, by omega⟩ (by show 1 ≤ op.toNat; omega)
    rw [show (((⟨op.toNat, by omega⟩ : Fin 26).val : Nat) : Int) = op by simp; omega] at this
    constructor
    · intro h'; exact absurd h' this
    · intro h'; omega
  · constructor
    · intro _; omega
    · intro _
      exact kf_none (by omega)

set_option maxHeartbeats 1000000 in
theorem mnem_any (op : Int) (w : World) (hE : Env w) : Calls Tryz.prog 9 #[.int .i64 op] w fun e w' => e = .returned (strV (mnOf op)) ∧ Fr none' w w' := by
  have hK := kind_any op w
  by_cases h : op < 1 ∨ 25 < op
  · have hk := (kf_zero op).2 h
    rw [hk] at hK
    have hm : mnOf op = [] := by unfold mnOf; rw [if_pos h]
    rw [hm]
    have hf : fs 0 = ⟨#[]⟩ := rfl
    rw [hf] at hK
    clear hk hm hf h
    go_enter Tryz.func9, Tryz.ntmps9
    go_wp2_with fail
    refine hK.mono ?_
    rintro e w1 ⟨rfl, f1⟩
    go_wp2_with fail
    go_ret
    exact ⟨rfl, f1⟩
  · have hk : kf op ≠ 0 := fun e => h ((kf_zero op).1 e)
    have hs : (fs (kf op)).toList.isEmpty = false := by
      have h8 := kf_le op
      have hh : ∀ n : Fin 9, n.val ≠ 0 → (fs n.val).toList.isEmpty = false := by decide +kernel
      exact hh ⟨kf op, by omega⟩ hk
    obtain ⟨q, rfl⟩ : ∃ q : Nat, op = (q : Int) := ⟨op.toNat, by omega⟩
    have hq : q < 26 := by omega
    have hm : mnOf (q : Int) = mnL q := by unfold mnL; rw [if_neg (by omega)]
    rw [hm]
    obtain ⟨s, hse⟩ : ∃ s, s = fs (kf (q : Int)) := ⟨_, rfl⟩
    rw [← hse] at hK hs
    have hb : (s.toList == ([] : List UInt8)) = false := by
      cases hx : s.toList with
      | nil => rw [hx] at hs; simp at hs
      | cons a b => rfl
    clear hse hm h hk
    go_enter Tryz.func9, Tryz.ntmps9
    go_wp2_with fail
    refine hK.mono ?_
    rintro e w1 ⟨rfl, f1⟩
    have hM := mn_any q hq w1 (hE.keep f1)
    go_wp2_with fail
    refine hM.mono ?_
    rintro e w2 ⟨rfl, f2⟩
    go_wp2_with fail
    go_ret
    exact ⟨rfl, f1.trans f2⟩

theorem itoa_any (n : Int) (h0 : 0 ≤ n) (h1 : n ≤ 9223372036854775807) (w : World) (hE : Env w) : Calls Tryz.prog 60 #[.int .i64 n] w fun e w' => e = .returned (strV (decB n.toNat)) ∧ Fr none' w w' := by
  refine (Any.strconv_Itoa Tryz.laysM171 n (by omega) h1 w hE.p10).mono ?_
  rintro e w' ⟨rfl, k, os, rfl⟩
  refine ⟨?_, fr_grown k os⟩
  unfold Lib.itoa
  rw [if_neg (by omega), dec_eq]

/-- One text behind another. -/
theorem add_run (x y : List UInt8) (h : x.length + y.length ≤ 9223372036854775807) (w : World) : (Op.stringOp .add ⟨x.toArray⟩ ⟨y.toArray⟩).run Tryz.prog w = .ok (strV (x ++ y)) w := by
  rw [run_string_add_sum w _ _ (by simpa [ByteArray.size] using h), ByteArray.mk_append_mk]

set_option maxHeartbeats 1000000 in
theorem part_97 (o a b c i : Int) (h0 : 0 ≤ a) (h1 : a ≤ 65535) (w : World) (hE : Env w) : Calls Tryz.prog 37 #[.agg #[.int .i64 o, .int .i64 a, .int .i64 b, .int .i64 c, .int .i64 i], .int .i32 97] w fun e w' => e = .returned (strV (regB a)) ∧ Fr none' w w' := by
  have f0 := (Fr.refl none' w).alloc (.cells (ibox o a b c i) 46)
  have r0 := row_alloc w (ibox o a b c i) 46
  have hI := itoa_any a h0 (by omega) _ (hE.keep f0)
  have hA := add_run [114] (decB a.toNat) (by have := dec_len a.toNat (by omega); simp; omega)
  obtain ⟨c0, c1, c2, c3, c4⟩ := ibox_cells r0
  unfold ibox at c0 c1 c2 c3 c4 f0 hI
  clear r0
  go_enter Tryz.func37, Tryz.ntmps37
  go_wp2_with fail
  refine hI.mono ?_
  rintro e w1 ⟨rfl, f1⟩
  go_wp2_with fail
  go_ret
  exact ⟨rfl, f0.trans f1⟩

set_option maxHeartbeats 1000000 in
theorem part_98 (o a b c i : Int) (h0 : 0 ≤ b) (h1 : b ≤ 65535) (w : World) (hE : Env w) : Calls Tryz.prog 37 #[.agg #[.int .i64 o, .int .i64 a, .int .i64 b, .int .i64 c, .int .i64 i], .int .i32 98] w fun e w' => e = .returned (strV (regB b)) ∧ Fr none' w w' := by
  have f0 := (Fr.refl none' w).alloc (.cells (ibox o a b c i) 46)
  have r0 := row_alloc w (ibox o a b c i) 46
  have hI := itoa_any b h0 (by omega) _ (hE.keep f0)
  have hA := add_run [114] (decB b.toNat) (by have := dec_len b.toNat (by omega); simp; omega)
  obtain ⟨c0, c1, c2, c3, c4⟩ := ibox_cells r0
  unfold ibox at c0 c1 c2 c3 c4 f0 hI
  clear r0
  go_enter Tryz.func37, Tryz.ntmps37
  go_wp2_with fail
  refine hI.mono ?_
  rintro e w1 ⟨rfl, f1⟩
  go_wp2_with fail
  go_ret
  exact ⟨rfl, f0.trans f1⟩

set_option maxHeartbeats 1000000 in
theorem part_99 (o a b c i : Int) (h0 : 0 ≤ c) (h1 : c ≤ 65535) (w : World) (hE : Env w) : Calls Tryz.prog 37 #[.agg #[.int .i64 o, .int .i64 a, .int .i64 b, .int .i64 c, .int .i64 i], .int .i32 99] w fun e w' => e = .returned (strV (regB c)) ∧ Fr none' w w' := by
  have f0 := (Fr.refl none' w).alloc (.cells (ibox o a b c i) 46)
  have r0 := row_alloc w (ibox o a b c i) 46
  have hI := itoa_any c h0 (by omega) _ (hE.keep f0)
  have hA := add_run [114] (decB c.toNat) (by have := dec_len c.toNat (by omega); simp; omega)
  obtain ⟨c0, c1, c2, c3, c4⟩ := ibox_cells r0
  unfold ibox at c0 c1 c2 c3 c4 f0 hI
  clear r0
  go_enter Tryz.func37, Tryz.ntmps37
  go_wp2_with fail
  refine hI.mono ?_
  rintro e w1 ⟨rfl, f1⟩
  go_wp2_with fail
  go_ret
  exact ⟨rfl, f0.trans f1⟩

set_option maxHeartbeats 1000000 in
theorem part_105 (o a b c i : Int) (h0 : 0 ≤ i) (h1 : i ≤ 65535) (w : World) (hE : Env w) : Calls Tryz.prog 37 #[.agg #[.int .i64 o, .int .i64 a, .int .i64 b, .int .i64 c, .int .i64 i], .int .i32 105] w fun e w' => e = .returned (strV (decB i.toNat)) ∧ Fr none' w w' := by
  have f0 := (Fr.refl none' w).alloc (.cells (ibox o a b c i) 46)
  have r0 := row_alloc w (ibox o a b c i) 46
  have hI := itoa_any i h0 (by omega) _ (hE.keep f0)
  obtain ⟨c0, c1, c2, c3, c4⟩ := ibox_cells r0
  unfold ibox at c0 c1 c2 c3 c4 f0 hI
  clear r0
  go_enter Tryz.func37, Tryz.ntmps37
  go_wp2_with fail
  refine hI.mono ?_
  rintro e w1 ⟨rfl, f1⟩
  go_wp2_with fail
  go_ret
  exact ⟨rfl, f0.trans f1⟩

set_option maxHeartbeats 1000000 in
theorem part_44 (o a b c i : Int) (w : World) : Calls Tryz.prog 37 #[.agg #[.int .i64 o, .int .i64 a, .int .i64 b, .int .i64 c, .int .i64 i], .int .i32 44] w fun e w' => e = .returned (strV ([44, 32])) ∧ Fr none' w w' := by
  have f0 := (Fr.refl none' w).alloc (.cells (ibox o a b c i) 46)
  have r0 := row_alloc w (ibox o a b c i) 46
  obtain ⟨c0, c1, c2, c3, c4⟩ := ibox_cells r0
  unfold ibox at c0 c1 c2 c3 c4 f0
  clear r0
  go_enter Tryz.func37, Tryz.ntmps37
  go_wp2
  go_ret
  exact ⟨rfl, f0⟩

set_option maxHeartbeats 1000000 in
theorem part_43 (o a b c i : Int) (w : World) : Calls Tryz.prog 37 #[.agg #[.int .i64 o, .int .i64 a, .int .i64 b, .int .i64 c, .int .i64 i], .int .i32 43] w fun e w' => e = .returned (strV ([32, 43, 32])) ∧ Fr none' w w' := by
  have f0 := (Fr.refl none' w).alloc (.cells (ibox o a b c i) 46)
  have r0 := row_alloc w (ibox o a b c i) 46
  obtain ⟨c0, c1, c2, c3, c4⟩ := ibox_cells r0
  unfold ibox at c0 c1 c2 c3 c4 f0
  clear r0
  go_enter Tryz.func37, Tryz.ntmps37
  go_wp2
  go_ret
  exact ⟨rfl, f0⟩

set_option maxHeartbeats 1000000 in
theorem part_91 (o a b c i : Int) (w : World) : Calls Tryz.prog 37 #[.agg #[.int .i64 o, .int .i64 a, .int .i64 b, .int .i64 c, .int .i64 i], .int .i32 91] w fun e w' => e = .returned (strV ([91])) ∧ Fr none' w w' := by
  have f0 := (Fr.refl none' w).alloc (.cells (ibox o a b c i) 46)
  have r0 := row_alloc w (ibox o a b c i) 46
  obtain ⟨c0, c1, c2, c3, c4⟩ := ibox_cells r0
  unfold ibox at c0 c1 c2 c3 c4 f0
  clear r0
  go_enter Tryz.func37, Tryz.ntmps37
  go_wp2
  go_ret
  exact ⟨rfl, f0⟩

set_option maxHeartbeats 1000000 in
theorem part_93 (o a b c i : Int) (w : World) : Calls Tryz.prog 37 #[.agg #[.int .i64 o, .int .i64 a, .int .i64 b, .int .i64 c, .int .i64 i], .int .i32 93] w fun e w' => e = .returned (strV ([93])) ∧ Fr none' w w' := by
  have f0 := (Fr.refl none' w).alloc (.cells (ibox o a b c i) 46)
  have r0 := row_alloc w (ibox o a b c i) 46
  obtain ⟨c0, c1, c2, c3, c4⟩ := ibox_cells r0
  unfold ibox at c0 c1 c2 c3 c4 f0
  clear r0
  go_enter Tryz.func37, Tryz.ntmps37
  go_wp2
  go_ret
  exact ⟨rfl, f0⟩

theorem shape_signs (op : Int) : ∀ s ∈ shapeB op, s = 97 ∨ s = 98 ∨ s = 99 ∨ s = 105 ∨ s = 44 ∨ s = 43 ∨ s = 91 ∨ s = 93 := by
  by_cases h : 0 ≤ op ∧ op ≤ 25
  · have hh : ∀ n : Fin 26, ∀ s ∈ shapeB (n.val : Int), s = 97 ∨ s = 98 ∨ s = 99 ∨ s = 105 ∨ s = 44 ∨ s = 43 ∨ s = 91 ∨ s = 93 := by decide +kernel
    have := hh ⟨op.toNat, by omega⟩
    rw [show (((⟨op.toNat, by omega⟩ : Fin 26).val : Nat) : Int) = op by simp; omega] at this
    exact this
  · have : shapeB op = [] := by
      have hk := (kf_zero op).2 (by omega)
      unfold shapeB
      rw [if_neg (by omega), hk]
      rfl
    rw [this]
    intro s hs
    simp at hs

theorem part_any (o a b c i : Int) (ha : 0 ≤ a ∧ a ≤ 65535) (hb : 0 ≤ b ∧ b ≤ 65535) (hc : 0 ≤ c ∧ c ≤ 65535) (hi : 0 ≤ i ∧ i ≤ 65535) (s : UInt8) (hs : s = 97 ∨ s = 98 ∨ s = 99 ∨ s = 105 ∨ s = 44 ∨ s = 43 ∨ s = 91 ∨ s = 93) (w : World) (hE : Env w) :
    Calls Tryz.prog 37 #[.agg #[.int .i64 o, .int .i64 a, .int .i64 b, .int .i64 c, .int .i64 i], .int .i32 (s.toNat : Int)] w fun e w' => e = .returned (strV (operB a b c i s)) ∧ Fr none' w w' := by
  rcases hs with rfl | rfl | rfl | rfl | rfl | rfl | rfl | rfl
  · exact part_97 o a b c i ha.1 ha.2 w hE
  · exact part_98 o a b c i hb.1 hb.2 w hE
  · exact part_99 o a b c i hc.1 hc.2 w hE
  · exact part_105 o a b c i hi.1 hi.2 w hE
  · exact part_44 o a b c i w
  · exact part_43 o a b c i w
  · exact part_91 o a b c i w
  · exact part_93 o a b c i w

end Go.Proofs.YtecipogfdhpjfaaGreatDoor
