/-
  The contracts of package isa's Right, Encode, Decode and onlyReads over the translation, said of plain numbers. No statement is proved here.
-/
import Derived.Test.YtecipogfdhpjfaaGreatDoorIsaVal
namespace Go.Proofs.YtecipogfdhpjfaaGreatDoor
open Go.RowKit

theorem Fr.undrew {S : Nat → Prop} {w w' : World} (h : Fr S w.drew w') : Fr S w w' := ⟨h.os, h.tape, h.output, h.size, h.block⟩

theorem right_eq {o a b c i x : Int} (hk : kf o ≠ 0) (hx : rightI o a b c i = true → x = wordI o a b c i) :
    (qo x == o && (qa x == a && (qb x == b && (qc x == c && qi x == i)))) = rightI o a b c i := by
  cases h : rightI o a b c i
  · cases e : (qo x == o && (qa x == a && (qb x == b && (qc x == c && qi x == i))))
    · rfl
    · simp only [Bool.and_eq_true, beq_iff_eq] at e
      have := right_back hk e.1 e.2.1 e.2.2.1 e.2.2.2.1 e.2.2.2.2
      rw [h] at this
      exact this.symm
  · rw [hx h, word_op h]
    obtain ⟨h1, h2, h3, h4⟩ := parts_word h
    rw [h1, h2, h3, h4]
    simp

theorem fs_ne {k : Nat} (hk : k < 9) (h : k ≠ 0) : (fs k).toList.isEmpty = false := by
  have : k = 1 ∨ k = 2 ∨ k = 3 ∨ k = 4 ∨ k = 5 ∨ k = 6 ∨ k = 7 ∨ k = 8 := by omega
  rcases this with rfl | rfl | rfl | rfl | rfl | rfl | rfl | rfl <;> decide +kernel

set_option maxHeartbeats 1600000 in
theorem right_none (o a b c i : Int) (w : World) (h : kf o = 0) :
    Calls Tryz.prog 72 #[.agg #[.int .i64 o, .int .i64 a, .int .i64 b, .int .i64 c, .int .i64 i]] w fun e w' => e = .returned (.bool false) ∧ Fr none' w w' := by
  have f0 := (Fr.refl none' w).alloc (.cells (ibox o a b c i) 46)
  have r0 := row_alloc w (ibox o a b c i) 46
  have hf : fs (kf o) = ⟨#[]⟩ := by rw [h]; rfl
  obtain ⟨c0, c1, c2, c3, c4⟩ := ibox_cells r0
  unfold ibox at f0 r0 c0 c1 c2 c3 c4
  have HF : Hid (fs (kf o) = ⟨#[]⟩) := hf
  clear hf h
  go_enter Tryz.func72, Tryz.ntmps72
  go_wp2_with fail
  go_region_with (first
    | (go_at_call 21; refine (kind_any _ _).mono ?_; rintro e w1 ⟨rfl, f1⟩; rw [HF.out]; replace f1 := f1.undrew; replace r0 := r0.keep f1 (fun h => h); obtain ⟨d0, d1, d2, d3, d4⟩ := ibox_cells r0; replace f0 := f0.trans f1; clear f1))
  all_goals go_wp2_with fail
  all_goals go_ret
  all_goals exact ⟨rfl, f0⟩

set_option maxHeartbeats 1600000 in
theorem right_some (o a b c i : Int) (w : World) (h : kf o ≠ 0) :
    Calls Tryz.prog 72 #[.agg #[.int .i64 o, .int .i64 a, .int .i64 b, .int .i64 c, .int .i64 i]] w fun e w' => e = .returned (.bool (rightI o a b c i)) ∧ Fr none' w w' := by
  have f0 := (Fr.refl none' w).alloc (.cells (ibox o a b c i) 46)
  have r0 := row_alloc w (ibox o a b c i) 46
  have hf : (fs (kf o)).toList.isEmpty = false := fs_ne (by have := kf_le o; omega) h
  have H : Hid (kf o ≠ 0) := h
  obtain ⟨c0, c1, c2, c3, c4⟩ := ibox_cells r0
  unfold ibox at f0 r0 c0 c1 c2 c3 c4
  have heq := eq_instr
  clear h
  go_enter Tryz.func72, Tryz.ntmps72
  go_wp2_with fail
  go_region_held3 (fun w' => w'.cell? ⟨w.heap.size, 0, none⟩ = some (.int .i64 o) ∧ w'.cell? ⟨w.heap.size, 1, none⟩ = some (.int .i64 a) ∧ w'.cell? ⟨w.heap.size, 2, none⟩ = some (.int .i64 b) ∧ w'.cell? ⟨w.heap.size, 3, none⟩ = some (.int .i64 c) ∧ w'.cell? ⟨w.heap.size, 4, none⟩ = some (.int .i64 i)) (first | with_reducible exact ⟨c0, c1, c2, c3, c4⟩ | with_reducible exact ⟨d0, d1, d2, d3, d4⟩ | go_keep) (first
    | (go_at_call 21; refine (kind_any _ _).mono ?_; rintro e w1 ⟨rfl, f1⟩; replace f1 := f1.undrew; replace r0 := r0.keep f1 (fun h => h); obtain ⟨d0, d1, d2, d3, d4⟩ := ibox_cells r0; replace f0 := f0.trans f1; clear f1)
    | (go_at_call 73; refine (pack_any _ _ _ _ _ _).mono ?_; rintro e w1 ⟨⟨x, rfl, hx0, hx1, hx2⟩, f1⟩; obtain ⟨x, rfl⟩ := Int.eq_ofNat_of_zero_le hx0; have hx3 : x < 4294967296 := (by omega); have HX : Hid (rightI o a b c i = true → (x : Int) = wordI o a b c i) := hx2; clear hx0 hx1 hx2; replace r0 := r0.keep f1 (fun h => h); obtain ⟨d0, d1, d2, d3, d4⟩ := ibox_cells r0; replace f0 := f0.trans f1; clear f1)
    | (go_at_call 53; refine (parts_any _ _ hx3).mono ?_; rintro e w1 ⟨rfl, f1⟩; replace r0 := r0.keep f1 (fun h => h); obtain ⟨d0, d1, d2, d3, d4⟩ := ibox_cells r0; replace f0 := f0.trans f1; clear f1))
  all_goals go_wp2_with fail
  all_goals go_ret
  all_goals exact ⟨ret_bool (right_eq H.out HX.out), f0⟩

theorem right_any (o a b c i : Int) (w : World) :
    Calls Tryz.prog 72 #[.agg #[.int .i64 o, .int .i64 a, .int .i64 b, .int .i64 c, .int .i64 i]] w fun e w' => e = .returned (.bool (rightI o a b c i)) ∧ Fr none' w w' := by
  by_cases h : kf o = 0
  · rw [show rightI o a b c i = false by simp [rightI, h]]; exact right_none o a b c i w h
  · exact right_some o a b c i w h

theorem ret_ue {a b c d : Int} (h : a = b) (h' : c = d) : Ending.returned (.tuple #[.int .u32 a, .int .i64 c]) = .returned (.tuple #[.int .u32 b, .int .i64 d]) := by rw [h, h']

set_option maxHeartbeats 1600000 in
theorem enc_any (o a b c i : Int) (w : World) :
    Calls Tryz.prog 45 #[.agg #[.int .i64 o, .int .i64 a, .int .i64 b, .int .i64 c, .int .i64 i]] w fun e w' => e = .returned (.tuple #[.int .u32 (encW o a b c i), .int .i64 (encE o a b c i)]) ∧ Fr none' w w' := by
  have f0 := (Fr.refl none' w).alloc (.cells (ibox o a b c i) 46)
  have r0 := row_alloc w (ibox o a b c i) 46
  unfold ibox at f0
  unfold encW encE
  cases h : rightI o a b c i
  · go_enter Tryz.func45, Tryz.ntmps45
    go_wp2_with fail
    refine (right_any _ _ _ _ _ _).mono ?_
    rintro e w1 ⟨rfl, f1⟩
    rw [h]
    replace f0 := f0.trans f1
    clear f1
    go_wp2
    go_ret2
    exact ⟨rfl, f0⟩
  · go_enter Tryz.func45, Tryz.ntmps45
    go_wp2_with fail
    refine (right_any _ _ _ _ _ _).mono ?_
    rintro e w1 ⟨rfl, f1⟩
    rw [h]
    obtain ⟨c0, c1, c2, c3, c4⟩ := ibox_cells (r0.keep f1 (fun h => h))
    replace f0 := f0.trans f1
    clear f1 r0
    go_wp2_with fail
    refine (pack_any _ _ _ _ _ _).mono ?_
    rintro e w2 ⟨⟨x, rfl, _, _, hx⟩, f1⟩
    replace hx := hx h
    have HX : Hid (x = wordI o a b c i) := hx
    clear hx
    replace f0 := f0.trans f1
    clear f1
    go_wp2
    go_ret2
    exact ⟨ret_ue (HX.out.trans rfl) rfl, f0⟩

set_option maxHeartbeats 1600000 in
theorem dec_any (x : Nat) (w : World) (hx : x < 4294967296) :
    Calls Tryz.prog 33 #[.int .u32 (x : Int)] w fun e w' => e = .returned (.tuple #[.agg #[.int .i64 (dOp x), .int .i64 (dA x), .int .i64 (dB x), .int .i64 (dC x), .int .i64 (dI x)], .int .i64 (dE x)]) ∧ Fr none' w w' := by
  have f0 := (Fr.refl none' w).alloc (.cells (ibox 0 0 0 0 0) 46)
  have r0 := row_alloc w (ibox 0 0 0 0 0) 46
  unfold ibox at f0
  unfold dOp dA dB dC dI dE
  cases h : decOk x
  · have hE : (encE (qo x) (qa x) (qb x) (qc x) (qi x) = 50) ∨ (encE (qo x) (qa x) (qb x) (qc x) (qi x) = 0 ∧ (encW (qo x) (qa x) (qb x) (qc x) (qi x) != (x : Int)) = true) := by
      unfold encE encW
      cases hr : rightI (qo x) (qa x) (qb x) (qc x) (qi x)
      · left; rfl
      · right
        refine ⟨rfl, ?_⟩
        simp only [if_true, bne_iff_ne, ne_eq]
        intro e
        unfold decOk at h
        rw [e] at h
        simp [(right_parts hr).1] at h
    rcases hE with hE | ⟨hE, hW⟩
    all_goals go_enter Tryz.func33, Tryz.ntmps33
    all_goals go_wp2_with fail
    all_goals refine (parts_any _ _ hx).mono ?_
    all_goals rintro e w1 ⟨rfl, f1⟩
    all_goals replace r0 := (r0.keep f1 (fun h => h)).alloc (.cells (ibox (qo x) (qa x) (qb x) (qc x) (qi x)) 46)
    all_goals replace f0 := (f0.trans f1).alloc (.cells (ibox (qo x) (qa x) (qb x) (qc x) (qi x)) 46)
    all_goals unfold ibox at f0
    all_goals clear f1
    all_goals go_wp2_with fail
    all_goals refine (enc_any _ _ _ _ _ _).mono ?_
    all_goals rintro e w2 ⟨rfl, f2⟩
    all_goals rw [hE]
    all_goals replace r0 := r0.keep f2 (fun h => h)
    all_goals replace f0 := f0.trans f2
    all_goals clear f2
    all_goals obtain ⟨c0, c1, c2, c3, c4⟩ := ibox_cells r0
    all_goals obtain ⟨k0, k1, k2, k3, k4⟩ := ibox_frozen r0
    all_goals go_wp2_with fail
    all_goals refine bodyPost_ret (ret_instr_tmp rfl rfl (ibox_set r0) rfl) rfl ?_
    all_goals exact ⟨rfl, ibox_fr _ _ _ _ _ f0 (Or.inl (Nat.le_refl _))⟩
  · have hW : encW (qo x) (qa x) (qb x) (qc x) (qi x) = (x : Int) := by unfold encW; rw [ok_right h, ok_word h]; rfl
    have hE : encE (qo x) (qa x) (qb x) (qc x) (qi x) = 0 := by unfold encE; rw [ok_right h]; rfl
    go_enter Tryz.func33, Tryz.ntmps33
    go_wp2_with fail
    refine (parts_any _ _ hx).mono ?_
    rintro e w1 ⟨rfl, f1⟩
    have q0 := row_alloc w1 (ibox (qo x) (qa x) (qb x) (qc x) (qi x)) 46
    replace r0 := (r0.keep f1 (fun h => h)).alloc (.cells (ibox (qo x) (qa x) (qb x) (qc x) (qi x)) 46)
    replace f0 := (f0.trans f1).alloc (.cells (ibox (qo x) (qa x) (qb x) (qc x) (qi x)) 46)
    unfold ibox at f0
    clear f1
    go_wp2_with fail
    refine (enc_any _ _ _ _ _ _).mono ?_
    rintro e w2 ⟨rfl, f2⟩
    rw [hE, hW]
    replace r0 := r0.keep f2 (fun h => h)
    replace q0 := q0.keep f2 (fun h => h)
    replace f0 := f0.trans f2
    clear f2
    obtain ⟨c0, c1, c2, c3, c4⟩ := ibox_cells r0
    obtain ⟨k0, k1, k2, k3, k4⟩ := ibox_frozen r0
    obtain ⟨d0, d1, d2, d3, d4⟩ := ibox_cells q0
    go_wp2_with fail
    refine bodyPost_ret (ret_instr_tmp rfl rfl (ibox_set r0) rfl) rfl ?_
    exact ⟨rfl, ibox_fr _ _ _ _ _ f0 (Or.inl (Nat.le_refl _))⟩

end Go.Proofs.YtecipogfdhpjfaaGreatDoor
