/-
  The contracts of the document's Reads and Writes (package viceroyref05), and of the law's own ints and awake, over the translation. No statement is proved here.
-/
import Derived.Test.YtcbkjbibngopnaaIsaRef
import Derived.Test.YtcbkjbibngopnaaIsaReads
namespace Go.Proofs.Ytcbkjbibngopnaa
open Go.RowKit

theorem told_one {w w' : World} {x : Int} (f : Fr none' w w') : Told w [x] (.returned (.slice (some ⟨w'.heap.size, 0, none⟩) 1 1)) (w'.alloc (.cells #[.int .i64 x] 3)) :=
  ⟨_, rfl, f.alloc _, own_of_row (L := [x]) f.size (row_alloc w' _ _) (by simp) (by simp only [maxLen]; omega) rfl (by simp) (fun j z hj => by
    match j, hj with
    | 0, hj => simp at hj; subst hj; rfl
    | j + 1, hj => simp at hj)⟩
theorem told_two {w w' : World} {x y : Int} (f : Fr none' w w') : Told w [x, y] (.returned (.slice (some ⟨w'.heap.size, 0, none⟩) 2 2)) (w'.alloc (.cells #[.int .i64 x, .int .i64 y] 3)) :=
  ⟨_, rfl, f.alloc _, own_of_row (L := [x, y]) f.size (row_alloc w' _ _) (by simp) (by simp only [maxLen]; omega) rfl (by simp) (fun j z hj => by
    match j, hj with
    | 0, hj => simp at hj; subst hj; rfl
    | 1, hj => simp at hj; subst hj; rfl
    | j + 2, hj => simp at hj)⟩

set_option maxHeartbeats 1600000 in
theorem rr_1 (a b c i : Int) (w : World) (h : rightI 1 a b c i = true) :
    Calls Try.prog 18 #[.agg #[.int .i64 1, .int .i64 a, .int .i64 b, .int .i64 c, .int .i64 i]] w (Told w []) := by
  have f0 := (Fr.refl none' w).alloc (.cells (ibox 1 a b c i) 23)
  have r0 := row_alloc w (ibox 1 a b c i) 23
  unfold ibox at f0
  have KR := rright_any 1 a b c i
  rw [h] at KR
  clear h
  go_enter Try.func18, Try.ntmps18
  go_wp2_with fail
  refine (KR _).mono ?_
  rintro e w1 ⟨rfl, f1⟩
  replace r0 := r0.keep f1 (fun h => h)
  replace f0 := f0.trans f1
  clear f1 KR
  obtain ⟨c0, c1, c2, c3, c4⟩ := ibox_cells r0
  go_wp2_with fail
  go_ret
  exact ⟨_, rfl, f0, own_nil _ _⟩

set_option maxHeartbeats 1600000 in
theorem rr_2_eq (a b c i : Int) (w : World) (h : rightI 2 a b c i = true) (e : b = c) :
    Calls Try.prog 18 #[.agg #[.int .i64 2, .int .i64 a, .int .i64 b, .int .i64 c, .int .i64 i]] w (Told w [b]) := by
  have f0 := (Fr.refl none' w).alloc (.cells (ibox 2 a b c i) 23)
  have r0 := row_alloc w (ibox 2 a b c i) 23
  unfold ibox at f0
  have KR := rright_any 2 a b c i
  rw [h] at KR
  have t1 : (b == c) = true := by simpa using e
  clear e
  clear h
  go_enter Try.func18, Try.ntmps18
  go_wp2_with fail
  refine (KR _).mono ?_
  rintro e w1 ⟨rfl, f1⟩
  replace r0 := r0.keep f1 (fun h => h)
  replace f0 := f0.trans f1
  clear f1 KR
  obtain ⟨c0, c1, c2, c3, c4⟩ := ibox_cells r0
  go_wp2_with fail
  go_ret
  exact told_one f0

set_option maxHeartbeats 1600000 in
theorem rr_2_lt (a b c i : Int) (w : World) (h : rightI 2 a b c i = true) (e : b < c) :
    Calls Try.prog 18 #[.agg #[.int .i64 2, .int .i64 a, .int .i64 b, .int .i64 c, .int .i64 i]] w (Told w [b, c]) := by
  have f0 := (Fr.refl none' w).alloc (.cells (ibox 2 a b c i) 23)
  have r0 := row_alloc w (ibox 2 a b c i) 23
  unfold ibox at f0
  have KR := rright_any 2 a b c i
  rw [h] at KR
  have t1 : (b == c) = false := by simp; omega
  clear h
  go_enter Try.func18, Try.ntmps18
  go_wp2_with fail
  refine (KR _).mono ?_
  rintro e w1 ⟨rfl, f1⟩
  replace r0 := r0.keep f1 (fun h => h)
  replace f0 := f0.trans f1
  clear f1 KR
  obtain ⟨c0, c1, c2, c3, c4⟩ := ibox_cells r0
  go_wp2_with fail
  go_ret
  exact told_two f0

set_option maxHeartbeats 1600000 in
theorem rr_2_gt (a b c i : Int) (w : World) (h : rightI 2 a b c i = true) (e : c < b) :
    Calls Try.prog 18 #[.agg #[.int .i64 2, .int .i64 a, .int .i64 b, .int .i64 c, .int .i64 i]] w (Told w [c, b]) := by
  have f0 := (Fr.refl none' w).alloc (.cells (ibox 2 a b c i) 23)
  have r0 := row_alloc w (ibox 2 a b c i) 23
  unfold ibox at f0
  have KR := rright_any 2 a b c i
  rw [h] at KR
  have t1 : (b == c) = false := by simp; omega
  have t2 : ¬ b < c := by omega
  clear e
  clear h
  go_enter Try.func18, Try.ntmps18
  go_wp2_with fail
  refine (KR _).mono ?_
  rintro e w1 ⟨rfl, f1⟩
  replace r0 := r0.keep f1 (fun h => h)
  replace f0 := f0.trans f1
  clear f1 KR
  obtain ⟨c0, c1, c2, c3, c4⟩ := ibox_cells r0
  go_wp2_with fail
  go_ret
  exact told_two f0

theorem rr_2 (a b c i : Int) (w : World) (h : rightI 2 a b c i = true) : Calls Try.prog 18 #[.agg #[.int .i64 2, .int .i64 a, .int .i64 b, .int .i64 c, .int .i64 i]] w (Told w (sd [b, c])) := by
  by_cases e : b = c
  · rw [show sd [b, c] = [b] by simp [sd, e]]; exact rr_2_eq a b c i w h e
  by_cases e' : b < c
  · rw [show sd [b, c] = [b, c] by simp [sd, e, e']]; exact rr_2_lt a b c i w h e'
  · rw [show sd [b, c] = [c, b] by simp [sd, e, e']]; exact rr_2_gt a b c i w h (by omega)

set_option maxHeartbeats 1600000 in
theorem rr_3_eq (a b c i : Int) (w : World) (h : rightI 3 a b c i = true) (e : b = c) :
    Calls Try.prog 18 #[.agg #[.int .i64 3, .int .i64 a, .int .i64 b, .int .i64 c, .int .i64 i]] w (Told w [b]) := by
  have f0 := (Fr.refl none' w).alloc (.cells (ibox 3 a b c i) 23)
  have r0 := row_alloc w (ibox 3 a b c i) 23
  unfold ibox at f0
  have KR := rright_any 3 a b c i
  rw [h] at KR
  have t1 : (b == c) = true := by simpa using e
  clear e
  clear h
  go_enter Try.func18, Try.ntmps18
  go_wp2_with fail
  refine (KR _).mono ?_
  rintro e w1 ⟨rfl, f1⟩
  replace r0 := r0.keep f1 (fun h => h)
  replace f0 := f0.trans f1
  clear f1 KR
  obtain ⟨c0, c1, c2, c3, c4⟩ := ibox_cells r0
  go_wp2_with fail
  go_ret
  exact told_one f0

set_option maxHeartbeats 1600000 in
theorem rr_3_lt (a b c i : Int) (w : World) (h : rightI 3 a b c i = true) (e : b < c) :
    Calls Try.prog 18 #[.agg #[.int .i64 3, .int .i64 a, .int .i64 b, .int .i64 c, .int .i64 i]] w (Told w [b, c]) := by
  have f0 := (Fr.refl none' w).alloc (.cells (ibox 3 a b c i) 23)
  have r0 := row_alloc w (ibox 3 a b c i) 23
  unfold ibox at f0
  have KR := rright_any 3 a b c i
  rw [h] at KR
  have t1 : (b == c) = false := by simp; omega
  clear h
  go_enter Try.func18, Try.ntmps18
  go_wp2_with fail
  refine (KR _).mono ?_
  rintro e w1 ⟨rfl, f1⟩
  replace r0 := r0.keep f1 (fun h => h)
  replace f0 := f0.trans f1
  clear f1 KR
  obtain ⟨c0, c1, c2, c3, c4⟩ := ibox_cells r0
  go_wp2_with fail
  go_ret
  exact told_two f0

set_option maxHeartbeats 1600000 in
theorem rr_3_gt (a b c i : Int) (w : World) (h : rightI 3 a b c i = true) (e : c < b) :
    Calls Try.prog 18 #[.agg #[.int .i64 3, .int .i64 a, .int .i64 b, .int .i64 c, .int .i64 i]] w (Told w [c, b]) := by
  have f0 := (Fr.refl none' w).alloc (.cells (ibox 3 a b c i) 23)
  have r0 := row_alloc w (ibox 3 a b c i) 23
  unfold ibox at f0
  have KR := rright_any 3 a b c i
  rw [h] at KR
  have t1 : (b == c) = false := by simp; omega
  have t2 : ¬ b < c := by omega
  clear e
  clear h
  go_enter Try.func18, Try.ntmps18
  go_wp2_with fail
  refine (KR _).mono ?_
  rintro e w1 ⟨rfl, f1⟩
  replace r0 := r0.keep f1 (fun h => h)
  replace f0 := f0.trans f1
  clear f1 KR
  obtain ⟨c0, c1, c2, c3, c4⟩ := ibox_cells r0
  go_wp2_with fail
  go_ret
  exact told_two f0

theorem rr_3 (a b c i : Int) (w : World) (h : rightI 3 a b c i = true) : Calls Try.prog 18 #[.agg #[.int .i64 3, .int .i64 a, .int .i64 b, .int .i64 c, .int .i64 i]] w (Told w (sd [b, c])) := by
  by_cases e : b = c
  · rw [show sd [b, c] = [b] by simp [sd, e]]; exact rr_3_eq a b c i w h e
  by_cases e' : b < c
  · rw [show sd [b, c] = [b, c] by simp [sd, e, e']]; exact rr_3_lt a b c i w h e'
  · rw [show sd [b, c] = [c, b] by simp [sd, e, e']]; exact rr_3_gt a b c i w h (by omega)

set_option maxHeartbeats 1600000 in
theorem rr_4_eq (a b c i : Int) (w : World) (h : rightI 4 a b c i = true) (e : b = c) :
    Calls Try.prog 18 #[.agg #[.int .i64 4, .int .i64 a, .int .i64 b, .int .i64 c, .int .i64 i]] w (Told w [b]) := by
  have f0 := (Fr.refl none' w).alloc (.cells (ibox 4 a b c i) 23)
  have r0 := row_alloc w (ibox 4 a b c i) 23
  unfold ibox at f0
  have KR := rright_any 4 a b c i
  rw [h] at KR
  have t1 : (b == c) = true := by simpa using e
  clear e
  clear h
  go_enter Try.func18, Try.ntmps18
  go_wp2_with fail
  refine (KR _).mono ?_
  rintro e w1 ⟨rfl, f1⟩
  replace r0 := r0.keep f1 (fun h => h)
  replace f0 := f0.trans f1
  clear f1 KR
  obtain ⟨c0, c1, c2, c3, c4⟩ := ibox_cells r0
  go_wp2_with fail
  go_ret
  exact told_one f0

set_option maxHeartbeats 1600000 in
theorem rr_4_lt (a b c i : Int) (w : World) (h : rightI 4 a b c i = true) (e : b < c) :
    Calls Try.prog 18 #[.agg #[.int .i64 4, .int .i64 a, .int .i64 b, .int .i64 c, .int .i64 i]] w (Told w [b, c]) := by
  have f0 := (Fr.refl none' w).alloc (.cells (ibox 4 a b c i) 23)
  have r0 := row_alloc w (ibox 4 a b c i) 23
  unfold ibox at f0
  have KR := rright_any 4 a b c i
  rw [h] at KR
  have t1 : (b == c) = false := by simp; omega
  clear h
  go_enter Try.func18, Try.ntmps18
  go_wp2_with fail
  refine (KR _).mono ?_
  rintro e w1 ⟨rfl, f1⟩
  replace r0 := r0.keep f1 (fun h => h)
  replace f0 := f0.trans f1
  clear f1 KR
  obtain ⟨c0, c1, c2, c3, c4⟩ := ibox_cells r0
  go_wp2_with fail
  go_ret
  exact told_two f0

set_option maxHeartbeats 1600000 in
theorem rr_4_gt (a b c i : Int) (w : World) (h : rightI 4 a b c i = true) (e : c < b) :
    Calls Try.prog 18 #[.agg #[.int .i64 4, .int .i64 a, .int .i64 b, .int .i64 c, .int .i64 i]] w (Told w [c, b]) := by
  have f0 := (Fr.refl none' w).alloc (.cells (ibox 4 a b c i) 23)
  have r0 := row_alloc w (ibox 4 a b c i) 23
  unfold ibox at f0
  have KR := rright_any 4 a b c i
  rw [h] at KR
  have t1 : (b == c) = false := by simp; omega
  have t2 : ¬ b < c := by omega
  clear e
  clear h
  go_enter Try.func18, Try.ntmps18
  go_wp2_with fail
  refine (KR _).mono ?_
  rintro e w1 ⟨rfl, f1⟩
  replace r0 := r0.keep f1 (fun h => h)
  replace f0 := f0.trans f1
  clear f1 KR
  obtain ⟨c0, c1, c2, c3, c4⟩ := ibox_cells r0
  go_wp2_with fail
  go_ret
  exact told_two f0

theorem rr_4 (a b c i : Int) (w : World) (h : rightI 4 a b c i = true) : Calls Try.prog 18 #[.agg #[.int .i64 4, .int .i64 a, .int .i64 b, .int .i64 c, .int .i64 i]] w (Told w (sd [b, c])) := by
  by_cases e : b = c
  · rw [show sd [b, c] = [b] by simp [sd, e]]; exact rr_4_eq a b c i w h e
  by_cases e' : b < c
  · rw [show sd [b, c] = [b, c] by simp [sd, e, e']]; exact rr_4_lt a b c i w h e'
  · rw [show sd [b, c] = [c, b] by simp [sd, e, e']]; exact rr_4_gt a b c i w h (by omega)

set_option maxHeartbeats 1600000 in
theorem rr_5_eq (a b c i : Int) (w : World) (h : rightI 5 a b c i = true) (e : b = c) :
    Calls Try.prog 18 #[.agg #[.int .i64 5, .int .i64 a, .int .i64 b, .int .i64 c, .int .i64 i]] w (Told w [b]) := by
  have f0 := (Fr.refl none' w).alloc (.cells (ibox 5 a b c i) 23)
  have r0 := row_alloc w (ibox 5 a b c i) 23
  unfold ibox at f0
  have KR := rright_any 5 a b c i
  rw [h] at KR
  have t1 : (b == c) = true := by simpa using e
  clear e
  clear h
  go_enter Try.func18, Try.ntmps18
  go_wp2_with fail
  refine (KR _).mono ?_
  rintro e w1 ⟨rfl, f1⟩
  replace r0 := r0.keep f1 (fun h => h)
  replace f0 := f0.trans f1
  clear f1 KR
  obtain ⟨c0, c1, c2, c3, c4⟩ := ibox_cells r0
  go_wp2_with fail
  go_ret
  exact told_one f0

set_option maxHeartbeats 1600000 in
theorem rr_5_lt (a b c i : Int) (w : World) (h : rightI 5 a b c i = true) (e : b < c) :
    Calls Try.prog 18 #[.agg #[.int .i64 5, .int .i64 a, .int .i64 b, .int .i64 c, .int .i64 i]] w (Told w [b, c]) := by
  have f0 := (Fr.refl none' w).alloc (.cells (ibox 5 a b c i) 23)
  have r0 := row_alloc w (ibox 5 a b c i) 23
  unfold ibox at f0
  have KR := rright_any 5 a b c i
  rw [h] at KR
  have t1 : (b == c) = false := by simp; omega
  clear h
  go_enter Try.func18, Try.ntmps18
  go_wp2_with fail
  refine (KR _).mono ?_
  rintro e w1 ⟨rfl, f1⟩
  replace r0 := r0.keep f1 (fun h => h)
  replace f0 := f0.trans f1
  clear f1 KR
  obtain ⟨c0, c1, c2, c3, c4⟩ := ibox_cells r0
  go_wp2_with fail
  go_ret
  exact told_two f0

set_option maxHeartbeats 1600000 in
theorem rr_5_gt (a b c i : Int) (w : World) (h : rightI 5 a b c i = true) (e : c < b) :
    Calls Try.prog 18 #[.agg #[.int .i64 5, .int .i64 a, .int .i64 b, .int .i64 c, .int .i64 i]] w (Told w [c, b]) := by
  have f0 := (Fr.refl none' w).alloc (.cells (ibox 5 a b c i) 23)
  have r0 := row_alloc w (ibox 5 a b c i) 23
  unfold ibox at f0
  have KR := rright_any 5 a b c i
  rw [h] at KR
  have t1 : (b == c) = false := by simp; omega
  have t2 : ¬ b < c := by omega
  clear e
  clear h
  go_enter Try.func18, Try.ntmps18
  go_wp2_with fail
  refine (KR _).mono ?_
  rintro e w1 ⟨rfl, f1⟩
  replace r0 := r0.keep f1 (fun h => h)
  replace f0 := f0.trans f1
  clear f1 KR
  obtain ⟨c0, c1, c2, c3, c4⟩ := ibox_cells r0
  go_wp2_with fail
  go_ret
  exact told_two f0

theorem rr_5 (a b c i : Int) (w : World) (h : rightI 5 a b c i = true) : Calls Try.prog 18 #[.agg #[.int .i64 5, .int .i64 a, .int .i64 b, .int .i64 c, .int .i64 i]] w (Told w (sd [b, c])) := by
  by_cases e : b = c
  · rw [show sd [b, c] = [b] by simp [sd, e]]; exact rr_5_eq a b c i w h e
  by_cases e' : b < c
  · rw [show sd [b, c] = [b, c] by simp [sd, e, e']]; exact rr_5_lt a b c i w h e'
  · rw [show sd [b, c] = [c, b] by simp [sd, e, e']]; exact rr_5_gt a b c i w h (by omega)

set_option maxHeartbeats 1600000 in
theorem rr_6_eq (a b c i : Int) (w : World) (h : rightI 6 a b c i = true) (e : b = c) :
    Calls Try.prog 18 #[.agg #[.int .i64 6, .int .i64 a, .int .i64 b, .int .i64 c, .int .i64 i]] w (Told w [b]) := by
  have f0 := (Fr.refl none' w).alloc (.cells (ibox 6 a b c i) 23)
  have r0 := row_alloc w (ibox 6 a b c i) 23
  unfold ibox at f0
  have KR := rright_any 6 a b c i
  rw [h] at KR
  have t1 : (b == c) = true := by simpa using e
  clear e
  clear h
  go_enter Try.func18, Try.ntmps18
  go_wp2_with fail
  refine (KR _).mono ?_
  rintro e w1 ⟨rfl, f1⟩
  replace r0 := r0.keep f1 (fun h => h)
  replace f0 := f0.trans f1
  clear f1 KR
  obtain ⟨c0, c1, c2, c3, c4⟩ := ibox_cells r0
  go_wp2_with fail
  go_ret
  exact told_one f0

set_option maxHeartbeats 1600000 in
theorem rr_6_lt (a b c i : Int) (w : World) (h : rightI 6 a b c i = true) (e : b < c) :
    Calls Try.prog 18 #[.agg #[.int .i64 6, .int .i64 a, .int .i64 b, .int .i64 c, .int .i64 i]] w (Told w [b, c]) := by
  have f0 := (Fr.refl none' w).alloc (.cells (ibox 6 a b c i) 23)
  have r0 := row_alloc w (ibox 6 a b c i) 23
  unfold ibox at f0
  have KR := rright_any 6 a b c i
  rw [h] at KR
  have t1 : (b == c) = false := by simp; omega
  clear h
  go_enter Try.func18, Try.ntmps18
  go_wp2_with fail
  refine (KR _).mono ?_
  rintro e w1 ⟨rfl, f1⟩
  replace r0 := r0.keep f1 (fun h => h)
  replace f0 := f0.trans f1
  clear f1 KR
  obtain ⟨c0, c1, c2, c3, c4⟩ := ibox_cells r0
  go_wp2_with fail
  go_ret
  exact told_two f0

set_option maxHeartbeats 1600000 in
theorem rr_6_gt (a b c i : Int) (w : World) (h : rightI 6 a b c i = true) (e : c < b) :
    Calls Try.prog 18 #[.agg #[.int .i64 6, .int .i64 a, .int .i64 b, .int .i64 c, .int .i64 i]] w (Told w [c, b]) := by
  have f0 := (Fr.refl none' w).alloc (.cells (ibox 6 a b c i) 23)
  have r0 := row_alloc w (ibox 6 a b c i) 23
  unfold ibox at f0
  have KR := rright_any 6 a b c i
  rw [h] at KR
  have t1 : (b == c) = false := by simp; omega
  have t2 : ¬ b < c := by omega
  clear e
  clear h
  go_enter Try.func18, Try.ntmps18
  go_wp2_with fail
  refine (KR _).mono ?_
  rintro e w1 ⟨rfl, f1⟩
  replace r0 := r0.keep f1 (fun h => h)
  replace f0 := f0.trans f1
  clear f1 KR
  obtain ⟨c0, c1, c2, c3, c4⟩ := ibox_cells r0
  go_wp2_with fail
  go_ret
  exact told_two f0

theorem rr_6 (a b c i : Int) (w : World) (h : rightI 6 a b c i = true) : Calls Try.prog 18 #[.agg #[.int .i64 6, .int .i64 a, .int .i64 b, .int .i64 c, .int .i64 i]] w (Told w (sd [b, c])) := by
  by_cases e : b = c
  · rw [show sd [b, c] = [b] by simp [sd, e]]; exact rr_6_eq a b c i w h e
  by_cases e' : b < c
  · rw [show sd [b, c] = [b, c] by simp [sd, e, e']]; exact rr_6_lt a b c i w h e'
  · rw [show sd [b, c] = [c, b] by simp [sd, e, e']]; exact rr_6_gt a b c i w h (by omega)

set_option maxHeartbeats 1600000 in
theorem rr_7 (a b c i : Int) (w : World) (h : rightI 7 a b c i = true) :
    Calls Try.prog 18 #[.agg #[.int .i64 7, .int .i64 a, .int .i64 b, .int .i64 c, .int .i64 i]] w (Told w [b]) := by
  have f0 := (Fr.refl none' w).alloc (.cells (ibox 7 a b c i) 23)
  have r0 := row_alloc w (ibox 7 a b c i) 23
  unfold ibox at f0
  have KR := rright_any 7 a b c i
  rw [h] at KR
  have t1 : (b == b) = true := by simp
  clear h
  go_enter Try.func18, Try.ntmps18
  go_wp2_with fail
  refine (KR _).mono ?_
  rintro e w1 ⟨rfl, f1⟩
  replace r0 := r0.keep f1 (fun h => h)
  replace f0 := f0.trans f1
  clear f1 KR
  obtain ⟨c0, c1, c2, c3, c4⟩ := ibox_cells r0
  go_wp2_with fail
  go_ret
  exact told_one f0

set_option maxHeartbeats 1600000 in
theorem rr_8_eq (a b c i : Int) (w : World) (h : rightI 8 a b c i = true) (e : a = b) :
    Calls Try.prog 18 #[.agg #[.int .i64 8, .int .i64 a, .int .i64 b, .int .i64 c, .int .i64 i]] w (Told w [a]) := by
  have f0 := (Fr.refl none' w).alloc (.cells (ibox 8 a b c i) 23)
  have r0 := row_alloc w (ibox 8 a b c i) 23
  unfold ibox at f0
  have KR := rright_any 8 a b c i
  rw [h] at KR
  have t1 : (a == b) = true := by simpa using e
  clear e
  clear h
  go_enter Try.func18, Try.ntmps18
  go_wp2_with fail
  refine (KR _).mono ?_
  rintro e w1 ⟨rfl, f1⟩
  replace r0 := r0.keep f1 (fun h => h)
  replace f0 := f0.trans f1
  clear f1 KR
  obtain ⟨c0, c1, c2, c3, c4⟩ := ibox_cells r0
  go_wp2_with fail
  go_ret
  exact told_one f0

set_option maxHeartbeats 1600000 in
theorem rr_8_lt (a b c i : Int) (w : World) (h : rightI 8 a b c i = true) (e : a < b) :
    Calls Try.prog 18 #[.agg #[.int .i64 8, .int .i64 a, .int .i64 b, .int .i64 c, .int .i64 i]] w (Told w [a, b]) := by
  have f0 := (Fr.refl none' w).alloc (.cells (ibox 8 a b c i) 23)
  have r0 := row_alloc w (ibox 8 a b c i) 23
  unfold ibox at f0
  have KR := rright_any 8 a b c i
  rw [h] at KR
  have t1 : (a == b) = false := by simp; omega
  clear h
  go_enter Try.func18, Try.ntmps18
  go_wp2_with fail
  refine (KR _).mono ?_
  rintro e w1 ⟨rfl, f1⟩
  replace r0 := r0.keep f1 (fun h => h)
  replace f0 := f0.trans f1
  clear f1 KR
  obtain ⟨c0, c1, c2, c3, c4⟩ := ibox_cells r0
  go_wp2_with fail
  go_ret
  exact told_two f0

set_option maxHeartbeats 1600000 in
theorem rr_8_gt (a b c i : Int) (w : World) (h : rightI 8 a b c i = true) (e : b < a) :
    Calls Try.prog 18 #[.agg #[.int .i64 8, .int .i64 a, .int .i64 b, .int .i64 c, .int .i64 i]] w (Told w [b, a]) := by
  have f0 := (Fr.refl none' w).alloc (.cells (ibox 8 a b c i) 23)
  have r0 := row_alloc w (ibox 8 a b c i) 23
  unfold ibox at f0
  have KR := rright_any 8 a b c i
  rw [h] at KR
  have t1 : (a == b) = false := by simp; omega
  have t2 : ¬ a < b := by omega
  clear e
  clear h
  go_enter Try.func18, Try.ntmps18
  go_wp2_with fail
  refine (KR _).mono ?_
  rintro e w1 ⟨rfl, f1⟩
  replace r0 := r0.keep f1 (fun h => h)
  replace f0 := f0.trans f1
  clear f1 KR
  obtain ⟨c0, c1, c2, c3, c4⟩ := ibox_cells r0
  go_wp2_with fail
  go_ret
  exact told_two f0

theorem rr_8 (a b c i : Int) (w : World) (h : rightI 8 a b c i = true) : Calls Try.prog 18 #[.agg #[.int .i64 8, .int .i64 a, .int .i64 b, .int .i64 c, .int .i64 i]] w (Told w (sd [a, b])) := by
  by_cases e : a = b
  · rw [show sd [a, b] = [a] by simp [sd, e]]; exact rr_8_eq a b c i w h e
  by_cases e' : a < b
  · rw [show sd [a, b] = [a, b] by simp [sd, e, e']]; exact rr_8_lt a b c i w h e'
  · rw [show sd [a, b] = [b, a] by simp [sd, e, e']]; exact rr_8_gt a b c i w h (by omega)

set_option maxHeartbeats 1600000 in
theorem rr_9 (a b c i : Int) (w : World) (h : rightI 9 a b c i = true) :
    Calls Try.prog 18 #[.agg #[.int .i64 9, .int .i64 a, .int .i64 b, .int .i64 c, .int .i64 i]] w (Told w [b]) := by
  have f0 := (Fr.refl none' w).alloc (.cells (ibox 9 a b c i) 23)
  have r0 := row_alloc w (ibox 9 a b c i) 23
  unfold ibox at f0
  have KR := rright_any 9 a b c i
  rw [h] at KR
  have t1 : (b == b) = true := by simp
  clear h
  go_enter Try.func18, Try.ntmps18
  go_wp2_with fail
  refine (KR _).mono ?_
  rintro e w1 ⟨rfl, f1⟩
  replace r0 := r0.keep f1 (fun h => h)
  replace f0 := f0.trans f1
  clear f1 KR
  obtain ⟨c0, c1, c2, c3, c4⟩ := ibox_cells r0
  go_wp2_with fail
  go_ret
  exact told_one f0

set_option maxHeartbeats 1600000 in
theorem rr_10_eq (a b c i : Int) (w : World) (h : rightI 10 a b c i = true) (e : a = b) :
    Calls Try.prog 18 #[.agg #[.int .i64 10, .int .i64 a, .int .i64 b, .int .i64 c, .int .i64 i]] w (Told w [a]) := by
  have f0 := (Fr.refl none' w).alloc (.cells (ibox 10 a b c i) 23)
  have r0 := row_alloc w (ibox 10 a b c i) 23
  unfold ibox at f0
  have KR := rright_any 10 a b c i
  rw [h] at KR
  have t1 : (a == b) = true := by simpa using e
  clear e
  clear h
  go_enter Try.func18, Try.ntmps18
  go_wp2_with fail
  refine (KR _).mono ?_
  rintro e w1 ⟨rfl, f1⟩
  replace r0 := r0.keep f1 (fun h => h)
  replace f0 := f0.trans f1
  clear f1 KR
  obtain ⟨c0, c1, c2, c3, c4⟩ := ibox_cells r0
  go_wp2_with fail
  go_ret
  exact told_one f0

set_option maxHeartbeats 1600000 in
theorem rr_10_lt (a b c i : Int) (w : World) (h : rightI 10 a b c i = true) (e : a < b) :
    Calls Try.prog 18 #[.agg #[.int .i64 10, .int .i64 a, .int .i64 b, .int .i64 c, .int .i64 i]] w (Told w [a, b]) := by
  have f0 := (Fr.refl none' w).alloc (.cells (ibox 10 a b c i) 23)
  have r0 := row_alloc w (ibox 10 a b c i) 23
  unfold ibox at f0
  have KR := rright_any 10 a b c i
  rw [h] at KR
  have t1 : (a == b) = false := by simp; omega
  clear h
  go_enter Try.func18, Try.ntmps18
  go_wp2_with fail
  refine (KR _).mono ?_
  rintro e w1 ⟨rfl, f1⟩
  replace r0 := r0.keep f1 (fun h => h)
  replace f0 := f0.trans f1
  clear f1 KR
  obtain ⟨c0, c1, c2, c3, c4⟩ := ibox_cells r0
  go_wp2_with fail
  go_ret
  exact told_two f0

set_option maxHeartbeats 1600000 in
theorem rr_10_gt (a b c i : Int) (w : World) (h : rightI 10 a b c i = true) (e : b < a) :
    Calls Try.prog 18 #[.agg #[.int .i64 10, .int .i64 a, .int .i64 b, .int .i64 c, .int .i64 i]] w (Told w [b, a]) := by
  have f0 := (Fr.refl none' w).alloc (.cells (ibox 10 a b c i) 23)
  have r0 := row_alloc w (ibox 10 a b c i) 23
  unfold ibox at f0
  have KR := rright_any 10 a b c i
  rw [h] at KR
  have t1 : (a == b) = false := by simp; omega
  have t2 : ¬ a < b := by omega
  clear e
  clear h
  go_enter Try.func18, Try.ntmps18
  go_wp2_with fail
  refine (KR _).mono ?_
  rintro e w1 ⟨rfl, f1⟩
  replace r0 := r0.keep f1 (fun h => h)
  replace f0 := f0.trans f1
  clear f1 KR
  obtain ⟨c0, c1, c2, c3, c4⟩ := ibox_cells r0
  go_wp2_with fail
  go_ret
  exact told_two f0

theorem rr_10 (a b c i : Int) (w : World) (h : rightI 10 a b c i = true) : Calls Try.prog 18 #[.agg #[.int .i64 10, .int .i64 a, .int .i64 b, .int .i64 c, .int .i64 i]] w (Told w (sd [a, b])) := by
  by_cases e : a = b
  · rw [show sd [a, b] = [a] by simp [sd, e]]; exact rr_10_eq a b c i w h e
  by_cases e' : a < b
  · rw [show sd [a, b] = [a, b] by simp [sd, e, e']]; exact rr_10_lt a b c i w h e'
  · rw [show sd [a, b] = [b, a] by simp [sd, e, e']]; exact rr_10_gt a b c i w h (by omega)

set_option maxHeartbeats 1600000 in
theorem rr_11_eq (a b c i : Int) (w : World) (h : rightI 11 a b c i = true) (e : a = b) :
    Calls Try.prog 18 #[.agg #[.int .i64 11, .int .i64 a, .int .i64 b, .int .i64 c, .int .i64 i]] w (Told w [a]) := by
  have f0 := (Fr.refl none' w).alloc (.cells (ibox 11 a b c i) 23)
  have r0 := row_alloc w (ibox 11 a b c i) 23
  unfold ibox at f0
  have KR := rright_any 11 a b c i
  rw [h] at KR
  have t1 : (a == b) = true := by simpa using e
  clear e
  clear h
  go_enter Try.func18, Try.ntmps18
  go_wp2_with fail
  refine (KR _).mono ?_
  rintro e w1 ⟨rfl, f1⟩
  replace r0 := r0.keep f1 (fun h => h)
  replace f0 := f0.trans f1
  clear f1 KR
  obtain ⟨c0, c1, c2, c3, c4⟩ := ibox_cells r0
  go_wp2_with fail
  go_ret
  exact told_one f0

set_option maxHeartbeats 1600000 in
theorem rr_11_lt (a b c i : Int) (w : World) (h : rightI 11 a b c i = true) (e : a < b) :
    Calls Try.prog 18 #[.agg #[.int .i64 11, .int .i64 a, .int .i64 b, .int .i64 c, .int .i64 i]] w (Told w [a, b]) := by
  have f0 := (Fr.refl none' w).alloc (.cells (ibox 11 a b c i) 23)
  have r0 := row_alloc w (ibox 11 a b c i) 23
  unfold ibox at f0
  have KR := rright_any 11 a b c i
  rw [h] at KR
  have t1 : (a == b) = false := by simp; omega
  clear h
  go_enter Try.func18, Try.ntmps18
  go_wp2_with fail
  refine (KR _).mono ?_
  rintro e w1 ⟨rfl, f1⟩
  replace r0 := r0.keep f1 (fun h => h)
  replace f0 := f0.trans f1
  clear f1 KR
  obtain ⟨c0, c1, c2, c3, c4⟩ := ibox_cells r0
  go_wp2_with fail
  go_ret
  exact told_two f0

set_option maxHeartbeats 1600000 in
theorem rr_11_gt (a b c i : Int) (w : World) (h : rightI 11 a b c i = true) (e : b < a) :
    Calls Try.prog 18 #[.agg #[.int .i64 11, .int .i64 a, .int .i64 b, .int .i64 c, .int .i64 i]] w (Told w [b, a]) := by
  have f0 := (Fr.refl none' w).alloc (.cells (ibox 11 a b c i) 23)
  have r0 := row_alloc w (ibox 11 a b c i) 23
  unfold ibox at f0
  have KR := rright_any 11 a b c i
  rw [h] at KR
  have t1 : (a == b) = false := by simp; omega
  have t2 : ¬ a < b := by omega
  clear e
  clear h
  go_enter Try.func18, Try.ntmps18
  go_wp2_with fail
  refine (KR _).mono ?_
  rintro e w1 ⟨rfl, f1⟩
  replace r0 := r0.keep f1 (fun h => h)
  replace f0 := f0.trans f1
  clear f1 KR
  obtain ⟨c0, c1, c2, c3, c4⟩ := ibox_cells r0
  go_wp2_with fail
  go_ret
  exact told_two f0

theorem rr_11 (a b c i : Int) (w : World) (h : rightI 11 a b c i = true) : Calls Try.prog 18 #[.agg #[.int .i64 11, .int .i64 a, .int .i64 b, .int .i64 c, .int .i64 i]] w (Told w (sd [a, b])) := by
  by_cases e : a = b
  · rw [show sd [a, b] = [a] by simp [sd, e]]; exact rr_11_eq a b c i w h e
  by_cases e' : a < b
  · rw [show sd [a, b] = [a, b] by simp [sd, e, e']]; exact rr_11_lt a b c i w h e'
  · rw [show sd [a, b] = [b, a] by simp [sd, e, e']]; exact rr_11_gt a b c i w h (by omega)

set_option maxHeartbeats 1600000 in
theorem rr_12_eq (a b c i : Int) (w : World) (h : rightI 12 a b c i = true) (e : a = b) :
    Calls Try.prog 18 #[.agg #[.int .i64 12, .int .i64 a, .int .i64 b, .int .i64 c, .int .i64 i]] w (Told w [a]) := by
  have f0 := (Fr.refl none' w).alloc (.cells (ibox 12 a b c i) 23)
  have r0 := row_alloc w (ibox 12 a b c i) 23
  unfold ibox at f0
  have KR := rright_any 12 a b c i
  rw [h] at KR
  have t1 : (a == b) = true := by simpa using e
  clear e
  clear h
  go_enter Try.func18, Try.ntmps18
  go_wp2_with fail
  refine (KR _).mono ?_
  rintro e w1 ⟨rfl, f1⟩
  replace r0 := r0.keep f1 (fun h => h)
  replace f0 := f0.trans f1
  clear f1 KR
  obtain ⟨c0, c1, c2, c3, c4⟩ := ibox_cells r0
  go_wp2_with fail
  go_ret
  exact told_one f0

set_option maxHeartbeats 1600000 in
theorem rr_12_lt (a b c i : Int) (w : World) (h : rightI 12 a b c i = true) (e : a < b) :
    Calls Try.prog 18 #[.agg #[.int .i64 12, .int .i64 a, .int .i64 b, .int .i64 c, .int .i64 i]] w (Told w [a, b]) := by
  have f0 := (Fr.refl none' w).alloc (.cells (ibox 12 a b c i) 23)
  have r0 := row_alloc w (ibox 12 a b c i) 23
  unfold ibox at f0
  have KR := rright_any 12 a b c i
  rw [h] at KR
  have t1 : (a == b) = false := by simp; omega
  clear h
  go_enter Try.func18, Try.ntmps18
  go_wp2_with fail
  refine (KR _).mono ?_
  rintro e w1 ⟨rfl, f1⟩
  replace r0 := r0.keep f1 (fun h => h)
  replace f0 := f0.trans f1
  clear f1 KR
  obtain ⟨c0, c1, c2, c3, c4⟩ := ibox_cells r0
  go_wp2_with fail
  go_ret
  exact told_two f0

set_option maxHeartbeats 1600000 in
theorem rr_12_gt (a b c i : Int) (w : World) (h : rightI 12 a b c i = true) (e : b < a) :
    Calls Try.prog 18 #[.agg #[.int .i64 12, .int .i64 a, .int .i64 b, .int .i64 c, .int .i64 i]] w (Told w [b, a]) := by
  have f0 := (Fr.refl none' w).alloc (.cells (ibox 12 a b c i) 23)
  have r0 := row_alloc w (ibox 12 a b c i) 23
  unfold ibox at f0
  have KR := rright_any 12 a b c i
  rw [h] at KR
  have t1 : (a == b) = false := by simp; omega
  have t2 : ¬ a < b := by omega
  clear e
  clear h
  go_enter Try.func18, Try.ntmps18
  go_wp2_with fail
  refine (KR _).mono ?_
  rintro e w1 ⟨rfl, f1⟩
  replace r0 := r0.keep f1 (fun h => h)
  replace f0 := f0.trans f1
  clear f1 KR
  obtain ⟨c0, c1, c2, c3, c4⟩ := ibox_cells r0
  go_wp2_with fail
  go_ret
  exact told_two f0

theorem rr_12 (a b c i : Int) (w : World) (h : rightI 12 a b c i = true) : Calls Try.prog 18 #[.agg #[.int .i64 12, .int .i64 a, .int .i64 b, .int .i64 c, .int .i64 i]] w (Told w (sd [a, b])) := by
  by_cases e : a = b
  · rw [show sd [a, b] = [a] by simp [sd, e]]; exact rr_12_eq a b c i w h e
  by_cases e' : a < b
  · rw [show sd [a, b] = [a, b] by simp [sd, e, e']]; exact rr_12_lt a b c i w h e'
  · rw [show sd [a, b] = [b, a] by simp [sd, e, e']]; exact rr_12_gt a b c i w h (by omega)

set_option maxHeartbeats 1600000 in
theorem rr_13_eq (a b c i : Int) (w : World) (h : rightI 13 a b c i = true) (e : a = b) :
    Calls Try.prog 18 #[.agg #[.int .i64 13, .int .i64 a, .int .i64 b, .int .i64 c, .int .i64 i]] w (Told w [a]) := by
  have f0 := (Fr.refl none' w).alloc (.cells (ibox 13 a b c i) 23)
  have r0 := row_alloc w (ibox 13 a b c i) 23
  unfold ibox at f0
  have KR := rright_any 13 a b c i
  rw [h] at KR
  have t1 : (a == b) = true := by simpa using e
  clear e
  clear h
  go_enter Try.func18, Try.ntmps18
  go_wp2_with fail
  refine (KR _).mono ?_
  rintro e w1 ⟨rfl, f1⟩
  replace r0 := r0.keep f1 (fun h => h)
  replace f0 := f0.trans f1
  clear f1 KR
  obtain ⟨c0, c1, c2, c3, c4⟩ := ibox_cells r0
  go_wp2_with fail
  go_ret
  exact told_one f0

set_option maxHeartbeats 1600000 in
theorem rr_13_lt (a b c i : Int) (w : World) (h : rightI 13 a b c i = true) (e : a < b) :
    Calls Try.prog 18 #[.agg #[.int .i64 13, .int .i64 a, .int .i64 b, .int .i64 c, .int .i64 i]] w (Told w [a, b]) := by
  have f0 := (Fr.refl none' w).alloc (.cells (ibox 13 a b c i) 23)
  have r0 := row_alloc w (ibox 13 a b c i) 23
  unfold ibox at f0
  have KR := rright_any 13 a b c i
  rw [h] at KR
  have t1 : (a == b) = false := by simp; omega
  clear h
  go_enter Try.func18, Try.ntmps18
  go_wp2_with fail
  refine (KR _).mono ?_
  rintro e w1 ⟨rfl, f1⟩
  replace r0 := r0.keep f1 (fun h => h)
  replace f0 := f0.trans f1
  clear f1 KR
  obtain ⟨c0, c1, c2, c3, c4⟩ := ibox_cells r0
  go_wp2_with fail
  go_ret
  exact told_two f0

set_option maxHeartbeats 1600000 in
theorem rr_13_gt (a b c i : Int) (w : World) (h : rightI 13 a b c i = true) (e : b < a) :
    Calls Try.prog 18 #[.agg #[.int .i64 13, .int .i64 a, .int .i64 b, .int .i64 c, .int .i64 i]] w (Told w [b, a]) := by
  have f0 := (Fr.refl none' w).alloc (.cells (ibox 13 a b c i) 23)
  have r0 := row_alloc w (ibox 13 a b c i) 23
  unfold ibox at f0
  have KR := rright_any 13 a b c i
  rw [h] at KR
  have t1 : (a == b) = false := by simp; omega
  have t2 : ¬ a < b := by omega
  clear e
  clear h
  go_enter Try.func18, Try.ntmps18
  go_wp2_with fail
  refine (KR _).mono ?_
  rintro e w1 ⟨rfl, f1⟩
  replace r0 := r0.keep f1 (fun h => h)
  replace f0 := f0.trans f1
  clear f1 KR
  obtain ⟨c0, c1, c2, c3, c4⟩ := ibox_cells r0
  go_wp2_with fail
  go_ret
  exact told_two f0

theorem rr_13 (a b c i : Int) (w : World) (h : rightI 13 a b c i = true) : Calls Try.prog 18 #[.agg #[.int .i64 13, .int .i64 a, .int .i64 b, .int .i64 c, .int .i64 i]] w (Told w (sd [a, b])) := by
  by_cases e : a = b
  · rw [show sd [a, b] = [a] by simp [sd, e]]; exact rr_13_eq a b c i w h e
  by_cases e' : a < b
  · rw [show sd [a, b] = [a, b] by simp [sd, e, e']]; exact rr_13_lt a b c i w h e'
  · rw [show sd [a, b] = [b, a] by simp [sd, e, e']]; exact rr_13_gt a b c i w h (by omega)

set_option maxHeartbeats 1600000 in
theorem rr_14 (a b c i : Int) (w : World) (h : rightI 14 a b c i = true) :
    Calls Try.prog 18 #[.agg #[.int .i64 14, .int .i64 a, .int .i64 b, .int .i64 c, .int .i64 i]] w (Told w []) := by
  have f0 := (Fr.refl none' w).alloc (.cells (ibox 14 a b c i) 23)
  have r0 := row_alloc w (ibox 14 a b c i) 23
  unfold ibox at f0
  have KR := rright_any 14 a b c i
  rw [h] at KR
  clear h
  go_enter Try.func18, Try.ntmps18
  go_wp2_with fail
  refine (KR _).mono ?_
  rintro e w1 ⟨rfl, f1⟩
  replace r0 := r0.keep f1 (fun h => h)
  replace f0 := f0.trans f1
  clear f1 KR
  obtain ⟨c0, c1, c2, c3, c4⟩ := ibox_cells r0
  go_wp2_with fail
  go_ret
  exact ⟨_, rfl, f0, own_nil _ _⟩

set_option maxHeartbeats 1600000 in
theorem rr_15 (a b c i : Int) (w : World) (h : rightI 15 a b c i = true) :
    Calls Try.prog 18 #[.agg #[.int .i64 15, .int .i64 a, .int .i64 b, .int .i64 c, .int .i64 i]] w (Told w []) := by
  have f0 := (Fr.refl none' w).alloc (.cells (ibox 15 a b c i) 23)
  have r0 := row_alloc w (ibox 15 a b c i) 23
  unfold ibox at f0
  have KR := rright_any 15 a b c i
  rw [h] at KR
  clear h
  go_enter Try.func18, Try.ntmps18
  go_wp2_with fail
  refine (KR _).mono ?_
  rintro e w1 ⟨rfl, f1⟩
  replace r0 := r0.keep f1 (fun h => h)
  replace f0 := f0.trans f1
  clear f1 KR
  obtain ⟨c0, c1, c2, c3, c4⟩ := ibox_cells r0
  go_wp2_with fail
  go_ret
  exact ⟨_, rfl, f0, own_nil _ _⟩

set_option maxHeartbeats 1600000 in
theorem rr_16 (a b c i : Int) (w : World) (h : rightI 16 a b c i = true) :
    Calls Try.prog 18 #[.agg #[.int .i64 16, .int .i64 a, .int .i64 b, .int .i64 c, .int .i64 i]] w (Told w [b]) := by
  have f0 := (Fr.refl none' w).alloc (.cells (ibox 16 a b c i) 23)
  have r0 := row_alloc w (ibox 16 a b c i) 23
  unfold ibox at f0
  have KR := rright_any 16 a b c i
  rw [h] at KR
  have t1 : (b == b) = true := by simp
  clear h
  go_enter Try.func18, Try.ntmps18
  go_wp2_with fail
  refine (KR _).mono ?_
  rintro e w1 ⟨rfl, f1⟩
  replace r0 := r0.keep f1 (fun h => h)
  replace f0 := f0.trans f1
  clear f1 KR
  obtain ⟨c0, c1, c2, c3, c4⟩ := ibox_cells r0
  go_wp2_with fail
  go_ret
  exact told_one f0

set_option maxHeartbeats 1600000 in
theorem rr_17 (a b c i : Int) (w : World) (h : rightI 17 a b c i = true) :
    Calls Try.prog 18 #[.agg #[.int .i64 17, .int .i64 a, .int .i64 b, .int .i64 c, .int .i64 i]] w (Told w []) := by
  have f0 := (Fr.refl none' w).alloc (.cells (ibox 17 a b c i) 23)
  have r0 := row_alloc w (ibox 17 a b c i) 23
  unfold ibox at f0
  have KR := rright_any 17 a b c i
  rw [h] at KR
  clear h
  go_enter Try.func18, Try.ntmps18
  go_wp2_with fail
  refine (KR _).mono ?_
  rintro e w1 ⟨rfl, f1⟩
  replace r0 := r0.keep f1 (fun h => h)
  replace f0 := f0.trans f1
  clear f1 KR
  obtain ⟨c0, c1, c2, c3, c4⟩ := ibox_cells r0
  go_wp2_with fail
  go_ret
  exact ⟨_, rfl, f0, own_nil _ _⟩

set_option maxHeartbeats 1600000 in
theorem rr_18 (a b c i : Int) (w : World) (h : rightI 18 a b c i = true) :
    Calls Try.prog 18 #[.agg #[.int .i64 18, .int .i64 a, .int .i64 b, .int .i64 c, .int .i64 i]] w (Told w []) := by
  have f0 := (Fr.refl none' w).alloc (.cells (ibox 18 a b c i) 23)
  have r0 := row_alloc w (ibox 18 a b c i) 23
  unfold ibox at f0
  have KR := rright_any 18 a b c i
  rw [h] at KR
  clear h
  go_enter Try.func18, Try.ntmps18
  go_wp2_with fail
  refine (KR _).mono ?_
  rintro e w1 ⟨rfl, f1⟩
  replace r0 := r0.keep f1 (fun h => h)
  replace f0 := f0.trans f1
  clear f1 KR
  obtain ⟨c0, c1, c2, c3, c4⟩ := ibox_cells r0
  go_wp2_with fail
  go_ret
  exact ⟨_, rfl, f0, own_nil _ _⟩

set_option maxHeartbeats 1600000 in
theorem rr_19 (a b c i : Int) (w : World) (h : rightI 19 a b c i = true) :
    Calls Try.prog 18 #[.agg #[.int .i64 19, .int .i64 a, .int .i64 b, .int .i64 c, .int .i64 i]] w (Told w []) := by
  have f0 := (Fr.refl none' w).alloc (.cells (ibox 19 a b c i) 23)
  have r0 := row_alloc w (ibox 19 a b c i) 23
  unfold ibox at f0
  have KR := rright_any 19 a b c i
  rw [h] at KR
  clear h
  go_enter Try.func18, Try.ntmps18
  go_wp2_with fail
  refine (KR _).mono ?_
  rintro e w1 ⟨rfl, f1⟩
  replace r0 := r0.keep f1 (fun h => h)
  replace f0 := f0.trans f1
  clear f1 KR
  obtain ⟨c0, c1, c2, c3, c4⟩ := ibox_cells r0
  go_wp2_with fail
  go_ret
  exact ⟨_, rfl, f0, own_nil _ _⟩

set_option maxHeartbeats 1600000 in
theorem rr_20 (a b c i : Int) (w : World) (h : rightI 20 a b c i = true) :
    Calls Try.prog 18 #[.agg #[.int .i64 20, .int .i64 a, .int .i64 b, .int .i64 c, .int .i64 i]] w (Told w [b]) := by
  have f0 := (Fr.refl none' w).alloc (.cells (ibox 20 a b c i) 23)
  have r0 := row_alloc w (ibox 20 a b c i) 23
  unfold ibox at f0
  have KR := rright_any 20 a b c i
  rw [h] at KR
  have t1 : (b == b) = true := by simp
  clear h
  go_enter Try.func18, Try.ntmps18
  go_wp2_with fail
  refine (KR _).mono ?_
  rintro e w1 ⟨rfl, f1⟩
  replace r0 := r0.keep f1 (fun h => h)
  replace f0 := f0.trans f1
  clear f1 KR
  obtain ⟨c0, c1, c2, c3, c4⟩ := ibox_cells r0
  go_wp2_with fail
  go_ret
  exact told_one f0

set_option maxHeartbeats 1600000 in
theorem rr_21 (a b c i : Int) (w : World) (h : rightI 21 a b c i = true) :
    Calls Try.prog 18 #[.agg #[.int .i64 21, .int .i64 a, .int .i64 b, .int .i64 c, .int .i64 i]] w (Told w []) := by
  have f0 := (Fr.refl none' w).alloc (.cells (ibox 21 a b c i) 23)
  have r0 := row_alloc w (ibox 21 a b c i) 23
  unfold ibox at f0
  have KR := rright_any 21 a b c i
  rw [h] at KR
  clear h
  go_enter Try.func18, Try.ntmps18
  go_wp2_with fail
  refine (KR _).mono ?_
  rintro e w1 ⟨rfl, f1⟩
  replace r0 := r0.keep f1 (fun h => h)
  replace f0 := f0.trans f1
  clear f1 KR
  obtain ⟨c0, c1, c2, c3, c4⟩ := ibox_cells r0
  go_wp2_with fail
  go_ret
  exact ⟨_, rfl, f0, own_nil _ _⟩

set_option maxHeartbeats 1600000 in
theorem rr_22 (a b c i : Int) (w : World) (h : rightI 22 a b c i = true) :
    Calls Try.prog 18 #[.agg #[.int .i64 22, .int .i64 a, .int .i64 b, .int .i64 c, .int .i64 i]] w (Told w []) := by
  have f0 := (Fr.refl none' w).alloc (.cells (ibox 22 a b c i) 23)
  have r0 := row_alloc w (ibox 22 a b c i) 23
  unfold ibox at f0
  have KR := rright_any 22 a b c i
  rw [h] at KR
  clear h
  go_enter Try.func18, Try.ntmps18
  go_wp2_with fail
  refine (KR _).mono ?_
  rintro e w1 ⟨rfl, f1⟩
  replace r0 := r0.keep f1 (fun h => h)
  replace f0 := f0.trans f1
  clear f1 KR
  obtain ⟨c0, c1, c2, c3, c4⟩ := ibox_cells r0
  go_wp2_with fail
  go_ret
  exact ⟨_, rfl, f0, own_nil _ _⟩

set_option maxHeartbeats 1600000 in
theorem rr_23 (a b c i : Int) (w : World) (h : rightI 23 a b c i = true) :
    Calls Try.prog 18 #[.agg #[.int .i64 23, .int .i64 a, .int .i64 b, .int .i64 c, .int .i64 i]] w (Told w [b]) := by
  have f0 := (Fr.refl none' w).alloc (.cells (ibox 23 a b c i) 23)
  have r0 := row_alloc w (ibox 23 a b c i) 23
  unfold ibox at f0
  have KR := rright_any 23 a b c i
  rw [h] at KR
  have t1 : (b == b) = true := by simp
  clear h
  go_enter Try.func18, Try.ntmps18
  go_wp2_with fail
  refine (KR _).mono ?_
  rintro e w1 ⟨rfl, f1⟩
  replace r0 := r0.keep f1 (fun h => h)
  replace f0 := f0.trans f1
  clear f1 KR
  obtain ⟨c0, c1, c2, c3, c4⟩ := ibox_cells r0
  go_wp2_with fail
  go_ret
  exact told_one f0

set_option maxHeartbeats 1600000 in
theorem rr_24 (a b c i : Int) (w : World) (h : rightI 24 a b c i = true) :
    Calls Try.prog 18 #[.agg #[.int .i64 24, .int .i64 a, .int .i64 b, .int .i64 c, .int .i64 i]] w (Told w []) := by
  have f0 := (Fr.refl none' w).alloc (.cells (ibox 24 a b c i) 23)
  have r0 := row_alloc w (ibox 24 a b c i) 23
  unfold ibox at f0
  have KR := rright_any 24 a b c i
  rw [h] at KR
  clear h
  go_enter Try.func18, Try.ntmps18
  go_wp2_with fail
  refine (KR _).mono ?_
  rintro e w1 ⟨rfl, f1⟩
  replace r0 := r0.keep f1 (fun h => h)
  replace f0 := f0.trans f1
  clear f1 KR
  obtain ⟨c0, c1, c2, c3, c4⟩ := ibox_cells r0
  go_wp2_with fail
  go_ret
  exact ⟨_, rfl, f0, own_nil _ _⟩

set_option maxHeartbeats 1600000 in
theorem rr_25 (a b c i : Int) (w : World) (h : rightI 25 a b c i = true) :
    Calls Try.prog 18 #[.agg #[.int .i64 25, .int .i64 a, .int .i64 b, .int .i64 c, .int .i64 i]] w (Told w []) := by
  have f0 := (Fr.refl none' w).alloc (.cells (ibox 25 a b c i) 23)
  have r0 := row_alloc w (ibox 25 a b c i) 23
  unfold ibox at f0
  have KR := rright_any 25 a b c i
  rw [h] at KR
  clear h
  go_enter Try.func18, Try.ntmps18
  go_wp2_with fail
  refine (KR _).mono ?_
  rintro e w1 ⟨rfl, f1⟩
  replace r0 := r0.keep f1 (fun h => h)
  replace f0 := f0.trans f1
  clear f1 KR
  obtain ⟨c0, c1, c2, c3, c4⟩ := ibox_cells r0
  go_wp2_with fail
  go_ret
  exact ⟨_, rfl, f0, own_nil _ _⟩

set_option maxHeartbeats 1600000 in
theorem rreads_no (o a b c i : Int) (w : World) (h : rightI o a b c i = false) :
    Calls Try.prog 18 #[.agg #[.int .i64 o, .int .i64 a, .int .i64 b, .int .i64 c, .int .i64 i]] w (Told w []) := by
  have f0 := (Fr.refl none' w).alloc (.cells (ibox o a b c i) 23)
  unfold ibox at f0
  have KR := rright_any o a b c i
  rw [h] at KR
  clear h
  go_enter Try.func18, Try.ntmps18
  go_wp2_with fail
  refine (KR _).mono ?_
  rintro e w1 ⟨rfl, f1⟩
  replace f0 := f0.trans f1
  clear f1 KR
  go_wp2_with fail
  go_ret
  exact ⟨_, rfl, f0, own_nil _ _⟩

theorem rreads_any (o a b c i : Int) (w : World) : Calls Try.prog 18 #[.agg #[.int .i64 o, .int .i64 a, .int .i64 b, .int .i64 c, .int .i64 i]] w (Told w (readsI o a b c i)) := by
  unfold readsI
  cases h : rightI o a b c i
  · exact rreads_no o a b c i w h
  · rcases op_cases (right_bounds h).1 with rfl | rfl | rfl | rfl | rfl | rfl | rfl | rfl | rfl | rfl | rfl | rfl | rfl | rfl | rfl | rfl | rfl | rfl | rfl | rfl | rfl | rfl | rfl | rfl | rfl
    · exact rr_1 a b c i w h
    · exact rr_2 a b c i w h
    · exact rr_3 a b c i w h
    · exact rr_4 a b c i w h
    · exact rr_5 a b c i w h
    · exact rr_6 a b c i w h
    · exact rr_7 a b c i w h
    · exact rr_8 a b c i w h
    · exact rr_9 a b c i w h
    · exact rr_10 a b c i w h
    · exact rr_11 a b c i w h
    · exact rr_12 a b c i w h
    · exact rr_13 a b c i w h
    · exact rr_14 a b c i w h
    · exact rr_15 a b c i w h
    · exact rr_16 a b c i w h
    · exact rr_17 a b c i w h
    · exact rr_18 a b c i w h
    · exact rr_19 a b c i w h
    · exact rr_20 a b c i w h
    · exact rr_21 a b c i w h
    · exact rr_22 a b c i w h
    · exact rr_23 a b c i w h
    · exact rr_24 a b c i w h
    · exact rr_25 a b c i w h

set_option maxHeartbeats 400000 in
theorem rw_1_true (a b c i : Int) (w : World) (h : rightI 1 a b c i = true) : Calls Try.prog 20 #[.agg #[.int .i64 1, .int .i64 a, .int .i64 b, .int .i64 c, .int .i64 i]] w fun e w' => e = .returned (.int .i64 a) ∧ Fr none' w w' := by
  have f0 := (Fr.refl none' w).alloc (.cells (ibox 1 a b c i) 23)
  have r0 := row_alloc w (ibox 1 a b c i) 23
  unfold ibox at f0
  have KR := rright_any 1 a b c i
  rw [h] at KR
  clear h
  go_enter Try.func20, Try.ntmps20
  go_wp2_with fail
  refine (KR _).mono ?_
  rintro e w1 ⟨rfl, f1⟩
  replace r0 := r0.keep f1 (fun h => h)
  replace f0 := f0.trans f1
  clear f1 KR
  obtain ⟨c0, c1, c2, c3, c4⟩ := ibox_cells r0
  go_wp2_with fail
  go_ret
  exact ⟨rfl, f0⟩

set_option maxHeartbeats 400000 in
theorem rw_1_false (a b c i : Int) (w : World) (h : rightI 1 a b c i = false) : Calls Try.prog 20 #[.agg #[.int .i64 1, .int .i64 a, .int .i64 b, .int .i64 c, .int .i64 i]] w fun e w' => e = .returned (.int .i64 (-1)) ∧ Fr none' w w' := by
  have f0 := (Fr.refl none' w).alloc (.cells (ibox 1 a b c i) 23)
  have r0 := row_alloc w (ibox 1 a b c i) 23
  unfold ibox at f0
  have KR := rright_any 1 a b c i
  rw [h] at KR
  clear h
  go_enter Try.func20, Try.ntmps20
  go_wp2_with fail
  refine (KR _).mono ?_
  rintro e w1 ⟨rfl, f1⟩
  replace r0 := r0.keep f1 (fun h => h)
  replace f0 := f0.trans f1
  clear f1 KR
  obtain ⟨c0, c1, c2, c3, c4⟩ := ibox_cells r0
  go_wp2_with fail
  go_ret
  exact ⟨rfl, f0⟩

set_option maxHeartbeats 400000 in
theorem rw_2_true (a b c i : Int) (w : World) (h : rightI 2 a b c i = true) : Calls Try.prog 20 #[.agg #[.int .i64 2, .int .i64 a, .int .i64 b, .int .i64 c, .int .i64 i]] w fun e w' => e = .returned (.int .i64 a) ∧ Fr none' w w' := by
  have f0 := (Fr.refl none' w).alloc (.cells (ibox 2 a b c i) 23)
  have r0 := row_alloc w (ibox 2 a b c i) 23
  unfold ibox at f0
  have KR := rright_any 2 a b c i
  rw [h] at KR
  clear h
  go_enter Try.func20, Try.ntmps20
  go_wp2_with fail
  refine (KR _).mono ?_
  rintro e w1 ⟨rfl, f1⟩
  replace r0 := r0.keep f1 (fun h => h)
  replace f0 := f0.trans f1
  clear f1 KR
  obtain ⟨c0, c1, c2, c3, c4⟩ := ibox_cells r0
  go_wp2_with fail
  go_ret
  exact ⟨rfl, f0⟩

set_option maxHeartbeats 400000 in
theorem rw_2_false (a b c i : Int) (w : World) (h : rightI 2 a b c i = false) : Calls Try.prog 20 #[.agg #[.int .i64 2, .int .i64 a, .int .i64 b, .int .i64 c, .int .i64 i]] w fun e w' => e = .returned (.int .i64 (-1)) ∧ Fr none' w w' := by
  have f0 := (Fr.refl none' w).alloc (.cells (ibox 2 a b c i) 23)
  have r0 := row_alloc w (ibox 2 a b c i) 23
  unfold ibox at f0
  have KR := rright_any 2 a b c i
  rw [h] at KR
  clear h
  go_enter Try.func20, Try.ntmps20
  go_wp2_with fail
  refine (KR _).mono ?_
  rintro e w1 ⟨rfl, f1⟩
  replace r0 := r0.keep f1 (fun h => h)
  replace f0 := f0.trans f1
  clear f1 KR
  obtain ⟨c0, c1, c2, c3, c4⟩ := ibox_cells r0
  go_wp2_with fail
  go_ret
  exact ⟨rfl, f0⟩

set_option maxHeartbeats 400000 in
theorem rw_3_true (a b c i : Int) (w : World) (h : rightI 3 a b c i = true) : Calls Try.prog 20 #[.agg #[.int .i64 3, .int .i64 a, .int .i64 b, .int .i64 c, .int .i64 i]] w fun e w' => e = .returned (.int .i64 a) ∧ Fr none' w w' := by
  have f0 := (Fr.refl none' w).alloc (.cells (ibox 3 a b c i) 23)
  have r0 := row_alloc w (ibox 3 a b c i) 23
  unfold ibox at f0
  have KR := rright_any 3 a b c i
  rw [h] at KR
  clear h
  go_enter Try.func20, Try.ntmps20
  go_wp2_with fail
  refine (KR _).mono ?_
  rintro e w1 ⟨rfl, f1⟩
  replace r0 := r0.keep f1 (fun h => h)
  replace f0 := f0.trans f1
  clear f1 KR
  obtain ⟨c0, c1, c2, c3, c4⟩ := ibox_cells r0
  go_wp2_with fail
  go_ret
  exact ⟨rfl, f0⟩

set_option maxHeartbeats 400000 in
theorem rw_3_false (a b c i : Int) (w : World) (h : rightI 3 a b c i = false) : Calls Try.prog 20 #[.agg #[.int .i64 3, .int .i64 a, .int .i64 b, .int .i64 c, .int .i64 i]] w fun e w' => e = .returned (.int .i64 (-1)) ∧ Fr none' w w' := by
  have f0 := (Fr.refl none' w).alloc (.cells (ibox 3 a b c i) 23)
  have r0 := row_alloc w (ibox 3 a b c i) 23
  unfold ibox at f0
  have KR := rright_any 3 a b c i
  rw [h] at KR
  clear h
  go_enter Try.func20, Try.ntmps20
  go_wp2_with fail
  refine (KR _).mono ?_
  rintro e w1 ⟨rfl, f1⟩
  replace r0 := r0.keep f1 (fun h => h)
  replace f0 := f0.trans f1
  clear f1 KR
  obtain ⟨c0, c1, c2, c3, c4⟩ := ibox_cells r0
  go_wp2_with fail
  go_ret
  exact ⟨rfl, f0⟩

set_option maxHeartbeats 400000 in
theorem rw_4_true (a b c i : Int) (w : World) (h : rightI 4 a b c i = true) : Calls Try.prog 20 #[.agg #[.int .i64 4, .int .i64 a, .int .i64 b, .int .i64 c, .int .i64 i]] w fun e w' => e = .returned (.int .i64 a) ∧ Fr none' w w' := by
  have f0 := (Fr.refl none' w).alloc (.cells (ibox 4 a b c i) 23)
  have r0 := row_alloc w (ibox 4 a b c i) 23
  unfold ibox at f0
  have KR := rright_any 4 a b c i
  rw [h] at KR
  clear h
  go_enter Try.func20, Try.ntmps20
  go_wp2_with fail
  refine (KR _).mono ?_
  rintro e w1 ⟨rfl, f1⟩
  replace r0 := r0.keep f1 (fun h => h)
  replace f0 := f0.trans f1
  clear f1 KR
  obtain ⟨c0, c1, c2, c3, c4⟩ := ibox_cells r0
  go_wp2_with fail
  go_ret
  exact ⟨rfl, f0⟩

set_option maxHeartbeats 400000 in
theorem rw_4_false (a b c i : Int) (w : World) (h : rightI 4 a b c i = false) : Calls Try.prog 20 #[.agg #[.int .i64 4, .int .i64 a, .int .i64 b, .int .i64 c, .int .i64 i]] w fun e w' => e = .returned (.int .i64 (-1)) ∧ Fr none' w w' := by
  have f0 := (Fr.refl none' w).alloc (.cells (ibox 4 a b c i) 23)
  have r0 := row_alloc w (ibox 4 a b c i) 23
  unfold ibox at f0
  have KR := rright_any 4 a b c i
  rw [h] at KR
  clear h
  go_enter Try.func20, Try.ntmps20
  go_wp2_with fail
  refine (KR _).mono ?_
  rintro e w1 ⟨rfl, f1⟩
  replace r0 := r0.keep f1 (fun h => h)
  replace f0 := f0.trans f1
  clear f1 KR
  obtain ⟨c0, c1, c2, c3, c4⟩ := ibox_cells r0
  go_wp2_with fail
  go_ret
  exact ⟨rfl, f0⟩

set_option maxHeartbeats 400000 in
theorem rw_5_true (a b c i : Int) (w : World) (h : rightI 5 a b c i = true) : Calls Try.prog 20 #[.agg #[.int .i64 5, .int .i64 a, .int .i64 b, .int .i64 c, .int .i64 i]] w fun e w' => e = .returned (.int .i64 a) ∧ Fr none' w w' := by
  have f0 := (Fr.refl none' w).alloc (.cells (ibox 5 a b c i) 23)
  have r0 := row_alloc w (ibox 5 a b c i) 23
  unfold ibox at f0
  have KR := rright_any 5 a b c i
  rw [h] at KR
  clear h
  go_enter Try.func20, Try.ntmps20
  go_wp2_with fail
  refine (KR _).mono ?_
  rintro e w1 ⟨rfl, f1⟩
  replace r0 := r0.keep f1 (fun h => h)
  replace f0 := f0.trans f1
  clear f1 KR
  obtain ⟨c0, c1, c2, c3, c4⟩ := ibox_cells r0
  go_wp2_with fail
  go_ret
  exact ⟨rfl, f0⟩

set_option maxHeartbeats 400000 in
theorem rw_5_false (a b c i : Int) (w : World) (h : rightI 5 a b c i = false) : Calls Try.prog 20 #[.agg #[.int .i64 5, .int .i64 a, .int .i64 b, .int .i64 c, .int .i64 i]] w fun e w' => e = .returned (.int .i64 (-1)) ∧ Fr none' w w' := by
  have f0 := (Fr.refl none' w).alloc (.cells (ibox 5 a b c i) 23)
  have r0 := row_alloc w (ibox 5 a b c i) 23
  unfold ibox at f0
  have KR := rright_any 5 a b c i
  rw [h] at KR
  clear h
  go_enter Try.func20, Try.ntmps20
  go_wp2_with fail
  refine (KR _).mono ?_
  rintro e w1 ⟨rfl, f1⟩
  replace r0 := r0.keep f1 (fun h => h)
  replace f0 := f0.trans f1
  clear f1 KR
  obtain ⟨c0, c1, c2, c3, c4⟩ := ibox_cells r0
  go_wp2_with fail
  go_ret
  exact ⟨rfl, f0⟩

set_option maxHeartbeats 400000 in
theorem rw_6_true (a b c i : Int) (w : World) (h : rightI 6 a b c i = true) : Calls Try.prog 20 #[.agg #[.int .i64 6, .int .i64 a, .int .i64 b, .int .i64 c, .int .i64 i]] w fun e w' => e = .returned (.int .i64 a) ∧ Fr none' w w' := by
  have f0 := (Fr.refl none' w).alloc (.cells (ibox 6 a b c i) 23)
  have r0 := row_alloc w (ibox 6 a b c i) 23
  unfold ibox at f0
  have KR := rright_any 6 a b c i
  rw [h] at KR
  clear h
  go_enter Try.func20, Try.ntmps20
  go_wp2_with fail
  refine (KR _).mono ?_
  rintro e w1 ⟨rfl, f1⟩
  replace r0 := r0.keep f1 (fun h => h)
  replace f0 := f0.trans f1
  clear f1 KR
  obtain ⟨c0, c1, c2, c3, c4⟩ := ibox_cells r0
  go_wp2_with fail
  go_ret
  exact ⟨rfl, f0⟩

set_option maxHeartbeats 400000 in
theorem rw_6_false (a b c i : Int) (w : World) (h : rightI 6 a b c i = false) : Calls Try.prog 20 #[.agg #[.int .i64 6, .int .i64 a, .int .i64 b, .int .i64 c, .int .i64 i]] w fun e w' => e = .returned (.int .i64 (-1)) ∧ Fr none' w w' := by
  have f0 := (Fr.refl none' w).alloc (.cells (ibox 6 a b c i) 23)
  have r0 := row_alloc w (ibox 6 a b c i) 23
  unfold ibox at f0
  have KR := rright_any 6 a b c i
  rw [h] at KR
  clear h
  go_enter Try.func20, Try.ntmps20
  go_wp2_with fail
  refine (KR _).mono ?_
  rintro e w1 ⟨rfl, f1⟩
  replace r0 := r0.keep f1 (fun h => h)
  replace f0 := f0.trans f1
  clear f1 KR
  obtain ⟨c0, c1, c2, c3, c4⟩ := ibox_cells r0
  go_wp2_with fail
  go_ret
  exact ⟨rfl, f0⟩

set_option maxHeartbeats 400000 in
theorem rw_7_true (a b c i : Int) (w : World) (h : rightI 7 a b c i = true) : Calls Try.prog 20 #[.agg #[.int .i64 7, .int .i64 a, .int .i64 b, .int .i64 c, .int .i64 i]] w fun e w' => e = .returned (.int .i64 a) ∧ Fr none' w w' := by
  have f0 := (Fr.refl none' w).alloc (.cells (ibox 7 a b c i) 23)
  have r0 := row_alloc w (ibox 7 a b c i) 23
  unfold ibox at f0
  have KR := rright_any 7 a b c i
  rw [h] at KR
  clear h
  go_enter Try.func20, Try.ntmps20
  go_wp2_with fail
  refine (KR _).mono ?_
  rintro e w1 ⟨rfl, f1⟩
  replace r0 := r0.keep f1 (fun h => h)
  replace f0 := f0.trans f1
  clear f1 KR
  obtain ⟨c0, c1, c2, c3, c4⟩ := ibox_cells r0
  go_wp2_with fail
  go_ret
  exact ⟨rfl, f0⟩

set_option maxHeartbeats 400000 in
theorem rw_7_false (a b c i : Int) (w : World) (h : rightI 7 a b c i = false) : Calls Try.prog 20 #[.agg #[.int .i64 7, .int .i64 a, .int .i64 b, .int .i64 c, .int .i64 i]] w fun e w' => e = .returned (.int .i64 (-1)) ∧ Fr none' w w' := by
  have f0 := (Fr.refl none' w).alloc (.cells (ibox 7 a b c i) 23)
  have r0 := row_alloc w (ibox 7 a b c i) 23
  unfold ibox at f0
  have KR := rright_any 7 a b c i
  rw [h] at KR
  clear h
  go_enter Try.func20, Try.ntmps20
  go_wp2_with fail
  refine (KR _).mono ?_
  rintro e w1 ⟨rfl, f1⟩
  replace r0 := r0.keep f1 (fun h => h)
  replace f0 := f0.trans f1
  clear f1 KR
  obtain ⟨c0, c1, c2, c3, c4⟩ := ibox_cells r0
  go_wp2_with fail
  go_ret
  exact ⟨rfl, f0⟩

set_option maxHeartbeats 400000 in
theorem rw_8_true (a b c i : Int) (w : World) (h : rightI 8 a b c i = true) : Calls Try.prog 20 #[.agg #[.int .i64 8, .int .i64 a, .int .i64 b, .int .i64 c, .int .i64 i]] w fun e w' => e = .returned (.int .i64 (-1)) ∧ Fr none' w w' := by
  have f0 := (Fr.refl none' w).alloc (.cells (ibox 8 a b c i) 23)
  have r0 := row_alloc w (ibox 8 a b c i) 23
  unfold ibox at f0
  have KR := rright_any 8 a b c i
  rw [h] at KR
  clear h
  go_enter Try.func20, Try.ntmps20
  go_wp2_with fail
  refine (KR _).mono ?_
  rintro e w1 ⟨rfl, f1⟩
  replace r0 := r0.keep f1 (fun h => h)
  replace f0 := f0.trans f1
  clear f1 KR
  obtain ⟨c0, c1, c2, c3, c4⟩ := ibox_cells r0
  go_wp2_with fail
  go_ret
  exact ⟨rfl, f0⟩

set_option maxHeartbeats 400000 in
theorem rw_8_false (a b c i : Int) (w : World) (h : rightI 8 a b c i = false) : Calls Try.prog 20 #[.agg #[.int .i64 8, .int .i64 a, .int .i64 b, .int .i64 c, .int .i64 i]] w fun e w' => e = .returned (.int .i64 (-1)) ∧ Fr none' w w' := by
  have f0 := (Fr.refl none' w).alloc (.cells (ibox 8 a b c i) 23)
  have r0 := row_alloc w (ibox 8 a b c i) 23
  unfold ibox at f0
  have KR := rright_any 8 a b c i
  rw [h] at KR
  clear h
  go_enter Try.func20, Try.ntmps20
  go_wp2_with fail
  refine (KR _).mono ?_
  rintro e w1 ⟨rfl, f1⟩
  replace r0 := r0.keep f1 (fun h => h)
  replace f0 := f0.trans f1
  clear f1 KR
  obtain ⟨c0, c1, c2, c3, c4⟩ := ibox_cells r0
  go_wp2_with fail
  go_ret
  exact ⟨rfl, f0⟩

set_option maxHeartbeats 400000 in
theorem rw_9_true (a b c i : Int) (w : World) (h : rightI 9 a b c i = true) : Calls Try.prog 20 #[.agg #[.int .i64 9, .int .i64 a, .int .i64 b, .int .i64 c, .int .i64 i]] w fun e w' => e = .returned (.int .i64 a) ∧ Fr none' w w' := by
  have f0 := (Fr.refl none' w).alloc (.cells (ibox 9 a b c i) 23)
  have r0 := row_alloc w (ibox 9 a b c i) 23
  unfold ibox at f0
  have KR := rright_any 9 a b c i
  rw [h] at KR
  clear h
  go_enter Try.func20, Try.ntmps20
  go_wp2_with fail
  refine (KR _).mono ?_
  rintro e w1 ⟨rfl, f1⟩
  replace r0 := r0.keep f1 (fun h => h)
  replace f0 := f0.trans f1
  clear f1 KR
  obtain ⟨c0, c1, c2, c3, c4⟩ := ibox_cells r0
  go_wp2_with fail
  go_ret
  exact ⟨rfl, f0⟩

set_option maxHeartbeats 400000 in
theorem rw_9_false (a b c i : Int) (w : World) (h : rightI 9 a b c i = false) : Calls Try.prog 20 #[.agg #[.int .i64 9, .int .i64 a, .int .i64 b, .int .i64 c, .int .i64 i]] w fun e w' => e = .returned (.int .i64 (-1)) ∧ Fr none' w w' := by
  have f0 := (Fr.refl none' w).alloc (.cells (ibox 9 a b c i) 23)
  have r0 := row_alloc w (ibox 9 a b c i) 23
  unfold ibox at f0
  have KR := rright_any 9 a b c i
  rw [h] at KR
  clear h
  go_enter Try.func20, Try.ntmps20
  go_wp2_with fail
  refine (KR _).mono ?_
  rintro e w1 ⟨rfl, f1⟩
  replace r0 := r0.keep f1 (fun h => h)
  replace f0 := f0.trans f1
  clear f1 KR
  obtain ⟨c0, c1, c2, c3, c4⟩ := ibox_cells r0
  go_wp2_with fail
  go_ret
  exact ⟨rfl, f0⟩

set_option maxHeartbeats 400000 in
theorem rw_10_true (a b c i : Int) (w : World) (h : rightI 10 a b c i = true) : Calls Try.prog 20 #[.agg #[.int .i64 10, .int .i64 a, .int .i64 b, .int .i64 c, .int .i64 i]] w fun e w' => e = .returned (.int .i64 (-1)) ∧ Fr none' w w' := by
  have f0 := (Fr.refl none' w).alloc (.cells (ibox 10 a b c i) 23)
  have r0 := row_alloc w (ibox 10 a b c i) 23
  unfold ibox at f0
  have KR := rright_any 10 a b c i
  rw [h] at KR
  clear h
  go_enter Try.func20, Try.ntmps20
  go_wp2_with fail
  refine (KR _).mono ?_
  rintro e w1 ⟨rfl, f1⟩
  replace r0 := r0.keep f1 (fun h => h)
  replace f0 := f0.trans f1
  clear f1 KR
  obtain ⟨c0, c1, c2, c3, c4⟩ := ibox_cells r0
  go_wp2_with fail
  go_ret
  exact ⟨rfl, f0⟩

set_option maxHeartbeats 400000 in
theorem rw_10_false (a b c i : Int) (w : World) (h : rightI 10 a b c i = false) : Calls Try.prog 20 #[.agg #[.int .i64 10, .int .i64 a, .int .i64 b, .int .i64 c, .int .i64 i]] w fun e w' => e = .returned (.int .i64 (-1)) ∧ Fr none' w w' := by
  have f0 := (Fr.refl none' w).alloc (.cells (ibox 10 a b c i) 23)
  have r0 := row_alloc w (ibox 10 a b c i) 23
  unfold ibox at f0
  have KR := rright_any 10 a b c i
  rw [h] at KR
  clear h
  go_enter Try.func20, Try.ntmps20
  go_wp2_with fail
  refine (KR _).mono ?_
  rintro e w1 ⟨rfl, f1⟩
  replace r0 := r0.keep f1 (fun h => h)
  replace f0 := f0.trans f1
  clear f1 KR
  obtain ⟨c0, c1, c2, c3, c4⟩ := ibox_cells r0
  go_wp2_with fail
  go_ret
  exact ⟨rfl, f0⟩

set_option maxHeartbeats 400000 in
theorem rw_11_true (a b c i : Int) (w : World) (h : rightI 11 a b c i = true) : Calls Try.prog 20 #[.agg #[.int .i64 11, .int .i64 a, .int .i64 b, .int .i64 c, .int .i64 i]] w fun e w' => e = .returned (.int .i64 (-1)) ∧ Fr none' w w' := by
  have f0 := (Fr.refl none' w).alloc (.cells (ibox 11 a b c i) 23)
  have r0 := row_alloc w (ibox 11 a b c i) 23
  unfold ibox at f0
  have KR := rright_any 11 a b c i
  rw [h] at KR
  clear h
  go_enter Try.func20, Try.ntmps20
  go_wp2_with fail
  refine (KR _).mono ?_
  rintro e w1 ⟨rfl, f1⟩
  replace r0 := r0.keep f1 (fun h => h)
  replace f0 := f0.trans f1
  clear f1 KR
  obtain ⟨c0, c1, c2, c3, c4⟩ := ibox_cells r0
  go_wp2_with fail
  go_ret
  exact ⟨rfl, f0⟩

set_option maxHeartbeats 400000 in
theorem rw_11_false (a b c i : Int) (w : World) (h : rightI 11 a b c i = false) : Calls Try.prog 20 #[.agg #[.int .i64 11, .int .i64 a, .int .i64 b, .int .i64 c, .int .i64 i]] w fun e w' => e = .returned (.int .i64 (-1)) ∧ Fr none' w w' := by
  have f0 := (Fr.refl none' w).alloc (.cells (ibox 11 a b c i) 23)
  have r0 := row_alloc w (ibox 11 a b c i) 23
  unfold ibox at f0
  have KR := rright_any 11 a b c i
  rw [h] at KR
  clear h
  go_enter Try.func20, Try.ntmps20
  go_wp2_with fail
  refine (KR _).mono ?_
  rintro e w1 ⟨rfl, f1⟩
  replace r0 := r0.keep f1 (fun h => h)
  replace f0 := f0.trans f1
  clear f1 KR
  obtain ⟨c0, c1, c2, c3, c4⟩ := ibox_cells r0
  go_wp2_with fail
  go_ret
  exact ⟨rfl, f0⟩

set_option maxHeartbeats 400000 in
theorem rw_12_true (a b c i : Int) (w : World) (h : rightI 12 a b c i = true) : Calls Try.prog 20 #[.agg #[.int .i64 12, .int .i64 a, .int .i64 b, .int .i64 c, .int .i64 i]] w fun e w' => e = .returned (.int .i64 (-1)) ∧ Fr none' w w' := by
  have f0 := (Fr.refl none' w).alloc (.cells (ibox 12 a b c i) 23)
  have r0 := row_alloc w (ibox 12 a b c i) 23
  unfold ibox at f0
  have KR := rright_any 12 a b c i
  rw [h] at KR
  clear h
  go_enter Try.func20, Try.ntmps20
  go_wp2_with fail
  refine (KR _).mono ?_
  rintro e w1 ⟨rfl, f1⟩
  replace r0 := r0.keep f1 (fun h => h)
  replace f0 := f0.trans f1
  clear f1 KR
  obtain ⟨c0, c1, c2, c3, c4⟩ := ibox_cells r0
  go_wp2_with fail
  go_ret
  exact ⟨rfl, f0⟩

set_option maxHeartbeats 400000 in
theorem rw_12_false (a b c i : Int) (w : World) (h : rightI 12 a b c i = false) : Calls Try.prog 20 #[.agg #[.int .i64 12, .int .i64 a, .int .i64 b, .int .i64 c, .int .i64 i]] w fun e w' => e = .returned (.int .i64 (-1)) ∧ Fr none' w w' := by
  have f0 := (Fr.refl none' w).alloc (.cells (ibox 12 a b c i) 23)
  have r0 := row_alloc w (ibox 12 a b c i) 23
  unfold ibox at f0
  have KR := rright_any 12 a b c i
  rw [h] at KR
  clear h
  go_enter Try.func20, Try.ntmps20
  go_wp2_with fail
  refine (KR _).mono ?_
  rintro e w1 ⟨rfl, f1⟩
  replace r0 := r0.keep f1 (fun h => h)
  replace f0 := f0.trans f1
  clear f1 KR
  obtain ⟨c0, c1, c2, c3, c4⟩ := ibox_cells r0
  go_wp2_with fail
  go_ret
  exact ⟨rfl, f0⟩

set_option maxHeartbeats 400000 in
theorem rw_13_true (a b c i : Int) (w : World) (h : rightI 13 a b c i = true) : Calls Try.prog 20 #[.agg #[.int .i64 13, .int .i64 a, .int .i64 b, .int .i64 c, .int .i64 i]] w fun e w' => e = .returned (.int .i64 (-1)) ∧ Fr none' w w' := by
  have f0 := (Fr.refl none' w).alloc (.cells (ibox 13 a b c i) 23)
  have r0 := row_alloc w (ibox 13 a b c i) 23
  unfold ibox at f0
  have KR := rright_any 13 a b c i
  rw [h] at KR
  clear h
  go_enter Try.func20, Try.ntmps20
  go_wp2_with fail
  refine (KR _).mono ?_
  rintro e w1 ⟨rfl, f1⟩
  replace r0 := r0.keep f1 (fun h => h)
  replace f0 := f0.trans f1
  clear f1 KR
  obtain ⟨c0, c1, c2, c3, c4⟩ := ibox_cells r0
  go_wp2_with fail
  go_ret
  exact ⟨rfl, f0⟩

set_option maxHeartbeats 400000 in
theorem rw_13_false (a b c i : Int) (w : World) (h : rightI 13 a b c i = false) : Calls Try.prog 20 #[.agg #[.int .i64 13, .int .i64 a, .int .i64 b, .int .i64 c, .int .i64 i]] w fun e w' => e = .returned (.int .i64 (-1)) ∧ Fr none' w w' := by
  have f0 := (Fr.refl none' w).alloc (.cells (ibox 13 a b c i) 23)
  have r0 := row_alloc w (ibox 13 a b c i) 23
  unfold ibox at f0
  have KR := rright_any 13 a b c i
  rw [h] at KR
  clear h
  go_enter Try.func20, Try.ntmps20
  go_wp2_with fail
  refine (KR _).mono ?_
  rintro e w1 ⟨rfl, f1⟩
  replace r0 := r0.keep f1 (fun h => h)
  replace f0 := f0.trans f1
  clear f1 KR
  obtain ⟨c0, c1, c2, c3, c4⟩ := ibox_cells r0
  go_wp2_with fail
  go_ret
  exact ⟨rfl, f0⟩

set_option maxHeartbeats 400000 in
theorem rw_14_true (a b c i : Int) (w : World) (h : rightI 14 a b c i = true) : Calls Try.prog 20 #[.agg #[.int .i64 14, .int .i64 a, .int .i64 b, .int .i64 c, .int .i64 i]] w fun e w' => e = .returned (.int .i64 (-1)) ∧ Fr none' w w' := by
  have f0 := (Fr.refl none' w).alloc (.cells (ibox 14 a b c i) 23)
  have r0 := row_alloc w (ibox 14 a b c i) 23
  unfold ibox at f0
  have KR := rright_any 14 a b c i
  rw [h] at KR
  clear h
  go_enter Try.func20, Try.ntmps20
  go_wp2_with fail
  refine (KR _).mono ?_
  rintro e w1 ⟨rfl, f1⟩
  replace r0 := r0.keep f1 (fun h => h)
  replace f0 := f0.trans f1
  clear f1 KR
  obtain ⟨c0, c1, c2, c3, c4⟩ := ibox_cells r0
  go_wp2_with fail
  go_ret
  exact ⟨rfl, f0⟩

set_option maxHeartbeats 400000 in
theorem rw_14_false (a b c i : Int) (w : World) (h : rightI 14 a b c i = false) : Calls Try.prog 20 #[.agg #[.int .i64 14, .int .i64 a, .int .i64 b, .int .i64 c, .int .i64 i]] w fun e w' => e = .returned (.int .i64 (-1)) ∧ Fr none' w w' := by
  have f0 := (Fr.refl none' w).alloc (.cells (ibox 14 a b c i) 23)
  have r0 := row_alloc w (ibox 14 a b c i) 23
  unfold ibox at f0
  have KR := rright_any 14 a b c i
  rw [h] at KR
  clear h
  go_enter Try.func20, Try.ntmps20
  go_wp2_with fail
  refine (KR _).mono ?_
  rintro e w1 ⟨rfl, f1⟩
  replace r0 := r0.keep f1 (fun h => h)
  replace f0 := f0.trans f1
  clear f1 KR
  obtain ⟨c0, c1, c2, c3, c4⟩ := ibox_cells r0
  go_wp2_with fail
  go_ret
  exact ⟨rfl, f0⟩

set_option maxHeartbeats 400000 in
theorem rw_15_true (a b c i : Int) (w : World) (h : rightI 15 a b c i = true) : Calls Try.prog 20 #[.agg #[.int .i64 15, .int .i64 a, .int .i64 b, .int .i64 c, .int .i64 i]] w fun e w' => e = .returned (.int .i64 a) ∧ Fr none' w w' := by
  have f0 := (Fr.refl none' w).alloc (.cells (ibox 15 a b c i) 23)
  have r0 := row_alloc w (ibox 15 a b c i) 23
  unfold ibox at f0
  have KR := rright_any 15 a b c i
  rw [h] at KR
  clear h
  go_enter Try.func20, Try.ntmps20
  go_wp2_with fail
  refine (KR _).mono ?_
  rintro e w1 ⟨rfl, f1⟩
  replace r0 := r0.keep f1 (fun h => h)
  replace f0 := f0.trans f1
  clear f1 KR
  obtain ⟨c0, c1, c2, c3, c4⟩ := ibox_cells r0
  go_wp2_with fail
  go_ret
  exact ⟨rfl, f0⟩

set_option maxHeartbeats 400000 in
theorem rw_15_false (a b c i : Int) (w : World) (h : rightI 15 a b c i = false) : Calls Try.prog 20 #[.agg #[.int .i64 15, .int .i64 a, .int .i64 b, .int .i64 c, .int .i64 i]] w fun e w' => e = .returned (.int .i64 (-1)) ∧ Fr none' w w' := by
  have f0 := (Fr.refl none' w).alloc (.cells (ibox 15 a b c i) 23)
  have r0 := row_alloc w (ibox 15 a b c i) 23
  unfold ibox at f0
  have KR := rright_any 15 a b c i
  rw [h] at KR
  clear h
  go_enter Try.func20, Try.ntmps20
  go_wp2_with fail
  refine (KR _).mono ?_
  rintro e w1 ⟨rfl, f1⟩
  replace r0 := r0.keep f1 (fun h => h)
  replace f0 := f0.trans f1
  clear f1 KR
  obtain ⟨c0, c1, c2, c3, c4⟩ := ibox_cells r0
  go_wp2_with fail
  go_ret
  exact ⟨rfl, f0⟩

set_option maxHeartbeats 400000 in
theorem rw_16_true (a b c i : Int) (w : World) (h : rightI 16 a b c i = true) : Calls Try.prog 20 #[.agg #[.int .i64 16, .int .i64 a, .int .i64 b, .int .i64 c, .int .i64 i]] w fun e w' => e = .returned (.int .i64 (-1)) ∧ Fr none' w w' := by
  have f0 := (Fr.refl none' w).alloc (.cells (ibox 16 a b c i) 23)
  have r0 := row_alloc w (ibox 16 a b c i) 23
  unfold ibox at f0
  have KR := rright_any 16 a b c i
  rw [h] at KR
  clear h
  go_enter Try.func20, Try.ntmps20
  go_wp2_with fail
  refine (KR _).mono ?_
  rintro e w1 ⟨rfl, f1⟩
  replace r0 := r0.keep f1 (fun h => h)
  replace f0 := f0.trans f1
  clear f1 KR
  obtain ⟨c0, c1, c2, c3, c4⟩ := ibox_cells r0
  go_wp2_with fail
  go_ret
  exact ⟨rfl, f0⟩

set_option maxHeartbeats 400000 in
theorem rw_16_false (a b c i : Int) (w : World) (h : rightI 16 a b c i = false) : Calls Try.prog 20 #[.agg #[.int .i64 16, .int .i64 a, .int .i64 b, .int .i64 c, .int .i64 i]] w fun e w' => e = .returned (.int .i64 (-1)) ∧ Fr none' w w' := by
  have f0 := (Fr.refl none' w).alloc (.cells (ibox 16 a b c i) 23)
  have r0 := row_alloc w (ibox 16 a b c i) 23
  unfold ibox at f0
  have KR := rright_any 16 a b c i
  rw [h] at KR
  clear h
  go_enter Try.func20, Try.ntmps20
  go_wp2_with fail
  refine (KR _).mono ?_
  rintro e w1 ⟨rfl, f1⟩
  replace r0 := r0.keep f1 (fun h => h)
  replace f0 := f0.trans f1
  clear f1 KR
  obtain ⟨c0, c1, c2, c3, c4⟩ := ibox_cells r0
  go_wp2_with fail
  go_ret
  exact ⟨rfl, f0⟩

set_option maxHeartbeats 400000 in
theorem rw_17_true (a b c i : Int) (w : World) (h : rightI 17 a b c i = true) : Calls Try.prog 20 #[.agg #[.int .i64 17, .int .i64 a, .int .i64 b, .int .i64 c, .int .i64 i]] w fun e w' => e = .returned (.int .i64 (-1)) ∧ Fr none' w w' := by
  have f0 := (Fr.refl none' w).alloc (.cells (ibox 17 a b c i) 23)
  have r0 := row_alloc w (ibox 17 a b c i) 23
  unfold ibox at f0
  have KR := rright_any 17 a b c i
  rw [h] at KR
  clear h
  go_enter Try.func20, Try.ntmps20
  go_wp2_with fail
  refine (KR _).mono ?_
  rintro e w1 ⟨rfl, f1⟩
  replace r0 := r0.keep f1 (fun h => h)
  replace f0 := f0.trans f1
  clear f1 KR
  obtain ⟨c0, c1, c2, c3, c4⟩ := ibox_cells r0
  go_wp2_with fail
  go_ret
  exact ⟨rfl, f0⟩

set_option maxHeartbeats 400000 in
theorem rw_17_false (a b c i : Int) (w : World) (h : rightI 17 a b c i = false) : Calls Try.prog 20 #[.agg #[.int .i64 17, .int .i64 a, .int .i64 b, .int .i64 c, .int .i64 i]] w fun e w' => e = .returned (.int .i64 (-1)) ∧ Fr none' w w' := by
  have f0 := (Fr.refl none' w).alloc (.cells (ibox 17 a b c i) 23)
  have r0 := row_alloc w (ibox 17 a b c i) 23
  unfold ibox at f0
  have KR := rright_any 17 a b c i
  rw [h] at KR
  clear h
  go_enter Try.func20, Try.ntmps20
  go_wp2_with fail
  refine (KR _).mono ?_
  rintro e w1 ⟨rfl, f1⟩
  replace r0 := r0.keep f1 (fun h => h)
  replace f0 := f0.trans f1
  clear f1 KR
  obtain ⟨c0, c1, c2, c3, c4⟩ := ibox_cells r0
  go_wp2_with fail
  go_ret
  exact ⟨rfl, f0⟩

set_option maxHeartbeats 400000 in
theorem rw_18_true (a b c i : Int) (w : World) (h : rightI 18 a b c i = true) : Calls Try.prog 20 #[.agg #[.int .i64 18, .int .i64 a, .int .i64 b, .int .i64 c, .int .i64 i]] w fun e w' => e = .returned (.int .i64 (-1)) ∧ Fr none' w w' := by
  have f0 := (Fr.refl none' w).alloc (.cells (ibox 18 a b c i) 23)
  have r0 := row_alloc w (ibox 18 a b c i) 23
  unfold ibox at f0
  have KR := rright_any 18 a b c i
  rw [h] at KR
  clear h
  go_enter Try.func20, Try.ntmps20
  go_wp2_with fail
  refine (KR _).mono ?_
  rintro e w1 ⟨rfl, f1⟩
  replace r0 := r0.keep f1 (fun h => h)
  replace f0 := f0.trans f1
  clear f1 KR
  obtain ⟨c0, c1, c2, c3, c4⟩ := ibox_cells r0
  go_wp2_with fail
  go_ret
  exact ⟨rfl, f0⟩

set_option maxHeartbeats 400000 in
theorem rw_18_false (a b c i : Int) (w : World) (h : rightI 18 a b c i = false) : Calls Try.prog 20 #[.agg #[.int .i64 18, .int .i64 a, .int .i64 b, .int .i64 c, .int .i64 i]] w fun e w' => e = .returned (.int .i64 (-1)) ∧ Fr none' w w' := by
  have f0 := (Fr.refl none' w).alloc (.cells (ibox 18 a b c i) 23)
  have r0 := row_alloc w (ibox 18 a b c i) 23
  unfold ibox at f0
  have KR := rright_any 18 a b c i
  rw [h] at KR
  clear h
  go_enter Try.func20, Try.ntmps20
  go_wp2_with fail
  refine (KR _).mono ?_
  rintro e w1 ⟨rfl, f1⟩
  replace r0 := r0.keep f1 (fun h => h)
  replace f0 := f0.trans f1
  clear f1 KR
  obtain ⟨c0, c1, c2, c3, c4⟩ := ibox_cells r0
  go_wp2_with fail
  go_ret
  exact ⟨rfl, f0⟩

set_option maxHeartbeats 400000 in
theorem rw_19_true (a b c i : Int) (w : World) (h : rightI 19 a b c i = true) : Calls Try.prog 20 #[.agg #[.int .i64 19, .int .i64 a, .int .i64 b, .int .i64 c, .int .i64 i]] w fun e w' => e = .returned (.int .i64 a) ∧ Fr none' w w' := by
  have f0 := (Fr.refl none' w).alloc (.cells (ibox 19 a b c i) 23)
  have r0 := row_alloc w (ibox 19 a b c i) 23
  unfold ibox at f0
  have KR := rright_any 19 a b c i
  rw [h] at KR
  clear h
  go_enter Try.func20, Try.ntmps20
  go_wp2_with fail
  refine (KR _).mono ?_
  rintro e w1 ⟨rfl, f1⟩
  replace r0 := r0.keep f1 (fun h => h)
  replace f0 := f0.trans f1
  clear f1 KR
  obtain ⟨c0, c1, c2, c3, c4⟩ := ibox_cells r0
  go_wp2_with fail
  go_ret
  exact ⟨rfl, f0⟩

set_option maxHeartbeats 400000 in
theorem rw_19_false (a b c i : Int) (w : World) (h : rightI 19 a b c i = false) : Calls Try.prog 20 #[.agg #[.int .i64 19, .int .i64 a, .int .i64 b, .int .i64 c, .int .i64 i]] w fun e w' => e = .returned (.int .i64 (-1)) ∧ Fr none' w w' := by
  have f0 := (Fr.refl none' w).alloc (.cells (ibox 19 a b c i) 23)
  have r0 := row_alloc w (ibox 19 a b c i) 23
  unfold ibox at f0
  have KR := rright_any 19 a b c i
  rw [h] at KR
  clear h
  go_enter Try.func20, Try.ntmps20
  go_wp2_with fail
  refine (KR _).mono ?_
  rintro e w1 ⟨rfl, f1⟩
  replace r0 := r0.keep f1 (fun h => h)
  replace f0 := f0.trans f1
  clear f1 KR
  obtain ⟨c0, c1, c2, c3, c4⟩ := ibox_cells r0
  go_wp2_with fail
  go_ret
  exact ⟨rfl, f0⟩

set_option maxHeartbeats 400000 in
theorem rw_20_true (a b c i : Int) (w : World) (h : rightI 20 a b c i = true) : Calls Try.prog 20 #[.agg #[.int .i64 20, .int .i64 a, .int .i64 b, .int .i64 c, .int .i64 i]] w fun e w' => e = .returned (.int .i64 (-1)) ∧ Fr none' w w' := by
  have f0 := (Fr.refl none' w).alloc (.cells (ibox 20 a b c i) 23)
  have r0 := row_alloc w (ibox 20 a b c i) 23
  unfold ibox at f0
  have KR := rright_any 20 a b c i
  rw [h] at KR
  clear h
  go_enter Try.func20, Try.ntmps20
  go_wp2_with fail
  refine (KR _).mono ?_
  rintro e w1 ⟨rfl, f1⟩
  replace r0 := r0.keep f1 (fun h => h)
  replace f0 := f0.trans f1
  clear f1 KR
  obtain ⟨c0, c1, c2, c3, c4⟩ := ibox_cells r0
  go_wp2_with fail
  go_ret
  exact ⟨rfl, f0⟩

set_option maxHeartbeats 400000 in
theorem rw_20_false (a b c i : Int) (w : World) (h : rightI 20 a b c i = false) : Calls Try.prog 20 #[.agg #[.int .i64 20, .int .i64 a, .int .i64 b, .int .i64 c, .int .i64 i]] w fun e w' => e = .returned (.int .i64 (-1)) ∧ Fr none' w w' := by
  have f0 := (Fr.refl none' w).alloc (.cells (ibox 20 a b c i) 23)
  have r0 := row_alloc w (ibox 20 a b c i) 23
  unfold ibox at f0
  have KR := rright_any 20 a b c i
  rw [h] at KR
  clear h
  go_enter Try.func20, Try.ntmps20
  go_wp2_with fail
  refine (KR _).mono ?_
  rintro e w1 ⟨rfl, f1⟩
  replace r0 := r0.keep f1 (fun h => h)
  replace f0 := f0.trans f1
  clear f1 KR
  obtain ⟨c0, c1, c2, c3, c4⟩ := ibox_cells r0
  go_wp2_with fail
  go_ret
  exact ⟨rfl, f0⟩

set_option maxHeartbeats 400000 in
theorem rw_21_true (a b c i : Int) (w : World) (h : rightI 21 a b c i = true) : Calls Try.prog 20 #[.agg #[.int .i64 21, .int .i64 a, .int .i64 b, .int .i64 c, .int .i64 i]] w fun e w' => e = .returned (.int .i64 (-1)) ∧ Fr none' w w' := by
  have f0 := (Fr.refl none' w).alloc (.cells (ibox 21 a b c i) 23)
  have r0 := row_alloc w (ibox 21 a b c i) 23
  unfold ibox at f0
  have KR := rright_any 21 a b c i
  rw [h] at KR
  clear h
  go_enter Try.func20, Try.ntmps20
  go_wp2_with fail
  refine (KR _).mono ?_
  rintro e w1 ⟨rfl, f1⟩
  replace r0 := r0.keep f1 (fun h => h)
  replace f0 := f0.trans f1
  clear f1 KR
  obtain ⟨c0, c1, c2, c3, c4⟩ := ibox_cells r0
  go_wp2_with fail
  go_ret
  exact ⟨rfl, f0⟩

set_option maxHeartbeats 400000 in
theorem rw_21_false (a b c i : Int) (w : World) (h : rightI 21 a b c i = false) : Calls Try.prog 20 #[.agg #[.int .i64 21, .int .i64 a, .int .i64 b, .int .i64 c, .int .i64 i]] w fun e w' => e = .returned (.int .i64 (-1)) ∧ Fr none' w w' := by
  have f0 := (Fr.refl none' w).alloc (.cells (ibox 21 a b c i) 23)
  have r0 := row_alloc w (ibox 21 a b c i) 23
  unfold ibox at f0
  have KR := rright_any 21 a b c i
  rw [h] at KR
  clear h
  go_enter Try.func20, Try.ntmps20
  go_wp2_with fail
  refine (KR _).mono ?_
  rintro e w1 ⟨rfl, f1⟩
  replace r0 := r0.keep f1 (fun h => h)
  replace f0 := f0.trans f1
  clear f1 KR
  obtain ⟨c0, c1, c2, c3, c4⟩ := ibox_cells r0
  go_wp2_with fail
  go_ret
  exact ⟨rfl, f0⟩

set_option maxHeartbeats 400000 in
theorem rw_22_true (a b c i : Int) (w : World) (h : rightI 22 a b c i = true) : Calls Try.prog 20 #[.agg #[.int .i64 22, .int .i64 a, .int .i64 b, .int .i64 c, .int .i64 i]] w fun e w' => e = .returned (.int .i64 a) ∧ Fr none' w w' := by
  have f0 := (Fr.refl none' w).alloc (.cells (ibox 22 a b c i) 23)
  have r0 := row_alloc w (ibox 22 a b c i) 23
  unfold ibox at f0
  have KR := rright_any 22 a b c i
  rw [h] at KR
  clear h
  go_enter Try.func20, Try.ntmps20
  go_wp2_with fail
  refine (KR _).mono ?_
  rintro e w1 ⟨rfl, f1⟩
  replace r0 := r0.keep f1 (fun h => h)
  replace f0 := f0.trans f1
  clear f1 KR
  obtain ⟨c0, c1, c2, c3, c4⟩ := ibox_cells r0
  go_wp2_with fail
  go_ret
  exact ⟨rfl, f0⟩

set_option maxHeartbeats 400000 in
theorem rw_22_false (a b c i : Int) (w : World) (h : rightI 22 a b c i = false) : Calls Try.prog 20 #[.agg #[.int .i64 22, .int .i64 a, .int .i64 b, .int .i64 c, .int .i64 i]] w fun e w' => e = .returned (.int .i64 (-1)) ∧ Fr none' w w' := by
  have f0 := (Fr.refl none' w).alloc (.cells (ibox 22 a b c i) 23)
  have r0 := row_alloc w (ibox 22 a b c i) 23
  unfold ibox at f0
  have KR := rright_any 22 a b c i
  rw [h] at KR
  clear h
  go_enter Try.func20, Try.ntmps20
  go_wp2_with fail
  refine (KR _).mono ?_
  rintro e w1 ⟨rfl, f1⟩
  replace r0 := r0.keep f1 (fun h => h)
  replace f0 := f0.trans f1
  clear f1 KR
  obtain ⟨c0, c1, c2, c3, c4⟩ := ibox_cells r0
  go_wp2_with fail
  go_ret
  exact ⟨rfl, f0⟩

set_option maxHeartbeats 400000 in
theorem rw_23_true (a b c i : Int) (w : World) (h : rightI 23 a b c i = true) : Calls Try.prog 20 #[.agg #[.int .i64 23, .int .i64 a, .int .i64 b, .int .i64 c, .int .i64 i]] w fun e w' => e = .returned (.int .i64 (-1)) ∧ Fr none' w w' := by
  have f0 := (Fr.refl none' w).alloc (.cells (ibox 23 a b c i) 23)
  have r0 := row_alloc w (ibox 23 a b c i) 23
  unfold ibox at f0
  have KR := rright_any 23 a b c i
  rw [h] at KR
  clear h
  go_enter Try.func20, Try.ntmps20
  go_wp2_with fail
  refine (KR _).mono ?_
  rintro e w1 ⟨rfl, f1⟩
  replace r0 := r0.keep f1 (fun h => h)
  replace f0 := f0.trans f1
  clear f1 KR
  obtain ⟨c0, c1, c2, c3, c4⟩ := ibox_cells r0
  go_wp2_with fail
  go_ret
  exact ⟨rfl, f0⟩

set_option maxHeartbeats 400000 in
theorem rw_23_false (a b c i : Int) (w : World) (h : rightI 23 a b c i = false) : Calls Try.prog 20 #[.agg #[.int .i64 23, .int .i64 a, .int .i64 b, .int .i64 c, .int .i64 i]] w fun e w' => e = .returned (.int .i64 (-1)) ∧ Fr none' w w' := by
  have f0 := (Fr.refl none' w).alloc (.cells (ibox 23 a b c i) 23)
  have r0 := row_alloc w (ibox 23 a b c i) 23
  unfold ibox at f0
  have KR := rright_any 23 a b c i
  rw [h] at KR
  clear h
  go_enter Try.func20, Try.ntmps20
  go_wp2_with fail
  refine (KR _).mono ?_
  rintro e w1 ⟨rfl, f1⟩
  replace r0 := r0.keep f1 (fun h => h)
  replace f0 := f0.trans f1
  clear f1 KR
  obtain ⟨c0, c1, c2, c3, c4⟩ := ibox_cells r0
  go_wp2_with fail
  go_ret
  exact ⟨rfl, f0⟩

set_option maxHeartbeats 400000 in
theorem rw_24_true (a b c i : Int) (w : World) (h : rightI 24 a b c i = true) : Calls Try.prog 20 #[.agg #[.int .i64 24, .int .i64 a, .int .i64 b, .int .i64 c, .int .i64 i]] w fun e w' => e = .returned (.int .i64 (-1)) ∧ Fr none' w w' := by
  have f0 := (Fr.refl none' w).alloc (.cells (ibox 24 a b c i) 23)
  have r0 := row_alloc w (ibox 24 a b c i) 23
  unfold ibox at f0
  have KR := rright_any 24 a b c i
  rw [h] at KR
  clear h
  go_enter Try.func20, Try.ntmps20
  go_wp2_with fail
  refine (KR _).mono ?_
  rintro e w1 ⟨rfl, f1⟩
  replace r0 := r0.keep f1 (fun h => h)
  replace f0 := f0.trans f1
  clear f1 KR
  obtain ⟨c0, c1, c2, c3, c4⟩ := ibox_cells r0
  go_wp2_with fail
  go_ret
  exact ⟨rfl, f0⟩

set_option maxHeartbeats 400000 in
theorem rw_24_false (a b c i : Int) (w : World) (h : rightI 24 a b c i = false) : Calls Try.prog 20 #[.agg #[.int .i64 24, .int .i64 a, .int .i64 b, .int .i64 c, .int .i64 i]] w fun e w' => e = .returned (.int .i64 (-1)) ∧ Fr none' w w' := by
  have f0 := (Fr.refl none' w).alloc (.cells (ibox 24 a b c i) 23)
  have r0 := row_alloc w (ibox 24 a b c i) 23
  unfold ibox at f0
  have KR := rright_any 24 a b c i
  rw [h] at KR
  clear h
  go_enter Try.func20, Try.ntmps20
  go_wp2_with fail
  refine (KR _).mono ?_
  rintro e w1 ⟨rfl, f1⟩
  replace r0 := r0.keep f1 (fun h => h)
  replace f0 := f0.trans f1
  clear f1 KR
  obtain ⟨c0, c1, c2, c3, c4⟩ := ibox_cells r0
  go_wp2_with fail
  go_ret
  exact ⟨rfl, f0⟩

set_option maxHeartbeats 400000 in
theorem rw_25_true (a b c i : Int) (w : World) (h : rightI 25 a b c i = true) : Calls Try.prog 20 #[.agg #[.int .i64 25, .int .i64 a, .int .i64 b, .int .i64 c, .int .i64 i]] w fun e w' => e = .returned (.int .i64 (-1)) ∧ Fr none' w w' := by
  have f0 := (Fr.refl none' w).alloc (.cells (ibox 25 a b c i) 23)
  have r0 := row_alloc w (ibox 25 a b c i) 23
  unfold ibox at f0
  have KR := rright_any 25 a b c i
  rw [h] at KR
  clear h
  go_enter Try.func20, Try.ntmps20
  go_wp2_with fail
  refine (KR _).mono ?_
  rintro e w1 ⟨rfl, f1⟩
  replace r0 := r0.keep f1 (fun h => h)
  replace f0 := f0.trans f1
  clear f1 KR
  obtain ⟨c0, c1, c2, c3, c4⟩ := ibox_cells r0
  go_wp2_with fail
  go_ret
  exact ⟨rfl, f0⟩

set_option maxHeartbeats 400000 in
theorem rw_25_false (a b c i : Int) (w : World) (h : rightI 25 a b c i = false) : Calls Try.prog 20 #[.agg #[.int .i64 25, .int .i64 a, .int .i64 b, .int .i64 c, .int .i64 i]] w fun e w' => e = .returned (.int .i64 (-1)) ∧ Fr none' w w' := by
  have f0 := (Fr.refl none' w).alloc (.cells (ibox 25 a b c i) 23)
  have r0 := row_alloc w (ibox 25 a b c i) 23
  unfold ibox at f0
  have KR := rright_any 25 a b c i
  rw [h] at KR
  clear h
  go_enter Try.func20, Try.ntmps20
  go_wp2_with fail
  refine (KR _).mono ?_
  rintro e w1 ⟨rfl, f1⟩
  replace r0 := r0.keep f1 (fun h => h)
  replace f0 := f0.trans f1
  clear f1 KR
  obtain ⟨c0, c1, c2, c3, c4⟩ := ibox_cells r0
  go_wp2_with fail
  go_ret
  exact ⟨rfl, f0⟩

set_option maxHeartbeats 1600000 in
theorem rw_out (o a b c i : Int) (w : World) (h : o < 1 ∨ 26 ≤ o) : Calls Try.prog 20 #[.agg #[.int .i64 o, .int .i64 a, .int .i64 b, .int .i64 c, .int .i64 i]] w fun e w' => e = .returned (.int .i64 (-1)) ∧ Fr none' w w' := by
  have f0 := (Fr.refl none' w).alloc (.cells (ibox o a b c i) 23)
  have r0 := row_alloc w (ibox o a b c i) 23
  unfold ibox at f0
  have KR := rright_any o a b c i
  have t1 : (o == 1) = false := by simp; omega
  have t2 : (o == 2) = false := by simp; omega
  have t3 : (o == 3) = false := by simp; omega
  have t4 : (o == 4) = false := by simp; omega
  have t5 : (o == 5) = false := by simp; omega
  have t6 : (o == 6) = false := by simp; omega
  have t7 : (o == 7) = false := by simp; omega
  have t9 : (o == 9) = false := by simp; omega
  have t15 : (o == 15) = false := by simp; omega
  have t19 : (o == 19) = false := by simp; omega
  have t22 : (o == 22) = false := by simp; omega
  clear h
  go_enter Try.func20, Try.ntmps20
  go_wp2_with fail
  refine (KR _).mono ?_
  rintro e w1 ⟨rfl, f1⟩
  replace r0 := r0.keep f1 (fun h => h)
  replace f0 := f0.trans f1
  clear f1 KR
  obtain ⟨c0, c1, c2, c3, c4⟩ := ibox_cells r0
  go_wp2_with fail
  go_ret
  exact ⟨rfl, f0⟩

theorem rwrites_any (o a b c i : Int) (w : World) : Calls Try.prog 20 #[.agg #[.int .i64 o, .int .i64 a, .int .i64 b, .int .i64 c, .int .i64 i]] w fun e w' => e = .returned (.int .i64 (writesI o a b c i)) ∧ Fr none' w w' := by
  unfold writesI
  by_cases ho : 1 ≤ o ∧ o ≤ 25
  · cases h : rightI o a b c i
    · rcases op_cases ho with rfl | rfl | rfl | rfl | rfl | rfl | rfl | rfl | rfl | rfl | rfl | rfl | rfl | rfl | rfl | rfl | rfl | rfl | rfl | rfl | rfl | rfl | rfl | rfl | rfl
      · exact rw_1_false a b c i w h
      · exact rw_2_false a b c i w h
      · exact rw_3_false a b c i w h
      · exact rw_4_false a b c i w h
      · exact rw_5_false a b c i w h
      · exact rw_6_false a b c i w h
      · exact rw_7_false a b c i w h
      · exact rw_8_false a b c i w h
      · exact rw_9_false a b c i w h
      · exact rw_10_false a b c i w h
      · exact rw_11_false a b c i w h
      · exact rw_12_false a b c i w h
      · exact rw_13_false a b c i w h
      · exact rw_14_false a b c i w h
      · exact rw_15_false a b c i w h
      · exact rw_16_false a b c i w h
      · exact rw_17_false a b c i w h
      · exact rw_18_false a b c i w h
      · exact rw_19_false a b c i w h
      · exact rw_20_false a b c i w h
      · exact rw_21_false a b c i w h
      · exact rw_22_false a b c i w h
      · exact rw_23_false a b c i w h
      · exact rw_24_false a b c i w h
      · exact rw_25_false a b c i w h
    · rcases op_cases ho with rfl | rfl | rfl | rfl | rfl | rfl | rfl | rfl | rfl | rfl | rfl | rfl | rfl | rfl | rfl | rfl | rfl | rfl | rfl | rfl | rfl | rfl | rfl | rfl | rfl
      · exact rw_1_true a b c i w h
      · exact rw_2_true a b c i w h
      · exact rw_3_true a b c i w h
      · exact rw_4_true a b c i w h
      · exact rw_5_true a b c i w h
      · exact rw_6_true a b c i w h
      · exact rw_7_true a b c i w h
      · exact rw_8_true a b c i w h
      · exact rw_9_true a b c i w h
      · exact rw_10_true a b c i w h
      · exact rw_11_true a b c i w h
      · exact rw_12_true a b c i w h
      · exact rw_13_true a b c i w h
      · exact rw_14_true a b c i w h
      · exact rw_15_true a b c i w h
      · exact rw_16_true a b c i w h
      · exact rw_17_true a b c i w h
      · exact rw_18_true a b c i w h
      · exact rw_19_true a b c i w h
      · exact rw_20_true a b c i w h
      · exact rw_21_true a b c i w h
      · exact rw_22_true a b c i w h
      · exact rw_23_true a b c i w h
      · exact rw_24_true a b c i w h
      · exact rw_25_true a b c i w h
  · rw [show rightI o a b c i = false by simp [rightI, kf_none (op := o) (by omega)]]
    exact rw_out o a b c i w (by omega)

end Go.Proofs.Ytcbkjbibngopnaa
