/-
  Contracts of package walk's Single and 'granted' over the translation: what they tell is the plain function of the memory's half words. No statement is proved here.
-/
import Derived.Test.YthmombgogmgobaaWalkDesc
import Derived.Test.YthmombgogmgobaaWalkBits
namespace Go.Proofs.Ythmombgogmgobaa
open Go.RowKit

theorem lies_itself (b : Nat) (w : World) : Lies 44 #[] (fun t => ⟨t, 0, f0⟩) b w :=
  ⟨enters_of Try.func44 (by kernel_rfl) rfl, fun w1 t _ => itself_any t w1⟩

set_option maxHeartbeats 1000000 in
theorem single_out (w : World) (p : Nat) (root page : Int) (hp : isP page = false) :
    Calls Try.prog 13 #[.pointer (some ⟨p, 0, none⟩), .int .i64 root, .int .i64 page] w fun e w' => e = .returned (.tuple #[.int .i64 0, .int .i64 0, .agg #[.int .i64 3, .int .i64 0, .int .i64 0, .bool false, .int .i64 0]]) ∧ Fr none' w w' := by
  have f1 := Fr.refl none' w
  have r8 := row_alloc w #[.int .i64 0, .int .i64 0, .int .i64 0, .bool false, .int .i64 0] 43
  replace f1 := f1.alloc (.cells #[.int .i64 0, .int .i64 0, .int .i64 0, .bool false, .int .i64 0] 43)
  go_enter Try.func13, Try.ntmps13
  go_wp2_with fail
  refine (isPage_any _ _).mono ?_
  rintro e v1 ⟨rfl, rfl⟩
  rw [hp]
  go_wp2_with fail
  refine (outside_any _).mono ?_
  rintro e v2 ⟨rfl, g2⟩
  replace r8 := r8.keep g2 (fun h => h)
  replace f1 := f1.trans g2
  clear g2
  obtain ⟨c0x0, c0x1, c0x2, c0x3, c0x4⟩ := cells5 r8
  obtain ⟨z1x0, z1x1, z1x2, z1x3, z1x4⟩ := frozen5 r8
  go_wp2_with fail
  refine bodyPost_ret (ret_ttf rfl rfl (r8.put5 _ _ _ _ _) rfl) rfl ?_
  exact ⟨rfl, f1.put5 (Or.inl (Nat.le_refl _)) _ _ _ _ _⟩

set_option maxHeartbeats 400000 in
theorem single_bad0 (w : World) (p bf nf : Nat) (bs : List UInt8) (root page : Int) (h : IsRam w p bf nf bs) (hp : isP page = true) (hk : entK bs nf root page 0 ≠ 0) :
    Calls Try.prog 13 #[.pointer (some ⟨p, 0, none⟩), .int .i64 root, .int .i64 page] w fun e w' => e = .returned (.tuple #[.int .i64 0, .int .i64 0, .agg #[.int .i64 (entK bs nf root page 0), .int .i64 2, .int .i64 0, .bool false, .int .i64 page]]) ∧ Fr none' w w' := by
  have f1 := Fr.refl none' w
  have hp0 := h.head.lt
  have hb0 := h.row.lt
  have r8 := row_alloc w #[.int .i64 0, .int .i64 0, .int .i64 0, .bool false, .int .i64 0] 43
  replace h := h.alloc (.cells #[.int .i64 0, .int .i64 0, .int .i64 0, .bool false, .int .i64 0] 43)
  replace f1 := f1.alloc (.cells #[.int .i64 0, .int .i64 0, .int .i64 0, .bool false, .int .i64 0] 43)
  have r9 := row_alloc2 w (.cells #[.int .i64 0, .int .i64 0, .int .i64 0, .bool false, .int .i64 0] 43) #[.pointer (some ⟨p, 0, none⟩), .int .i64 2, .int .i64 0, .int .i64 page] 92
  replace r8 := r8.alloc (.cells #[.pointer (some ⟨p, 0, none⟩), .int .i64 2, .int .i64 0, .int .i64 page] 92)
  replace h := h.alloc (.cells #[.pointer (some ⟨p, 0, none⟩), .int .i64 2, .int .i64 0, .int .i64 page] 92)
  replace f1 := f1.alloc (.cells #[.pointer (some ⟨p, 0, none⟩), .int .i64 2, .int .i64 0, .int .i64 page] 92)
  have hd := desc_a2 _ (w.heap.size + 1) p bf nf bs root 2 0 page 44 #[] (fun t => ⟨t, 0, f0⟩) h r9 (by omega) (by omega) (lies_itself _ _) ⟨root, 0, f0⟩ rfl hp rfl hk
  go_enter Try.func13, Try.ntmps13
  go_wp2_with fail
  refine (isPage_any _ _).mono ?_
  rintro e v1 ⟨rfl, rfl⟩
  rw [hp]
  go_wp2_with fail
  refine hd.mono ?_
  rintro e v1 ⟨rfl, g1, _⟩
  clear hd
  replace r8 := r8.keep g1 (show _ ≠ _ by omega)
  replace f1 := f1.newerS g1 (by omega)
  have l1 : Hid (w.heap.size < v1.heap.size) := r8.lt
  clear g1 r9 h
  have r10 := row_alloc v1 #[.bool false, .bool false, .int .i64 0, .int .i64 0] 29
  replace r8 := r8.alloc (.cells #[.bool false, .bool false, .int .i64 0, .int .i64 0] 29)
  replace f1 := f1.alloc (.cells #[.bool false, .bool false, .int .i64 0, .int .i64 0] 29)
  obtain ⟨c0x0, c0x1, c0x2, c0x3, c0x4⟩ := cells5 r8
  obtain ⟨z1x0, z1x1, z1x2, z1x3, z1x4⟩ := frozen5 r8
  go_wp2_with fail
  clear c0x0 c0x1 c0x2 c0x3 c0x4 z1x0 z1x1 z1x2 z1x3 z1x4
  have l2 := l1.out
  replace r10 := r10.past5 (b' := w.heap.size) (by omega) (.int .i64 (entK bs nf root page 0)) (.int .i64 2) (.int .i64 0) (.bool false) (.int .i64 page)
  replace r8 := r8.put5 (.int .i64 (entK bs nf root page 0)) (.int .i64 2) (.int .i64 0) (.bool false) (.int .i64 page)
  replace f1 := f1.put5 (b := w.heap.size) (Or.inl (by omega)) (.int .i64 (entK bs nf root page 0)) (.int .i64 2) (.int .i64 0) (.bool false) (.int .i64 page)
  unfold put5 at r8 r10 f1
  clear l1 l2
  generalize hWW1 : ((((((v1.alloc (.cells #[.bool false, .bool false, .int .i64 0, .int .i64 0] 29)).setCell ⟨w.heap.size, 0, none⟩ (.int .i64 (entK bs nf root page 0))).setCell ⟨w.heap.size, 1, none⟩ (.int .i64 2)).setCell ⟨w.heap.size, 2, none⟩ (.int .i64 0)).setCell ⟨w.heap.size, 3, none⟩ (.bool false)).setCell ⟨w.heap.size, 4, none⟩ (.int .i64 page)) = W1 at r8 r10 f1 ⊢
  clear hWW1
  obtain ⟨c2x0, c2x1, c2x2, c2x3, c2x4⟩ := cells5 r8
  obtain ⟨z3x0, z3x1, z3x2, z3x3, z3x4⟩ := frozen5 r8
  obtain ⟨c4x0, c4x1, c4x2, c4x3⟩ := row4 r10
  go_region
  go_wp2_with fail
  refine bodyPost_ret (ret_ttf rfl rfl (r8.put5 _ _ _ _ _).drew rfl) rfl ?_
  exact ⟨rfl, (f1.put5 (Or.inl (Nat.le_refl _)) _ _ _ _ _).drew⟩

set_option maxHeartbeats 400000 in
theorem single_bad1 (w : World) (p bf nf : Nat) (bs : List UInt8) (root page : Int) (h : IsRam w p bf nf bs) (hp : isP page = true) (hk : entK bs nf root page 0 = 0) (hj : entK bs nf (df (ew bs root page 0)) page 1 ≠ 0) :
    Calls Try.prog 13 #[.pointer (some ⟨p, 0, none⟩), .int .i64 root, .int .i64 page] w fun e w' => e = .returned (.tuple #[.int .i64 0, .int .i64 0, .agg #[.int .i64 (entK bs nf (df (ew bs root page 0)) page 1), .int .i64 2, .int .i64 1, .bool false, .int .i64 page]]) ∧ Fr none' w w' := by
  have f1 := Fr.refl none' w
  have hp0 := h.head.lt
  have hb0 := h.row.lt
  have r8 := row_alloc w #[.int .i64 0, .int .i64 0, .int .i64 0, .bool false, .int .i64 0] 43
  replace h := h.alloc (.cells #[.int .i64 0, .int .i64 0, .int .i64 0, .bool false, .int .i64 0] 43)
  replace f1 := f1.alloc (.cells #[.int .i64 0, .int .i64 0, .int .i64 0, .bool false, .int .i64 0] 43)
  have r9 := row_alloc2 w (.cells #[.int .i64 0, .int .i64 0, .int .i64 0, .bool false, .int .i64 0] 43) #[.pointer (some ⟨p, 0, none⟩), .int .i64 2, .int .i64 0, .int .i64 page] 92
  replace r8 := r8.alloc (.cells #[.pointer (some ⟨p, 0, none⟩), .int .i64 2, .int .i64 0, .int .i64 page] 92)
  replace h := h.alloc (.cells #[.pointer (some ⟨p, 0, none⟩), .int .i64 2, .int .i64 0, .int .i64 page] 92)
  replace f1 := f1.alloc (.cells #[.pointer (some ⟨p, 0, none⟩), .int .i64 2, .int .i64 0, .int .i64 page] 92)
  have hd := desc_b2 _ (w.heap.size + 1) p bf nf bs root 2 0 page 44 #[] (fun t => ⟨t, 0, f0⟩) h r9 (by omega) (by omega) (lies_itself _ _) ⟨root, 0, f0⟩ rfl hp rfl hk ⟨(df (ew bs root page 0)), 0, f0⟩ rfl rfl hj
  go_enter Try.func13, Try.ntmps13
  go_wp2_with fail
  refine (isPage_any _ _).mono ?_
  rintro e v1 ⟨rfl, rfl⟩
  rw [hp]
  go_wp2_with fail
  refine hd.mono ?_
  rintro e v1 ⟨rfl, g1, _⟩
  clear hd
  replace r8 := r8.keep g1 (show _ ≠ _ by omega)
  replace f1 := f1.newerS g1 (by omega)
  have l1 : Hid (w.heap.size < v1.heap.size) := r8.lt
  clear g1 r9 h
  have r10 := row_alloc v1 #[.bool false, .bool false, .int .i64 0, .int .i64 0] 29
  replace r8 := r8.alloc (.cells #[.bool false, .bool false, .int .i64 0, .int .i64 0] 29)
  replace f1 := f1.alloc (.cells #[.bool false, .bool false, .int .i64 0, .int .i64 0] 29)
  obtain ⟨c0x0, c0x1, c0x2, c0x3, c0x4⟩ := cells5 r8
  obtain ⟨z1x0, z1x1, z1x2, z1x3, z1x4⟩ := frozen5 r8
  go_wp2_with fail
  clear c0x0 c0x1 c0x2 c0x3 c0x4 z1x0 z1x1 z1x2 z1x3 z1x4
  have l2 := l1.out
  replace r10 := r10.past5 (b' := w.heap.size) (by omega) (.int .i64 (entK bs nf (df (ew bs root page 0)) page 1)) (.int .i64 2) (.int .i64 1) (.bool false) (.int .i64 page)
  replace r8 := r8.put5 (.int .i64 (entK bs nf (df (ew bs root page 0)) page 1)) (.int .i64 2) (.int .i64 1) (.bool false) (.int .i64 page)
  replace f1 := f1.put5 (b := w.heap.size) (Or.inl (by omega)) (.int .i64 (entK bs nf (df (ew bs root page 0)) page 1)) (.int .i64 2) (.int .i64 1) (.bool false) (.int .i64 page)
  unfold put5 at r8 r10 f1
  clear l1 l2
  generalize hWW1 : ((((((v1.alloc (.cells #[.bool false, .bool false, .int .i64 0, .int .i64 0] 29)).setCell ⟨w.heap.size, 0, none⟩ (.int .i64 (entK bs nf (df (ew bs root page 0)) page 1))).setCell ⟨w.heap.size, 1, none⟩ (.int .i64 2)).setCell ⟨w.heap.size, 2, none⟩ (.int .i64 1)).setCell ⟨w.heap.size, 3, none⟩ (.bool false)).setCell ⟨w.heap.size, 4, none⟩ (.int .i64 page)) = W1 at r8 r10 f1 ⊢
  clear hWW1
  obtain ⟨c2x0, c2x1, c2x2, c2x3, c2x4⟩ := cells5 r8
  obtain ⟨z3x0, z3x1, z3x2, z3x3, z3x4⟩ := frozen5 r8
  obtain ⟨c4x0, c4x1, c4x2, c4x3⟩ := row4 r10
  go_region
  go_wp2_with fail
  refine bodyPost_ret (ret_ttf rfl rfl (r8.put5 _ _ _ _ _).drew rfl) rfl ?_
  exact ⟨rfl, (f1.put5 (Or.inl (Nat.le_refl _)) _ _ _ _ _).drew⟩

set_option maxHeartbeats 400000 in
theorem single_ok (w : World) (p bf nf : Nat) (bs : List UInt8) (root page : Int) (h : IsRam w p bf nf bs) (hp : isP page = true) (hk : entK bs nf root page 0 = 0) (hj : entK bs nf (df (ew bs root page 0)) page 1 = 0) :
    Calls Try.prog 13 #[.pointer (some ⟨p, 0, none⟩), .int .i64 root, .int .i64 page] w fun e w' => e = .returned (.tuple #[.int .i64 (df (ew bs (df (ew bs root page 0)) page 1)), .int .i64 (dr (ew bs (df (ew bs root page 0)) page 1)), .agg #[.int .i64 0, .int .i64 0, .int .i64 0, .bool false, .int .i64 0]]) ∧ Fr none' w w' := by
  have f1 := Fr.refl none' w
  have hp0 := h.head.lt
  have hb0 := h.row.lt
  have r8 := row_alloc w #[.int .i64 0, .int .i64 0, .int .i64 0, .bool false, .int .i64 0] 43
  replace h := h.alloc (.cells #[.int .i64 0, .int .i64 0, .int .i64 0, .bool false, .int .i64 0] 43)
  replace f1 := f1.alloc (.cells #[.int .i64 0, .int .i64 0, .int .i64 0, .bool false, .int .i64 0] 43)
  have r9 := row_alloc2 w (.cells #[.int .i64 0, .int .i64 0, .int .i64 0, .bool false, .int .i64 0] 43) #[.pointer (some ⟨p, 0, none⟩), .int .i64 2, .int .i64 0, .int .i64 page] 92
  replace r8 := r8.alloc (.cells #[.pointer (some ⟨p, 0, none⟩), .int .i64 2, .int .i64 0, .int .i64 page] 92)
  replace h := h.alloc (.cells #[.pointer (some ⟨p, 0, none⟩), .int .i64 2, .int .i64 0, .int .i64 page] 92)
  replace f1 := f1.alloc (.cells #[.pointer (some ⟨p, 0, none⟩), .int .i64 2, .int .i64 0, .int .i64 page] 92)
  have hd := desc_c _ (w.heap.size + 1) p bf nf bs root 2 0 page 44 #[] (fun t => ⟨t, 0, f0⟩) h r9 (by omega) (by omega) (lies_itself _ _) ⟨root, 0, f0⟩ rfl hp rfl hk ⟨(df (ew bs root page 0)), 0, f0⟩ rfl rfl hj
  go_enter Try.func13, Try.ntmps13
  go_wp2_with fail
  refine (isPage_any _ _).mono ?_
  rintro e v1 ⟨rfl, rfl⟩
  rw [hp]
  go_wp2_with fail
  refine hd.mono ?_
  rintro e v1 ⟨rfl, g1, _⟩
  clear hd
  replace r8 := r8.keep g1 (show _ ≠ _ by omega)
  replace f1 := f1.newerS g1 (by omega)
  have l1 : Hid (w.heap.size < v1.heap.size) := r8.lt
  clear g1 r9 h
  have r10 := row_alloc v1 #[.bool true, .bool true, .int .i64 (dr (ew bs (df (ew bs root page 0)) page 1)), .int .i64 (df (ew bs (df (ew bs root page 0)) page 1))] 29
  replace r8 := r8.alloc (.cells #[.bool true, .bool true, .int .i64 (dr (ew bs (df (ew bs root page 0)) page 1)), .int .i64 (df (ew bs (df (ew bs root page 0)) page 1))] 29)
  replace f1 := f1.alloc (.cells #[.bool true, .bool true, .int .i64 (dr (ew bs (df (ew bs root page 0)) page 1)), .int .i64 (df (ew bs (df (ew bs root page 0)) page 1))] 29)
  obtain ⟨c0x0, c0x1, c0x2, c0x3, c0x4⟩ := cells5 r8
  obtain ⟨z1x0, z1x1, z1x2, z1x3, z1x4⟩ := frozen5 r8
  go_wp2_with fail
  clear c0x0 c0x1 c0x2 c0x3 c0x4 z1x0 z1x1 z1x2 z1x3 z1x4
  have l2 := l1.out
  replace r10 := r10.past5 (b' := w.heap.size) (by omega) (.int .i64 0) (.int .i64 0) (.int .i64 0) (.bool false) (.int .i64 0)
  replace r8 := r8.put5 (.int .i64 0) (.int .i64 0) (.int .i64 0) (.bool false) (.int .i64 0)
  replace f1 := f1.put5 (b := w.heap.size) (Or.inl (by omega)) (.int .i64 0) (.int .i64 0) (.int .i64 0) (.bool false) (.int .i64 0)
  unfold put5 at r8 r10 f1
  clear l1 l2
  generalize hWW1 : ((((((v1.alloc (.cells #[.bool true, .bool true, .int .i64 (dr (ew bs (df (ew bs root page 0)) page 1)), .int .i64 (df (ew bs (df (ew bs root page 0)) page 1))] 29)).setCell ⟨w.heap.size, 0, none⟩ (.int .i64 0)).setCell ⟨w.heap.size, 1, none⟩ (.int .i64 0)).setCell ⟨w.heap.size, 2, none⟩ (.int .i64 0)).setCell ⟨w.heap.size, 3, none⟩ (.bool false)).setCell ⟨w.heap.size, 4, none⟩ (.int .i64 0)) = W1 at r8 r10 f1 ⊢
  clear hWW1
  obtain ⟨c2x0, c2x1, c2x2, c2x3, c2x4⟩ := cells5 r8
  obtain ⟨z3x0, z3x1, z3x2, z3x3, z3x4⟩ := frozen5 r8
  obtain ⟨c4x0, c4x1, c4x2, c4x3⟩ := row4 r10
  go_region
  go_wp2_with fail
  refine bodyPost_ret (ret_ttf rfl rfl (r8.put5 _ _ _ _ _).drew rfl) rfl ?_
  exact ⟨rfl, (f1.put5 (Or.inl (Nat.le_refl _)) _ _ _ _ _).drew⟩

theorem single_any (w : World) (p bf nf : Nat) (bs : List UInt8) (root page : Int) (h : IsRam w p bf nf bs) :
    Calls Try.prog 13 #[.pointer (some ⟨p, 0, none⟩), .int .i64 root, .int .i64 page] w fun e w' => e = .returned (.tuple #[.int .i64 (single bs nf root page).fr, .int .i64 (single bs nf root page).ri, .agg #[.int .i64 (single bs nf root page).ft.k, .int .i64 (single bs nf root page).ft.s, .int .i64 (single bs nf root page).ft.l, .bool (single bs nf root page).ft.wk, .int .i64 (single bs nf root page).ft.p]]) ∧ Fr none' w w' := by
  rcases single_cases bs nf root page with ⟨hp, e⟩ | ⟨hp, h1, e⟩ | ⟨hp, h1, h2, e⟩ | ⟨hp, h1, h2, e⟩
  · rw [e]; exact single_out w p root page hp
  · rw [e]; exact single_bad0 w p bf nf bs root page h hp h1
  · rw [e]; exact single_bad1 w p bf nf bs root page h hp h1 h2
  · rw [e]; exact single_ok w p bf nf bs root page h hp h1 h2

end Go.Proofs.Ythmombgogmgobaa
