/-
  Contracts of package cspace's within, isFull, New, Radix, slot, Get and Put over the translation. No statement is proved here.
-/
import Derived.Test.YtibdkadojoeopaaCsRow
namespace Go.Proofs.Ytibdkadojoeopaa
open Go.RowKit Go.Maps Go.WideMaps

theorem swithin_any (n a b : Int) (w : World) : Calls Try.prog 39 #[.int .i64 n, .int .i64 a, .int .i64 b] w fun e w' => e = .returned (.bool (decide (a ≤ n) && decide (n ≤ b))) ∧ w' = w := by
  by_cases h : a ≤ n
  · have t1 : decide (a ≤ n) = true := by simpa using h
    rw [t1]
    go_enter Try.func39, Try.ntmps39
    go_wp2
    go_ret
    exact ⟨rfl, rfl⟩
  · have t1 : decide (a ≤ n) = false := by simpa using h
    rw [t1]
    go_enter Try.func39, Try.ntmps39
    go_wp2
    go_ret
    exact ⟨rfl, rfl⟩

theorem isfull_any (c : K) (w : World) : Calls Try.prog 34 #[.agg (capV c)] w fun e w' => e = .returned (.bool (c.k != 0)) ∧ Fr none' w w' := by
  obtain ⟨k, o, r, b, x, g, n, d⟩ := c
  show Calls Try.prog 34 #[.agg #[.int .i64 k, .int .i64 o, .int .i64 r, .int .i64 b, .int .i64 x, .int .i64 g, .int .i64 n, .bool d]] w fun e w' => e = .returned (.bool (k != 0)) ∧ Fr none' w w'
  have f0 := (Fr.refl none' w).alloc (.cells (cbox k o r b x g n d) 34)
  unfold cbox at f0
  go_enter Try.func34, Try.ntmps34
  go_wp2
  go_ret
  exact ⟨rfl, f0⟩

set_option maxRecDepth 100000 in
theorem new_any (w : World) : Calls Try.prog 10 #[] w fun e w' => ∃ p : Pb, e = .returned (.pointer (some ⟨p.b, 0, none⟩)) ∧ IsP w' p [] ∧ Fr none' w w' ∧ ∀ k, p.s [] k → w.heap.size ≤ k := by
  have f0 := ((Fr.refl none' w).alloc (.map #[] 0)).alloc (.cells #[.map (some w.heap.size)] 64)
  have r0 := row_alloc1 w (.map #[] 0) #[.map (some w.heap.size)] 64
  have m0 := (mp_made w).keep ((Fr.refl none' _).alloc (.cells #[.map (some w.heap.size)] 64)) (fun h => h)
  have HR : Hid (IsP ((w.alloc (.map #[] 0)).alloc (.cells #[.map (some w.heap.size)] 64)) ⟨w.heap.size + 1, w.heap.size, fun _ => 0⟩ []) := ⟨r0, m0, by simp, by simp, by simp, by simp, goodL_nil⟩
  clear r0 m0
  have hmm := @run_makeMap Try.prog
  go_enter Try.func10, Try.ntmps10
  go_wp2
  go_ret
  refine ⟨⟨w.heap.size + 1, w.heap.size, fun _ => 0⟩, rfl, HR.out, f0, fun k hk => ?_⟩
  rcases hk with rfl | rfl | ⟨n, hn, _⟩
  · show w.heap.size ≤ w.heap.size + 1
    omega
  · exact Nat.le_refl _
  · cases hn

set_option maxRecDepth 100000 in
theorem radix_any (w : World) (p : Pb) (L : List Nd) (h : IsP w p L) (k : Int) (hk : I64 k) : Calls Try.prog 15 #[.pointer (some ⟨p.b, 0, none⟩), .int .i64 k] w fun e w' => e = .returned (.int .i64 (radS L k)) ∧ w' = w := by
  unfold radS
  have c0 := h.cell
  have hfd : ∀ (x : Int) (s : Option Addr) (n m : Nat) (w : World), (Instr.field 69 (.agg #[.int .i64 x, .slice s n m]) 0).run Try.prog w = .ok (.int .i64 x) w := fun _ _ _ _ _ => by kernel_rfl
  cases hf : fnd L k with
  | none =>
    have hL := h.map.look0_none hk (by unfold mapF; rw [hf]; rfl)
    go_enter Try.func15, Try.ntmps15
    go_wp2
    go_ret
    exact ⟨rfl, rfl⟩
  | some n =>
    have hL := h.map.look0_some hk (x := n.rx) (g := p.B n.id) (by unfold mapF; rw [hf]; rfl)
    generalize 2 ^ n.rx = N at hL
    go_enter Try.func15, Try.ntmps15
    go_wp2
    go_ret
    exact ⟨rfl, rfl⟩

set_option maxHeartbeats 1000000 in
theorem slot_none (w : World) (p : Pb) (L : List Nd) (h : IsP w p L) (a i : Int) (ha : I64 a) (hf : fnd L a = none) : Calls Try.prog 41 #[.pointer (some ⟨p.b, 0, none⟩), .agg #[.int .i64 a, .int .i64 i]] w fun e w' => e = .returned (.tuple #[.pointer none, .int .i64 120]) ∧ Fr none' w w' := by
  have fA := (Fr.refl none' w).alloc (.cells #[.int .i64 a, .int .i64 i] 32)
  have fB := fA.alloc (.cells #[.int .i64 0, .slice none 0 0] 69)
  have hm : mapF p L a = none := by unfold mapF; rw [hf]; rfl
  have hA := (h.keep0 fA)
  have hB := (h.keep0 fB)
  have c0 := hA.cell
  have c1 := hB.cell
  have l0 := (hA.keep0 (Fr.refl none' _).drew).map.look_none ha hm
  have l1 := (hB.keep0 (Fr.refl none' _).drew).map.look_none ha hm
  clear hA hB hf hm h ha
  go_enter Try.func41, Try.ntmps41
  go_wp2_with fail
  go_region
  all_goals go_wp2
  all_goals go_ret2
  all_goals exact ⟨rfl, fB.drew⟩

theorem pow4 {x : Nat} (h1 : 1 ≤ x) (h2 : x ≤ 4) : 2 ≤ 2 ^ x ∧ 2 ^ x ≤ 16 := by
  have : x = 1 ∨ x = 2 ∨ x = 3 ∨ x = 4 := by omega
  rcases this with rfl | rfl | rfl | rfl <;> decide

set_option maxRecDepth 100000 in
set_option maxHeartbeats 1000000 in
theorem slot_out (w : World) (p : Pb) (L : List Nd) (h : IsP w p L) (a i : Int) (ha : I64 a) (n : Nd) (hf : fnd L a = some n) (hi : ¬ (0 ≤ i ∧ i < 2 ^ n.rx)) : Calls Try.prog 41 #[.pointer (some ⟨p.b, 0, none⟩), .agg #[.int .i64 a, .int .i64 i]] w fun e w' => e = .returned (.tuple #[.pointer none, .int .i64 1]) ∧ Fr none' w w' := by
  have g := h.good.nd hf
  have hN := pow4 g.lo g.hi
  have eN : ((2 ^ n.rx : Nat) : Int) = (2 : Int) ^ n.rx := by push_cast; rfl
  rw [← eN] at hi
  have fA := (Fr.refl none' w).alloc (.cells #[.int .i64 a, .int .i64 i] 32)
  have fB := fA.alloc (.cells #[.int .i64 0, .slice none 0 0] 69)
  have fC := fA.alloc (.cells #[.int .i64 (n.rx : Int), .slice (some ⟨p.B n.id, 0, none⟩) (2 ^ n.rx) (2 ^ n.rx)] 69)
  have hm : mapF p L a = some (n.rx, p.B n.id) := by unfold mapF; rw [hf]; rfl
  have hA := (h.keep0 fA)
  have hB := (h.keep0 fB)
  have c0 := hA.cell
  have c1 := hB.cell
  have l0 := (hA.keep0 (Fr.refl none' _).drew).map.look_some ha hm
  have l1 := (hB.keep0 (Fr.refl none' _).drew).map.look_some ha hm
  clear hA hB hf hm h ha eN g
  generalize 2 ^ n.rx = N at *
  have hI : (decide (0 ≤ i) && decide (i ≤ (N : Int) - 1)) = false := by
    cases h1 : (decide (0 ≤ i) && decide (i ≤ (N : Int) - 1)) with
    | false => rfl
    | true => exact absurd (by simp at h1; omega) hi
  obtain ⟨hN1, hN2⟩ := hN
  clear hi
  go_enter Try.func41, Try.ntmps41
  go_wp2_with fail
  go_region
  all_goals go_wp2_with (go_at_call 39; refine (swithin_any _ _ _ _).mono ?_; rintro e w1 ⟨rfl, rfl⟩; rw [hI])
  all_goals go_ret2
  all_goals exact ⟨rfl, fC.drew⟩

set_option maxRecDepth 100000 in
set_option maxHeartbeats 1000000 in
theorem slot_ok (w : World) (p : Pb) (L : List Nd) (h : IsP w p L) (a : Int) (j : Nat) (ha : I64 a) (n : Nd) (hf : fnd L a = some n) (hj : j < 2 ^ n.rx) : Calls Try.prog 41 #[.pointer (some ⟨p.b, 0, none⟩), .agg #[.int .i64 a, .int .i64 (j : Int)]] w fun e w' => e = .returned (.tuple #[.pointer (some ⟨p.B n.id, j * 8, none⟩), .int .i64 0]) ∧ Fr none' w w' := by
  have g := h.good.nd hf
  have hN := pow4 g.lo g.hi
  have fA := (Fr.refl none' w).alloc (.cells #[.int .i64 a, .int .i64 (j : Int)] 32)
  have fB := fA.alloc (.cells #[.int .i64 0, .slice none 0 0] 69)
  have fC := fA.alloc (.cells #[.int .i64 (n.rx : Int), .slice (some ⟨p.B n.id, 0, none⟩) (2 ^ n.rx) (2 ^ n.rx)] 69)
  have hm : mapF p L a = some (n.rx, p.B n.id) := by unfold mapF; rw [hf]; rfl
  have hA := (h.keep0 fA)
  have hB := (h.keep0 fB)
  have c0 := hA.cell
  have c1 := hB.cell
  have l0 := (hA.keep0 (Fr.refl none' _).drew).map.look_some ha hm
  have l1 := (hB.keep0 (Fr.refl none' _).drew).map.look_some ha hm
  clear hA hB hf hm h ha g
  generalize 2 ^ n.rx = N at *
  have hI : (decide ((0 : Int) ≤ (j : Int)) && decide ((j : Int) ≤ (N : Int) - 1)) = true := by simp; omega
  obtain ⟨hN1, hN2⟩ := hN
  go_enter Try.func41, Try.ntmps41
  go_wp2_with fail
  go_region
  all_goals go_wp2_with (go_at_call 39; refine (swithin_any _ _ _ _).mono ?_; rintro e w1 ⟨rfl, rfl⟩; rw [hI])
  all_goals go_ret2
  all_goals exact ⟨rfl, fC.drew⟩

/-! ### Get -/
theorem getE_none {L : List Nd} {a i : Int} (hf : fnd L a = none) : getE L ⟨a, i⟩ = 120 ∧ getC L ⟨a, i⟩ = K0 := by
  unfold getE getC; rw [hf]; exact ⟨rfl, rfl⟩
theorem getE_out {L : List Nd} {a i : Int} {n : Nd} (hf : fnd L a = some n) (hi : ¬ (0 ≤ i ∧ i < 2 ^ n.rx)) : getE L ⟨a, i⟩ = 1 ∧ getC L ⟨a, i⟩ = K0 := by
  unfold getE getC; rw [hf]; exact ⟨if_neg hi, if_neg hi⟩
theorem getE_ok {L : List Nd} {a : Int} {j : Nat} {n : Nd} (hf : fnd L a = some n) (hj : j < 2 ^ n.rx) : getE L ⟨a, j⟩ = 0 ∧ getC L ⟨a, j⟩ = n.sl j := by
  have eN : ((2 ^ n.rx : Nat) : Int) = (2 : Int) ^ n.rx := by push_cast; rfl
  have hi : 0 ≤ (j : Int) ∧ (j : Int) < 2 ^ n.rx := by omega
  unfold getE getC; rw [hf]
  exact ⟨if_pos hi, if_pos hi⟩

/-- Which of the three an address is. -/
theorem ref_cases (L : List Nd) (a i : Int) : fnd L a = none ∨ ∃ n, fnd L a = some n ∧ (¬ (0 ≤ i ∧ i < 2 ^ n.rx) ∨ ∃ j : Nat, i = (j : Int) ∧ j < 2 ^ n.rx) := by
  cases hf : fnd L a with
  | none => exact Or.inl rfl
  | some n =>
    refine Or.inr ⟨n, rfl, ?_⟩
    have eN : ((2 ^ n.rx : Nat) : Int) = (2 : Int) ^ n.rx := by push_cast; rfl
    by_cases h : 0 ≤ i ∧ i < 2 ^ n.rx
    · exact Or.inr ⟨i.toNat, by omega, by omega⟩
    · exact Or.inl h

set_option maxRecDepth 100000 in
set_option maxHeartbeats 1000000 in
theorem get_bad (w : World) (p : Pb) (E : Int) (hE : (E != 0) = true) (a i : Int) (hs : ∀ w', Fr none' w w' → Calls Try.prog 41 #[.pointer (some ⟨p.b, 0, none⟩), .agg #[.int .i64 a, .int .i64 i]] w' fun e w2 => e = .returned (.tuple #[.pointer none, .int .i64 E]) ∧ Fr none' w' w2) :
    Calls Try.prog 20 #[.pointer (some ⟨p.b, 0, none⟩), .agg #[.int .i64 a, .int .i64 i]] w fun e w' => e = .returned (.tuple #[.agg (capV K0), .int .i64 E]) ∧ Fr none' w w' := by
  have fA := ((Fr.refl none' w).alloc (.cells #[.int .i64 a, .int .i64 i] 32)).alloc (.cells #[.int .i64 0, .int .i64 0, .int .i64 0, .int .i64 0, .int .i64 0, .int .i64 0, .int .i64 0, .bool false] 34)
  have rA := row_alloc1 w (.cells #[.int .i64 a, .int .i64 i] 32) #[.int .i64 0, .int .i64 0, .int .i64 0, .int .i64 0, .int .i64 0, .int .i64 0, .int .i64 0, .bool false] 34
  have hs1 := hs _ fA
  clear hs
  go_enter Try.func20, Try.ntmps20
  go_wp2_with fail
  refine hs1.mono ?_
  rintro e w1 ⟨rfl, f1⟩
  replace rA := rA.keep f1 (fun h => h)
  replace fA := fA.trans f1
  clear hs1 f1
  obtain ⟨c0, c1, c2, c3, c4, c5, c6, c7⟩ := cbox_cells (k := 0) (o := 0) (r := 0) (b := 0) (x := 0) (g := 0) (n := 0) (d := false) rA
  obtain ⟨z0, z1, z2, z3, z4, z5, z6, z7⟩ := cbox_frozen rA
  have HR : Hid (Row (cput w1 (w.heap.size + 1) 0 0 0 0 0 0 0 false) (w.heap.size + 1) #[.int .i64 0, .int .i64 0, .int .i64 0, .int .i64 0, .int .i64 0, .int .i64 0, .int .i64 0, .bool false] 34) := cbox_set (k := 0) (o := 0) (r := 0) (b := 0) (x := 0) (g := 0) (n := 0) (d := false) rA
  have HF : Hid (Fr none' w (cput w1 (w.heap.size + 1) 0 0 0 0 0 0 0 false)) := cbox_fr _ _ _ _ _ _ _ _ fA (Or.inl (by omega))
  clear rA fA
  go_wp2_with fail
  refine bodyPost_ret (ret_cap_tmp rfl rfl HR.out rfl) rfl ?_
  exact ⟨rfl, HF.out⟩

set_option maxRecDepth 100000 in
set_option maxHeartbeats 1000000 in
theorem get_ok (w : World) (p : Pb) (L : List Nd) (h : IsP w p L) (a : Int) (j : Nat) (ha : I64 a) (n : Nd) (hf : fnd L a = some n) (hj : j < 2 ^ n.rx) :
    Calls Try.prog 20 #[.pointer (some ⟨p.b, 0, none⟩), .agg #[.int .i64 a, .int .i64 (j : Int)]] w fun e w' => e = .returned (.tuple #[.agg (capV (n.sl j)), .int .i64 0]) ∧ Fr none' w w' := by
  have fA := ((Fr.refl none' w).alloc (.cells #[.int .i64 a, .int .i64 (j : Int)] 32)).alloc (.cells #[.int .i64 0, .int .i64 0, .int .i64 0, .int .i64 0, .int .i64 0, .int .i64 0, .int .i64 0, .bool false] 34)
  have rA := row_alloc1 w (.cells #[.int .i64 a, .int .i64 (j : Int)] 32) #[.int .i64 0, .int .i64 0, .int .i64 0, .int .i64 0, .int .i64 0, .int .i64 0, .int .i64 0, .bool false] 34
  have hA := h.keep0 fA
  have hs1 := slot_ok _ p L hA a j ha n hf hj
  have sA := hA.sl n (fnd_mem hf).1
  have hB : p.B n.id ≠ w.heap.size + 1 := by
    have := h.lt _ (Or.inr (Or.inr ⟨n, (fnd_mem hf).1, rfl⟩))
    omega
  clear hA h hf ha
  generalize 2 ^ n.rx = N at *
  generalize p.B n.id = g at *
  obtain ⟨c, hc⟩ : ∃ c, c = n.sl j := ⟨_, rfl⟩
  rw [← hc]
  obtain ⟨k', o', r', b', x', g', n', d'⟩ := c
  go_enter Try.func20, Try.ntmps20
  go_wp2_with fail
  refine hs1.mono ?_
  rintro e w1 ⟨rfl, f1⟩
  replace rA := rA.keep f1 (fun h => h)
  replace sA := sA.keep f1 (fun h => h)
  replace fA := fA.trans f1
  clear hs1 f1
  obtain ⟨c0, c1, c2, c3, c4, c5, c6, c7⟩ := cbox_cells (k := 0) (o := 0) (r := 0) (b := 0) (x := 0) (g := 0) (n := 0) (d := false) rA
  obtain ⟨z0, z1, z2, z3, z4, z5, z6, z7⟩ := cbox_frozen rA
  obtain ⟨d0, d1, d2, d3, d4, d5, d6, d7⟩ := sA.cells j hj
  rw [← hc] at d0 d1 d2 d3 d4 d5 d6 d7
  clear hc
  dsimp only at d0 d1 d2 d3 d4 d5 d6 d7
  have HR : Hid (Row (cput w1 (w.heap.size + 1) k' o' r' b' x' g' n' d') (w.heap.size + 1) (cbox k' o' r' b' x' g' n' d') 34) := cbox_set (k := 0) (o := 0) (r := 0) (b := 0) (x := 0) (g := 0) (n := 0) (d := false) rA
  have HF : Hid (Fr none' w (cput w1 (w.heap.size + 1) k' o' r' b' x' g' n' d')) := cbox_fr _ _ _ _ _ _ _ _ fA (Or.inl (by omega))
  clear rA fA sA
  go_wp2_with fail
  refine bodyPost_ret (ret_cap_tmp rfl rfl HR.out rfl) rfl ?_
  exact ⟨rfl, HF.out⟩

theorem get_any (w : World) (p : Pb) (L : List Nd) (h : IsP w p L) (a : Rf) (ha : I64 a.n) :
    Calls Try.prog 20 #[.pointer (some ⟨p.b, 0, none⟩), .agg #[.int .i64 a.n, .int .i64 a.i]] w fun e w' => e = .returned (.tuple #[.agg (capV (getC L a)), .int .i64 (getE L a)]) ∧ Fr none' w w' := by
  obtain ⟨a, i⟩ := a
  rcases ref_cases L a i with hf | ⟨n, hf, hi | ⟨j, rfl, hj⟩⟩
  · rw [(getE_none hf).1, (getE_none hf).2]
    exact get_bad w p 120 rfl a i (fun w' f => slot_none w' p L (h.keep0 f) a i ha hf)
  · rw [(getE_out hf hi).1, (getE_out hf hi).2]
    exact get_bad w p 1 rfl a i (fun w' f => slot_out w' p L (h.keep0 f) a i ha n hf hi)
  · rw [(getE_ok hf hj).1, (getE_ok hf hj).2]
    exact get_ok w p L h a j ha n hf hj

end Go.Proofs.Ytibdkadojoeopaa
