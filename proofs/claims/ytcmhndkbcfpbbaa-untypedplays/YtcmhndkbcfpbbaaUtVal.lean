/-
  Contracts of package untyped's small functions, New, Drop, Get and Add over the translation. No statement is proved here.
-/
import Derived.Test.YtcmhndkbcfpbbaaUtRow
namespace Go.Proofs.Ytcmhndkbcfpbbaa
open Go.RowKit Go.Maps Go.WideMaps

theorem size_reg : (Try.prog.info? 39).map (·.size) = some 4 := by kernel_rfl
theorem ret_reg_tmp {fn : Func} {p u : Tmp} {tmps : Array Value} {g : Nat} {cs : Array Value} {w : World} (h : fn.results = #[.cell p 39, .tmp u]) (hp : tmps.getD p undef = .pointer (some ⟨g, 0, none⟩)) (hr : Row w g cs 39) (hs : cs.size = 4) :
    (results fn tmps).run Try.prog w = .ok (.tuple #[.agg cs, tmps.getD u undef]) w := by
  rw [results_cell_tmp h, hp]
  simp only [asAddr, Sem.run_pure, Result.andThen]
  rw [run_loadVar_row w g _ 39 cs (0, 0) _ hr Try.underlying39 rfl (by rw [hs]; exact size_reg)]

theorem eq_reg (x y : Rg) (w : World) : (binOp .eql 39 (rgV x) (rgV y)).run Try.prog w = .ok (.bool (eqG x y)) w := by
  obtain ⟨a1, a2, a3, a4⟩ := x
  obtain ⟨b1, b2, b3, b4⟩ := y
  simp [go_sem, eqG]
  repeat' split
  all_goals simp_all
theorem neq_reg (x y : Rg) (w : World) : (binOp .neq 39 (rgV x) (rgV y)).run Try.prog w = .ok (.bool (!eqG x y)) w := by
  obtain ⟨a1, a2, a3, a4⟩ := x
  obtain ⟨b1, b2, b3, b4⟩ := y
  simp [go_sem, eqG]
  repeat' split
  all_goals simp_all

theorem uwithin_any (n a b : Int) (w : World) : Calls Try.prog 43 #[.int .i64 n, .int .i64 a, .int .i64 b] w fun e w' => e = .returned (.bool (decide (a ≤ n) && decide (n ≤ b))) ∧ w' = w := by
  by_cases h : a ≤ n
  · have t1 : decide (a ≤ n) = true := by simpa using h
    rw [t1]
    go_enter Try.func43, Try.ntmps43
    go_wp2
    go_ret
    exact ⟨rfl, rfl⟩
  · have t1 : decide (a ≤ n) = false := by simpa using h
    rw [t1]
    go_enter Try.func43, Try.ntmps43
    go_wp2
    go_ret
    exact ⟨rfl, rfl⟩

theorem dev_any (k : Int) (w : World) : Calls Try.prog 44 #[.int .i64 k] w fun e w' => e = .returned (.bool (devB k)) ∧ w' = w := by
  unfold devB
  cases h : (k == 1) with
  | true =>
    go_enter Try.func44, Try.ntmps44
    go_wp2
    go_ret
    exact ⟨rfl, rfl⟩
  | false =>
    go_enter Try.func44, Try.ntmps44
    go_wp2
    go_ret
    exact ⟨by simp, rfl⟩

set_option maxHeartbeats 1000000 in
theorem maybe_any (x : Rg) (hf : I64 x.f) (w : World) : Calls Try.prog 39 #[rgV x] w fun e w' => e = .returned (.bool (okR x)) ∧ Fr none' w w' := by
  obtain ⟨f, n, m, d⟩ := x
  have f0 := (Fr.refl none' w).alloc (.cells #[.int .i64 f, .int .i64 n, .int .i64 m, .bool d] 39)
  unfold okR
  obtain ⟨b1, b2⟩ := hf
  have b1' : -9223372036854775808 ≤ f := b1
  have b2' : f ≤ 9223372036854775807 := b2
  clear b1 b2
  dsimp only
  by_cases h1 : 0 ≤ f
  · rw [decide_eq_true h1]
    have hw : wrap64 (1024 - f) = 1024 - f := by unfold wrap64; omega
    cases h2 : (decide (1 ≤ n) && decide (n ≤ 1024 - f)) with
    | true =>
      go_enter Try.func39, Try.ntmps39
      go_wp2_with (go_at_call 43; refine (uwithin_any _ _ _ _).mono ?_; rintro e w1 ⟨rfl, rfl⟩; try rw [h2])
      go_ret
      exact ⟨by simp, f0⟩
    | false =>
      go_enter Try.func39, Try.ntmps39
      go_wp2_with (go_at_call 43; refine (uwithin_any _ _ _ _).mono ?_; rintro e w1 ⟨rfl, rfl⟩; try rw [h2])
      go_ret
      exact ⟨by simp, f0⟩
  · rw [decide_eq_false h1]
    go_enter Try.func39, Try.ntmps39
    go_wp2
    go_ret
    exact ⟨by simp, f0⟩

set_option maxRecDepth 100000 in
theorem unew_any (w : World) : Calls Try.prog 10 #[] w fun e w' => ∃ p : Pb, e = .returned (.pointer (some ⟨p.b, 0, none⟩)) ∧ IsP w' p [] ∧ Fr none' w w' ∧ ∀ k, p.s [] k → w.heap.size ≤ k := by
  have f0 := ((Fr.refl none' w).alloc (.map #[] 0)).alloc (.cells #[.map (some w.heap.size)] 66)
  have r0 := row_alloc1 w (.map #[] 0) #[.map (some w.heap.size)] 66
  have m0 := (mp_made w).keep ((Fr.refl none' _).alloc (.cells #[.map (some w.heap.size)] 66)) (fun h => h)
  have HR : Hid (IsP ((w.alloc (.map #[] 0)).alloc (.cells #[.map (some w.heap.size)] 66)) ⟨w.heap.size + 1, w.heap.size, fun _ => 0⟩ []) := ⟨r0, m0, by simp, by simp, goodL_nil⟩
  clear r0 m0
  have hmm := @run_makeMap Try.prog
  go_enter Try.func10, Try.ntmps10
  go_wp2
  go_ret
  refine ⟨⟨w.heap.size + 1, w.heap.size, fun _ => 0⟩, rfl, HR.out, f0, fun k hk => ?_⟩
  rcases hk with rfl | rfl | ⟨n, hn, _⟩
  · show w.heap.size ≤ w.heap.size + 1
    omega
  · exact Nat.le_refl _
  · cases hn

theorem map_none {p : Pb} {L : List Rg} {k : Int} (h : fnd L k = none) : mapF p L k = none := by unfold mapF; rw [h]; rfl
theorem map_some {p : Pb} {L : List Rg} {k : Int} {n : Rg} (h : fnd L k = some n) : mapF p L k = some (p.B n.f) := by unfold mapF; rw [h]; rfl

set_option maxRecDepth 100000 in
set_option maxHeartbeats 1000000 in
theorem drop_any (w : World) (p : Pb) (L : List Rg) (h : IsP w p L) (k : Int) (hk : I64 k) : Calls Try.prog 27 #[.pointer (some ⟨p.b, 0, none⟩), .int .i64 k] w fun e w' => e = .returned (.int .i64 (drE L k)) ∧ Chg w p L w' (del L k) := by
  unfold drE
  have c0 := h.cell
  cases hf : fnd L k with
  | none =>
    have hL := h.map.look_none hk (map_none hf)
    have HC : Hid (Chg w p L w (del L k)) := by rw [del_none hf]; exact Chg.same h (Fr.refl _ _)
    clear h hf hk
    go_enter Try.func27, Try.ntmps27
    go_wp2
    go_ret
    exact ⟨rfl, HC.out⟩
  | some n =>
    have hL := h.map.look_some hk (map_some hf)
    obtain ⟨i, _, hi, _⟩ := fnd_at hf
    have e := (fnd_mem hf).2
    have hlen := len_del h.good hi
    rw [e] at hlen
    have hm := h.map
    rw [hlen] at hm
    obtain ⟨w2, hrun, hm2, f2⟩ := hm.drop hk (map_some hf) (f' := fun j => if j = k then none else mapF p L j) (fun _ => rfl)
    have HC : Hid (Chg w p L w2 (del L k)) := h.del f2 hm2
    have hr := hrun 0
    have HR : Hid (∀ ty, (Builtin.delete_ #[64, 3] ty #[.map (some p.m), .int .i64 k]).run Try.prog w = .ok (.tuple #[]) w2) := hrun
    clear h hf hk hm hm2 f2 hrun hlen e hi
    go_enter Try.func27, Try.ntmps27
    go_wp2
    go_ret
    exact ⟨rfl, HC.out⟩

/-! ### Get -/
set_option maxRecDepth 100000 in
set_option maxHeartbeats 1000000 in
theorem get_none (w : World) (p : Pb) (L : List Rg) (h : IsP w p L) (k : Int) (hk : I64 k) (hf : fnd L k = none) : Calls Try.prog 22 #[.pointer (some ⟨p.b, 0, none⟩), .int .i64 k] w fun e w' => e = .returned (.tuple #[rgV R0, .int .i64 131]) ∧ Fr none' w w' := by
  have f0 := (Fr.refl none' w).alloc (.cells (rgA R0) 39)
  have r0 := row_alloc w (rgA R0) 39
  have h1 := h.keep0 f0
  have c0 := h1.cell
  have hL := h1.map.look_none hk (map_none hf)
  unfold R0 at *
  dsimp only [rgA] at *
  clear h h1 hk hf
  go_enter Try.func22, Try.ntmps22
  go_wp2
  refine bodyPost_ret (ret_reg_tmp rfl rfl r0 rfl) rfl ?_
  exact ⟨rfl, f0⟩

set_option maxRecDepth 100000 in
set_option maxHeartbeats 1000000 in
theorem get_some (w : World) (p : Pb) (L : List Rg) (h : IsP w p L) (k : Int) (hk : I64 k) (x : Rg) (hf : fnd L k = some x) : Calls Try.prog 22 #[.pointer (some ⟨p.b, 0, none⟩), .int .i64 k] w fun e w' => e = .returned (.tuple #[rgV x, .int .i64 0]) ∧ Fr none' w w' := by
  have f0 := (Fr.refl none' w).alloc (.cells (rgA R0) 39)
  have h1 := h.keep0 f0
  have c0 := h1.cell
  have hL := h1.map.look_some hk (map_some hf)
  have hm := (fnd_mem hf).1
  have hB : p.B x.f ≠ w.heap.size := by
    have := h.lt _ (Or.inr (Or.inr ⟨x, hm, rfl⟩))
    omega
  obtain ⟨d0, d1, d2, d3⟩ := (h1.rg x hm).cells
  have r0 := row_alloc w (rgA x) 39
  have f1 := (Fr.refl none' w).alloc (.cells (rgA x) 39)
  unfold R0 at *
  dsimp only [rgA] at *
  clear h h1 hk hf hm
  generalize p.B x.f = g at *
  obtain ⟨a1, a2, a3, a4⟩ := x
  dsimp only at *
  go_enter Try.func22, Try.ntmps22
  go_wp2
  refine bodyPost_ret (ret_reg_tmp rfl rfl r0 rfl) rfl ?_
  exact ⟨rfl, f1⟩

theorem get_any (w : World) (p : Pb) (L : List Rg) (h : IsP w p L) (k : Int) (hk : I64 k) : Calls Try.prog 22 #[.pointer (some ⟨p.b, 0, none⟩), .int .i64 k] w fun e w' => e = .returned (.tuple #[rgV (getC L k), .int .i64 (getE L k)]) ∧ Fr none' w w' := by
  unfold getC getE
  cases hf : fnd L k with
  | none => exact get_none w p L h k hk hf
  | some x => exact get_some w p L h k hk x hf

end Go.Proofs.Ytcmhndkbcfpbbaa
