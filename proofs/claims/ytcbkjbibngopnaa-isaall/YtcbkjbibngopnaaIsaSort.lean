/-
  The contracts of the library's Sort, Compact (at most two numbers) and ContainsRune over the translation. No statement is proved here.
-/
import Derived.Test.YtcbkjbibngopnaaIsaVal
import Derived.Laws.Externs
import Derived.Lib.SliceRun
namespace Go.Proofs.Ytcbkjbibngopnaa
open Go.RowKit

theorem idx_call (s : ByteArray) (w : World) : (callFunc 56 #[.string s, .int .u8 97]).run Try.prog w = .ok (.value (.int .i64 (firstIdx s 97))) w := by
  rw [run_callFunc_extern Try.func56 (by kernel_rfl) (by kernel_rfl) (by kernel_rfl) (e := Extern.BytealgIndexByte.indexByte) (by kernel_rfl), run_indexByte_string]
  rfl

theorem idx_form : ∀ k : Nat, k < 9 → decide (0 ≤ firstIdx (fs k) 97) = hA k := by
  intro k hk
  have : k = 0 ∨ k = 1 ∨ k = 2 ∨ k = 3 ∨ k = 4 ∨ k = 5 ∨ k = 6 ∨ k = 7 ∨ k = 8 := by omega
  rcases this with rfl | rfl | rfl | rfl | rfl | rfl | rfl | rfl | rfl <;> decide +kernel

set_option maxHeartbeats 400000 in
theorem ixb_any (s : ByteArray) (w : World) : Calls Try.prog 44 #[.string s, .int .u8 97] w fun e w' => e = .returned (.int .i64 (firstIdx s 97)) ∧ w = w' := by
  have h1 : Calls Try.prog 54 #[.string s, .int .u8 97] w fun e w' => e = .returned (.int .i64 (firstIdx s 97)) ∧ w = w' := by
    have hi := idx_call s
    go_enter Try.func54, Try.ntmps54
    go_wp2
    go_ret
    exact ⟨rfl, rfl⟩
  go_enter Try.func44, Try.ntmps44
  go_wp2_with (go_at_call 54; refine h1.mono ?_; rintro e w1 ⟨rfl, rfl⟩)
  go_ret
  exact ⟨rfl, rfl⟩

set_option maxRecDepth 100000 in
set_option maxHeartbeats 1600000 in
theorem ixr_any (s : ByteArray) (w : World) : Calls Try.prog 32 #[.string s, .int .i32 97] w fun e w' => e = .returned (.int .i64 (firstIdx s 97)) ∧ w = w' := by
  have h1 := ixb_any s w
  go_enter Try.func32, Try.ntmps32
  go_wp2_with (go_at_call 44; refine h1.mono ?_; rintro e w1 ⟨rfl, rfl⟩)
  go_ret
  exact ⟨rfl, rfl⟩

set_option maxHeartbeats 400000 in
theorem cont_any (k : Nat) (hk : k < 9) (w : World) : Calls Try.prog 29 #[.string (fs k), .int .i32 97] w fun e w' => e = .returned (.bool (hA k)) ∧ w = w' := by
  have h1 := ixr_any (fs k) w
  rw [← idx_form k hk]
  clear hk
  go_enter Try.func29, Try.ntmps29
  go_wp2_with (go_at_call 32; refine h1.mono ?_; rintro e w1 ⟨rfl, rfl⟩)
  go_ret
  exact ⟨rfl, rfl⟩

set_option maxHeartbeats 400000 in
theorem nan_any (x : Int) (w : World) : Calls Try.prog 53 #[.int .i64 x] w fun e w' => e = .returned (.bool false) ∧ w = w' := by
  go_enter Try.func53, Try.ntmps53
  go_wp2
  go_ret
  exact ⟨ret_bool (by simp), rfl⟩

set_option maxHeartbeats 400000 in
theorem less_any (x y : Int) (w : World) : Calls Try.prog 39 #[.int .i64 x, .int .i64 y] w fun e w' => e = .returned (.bool (decide (x < y))) ∧ w = w' := by
  have h1 := nan_any x w
  go_enter Try.func39, Try.ntmps39
  go_wp2_with (go_at_call 53; refine h1.mono ?_; rintro e w1 ⟨rfl, rfl⟩)
  go_ret
  exact ⟨rfl, rfl⟩

set_option maxRecDepth 100000 in
set_option maxHeartbeats 1600000 in
theorem len_any (n : Nat) (hn : n < 3) (w : World) : Calls Try.prog 31 #[.int .u64 (n : Int)] w fun e w' => (∃ m, e = .returned (.int .i64 m)) ∧ w = w' := by
  have h1 : Calls Try.prog 43 #[.int .u64 (n : Int)] w fun e w' => (∃ m, e = .returned (.int .i64 m)) ∧ w = w' := by
    have : n = 0 ∨ n = 1 ∨ n = 2 := by omega
    rcases this with rfl | rfl | rfl
    all_goals go_enter Try.func43, Try.ntmps43
    all_goals go_wp2
    all_goals go_ret
    all_goals exact ⟨⟨_, rfl⟩, rfl⟩
  clear hn
  go_enter Try.func31, Try.ntmps31
  go_wp2_with (go_at_call 43; refine h1.mono ?_; rintro e w1 ⟨⟨m, rfl⟩, rfl⟩)
  go_ret
  exact ⟨⟨_, rfl⟩, rfl⟩

theorem Fr.drewN {S : Nat → Prop} {w w' : World} (h : Fr S w w') (n : Nat) : Fr S w (w'.drewN n) := ⟨h.os, h.tape, h.output, h.size, h.block⟩
theorem Row.drewN {w : World} {b : Nat} {cs : Array Value} {t : TypeId} (h : Row w b cs t) (n : Nat) : Row (w.drewN n) b cs t := h

theorem info3 : (Try.prog.info? 3).map (fun i => (i.zero, i.size, i.bytes)) = some (some (.int .i64 0), 1, 8) := by kernel_rfl
theorem zero3 (w : World) : (zeroValue 3).run Try.prog w = .ok (.int .i64 0) w := by
  have hi := info3
  cases hq : Try.prog.info? 3 with
  | none => simp [hq] at hi
  | some i =>
    rw [hq] at hi
    simp only [Option.map_some, Option.some.injEq, Prod.mk.injEq] at hi
    simp [zeroValue, typeInfo, hq, hi.1]

theorem post_void {fn : Func} {R : Ending → World → Prop} {a : Act} {w : World} (hd : a.defers = []) (hr : fn.results = #[]) (h : ∀ v, R (.returned v) w) : bodyPost Try.prog fn R .normal a w :=
  ⟨hd, .tuple #[], by simp [results, hr], h _⟩
theorem post_void_ret {fn : Func} {R : Ending → World → Prop} {a : Act} {w : World} (hd : a.defers = []) (hr : fn.results = #[]) (h : ∀ v, R (.returned v) w) : bodyPost Try.prog fn R .ret a w :=
  ⟨hd, .tuple #[], by simp [results, hr], h _⟩

set_option maxHeartbeats 1600000 in
theorem ins_few (v : Value) (n : Nat) (hn : n < 2) (w : World) : Calls Try.prog 33 #[v, .int .i64 0, .int .i64 (n : Int)] w fun e w' => (∃ v, e = .returned v) ∧ Fr none' w w' := by
  have : n = 0 ∨ n = 1 := by omega
  rcases this with rfl | rfl
  all_goals go_enter Try.func33, Try.ntmps33
  all_goals go_wp2_with fail
  all_goals refine wp_loop_rounds 1 ?_
  all_goals rw [rounds_succ]
  all_goals go_wp2
  all_goals exact post_void rfl rfl (fun v => ⟨⟨v, rfl⟩, Fr.refl _ _⟩)

set_option maxHeartbeats 1600000 in
theorem ins_no (g cap : Nat) (x y : Int) (w : World) (c0 : w.cell? ⟨g, 0, none⟩ = some (.int .i64 x)) (c1 : w.cell? ⟨g, 1, none⟩ = some (.int .i64 y)) (h : ¬ y < x) :
    Calls Try.prog 33 #[.slice (some ⟨g, 0, none⟩) 2 cap, .int .i64 0, .int .i64 2] w fun e w' => (∃ v, e = .returned v) ∧ Fr none' w w' := by
  have hl : decide (y < x) = false := by simpa using h
  have z0 : IntKind.i64.wrap 0 = 0 := by decide
  have L := fun w => (less_any y x w).mono (R' := fun e w' => e = .returned (.bool (decide (y < x))) ∧ w' = w) (fun _ _ h => ⟨h.1, h.2.symm⟩)
  rw [hl] at L
  go_enter Try.func33, Try.ntmps33
  go_wp2_with fail
  refine wp_loop_rounds 2 ?_
  rw [rounds_succ]; go_wp2_with fail
  refine wp_loop_rounds 1 ?_
  rw [rounds_succ]; go_wp2_with fail
  go_quiet ((go_at_call 39; refine Calls.quiet_of_same (L _)))
  go_wp2_with fail
  rw [rounds_succ]; go_wp2_with fail
  exact post_void rfl rfl (fun v => ⟨⟨v, rfl⟩, fr_drewN _ _⟩)

set_option maxHeartbeats 1600000 in
theorem ins_yes (g cap : Nat) (x y : Int) (cur : Array Value) (w : World) (r0 : Row w g cur 3) (e0 : cur[0]? = some (.int .i64 x)) (e1 : cur[1]? = some (.int .i64 y)) (h : y < x) :
    Calls Try.prog 33 #[.slice (some ⟨g, 0, none⟩) 2 cap, .int .i64 0, .int .i64 2] w fun e w' => (∃ v, e = .returned v) ∧ Fr (at' g) w w' ∧ Row w' g ((cur.setIfInBounds 1 (.int .i64 x)).setIfInBounds 0 (.int .i64 y)) 3 := by
  have hl : decide (y < x) = true := by simpa using h
  have z0 : IntKind.i64.wrap 0 = 0 := by decide
  have L := fun w => (less_any y x w).mono (R' := fun e w' => e = .returned (.bool (decide (y < x))) ∧ w' = w) (fun _ _ h => ⟨h.1, h.2.symm⟩)
  rw [hl] at L
  have c0 : w.cell? ⟨g, 0, none⟩ = some (.int .i64 x) := (r0.cell 0).trans e0
  have c1 : w.cell? ⟨g, 1, none⟩ = some (.int .i64 y) := (r0.cell 1).trans e1
  have k0 := r0.frozen 0
  have k1 := r0.frozen 1
  go_enter Try.func33, Try.ntmps33
  go_wp2_with fail
  refine wp_loop_rounds 2 ?_
  rw [rounds_succ]; go_wp2_with fail
  refine wp_loop_rounds 2 ?_
  rw [rounds_succ]; go_wp2_with fail
  go_quiet ((go_at_call 39; refine Calls.quiet_of_same (L _)))
  go_wp2_with fail
  go_region
  go_wp2_with fail
  rw [rounds_succ]; go_wp2_with fail
  go_quiet (fail)
  go_wp2_with fail
  rw [rounds_succ]; go_wp2_with fail
  refine post_void rfl rfl (fun v => ⟨⟨v, rfl⟩, ?_, ?_⟩)
  · exact (((((Fr.refl (at' g) w).drewN _).setCell (p := ⟨g, 1, none⟩) (Or.inr rfl) _).setCell (p := ⟨g, 0, none⟩) (Or.inr rfl) _).drewN _)
  · exact (((Row.drewN r0 _).setCell 1 _).setCell 0 _).drewN _

set_option maxRecDepth 100000 in
set_option maxHeartbeats 1600000 in
theorem pdq_nil (m : Int) (w : World) :
    Calls Try.prog 30 #[.slice none 0 0, .int .i64 0, .int .i64 0, .int .i64 m] w fun e w' => (∃ v, e = .returned v) ∧ Fr none' w w' := by
  have H := ins_few (.slice none 0 0) 0 (by omega) w
  go_enter Try.func30, Try.ntmps30
  go_wp2_with fail
  refine wp_loop_rounds 1 ?_
  rw [rounds_succ]
  go_wp2_with (go_at_call 33; refine H.mono ?_; rintro e w1 ⟨⟨v, rfl⟩, R⟩; clear H)
  exact post_void_ret rfl rfl (fun v => ⟨⟨v, rfl⟩, R⟩)

set_option maxHeartbeats 1600000 in
theorem sort_nil (w : World) :
    Calls Try.prog 27 #[.slice none 0 0] w fun e w' => (∃ v, e = .returned v) ∧ Fr none' w w' := by
  have H := fun m => pdq_nil m w
  have K := len_any 0 (by omega)
  go_enter Try.func27, Try.ntmps27
  go_wp2_with (first
    | (go_at_call 31; refine (K _).mono ?_; rintro e w1 ⟨⟨m, rfl⟩, rfl⟩; clear K)
    | (go_at_call 30; refine (H _).mono ?_; rintro e w1 ⟨⟨v, rfl⟩, R⟩; clear H))
  exact post_void rfl rfl (fun v => ⟨⟨v, rfl⟩, R⟩)

set_option maxRecDepth 100000 in
set_option maxHeartbeats 1600000 in
theorem pdq_one (a : Addr) (cap : Nat) (m : Int) (w : World) :
    Calls Try.prog 30 #[.slice (some a) 1 cap, .int .i64 0, .int .i64 1, .int .i64 m] w fun e w' => (∃ v, e = .returned v) ∧ Fr none' w w' := by
  have H := ins_few (.slice (some a) 1 cap) 1 (by omega) w
  go_enter Try.func30, Try.ntmps30
  go_wp2_with fail
  refine wp_loop_rounds 1 ?_
  rw [rounds_succ]
  go_wp2_with (go_at_call 33; refine H.mono ?_; rintro e w1 ⟨⟨v, rfl⟩, R⟩; clear H)
  exact post_void_ret rfl rfl (fun v => ⟨⟨v, rfl⟩, R⟩)

set_option maxHeartbeats 1600000 in
theorem sort_one (a : Addr) (cap : Nat) (w : World) :
    Calls Try.prog 27 #[.slice (some a) 1 cap] w fun e w' => (∃ v, e = .returned v) ∧ Fr none' w w' := by
  have H := fun m => pdq_one a cap m w
  have K := len_any 1 (by omega)
  go_enter Try.func27, Try.ntmps27
  go_wp2_with (first
    | (go_at_call 31; refine (K _).mono ?_; rintro e w1 ⟨⟨m, rfl⟩, rfl⟩; clear K)
    | (go_at_call 30; refine (H _).mono ?_; rintro e w1 ⟨⟨v, rfl⟩, R⟩; clear H))
  exact post_void rfl rfl (fun v => ⟨⟨v, rfl⟩, R⟩)

set_option maxRecDepth 100000 in
set_option maxHeartbeats 1600000 in
theorem pdq_no (g cap : Nat) (x y : Int) (m : Int) (w : World) (c0 : w.cell? ⟨g, 0, none⟩ = some (.int .i64 x)) (c1 : w.cell? ⟨g, 1, none⟩ = some (.int .i64 y)) (h : ¬ y < x) :
    Calls Try.prog 30 #[.slice (some ⟨g, 0, none⟩) 2 cap, .int .i64 0, .int .i64 2, .int .i64 m] w fun e w' => (∃ v, e = .returned v) ∧ Fr none' w w' := by
  have H := ins_no g cap x y w c0 c1 h
  clear c0 c1 h
  go_enter Try.func30, Try.ntmps30
  go_wp2_with fail
  refine wp_loop_rounds 1 ?_
  rw [rounds_succ]
  go_wp2_with (go_at_call 33; refine H.mono ?_; rintro e w1 ⟨⟨v, rfl⟩, R⟩; clear H)
  exact post_void_ret rfl rfl (fun v => ⟨⟨v, rfl⟩, R⟩)

set_option maxHeartbeats 1600000 in
theorem sort_no (g cap : Nat) (x y : Int) (w : World) (c0 : w.cell? ⟨g, 0, none⟩ = some (.int .i64 x)) (c1 : w.cell? ⟨g, 1, none⟩ = some (.int .i64 y)) (h : ¬ y < x) :
    Calls Try.prog 27 #[.slice (some ⟨g, 0, none⟩) 2 cap] w fun e w' => (∃ v, e = .returned v) ∧ Fr none' w w' := by
  have H := fun m => pdq_no g cap x y m w c0 c1 h
  have K := len_any 2 (by omega)
  clear c0 c1 h
  go_enter Try.func27, Try.ntmps27
  go_wp2_with (first
    | (go_at_call 31; refine (K _).mono ?_; rintro e w1 ⟨⟨m, rfl⟩, rfl⟩; clear K)
    | (go_at_call 30; refine (H _).mono ?_; rintro e w1 ⟨⟨v, rfl⟩, R⟩; clear H))
  exact post_void rfl rfl (fun v => ⟨⟨v, rfl⟩, R⟩)

set_option maxRecDepth 100000 in
set_option maxHeartbeats 1600000 in
theorem pdq_yes (g cap : Nat) (x y : Int) (cur : Array Value) (m : Int) (w : World) (r0 : Row w g cur 3) (e0 : cur[0]? = some (.int .i64 x)) (e1 : cur[1]? = some (.int .i64 y)) (h : y < x) :
    Calls Try.prog 30 #[.slice (some ⟨g, 0, none⟩) 2 cap, .int .i64 0, .int .i64 2, .int .i64 m] w fun e w' => (∃ v, e = .returned v) ∧ Fr (at' g) w w' ∧ Row w' g ((cur.setIfInBounds 1 (.int .i64 x)).setIfInBounds 0 (.int .i64 y)) 3 := by
  have H := ins_yes g cap x y cur w r0 e0 e1 h
  clear r0 e0 e1 h
  go_enter Try.func30, Try.ntmps30
  go_wp2_with fail
  refine wp_loop_rounds 1 ?_
  rw [rounds_succ]
  go_wp2_with (go_at_call 33; refine H.mono ?_; rintro e w1 ⟨⟨v, rfl⟩, R⟩; clear H)
  exact post_void_ret rfl rfl (fun v => ⟨⟨v, rfl⟩, R⟩)

set_option maxHeartbeats 1600000 in
theorem sort_yes (g cap : Nat) (x y : Int) (cur : Array Value) (w : World) (r0 : Row w g cur 3) (e0 : cur[0]? = some (.int .i64 x)) (e1 : cur[1]? = some (.int .i64 y)) (h : y < x) :
    Calls Try.prog 27 #[.slice (some ⟨g, 0, none⟩) 2 cap] w fun e w' => (∃ v, e = .returned v) ∧ Fr (at' g) w w' ∧ Row w' g ((cur.setIfInBounds 1 (.int .i64 x)).setIfInBounds 0 (.int .i64 y)) 3 := by
  have H := fun m => pdq_yes g cap x y cur m w r0 e0 e1 h
  have K := len_any 2 (by omega)
  clear r0 e0 e1 h
  go_enter Try.func27, Try.ntmps27
  go_wp2_with (first
    | (go_at_call 31; refine (K _).mono ?_; rintro e w1 ⟨⟨m, rfl⟩, rfl⟩; clear K)
    | (go_at_call 30; refine (H _).mono ?_; rintro e w1 ⟨⟨v, rfl⟩, R⟩; clear H))
  exact post_void rfl rfl (fun v => ⟨⟨v, rfl⟩, R⟩)

set_option maxHeartbeats 400000 in
theorem comp_nil (w : World) : Calls Try.prog 28 #[.slice none 0 0] w fun e w' => e = .returned (.slice none 0 0) ∧ Fr none' w w' := by
  go_enter Try.func28, Try.ntmps28
  go_wp2
  go_ret
  exact ⟨rfl, Fr.refl _ _⟩
set_option maxHeartbeats 400000 in
theorem comp_one (a : Addr) (cap : Nat) (w : World) : Calls Try.prog 28 #[.slice (some a) 1 cap] w fun e w' => e = .returned (.slice (some a) 1 cap) ∧ Fr none' w w' := by
  go_enter Try.func28, Try.ntmps28
  go_wp2
  go_ret
  exact ⟨rfl, Fr.refl _ _⟩
set_option maxHeartbeats 1600000 in
theorem comp_two (g cap : Nat) (x y : Int) (w : World) (c0 : w.cell? ⟨g, 0, none⟩ = some (.int .i64 x)) (c1 : w.cell? ⟨g, 1, none⟩ = some (.int .i64 y)) (h : x ≠ y) :
    Calls Try.prog 28 #[.slice (some ⟨g, 0, none⟩) 2 cap] w fun e w' => e = .returned (.slice (some ⟨g, 0, none⟩) 2 cap) ∧ Fr none' w w' := by
  have hl : (y == x) = false := by simp; omega
  have z0 : IntKind.i64.wrap 0 = 0 := by decide
  clear h
  go_enter Try.func28, Try.ntmps28
  go_wp2_with fail
  refine wp_loop_rounds 2 ?_
  rw [rounds_succ]; go_wp2_with fail
  go_quiet (fail)
  go_wp2_with fail
  rw [rounds_succ]; go_wp2_with fail
  go_ret
  exact ⟨rfl, fr_drewN _ _⟩
set_option maxHeartbeats 1600000 in
theorem comp_same (g cap : Nat) (x : Int) (cur : Array Value) (w : World) (r0 : Row w g cur 3) (e0 : cur[0]? = some (.int .i64 x)) (e1 : cur[1]? = some (.int .i64 x)) (hc : 2 ≤ cap) :
    Calls Try.prog 28 #[.slice (some ⟨g, 0, none⟩) 2 cap] w fun e w' => e = .returned (.slice (some ⟨g, 0, none⟩) 1 cap) ∧ Fr (at' g) w w' ∧ Row w' g (cur.setIfInBounds 1 (.int .i64 0)) 3 := by
  have hl : (x == x) = true := by simp
  have z0 : IntKind.i64.wrap 0 = 0 := by decide
  have c0 : w.cell? ⟨g, 0, none⟩ = some (.int .i64 x) := (r0.cell 0).trans e0
  have c1 : w.cell? ⟨g, 1, none⟩ = some (.int .i64 x) := (r0.cell 1).trans e1
  have hc' : (2 : Int) ≤ (cap : Int) := by omega
  clear hc
  have hcl : ∀ q, (Builtin.clear_ #[34] 0 #[.slice (some ⟨g, 1, none⟩) 1 (cap - 1)]).run Try.prog (w.drewN q) = .ok (.tuple #[]) ((w.drewN q).setCell ⟨g, 1, none⟩ (.int .i64 0)) := by
    intro q
    rw [Lib.run_clear_slice (P := Try.prog) (w.drewN q) 34 3 0 (.int .i64 0) Try.underlying34 zero3 rfl rfl g 1 1 (cap - 1) (by omega)
      (fun j hj => by obtain rfl : j = 0 := by omega
                      rw [(Row.drewN r0 q).cell, e1]; rfl) (fun j _ => (Row.drewN r0 q).frozen _)]
    rfl
  go_enter Try.func28, Try.ntmps28
  go_wp2_with fail
  refine wp_loop_rounds 1 ?_
  rw [rounds_succ]; go_wp2_with fail
  go_quiet (fail)
  go_wp2_with fail
  refine wp_loop_rounds 1 ?_
  rw [rounds_succ]; go_wp2_with fail
  go_ret
  exact ⟨rfl, ((Fr.refl (at' g) w).drewN _).setCell (p := ⟨g, 1, none⟩) (Or.inr rfl) _, (Row.drewN r0 _).setCell 1 _⟩

end Go.Proofs.Ytcbkjbibngopnaa
