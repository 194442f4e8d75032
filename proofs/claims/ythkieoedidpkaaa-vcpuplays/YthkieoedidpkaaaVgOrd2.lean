/-
  The contract of package vgic's order over the translation. No statement is proved here.
-/
import Derived.Test.YthkieoedidpkaaaVgOrder
import Derived.Deep.RegionHeld3
namespace Go.Proofs.Ythkieoedidpkaaa
open Go.RowKit Go.Sort Go.Shelf Go.Lib

theorem row_two (w : World) (o : Obj) (cs : Array Value) (t : TypeId) : Row ((w.alloc o).alloc (.cells cs t)) (w.heap.size + 1) cs t := by
  have := row_alloc (w.alloc o) cs t
  rwa [show (w.alloc o).heap.size = w.heap.size + 1 by simp] at this

set_option maxHeartbeats 4000000 in
theorem order_same (i p i' p' : Int) (l e l' e' a : Bool) (W : World) : Calls Try.prog 58 #[.agg #[.int .i64 i, .int .i64 p, .bool l, .bool e, .bool a], .agg #[.int .i64 i', .int .i64 p', .bool l', .bool e', .bool a]] W fun e w' => e = .returned (.int .i64 (orI (cmpI p p') (cmpI i i'))) ∧ Grows W w' := by
  have ga := ((Grows.refl W).alloc (.cells #[.int .i64 i, .int .i64 p, .bool l, .bool e, .bool a] 66)).alloc (.cells #[.int .i64 i', .int .i64 p', .bool l', .bool e', .bool a] 66)
  have r1 := (row_alloc W #[.int .i64 i, .int .i64 p, .bool l, .bool e, .bool a] 66).alloc (.cells #[.int .i64 i', .int .i64 p', .bool l', .bool e', .bool a] 66)
  have r2 := row_two W (.cells #[.int .i64 i, .int .i64 p, .bool l, .bool e, .bool a] 66) #[.int .i64 i', .int .i64 p', .bool l', .bool e', .bool a] 66
  have u0 : (a != a) = false := by simp
  go_enter Try.func58, Try.ntmps58
  go_wp2_with fail
  generalize ((W.alloc (.cells #[.int .i64 i, .int .i64 p, .bool l, .bool e, .bool a] 66)).alloc (.cells #[.int .i64 i', .int .i64 p', .bool l', .bool e', .bool a] 66)) = V at ga r1 r2 ⊢
  have c0 := r1.cell 0
  have c1 := r1.cell 1
  have d0 := r2.cell 0
  have d1 := r2.cell 1
  have HG : Hid (∀ u v : Int, Grows W (V.alloc (.cells #[.int .i64 u, .int .i64 v] 3)).drew) := fun u v => (ga.alloc _).drew
  clear r1 r2 ga
  go_region_held3 (fun w' => w'.cell? ⟨W.heap.size, 0, none⟩ = some (.int .i64 i) ∧ w'.cell? ⟨W.heap.size, 1, none⟩ = some (.int .i64 p) ∧ w'.cell? ⟨W.heap.size + 1, 0, none⟩ = some (.int .i64 i') ∧ w'.cell? ⟨W.heap.size + 1, 1, none⟩ = some (.int .i64 p')) (first | with_reducible exact ⟨c0, c1, d0, d1⟩ | go_keep) (first | (go_at_call 67; refine (compare_any _ _ _).mono ?_; rintro e w1 ⟨rfl, rfl⟩) | (go_at_call 66; refine (or_any V.heap.size (cmpI p p') (cmpI i i') _ (Row.drew (row_alloc V #[.int .i64 (cmpI p p'), .int .i64 (cmpI i i')] 3))).mono ?_; rintro e w1 ⟨rfl, rfl⟩))
  all_goals
    go_wp2_with fail
    go_ret
    exact ⟨rfl, HG.out _ _⟩

set_option maxHeartbeats 1000000 in
theorem order_ac (i p i' p' : Int) (l e l' e' : Bool) (W : World) : Calls Try.prog 58 #[.agg #[.int .i64 i, .int .i64 p, .bool l, .bool e, .bool true], .agg #[.int .i64 i', .int .i64 p', .bool l', .bool e', .bool false]] W fun e w' => e = .returned (.int .i64 (-1)) ∧ Grows W w' := by
  have ga := ((Grows.refl W).alloc (.cells #[.int .i64 i, .int .i64 p, .bool l, .bool e, .bool true] 66)).alloc (.cells #[.int .i64 i', .int .i64 p', .bool l', .bool e', .bool false] 66)
  go_enter Try.func58, Try.ntmps58
  go_wp2_with fail
  go_ret
  exact ⟨rfl, ga⟩

set_option maxHeartbeats 1000000 in
theorem order_pe (i p i' p' : Int) (l e l' e' : Bool) (W : World) : Calls Try.prog 58 #[.agg #[.int .i64 i, .int .i64 p, .bool l, .bool e, .bool false], .agg #[.int .i64 i', .int .i64 p', .bool l', .bool e', .bool true]] W fun e w' => e = .returned (.int .i64 1) ∧ Grows W w' := by
  have ga := ((Grows.refl W).alloc (.cells #[.int .i64 i, .int .i64 p, .bool l, .bool e, .bool false] 66)).alloc (.cells #[.int .i64 i', .int .i64 p', .bool l', .bool e', .bool true] 66)
  go_enter Try.func58, Try.ntmps58
  go_wp2_with fail
  go_ret
  exact ⟨rfl, ga⟩

theorem order_any (x y : Lr) (W : World) : Calls Try.prog 58 #[.agg (encL x).toArray, .agg (encL y).toArray] W fun e w' => e = .returned (.int .i64 (cfL x y)) ∧ Grows W w' := by
  obtain ⟨i, p, l, e, a⟩ := x
  obtain ⟨i', p', l', e', a'⟩ := y
  cases a <;> cases a'
  · exact order_same i p i' p' l e l' e' false W
  · exact order_pe i p i' p' l e l' e' W
  · exact order_ac i p i' p' l e l' e' W
  · exact order_same i p i' p' l e l' e' true W

theorem cmp_lays (blk off size : Nat) (w : World) : CmpLays Try.prog 58 #[] encL 5 cfL blk off size w := fun _ _ _ _ x y => order_any x y _

end Go.Proofs.Ythkieoedidpkaaa
