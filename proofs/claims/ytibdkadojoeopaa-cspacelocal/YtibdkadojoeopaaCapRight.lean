/-
  Contracts of package caps' only, bounded, Right and Encode over the translation. No statement is proved here.
-/
import Derived.Test.YtibdkadojoeopaaCapVal
namespace Go.Proofs.Ytibdkadojoeopaa
open Go.RowKit

theorem Fr.undrew {S : Nat → Prop} {w w' : World} (h : Fr S w.drew w') : Fr S w w' := ⟨h.os, h.tape, h.output, h.size, h.block⟩

theorem row_alloc1 (w : World) (A : Obj) (cs : Array Value) (t : TypeId) : Row ((w.alloc A).alloc (.cells cs t)) (w.heap.size + 1) cs t := by
  have := row_alloc (w.alloc A) cs t
  rwa [show (w.alloc A).heap.size = w.heap.size + 1 by simp] at this

theorem row_alloc2 (w : World) (A B : Obj) (cs : Array Value) (t : TypeId) : Row (((w.alloc A).alloc B).alloc (.cells cs t)) (w.heap.size + 1 + 1) cs t := by
  have := row_alloc ((w.alloc A).alloc B) cs t
  rwa [show ((w.alloc A).alloc B).heap.size = w.heap.size + 1 + 1 by simp] at this

set_option maxHeartbeats 1600000 in
theorem only_any (k o r b x g n : Int) (d : Bool) (w : World) : Calls Try.prog 50 #[.agg #[.int .i64 k, .int .i64 o, .int .i64 r, .int .i64 b, .int .i64 x, .int .i64 g, .int .i64 n, .bool d]] w fun e w' => e = .returned (.agg #[.int .i64 (onlyC (K.mk k o r b x g n d)).k, .int .i64 (onlyC (K.mk k o r b x g n d)).o, .int .i64 (onlyC (K.mk k o r b x g n d)).r, .int .i64 (onlyC (K.mk k o r b x g n d)).b, .int .i64 (onlyC (K.mk k o r b x g n d)).x, .int .i64 (onlyC (K.mk k o r b x g n d)).g, .int .i64 (onlyC (K.mk k o r b x g n d)).n, .bool (onlyC (K.mk k o r b x g n d)).d]) ∧ Fr none' w w' := by
  rcases kind_cases k with rfl | rfl | rfl | rfl | rfl | ⟨h1, h2, h4, h5, h6⟩
  · go_enter Try.func50, Try.ntmps50
    go_wp2
    refine bodyPost_ret (ret_cap rfl rfl ((row_alloc1 _ _ _ _).alloc _) rfl) rfl ?_
    exact ⟨rfl, (((Fr.refl _ _).alloc _).alloc _).alloc _⟩
  · go_enter Try.func50, Try.ntmps50
    go_wp2
    go_region
    all_goals go_wp2
    all_goals refine bodyPost_ret (ret_cap rfl rfl ((row_alloc1 _ _ _ _).alloc _) rfl) rfl ?_
    all_goals exact ⟨rfl, ((((Fr.refl _ _).alloc _).alloc _).alloc _).drew⟩
  · go_enter Try.func50, Try.ntmps50
    go_wp2
    go_region
    all_goals go_wp2
    all_goals refine bodyPost_ret (ret_cap rfl rfl ((row_alloc1 _ _ _ _).alloc _) rfl) rfl ?_
    all_goals exact ⟨rfl, ((((Fr.refl _ _).alloc _).alloc _).alloc _).drew⟩
  · go_enter Try.func50, Try.ntmps50
    go_wp2
    go_region
    all_goals go_wp2
    all_goals refine bodyPost_ret (ret_cap rfl rfl ((row_alloc1 _ _ _ _).alloc _) rfl) rfl ?_
    all_goals exact ⟨rfl, ((((Fr.refl _ _).alloc _).alloc _).alloc _).drew⟩
  · go_enter Try.func50, Try.ntmps50
    go_wp2
    go_region
    all_goals go_wp2
    all_goals refine bodyPost_ret (ret_cap rfl rfl ((row_alloc1 _ _ _ _).alloc _) rfl) rfl ?_
    all_goals exact ⟨rfl, ((((Fr.refl _ _).alloc _).alloc _).alloc _).drew⟩
  · have t1 : (k == 1) = false := by simpa using h1
    have t2 : (k == 2) = false := by simpa using h2
    have t4 : (k == 4) = false := by simpa using h4
    have t5 : (k == 5) = false := by simpa using h5
    have t6 : (k == 6) = false := by simpa using h6
    have e : onlyC (K.mk k o r b x g n d) = K.mk k o 0 0 0 0 0 false := by
      unfold onlyC; rw [if_neg h1, if_neg h2, if_neg (by rintro (h | h) <;> contradiction), if_neg h6]
    rw [e]
    clear e h1 h2 h4 h5 h6
    go_enter Try.func50, Try.ntmps50
    go_wp2
    refine bodyPost_ret (ret_cap rfl rfl ((row_alloc1 _ _ _ _).alloc _) rfl) rfl ?_
    exact ⟨rfl, (((Fr.refl _ _).alloc _).alloc _).alloc _⟩

end Go.Proofs.Ytibdkadojoeopaa
