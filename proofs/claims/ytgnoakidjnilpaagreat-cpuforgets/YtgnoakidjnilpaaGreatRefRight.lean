/-
  The contract of the document's Right (package viceroyref02) over the translation: whatever entry, it answers whether it is right; nothing old turns. No statement is proved here.
-/
import Derived.Test.YtgnoakidjnilpaaGreatRows
import Derived.Test.YtgnoakidjnilpaaGreatPteDefs
import Derived.WalkKit
import Derived.WalkSpells
import Derived.WalkLawsBesides
import Derived.BigQuiet
import Derived.Deep.QuietTactic
import Derived.Laws.StructEq
namespace Go.Proofs.YtgnoakidjnilpaaGreat
open Go.RowKit

set_option maxHeartbeats 400000 in
theorem rright_n1 (r f : Int) (w : World) :
    Calls Tryz.prog 125 #[.agg #[.bool false, .bool true, .int .i64 r, .int .i64 f]] w fun e w' => e = .returned (.bool false) ∧ Fr none' w w' := by
  go_enter Tryz.func125, Tryz.ntmps125
  go_wp2
  go_ret
  exact ⟨rfl, (Fr.refl _ _).alloc _⟩

set_option maxHeartbeats 400000 in
theorem rright_n2 (r f : Int) (w : World) (hr : r ≠ 0) :
    Calls Tryz.prog 125 #[.agg #[.bool false, .bool false, .int .i64 r, .int .i64 f]] w fun e w' => e = .returned (.bool false) ∧ Fr none' w w' := by
  have t1 : (r == 0) = false := by simpa using hr
  go_enter Tryz.func125, Tryz.ntmps125
  go_wp2
  go_ret
  exact ⟨rfl, (Fr.refl _ _).alloc _⟩

set_option maxHeartbeats 400000 in
theorem rright_n3 (f : Int) (w : World) (hf : f ≠ 0) :
    Calls Tryz.prog 125 #[.agg #[.bool false, .bool false, .int .i64 0, .int .i64 f]] w fun e w' => e = .returned (.bool false) ∧ Fr none' w w' := by
  have t1 : (f == 0) = false := by simpa using hf
  go_enter Tryz.func125, Tryz.ntmps125
  go_wp2
  go_ret
  exact ⟨rfl, (Fr.refl _ _).alloc _⟩

set_option maxHeartbeats 400000 in
theorem rright_n4 (w : World) :
    Calls Tryz.prog 125 #[.agg #[.bool false, .bool false, .int .i64 0, .int .i64 0]] w fun e w' => e = .returned (.bool true) ∧ Fr none' w w' := by
  go_enter Tryz.func125, Tryz.ntmps125
  go_wp2
  go_ret
  exact ⟨rfl, (Fr.refl _ _).alloc _⟩

set_option maxHeartbeats 400000 in
theorem rright_f1 (l : Bool) (r f : Int) (w : World) (hf : f < 0) :
    Calls Tryz.prog 125 #[.agg #[.bool true, .bool l, .int .i64 r, .int .i64 f]] w fun e w' => e = .returned (.bool false) ∧ Fr none' w w' := by
  have t1 : decide (f < 0) = true := by simpa using hf
  go_enter Tryz.func125, Tryz.ntmps125
  go_wp2
  go_ret
  exact ⟨rfl, (Fr.refl _ _).alloc _⟩

set_option maxHeartbeats 400000 in
theorem rright_f2 (l : Bool) (r f : Int) (w : World) (hf : 1023 < f) :
    Calls Tryz.prog 125 #[.agg #[.bool true, .bool l, .int .i64 r, .int .i64 f]] w fun e w' => e = .returned (.bool false) ∧ Fr none' w w' := by
  have t1 : decide (f < 0) = false := by simp; omega
  have t2 : decide (1024 ≤ f) = true := by simp; omega
  have t3 : decide (1023 < f) = true := by simpa using hf
  go_enter Tryz.func125, Tryz.ntmps125
  go_wp2
  go_ret
  exact ⟨rfl, (Fr.refl _ _).alloc _⟩

set_option maxHeartbeats 400000 in
theorem rright_t1 (f : Int) (w : World) (h0 : 0 ≤ f) (h1 : f ≤ 1023) :
    Calls Tryz.prog 125 #[.agg #[.bool true, .bool false, .int .i64 0, .int .i64 f]] w fun e w' => e = .returned (.bool true) ∧ Fr none' w w' := by
  have t1 : decide (f < 0) = false := by simp; omega
  have t2 : decide (1024 ≤ f) = false := by simp; omega
  have t3 : decide (1023 < f) = false := by simp; omega
  have t0 : (f == f) = true := by simp
  go_enter Tryz.func125, Tryz.ntmps125
  go_wp2
  go_ret
  exact ⟨rfl, (Fr.refl _ _).alloc _⟩

set_option maxHeartbeats 400000 in
theorem rright_t2 (r f : Int) (w : World) (h0 : 0 ≤ f) (h1 : f ≤ 1023) (hr : r ≠ 0) :
    Calls Tryz.prog 125 #[.agg #[.bool true, .bool false, .int .i64 r, .int .i64 f]] w fun e w' => e = .returned (.bool false) ∧ Fr none' w w' := by
  have t1 : decide (f < 0) = false := by simp; omega
  have t2 : decide (1024 ≤ f) = false := by simp; omega
  have t3 : decide (1023 < f) = false := by simp; omega
  have t0 : (f == f) = true := by simp
  have t4 : (r == 0) = false := by simpa using hr
  go_enter Tryz.func125, Tryz.ntmps125
  go_wp2
  go_ret
  exact ⟨rfl, (Fr.refl _ _).alloc _⟩

set_option maxHeartbeats 400000 in
theorem rright_l1 (r f : Int) (w : World) (h0 : 0 ≤ f) (h1 : f ≤ 1023) (h2 : 0 ≤ r) (h3 : r ≤ 7) :
    Calls Tryz.prog 125 #[.agg #[.bool true, .bool true, .int .i64 r, .int .i64 f]] w fun e w' => e = .returned (.bool true) ∧ Fr none' w w' := by
  have t1 : decide (f < 0) = false := by simp; omega
  have t2 : decide (1024 ≤ f) = false := by simp; omega
  have t3 : decide (1023 < f) = false := by simp; omega
  have t0 : (f == f) = true := by simp
  have t4 : decide (0 ≤ r) = true := by simpa using h2
  have t5 : decide (r ≤ 7) = true := by simpa using h3
  go_enter Tryz.func125, Tryz.ntmps125
  go_wp2
  go_ret
  exact ⟨rfl, (Fr.refl _ _).alloc _⟩

set_option maxHeartbeats 400000 in
theorem rright_l2 (r f : Int) (w : World) (h0 : 0 ≤ f) (h1 : f ≤ 1023) (h2 : r < 0) :
    Calls Tryz.prog 125 #[.agg #[.bool true, .bool true, .int .i64 r, .int .i64 f]] w fun e w' => e = .returned (.bool false) ∧ Fr none' w w' := by
  have t1 : decide (f < 0) = false := by simp; omega
  have t2 : decide (1024 ≤ f) = false := by simp; omega
  have t3 : decide (1023 < f) = false := by simp; omega
  have t0 : (f == f) = true := by simp
  have t4 : decide (0 ≤ r) = false := by simpa using h2
  go_enter Tryz.func125, Tryz.ntmps125
  go_wp2
  go_ret
  exact ⟨rfl, (Fr.refl _ _).alloc _⟩

set_option maxHeartbeats 400000 in
theorem rright_l3 (r f : Int) (w : World) (h0 : 0 ≤ f) (h1 : f ≤ 1023) (h2 : 7 < r) :
    Calls Tryz.prog 125 #[.agg #[.bool true, .bool true, .int .i64 r, .int .i64 f]] w fun e w' => e = .returned (.bool false) ∧ Fr none' w w' := by
  have t1 : decide (f < 0) = false := by simp; omega
  have t2 : decide (1024 ≤ f) = false := by simp; omega
  have t3 : decide (1023 < f) = false := by simp; omega
  have t0 : (f == f) = true := by simp
  have t4 : decide (0 ≤ r) = true := by simp; omega
  have t5 : decide (r ≤ 7) = false := by simpa using h2
  go_enter Tryz.func125, Tryz.ntmps125
  go_wp2
  go_ret
  exact ⟨rfl, (Fr.refl _ _).alloc _⟩

theorem rright_any (v l : Bool) (r f : Int) (w : World) :
    Calls Tryz.prog 125 #[.agg #[.bool v, .bool l, .int .i64 r, .int .i64 f]] w fun e w' => e = .returned (.bool (rightE v l r f)) ∧ Fr none' w w' := by
  cases v
  · cases l
    · by_cases hr : r = 0
      · subst hr
        by_cases hf : f = 0
        · subst hf; exact rright_n4 w
        · rw [show rightE false false 0 f = false by simp [rightE, hf]]; exact rright_n3 f w hf
      · rw [show rightE false false r f = false by simp [rightE, hr]]; exact rright_n2 r f w hr
    · rw [show rightE false true r f = false by simp [rightE]]; exact rright_n1 r f w
  · by_cases h0 : f < 0
    · rw [show rightE true l r f = false by simp [rightE]; omega]; exact rright_f1 l r f w h0
    by_cases h1 : 1023 < f
    · rw [show rightE true l r f = false by simp [rightE]; omega]; exact rright_f2 l r f w h1
    cases l
    · by_cases hr : r = 0
      · subst hr
        rw [show rightE true false 0 f = true by simp [rightE]; omega]; exact rright_t1 f w (by omega) (by omega)
      · rw [show rightE true false r f = false by simp [rightE, hr]]; exact rright_t2 r f w (by omega) (by omega) hr
    · by_cases h2 : r < 0
      · rw [show rightE true true r f = false by simp [rightE]; omega]; exact rright_l2 r f w (by omega) (by omega) h2
      by_cases h3 : 7 < r
      · rw [show rightE true true r f = false by simp [rightE]; omega]; exact rright_l3 r f w (by omega) (by omega) h3
      · rw [show rightE true true r f = true by simp [rightE]; omega]; exact rright_l1 r f w (by omega) (by omega) (by omega) (by omega)

end Go.Proofs.YtgnoakidjnilpaaGreat
