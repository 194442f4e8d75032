/-
  Contracts of package tlb's within, has, Right, about, empty and of the document's Right, said of plain numbers. No statement is proved here.
-/
import Derived.Test.YtgnoakidjnilpaaGreatRows
import Derived.Test.YtgnoakidjnilpaaGreatTlbDefs
import Derived.WalkKit
import Derived.WalkSpells
import Derived.WalkLawsBesides
import Derived.BigQuiet
import Derived.Deep.QuietTactic
import Derived.Laws.StructEq
import Derived.Laws.ResultCell
import Derived.Laws.Rows
namespace Go.Proofs.YtgnoakidjnilpaaGreat
open Go.RowKit

set_option maxHeartbeats 400000 in
theorem within_any (n a b : Int) (w : World) : Calls Tryz.prog 111 #[.int .i64 n, .int .i64 a, .int .i64 b] w fun e w' => e = .returned (.bool (inB n a b)) ∧ w' = w := by
  unfold inB
  by_cases h : a ≤ n
  · have t1 : decide (a ≤ n) = true := by simpa using h
    rw [t1]
    go_enter Tryz.func111, Tryz.ntmps111
    go_wp2
    go_ret
    exact ⟨rfl, rfl⟩
  · have t1 : decide (a ≤ n) = false := by simpa using h
    rw [t1]
    go_enter Tryz.func111, Tryz.ntmps111
    go_wp2
    go_ret
    exact ⟨rfl, rfl⟩

set_option maxHeartbeats 400000 in
theorem has_any (n : Int) (w : World) : Calls Tryz.prog 51 #[.int .i64 n] w fun e w' => e = .returned (.bool (inB n 0 7)) ∧ w' = w := by
  go_enter Tryz.func51, Tryz.ntmps51
  go_wp2_with fail
  refine (within_any _ _ _ _).mono ?_
  rintro e w1 ⟨rfl, rfl⟩
  go_wp2
  go_ret
  exact ⟨rfl, rfl⟩

theorem eq_line (v a p f r v' a' p' f' r' : Int) (w : World) : (binOp .eql 101 (.agg #[.int .i64 v, .int .i64 a, .int .i64 p, .int .i64 f, .int .i64 r]) (.agg #[.int .i64 v', .int .i64 a', .int .i64 p', .int .i64 f', .int .i64 r'])).run Tryz.prog w = .ok (.bool (v == v' && (a == a' && (p == p' && (f == f' && r == r'))))) w := by
  simp [go_sem]
  repeat' split
  all_goals simp_all

theorem neq_line (v a p f r v' a' p' f' r' : Int) (w : World) : (binOp .neq 101 (.agg #[.int .i64 v, .int .i64 a, .int .i64 p, .int .i64 f, .int .i64 r]) (.agg #[.int .i64 v', .int .i64 a', .int .i64 p', .int .i64 f', .int .i64 r'])).run Tryz.prog w = .ok (.bool !(v == v' && (a == a' && (p == p' && (f == f' && r == r'))))) w := by
  simp [go_sem]
  repeat' split
  all_goals simp_all

set_option maxHeartbeats 400000 in
theorem empty_any (l : Ln) (w : World) : Calls Tryz.prog 119 #[.agg #[.int .i64 l.v, .int .i64 l.a, .int .i64 l.p, .int .i64 l.f, .int .i64 l.r]] w fun e w' => e = .returned (.bool (emp l)) ∧ Fr none' w w' := by
  have heq := eq_line
  go_enter Tryz.func119, Tryz.ntmps119
  go_wp2
  go_ret
  exact ⟨rfl, (Fr.refl _ _).alloc _⟩

theorem size_line : (Tryz.prog.info? 101).map (·.size) = some 5 := by kernel_rfl

/-- A line that is answered through a cell. -/
theorem ret_line {fn : Func} {p : Tmp} {tmps : Array Value} {g : Nat} {cs : Array Value} {w : World} (h : fn.results = #[.cell p 101]) (hp : tmps.getD p undef = .pointer (some ⟨g, 0, none⟩)) (hr : Row w g cs 101) (hs : cs.size = 5) :
    (results fn tmps).run Tryz.prog w = .ok (.agg cs) w :=
  results_cell_row h tmps w g _ cs (0, 0) _ hp hr Tryz.underlying101 rfl (by rw [hs]; exact size_line)

theorem row_alloc1 (w : World) (o : Obj) (cs : Array Value) (t : TypeId) : Row ((w.alloc o).alloc (.cells cs t)) (w.heap.size + 1) cs t := by
  have := row_alloc (w.alloc o) cs t
  rwa [show (w.alloc o).heap.size = w.heap.size + 1 by simp] at this

set_option maxHeartbeats 400000 in
theorem about_any (l : Ln) (w : World) : Calls Tryz.prog 188 #[.agg #[.int .i64 l.v, .int .i64 l.a, .int .i64 l.p, .int .i64 l.f, .int .i64 l.r]] w fun e w' => e = .returned (.agg #[.int .i64 l.v, .int .i64 l.a, .int .i64 l.p, .int .i64 0, .int .i64 0]) ∧ Fr none' w w' := by
  go_enter Tryz.func188, Tryz.ntmps188
  go_wp2
  refine bodyPost_ret (ret_line rfl rfl (row_alloc1 w _ _ _) rfl) rfl ?_
  exact ⟨rfl, ((Fr.refl _ _).alloc _).alloc _⟩

set_option maxHeartbeats 1000000 in
theorem tright_any (l : Ln) (w : World) : Calls Tryz.prog 191 #[.agg #[.int .i64 l.v, .int .i64 l.a, .int .i64 l.p, .int .i64 l.f, .int .i64 l.r]] w fun e w' => e = .returned (.bool (rightL l)) ∧ Fr none' w w' := by
  unfold rightL
  have f0 := (Fr.refl none' w).alloc (.cells #[.int .i64 l.v, .int .i64 l.a, .int .i64 l.p, .int .i64 l.f, .int .i64 l.r] 101)
  go_enter Tryz.func191, Tryz.ntmps191
  go_wp2_with fail
  refine (within_any _ _ _ _).mono ?_
  rintro e w1 ⟨rfl, rfl⟩
  cases h1 : inB l.v 1 15 with
  | false =>
    go_wp2_with fail
    go_ret
    exact ⟨ret_bool (by simp [h1]), f0⟩
  | true =>
    go_wp2_with fail
    refine (within_any _ _ _ _).mono ?_
    rintro e w2 ⟨rfl, rfl⟩
    cases h2 : inB l.a 0 15 with
    | false =>
      go_wp2_with fail
      go_ret
      exact ⟨ret_bool (by simp [h1, h2]), f0⟩
    | true =>
      go_wp2_with fail
      refine (within_any _ _ _ _).mono ?_
      rintro e w3 ⟨rfl, rfl⟩
      cases h3 : inB l.p 0 1023 with
      | false =>
        go_wp2_with fail
        go_ret
        exact ⟨ret_bool (by simp [h1, h2, h3]), f0⟩
      | true =>
        go_wp2_with fail
        refine (within_any _ _ _ _).mono ?_
        rintro e w4 ⟨rfl, rfl⟩
        cases h4 : inB l.f 0 1023 with
        | false =>
          go_wp2_with fail
          go_ret
          exact ⟨ret_bool (by simp [h1, h2, h3, h4]), f0⟩
        | true =>
          go_wp2_with fail
          refine (within_any _ _ _ _).mono ?_
          rintro e w5 ⟨rfl, rfl⟩
          go_wp2_with fail
          go_ret
          exact ⟨ret_bool (by simp [h1, h2, h3, h4]), f0⟩

set_option maxHeartbeats 2000000 in
theorem trright_any (l : Ln) (w : World) : Calls Tryz.prog 164 #[.agg #[.int .i64 l.v, .int .i64 l.a, .int .i64 l.p, .int .i64 l.f, .int .i64 l.r]] w fun e w' => e = .returned (.bool (rightL l)) ∧ Fr none' w w' := by
  unfold rightL inB
  cases h1 : decide (1 ≤ l.v) with
  | false =>
    go_enter Tryz.func164, Tryz.ntmps164
    go_wp2
    go_ret
    exact ⟨rfl, (Fr.refl _ _).alloc _⟩
  | true =>
    cases h2 : decide (l.v ≤ 15) with
    | false =>
      go_enter Tryz.func164, Tryz.ntmps164
      go_wp2
      go_ret
      exact ⟨rfl, (Fr.refl _ _).alloc _⟩
    | true =>
      cases h3 : decide (0 ≤ l.a) with
      | false =>
        go_enter Tryz.func164, Tryz.ntmps164
        go_wp2
        go_ret
        exact ⟨rfl, (Fr.refl _ _).alloc _⟩
      | true =>
        cases h4 : decide (l.a ≤ 15) with
        | false =>
          go_enter Tryz.func164, Tryz.ntmps164
          go_wp2
          go_ret
          exact ⟨rfl, (Fr.refl _ _).alloc _⟩
        | true =>
          cases h5 : decide (0 ≤ l.p) with
          | false =>
            go_enter Tryz.func164, Tryz.ntmps164
            go_wp2
            go_ret
            exact ⟨rfl, (Fr.refl _ _).alloc _⟩
          | true =>
            cases h6 : decide (l.p ≤ 1023) with
            | false =>
              go_enter Tryz.func164, Tryz.ntmps164
              go_wp2
              go_ret
              exact ⟨rfl, (Fr.refl _ _).alloc _⟩
            | true =>
              cases h7 : decide (0 ≤ l.f) with
              | false =>
                go_enter Tryz.func164, Tryz.ntmps164
                go_wp2
                go_ret
                exact ⟨rfl, (Fr.refl _ _).alloc _⟩
              | true =>
                cases h8 : decide (l.f ≤ 1023) with
                | false =>
                  go_enter Tryz.func164, Tryz.ntmps164
                  go_wp2
                  go_ret
                  exact ⟨rfl, (Fr.refl _ _).alloc _⟩
                | true =>
                  cases h9 : decide (0 ≤ l.r) with
                  | false =>
                    go_enter Tryz.func164, Tryz.ntmps164
                    go_wp2
                    go_ret
                    exact ⟨rfl, (Fr.refl _ _).alloc _⟩
                  | true =>
                    cases h10 : decide (l.r ≤ 7) with
                    | false =>
                      go_enter Tryz.func164, Tryz.ntmps164
                      go_wp2
                      go_ret
                      exact ⟨rfl, (Fr.refl _ _).alloc _⟩
                    | true =>
                      go_enter Tryz.func164, Tryz.ntmps164
                      go_wp2
                      go_ret
                      exact ⟨rfl, (Fr.refl _ _).alloc _⟩

end Go.Proofs.YtgnoakidjnilpaaGreat
