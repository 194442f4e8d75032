/-
  Contracts of package caps' small functions over the translation, said of plain numbers. No statement is proved here.
-/
import Derived.Test.YtibdkadojoeopaaRows
import Derived.Test.YtibdkadojoeopaaCapPure
import Derived.WalkKit
import Derived.WalkSpells
import Derived.WalkLawsBesides
import Derived.BigQuiet
import Derived.Deep.QuietTactic
import Derived.Laws.ResultCell
import Derived.Laws.Rows
import Derived.Laws.StructEq
import Derived.Deep.RegionHeld3
namespace Go.Proofs.Ytibdkadojoeopaa
open Go.RowKit

/-- A cap's own box. -/
def cbox (k o r b x g n : Int) (d : Bool) : Array Value := #[.int .i64 k, .int .i64 o, .int .i64 r, .int .i64 b, .int .i64 x, .int .i64 g, .int .i64 n, .bool d]

theorem cbox_cells {w : World} {p : Nat} {k o r b x g n : Int} {d : Bool} {t : TypeId} (h : Row w p (cbox k o r b x g n d) t) :
    w.cell? ⟨p, 0, none⟩ = some (.int .i64 k) ∧ w.cell? ⟨p, 1, none⟩ = some (.int .i64 o) ∧ w.cell? ⟨p, 2, none⟩ = some (.int .i64 r) ∧ w.cell? ⟨p, 3, none⟩ = some (.int .i64 b) ∧ w.cell? ⟨p, 4, none⟩ = some (.int .i64 x) ∧ w.cell? ⟨p, 5, none⟩ = some (.int .i64 g) ∧ w.cell? ⟨p, 6, none⟩ = some (.int .i64 n) ∧ w.cell? ⟨p, 7, none⟩ = some (.bool d) :=
  ⟨h.cell 0, h.cell 1, h.cell 2, h.cell 3, h.cell 4, h.cell 5, h.cell 6, h.cell 7⟩

theorem cbox_frozen {w : World} {p : Nat} {cs : Array Value} {t : TypeId} (h : Row w p cs t) :
    w.frozen? ⟨p, 0, none⟩ = false ∧ w.frozen? ⟨p, 1, none⟩ = false ∧ w.frozen? ⟨p, 2, none⟩ = false ∧ w.frozen? ⟨p, 3, none⟩ = false ∧ w.frozen? ⟨p, 4, none⟩ = false ∧ w.frozen? ⟨p, 5, none⟩ = false ∧ w.frozen? ⟨p, 6, none⟩ = false ∧ w.frozen? ⟨p, 7, none⟩ = false :=
  ⟨h.frozen 0, h.frozen 1, h.frozen 2, h.frozen 3, h.frozen 4, h.frozen 5, h.frozen 6, h.frozen 7⟩

def cput (w : World) (p : Nat) (k o r b x g n : Int) (d : Bool) : World := (((((((w.setCell ⟨p, 0, none⟩ (.int .i64 k)).setCell ⟨p, 1, none⟩ (.int .i64 o)).setCell ⟨p, 2, none⟩ (.int .i64 r)).setCell ⟨p, 3, none⟩ (.int .i64 b)).setCell ⟨p, 4, none⟩ (.int .i64 x)).setCell ⟨p, 5, none⟩ (.int .i64 g)).setCell ⟨p, 6, none⟩ (.int .i64 n)).setCell ⟨p, 7, none⟩ (.bool d)

theorem cbox_set {w : World} {p : Nat} {k o r b x g n k' o' r' b' x' g' n' : Int} {d d' : Bool} {t : TypeId} (h : Row w p (cbox k o r b x g n d) t) : Row (cput w p k' o' r' b' x' g' n' d') p (cbox k' o' r' b' x' g' n' d') t :=
  by
  unfold cput cbox
  unfold cbox at h
  simpa using (((((((h.setCell 0 (.int .i64 k')).setCell 1 (.int .i64 o')).setCell 2 (.int .i64 r')).setCell 3 (.int .i64 b')).setCell 4 (.int .i64 x')).setCell 5 (.int .i64 g')).setCell 6 (.int .i64 n')).setCell 7 (.bool d')

theorem cbox_fr {S : Nat → Prop} {w w1 : World} {p : Nat} (k o r b x g n : Int) (d : Bool) (h : Fr S w w1) (hb : w.heap.size ≤ p ∨ S p) : Fr S w (cput w1 p k o r b x g n d) :=
  (((((((h.setCell (p := ⟨p, 0, none⟩) hb _).setCell (p := ⟨p, 1, none⟩) hb _).setCell (p := ⟨p, 2, none⟩) hb _).setCell (p := ⟨p, 3, none⟩) hb _).setCell (p := ⟨p, 4, none⟩) hb _).setCell (p := ⟨p, 5, none⟩) hb _).setCell (p := ⟨p, 6, none⟩) hb _).setCell (p := ⟨p, 7, none⟩) hb _

theorem cput_other {w : World} {p p' : Nat} {cs : Array Value} {t : TypeId} (h : Row w p cs t) (hp : p' ≠ p) (k o r b x g n : Int) (d : Bool) : Row (cput w p' k o r b x g n d) p cs t :=
  (((((((h.setCell_other (p := ⟨p', 0, none⟩) hp _).setCell_other (p := ⟨p', 1, none⟩) hp _).setCell_other (p := ⟨p', 2, none⟩) hp _).setCell_other (p := ⟨p', 3, none⟩) hp _).setCell_other (p := ⟨p', 4, none⟩) hp _).setCell_other (p := ⟨p', 5, none⟩) hp _).setCell_other (p := ⟨p', 6, none⟩) hp _).setCell_other (p := ⟨p', 7, none⟩) hp _

theorem size_cap : (Try.prog.info? 34).map (·.size) = some 8 := by kernel_rfl

/-- A cap that is answered through a cell. -/
theorem ret_cap {fn : Func} {p : Tmp} {tmps : Array Value} {g : Nat} {cs : Array Value} {w : World} (h : fn.results = #[.cell p 34]) (hp : tmps.getD p undef = .pointer (some ⟨g, 0, none⟩)) (hr : Row w g cs 34) (hs : cs.size = 8) :
    (results fn tmps).run Try.prog w = .ok (.agg cs) w :=
  results_cell_row h tmps w g _ cs (0, 0) _ hp hr Try.underlying34 rfl (by rw [hs]; exact size_cap)

theorem ret_cap_tmp {fn : Func} {p u : Tmp} {tmps : Array Value} {g : Nat} {cs : Array Value} {w : World} (h : fn.results = #[.cell p 34, .tmp u]) (hp : tmps.getD p undef = .pointer (some ⟨g, 0, none⟩)) (hr : Row w g cs 34) (hs : cs.size = 8) :
    (results fn tmps).run Try.prog w = .ok (.tuple #[.agg cs, tmps.getD u undef]) w := by
  rw [results_cell_tmp h, hp]
  simp only [asAddr, Sem.run_pure, Result.andThen]
  rw [run_loadVar_row w g _ 34 cs (0, 0) _ hr Try.underlying34 rfl (by rw [hs]; exact size_cap)]

theorem eq_cap (k o r b x g n k' o' r' b' x' g' n' : Int) (d d' : Bool) (w : World) : (binOp .eql 34 (.agg #[.int .i64 k, .int .i64 o, .int .i64 r, .int .i64 b, .int .i64 x, .int .i64 g, .int .i64 n, .bool d]) (.agg #[.int .i64 k', .int .i64 o', .int .i64 r', .int .i64 b', .int .i64 x', .int .i64 g', .int .i64 n', .bool d'])).run Try.prog w = .ok (.bool (eqK (K.mk k o r b x g n d) (K.mk k' o' r' b' x' g' n' d'))) w := by
  simp [go_sem, eqK]
  repeat' split
  all_goals simp_all

theorem neq_cap (k o r b x g n k' o' r' b' x' g' n' : Int) (d d' : Bool) (w : World) : (binOp .neq 34 (.agg #[.int .i64 k, .int .i64 o, .int .i64 r, .int .i64 b, .int .i64 x, .int .i64 g, .int .i64 n, .bool d]) (.agg #[.int .i64 k', .int .i64 o', .int .i64 r', .int .i64 b', .int .i64 x', .int .i64 g', .int .i64 n', .bool d'])).run Try.prog w = .ok (.bool (!eqK (K.mk k o r b x g n d) (K.mk k' o' r' b' x' g' n' d'))) w := by
  simp [go_sem, eqK]
  repeat' split
  all_goals simp_all

theorem within_any (n a b : Int) (w : World) : Calls Try.prog 65 #[.int .i64 n, .int .i64 a, .int .i64 b] w fun e w' => e = .returned (.bool (decide (a ≤ n) && decide (n ≤ b))) ∧ w' = w := by
  by_cases h : a ≤ n
  · have t1 : decide (a ≤ n) = true := by simpa using h
    rw [t1]
    go_enter Try.func65, Try.ntmps65
    go_wp2
    go_ret
    exact ⟨rfl, rfl⟩
  · have t1 : decide (a ≤ n) = false := by simpa using h
    rw [t1]
    go_enter Try.func65, Try.ntmps65
    go_wp2
    go_ret
    exact ⟨rfl, rfl⟩

theorem badge_any (b : Int) (w : World) : Calls Try.prog 68 #[.int .i64 b] w fun e w' => e = .returned (.bool (bOk b)) ∧ w' = w := by
  go_enter Try.func68, Try.ntmps68
  go_wp2_with (go_at_call 65; refine (within_any _ _ _ _).mono ?_; rintro e w1 ⟨rfl, rfl⟩)
  go_ret
  exact ⟨rfl, rfl⟩

theorem pow_wrap : ∀ m : Fin 17, wrap64 (wrap64 (2 ^ m.val) - 1) = (2 : Int) ^ m.val - 1 := by decide +kernel

theorem gOk_nat (g : Int) (m : Nat) (h : (m : Int) ≤ 16) : (decide (0 ≤ g) && decide (g ≤ wrap64 (wrap64 (2 ^ m) - 1))) = gOk g m := by
  have e := pow_wrap ⟨m, by omega⟩
  dsimp only at e
  rw [e]
  unfold gOk
  rw [decide_eq_true (show (0 : Int) ≤ m by omega), decide_eq_true h, Int.toNat_natCast]
  generalize (2 : Int) ^ m = z
  have : decide (g ≤ z - 1) = decide (g < z) := by
    by_cases hh : g < z
    · rw [decide_eq_true hh, decide_eq_true (by omega)]
    · rw [decide_eq_false hh, decide_eq_false (by omega)]
  rw [this]
  rfl

theorem guard_any (g n : Int) (w : World) : Calls Try.prog 67 #[.int .i64 g, .int .i64 n] w fun e w' => e = .returned (.bool (gOk g n)) ∧ w' = w := by
  by_cases h : 0 ≤ n ∧ n ≤ 16
  · have t1 : (decide (0 ≤ n) && decide (n ≤ 16)) = true := by simpa using h
    obtain ⟨h1, h2⟩ := h
    obtain ⟨m, rfl⟩ := Int.eq_ofNat_of_zero_le h1
    go_enter Try.func67, Try.ntmps67
    go_wp2_with (go_at_call 65; refine (within_any _ _ _ _).mono ?_; rintro e w1 ⟨rfl, rfl⟩; try rw [t1])
    go_ret
    exact ⟨ret_bool (gOk_nat g m h2), rfl⟩
  · have t1 : (decide (0 ≤ n) && decide (n ≤ 16)) = false := by simpa using h
    have t2 : gOk g n = false := by unfold gOk; rw [← Bool.and_assoc, t1]; rfl
    rw [t2]
    clear t2 h
    go_enter Try.func67, Try.ntmps67
    go_wp2_with (go_at_call 65; refine (within_any _ _ _ _).mono ?_; rintro e w1 ⟨rfl, rfl⟩; rw [t1])
    go_ret
    exact ⟨rfl, rfl⟩

theorem objects_any (k : Int) (w : World) : Calls Try.prog 66 #[.int .i64 k] w fun e w' => e = .returned (.int .i64 (objs k)) ∧ w' = w := by
  by_cases hk : 0 ≤ k ∧ k ≤ 11
  · have : k = 0 ∨ k = 1 ∨ k = 2 ∨ k = 3 ∨ k = 4 ∨ k = 5 ∨ k = 6 ∨ k = 7 ∨ k = 8 ∨ k = 9 ∨ k = 10 ∨ k = 11 := by omega
    rcases this with rfl | rfl | rfl | rfl | rfl | rfl | rfl | rfl | rfl | rfl | rfl | rfl
    all_goals
      go_enter Try.func66, Try.ntmps66
      go_wp2
      go_ret
      exact ⟨rfl, rfl⟩
  · have e : objs k = 0 := by unfold objs; rw [if_neg (by omega), if_neg (by omega), if_neg (by omega), if_neg (by omega)]
    rw [e]
    have t0 : (k == 0) = false := by rw [beq_eq_false_iff_ne]; omega
    have t1 : (k == 1) = false := by rw [beq_eq_false_iff_ne]; omega
    have t2 : (k == 2) = false := by rw [beq_eq_false_iff_ne]; omega
    have t3 : (k == 3) = false := by rw [beq_eq_false_iff_ne]; omega
    have t4 : (k == 4) = false := by rw [beq_eq_false_iff_ne]; omega
    have t5 : (k == 5) = false := by rw [beq_eq_false_iff_ne]; omega
    have t6 : (k == 6) = false := by rw [beq_eq_false_iff_ne]; omega
    have t7 : (k == 7) = false := by rw [beq_eq_false_iff_ne]; omega
    have t8 : (k == 8) = false := by rw [beq_eq_false_iff_ne]; omega
    have t9 : (k == 9) = false := by rw [beq_eq_false_iff_ne]; omega
    have t10 : (k == 10) = false := by rw [beq_eq_false_iff_ne]; omega
    have t11 : (k == 11) = false := by rw [beq_eq_false_iff_ne]; omega
    clear e hk
    go_enter Try.func66, Try.ntmps66
    go_wp2
    go_ret
    exact ⟨rfl, rfl⟩

end Go.Proofs.Ytibdkadojoeopaa
