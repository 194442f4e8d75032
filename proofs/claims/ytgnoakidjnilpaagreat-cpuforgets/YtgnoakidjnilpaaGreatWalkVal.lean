/-
  Contracts of package walk's small functions over the translation ('none', 'outside', 'itself', 'isPage', 'isRight', 'fault'), faults compared, and results that lie in cells. No statement is proved here.
-/
import Derived.Test.YtgnoakidjnilpaaGreatWalkDefs
import Derived.Test.YtgnoakidjnilpaaGreatTlbVal
namespace Go.Proofs.YtgnoakidjnilpaaGreat
open Go.RowKit

theorem size_fault : (Tryz.prog.info? 50).map (·.size) = some 5 := by kernel_rfl

theorem eq_fault (k s l : Int) (b : Bool) (p k' s' l' : Int) (b' : Bool) (p' : Int) (w : World) : (binOp .eql 50 (.agg #[.int .i64 k, .int .i64 s, .int .i64 l, .bool b, .int .i64 p]) (.agg #[.int .i64 k', .int .i64 s', .int .i64 l', .bool b', .int .i64 p'])).run Tryz.prog w = .ok (.bool (k == k' && (s == s' && (l == l' && (b == b' && p == p'))))) w := by
  simp [go_sem]
  repeat' split
  all_goals simp_all

theorem neq_fault (k s l : Int) (b : Bool) (p k' s' l' : Int) (b' : Bool) (p' : Int) (w : World) : (binOp .neq 50 (.agg #[.int .i64 k, .int .i64 s, .int .i64 l, .bool b, .int .i64 p]) (.agg #[.int .i64 k', .int .i64 s', .int .i64 l', .bool b', .int .i64 p'])).run Tryz.prog w = .ok (.bool !(k == k' && (s == s' && (l == l' && (b == b' && p == p'))))) w := by
  simp [go_sem]
  repeat' split
  all_goals simp_all

theorem load_fault {w : World} {g : Nat} {cs : Array Value} (hr : Row w g cs 50) (hs : cs.size = 5) : (loadVar 50 ⟨g, 0, none⟩).run Tryz.prog w = .ok (.agg cs) w :=
  run_loadVar_row w g _ 50 cs (0, 0) _ hr Tryz.underlying50 rfl (by rw [hs]; exact size_fault)

theorem load_entry {w : World} {g : Nat} {cs : Array Value} (hr : Row w g cs 71) (hs : cs.size = 4) : (loadVar 71 ⟨g, 0, none⟩).run Tryz.prog w = .ok (.agg cs) w :=
  run_loadVar_row w g _ 71 cs (0, 0) _ hr Tryz.underlying71 rfl (by rw [hs]; exact size_ent)

/-- A fault answered through a cell. -/
theorem ret_f {fn : Func} {p : Tmp} {tmps : Array Value} {g : Nat} {cs : Array Value} {w : World} (h : fn.results = #[.cell p 50]) (hp : tmps.getD p undef = .pointer (some ⟨g, 0, none⟩)) (hr : Row w g cs 50) (hs : cs.size = 5) :
    (results fn tmps).run Tryz.prog w = .ok (.agg cs) w :=
  results_cell_row h tmps w g _ cs (0, 0) _ hp hr Tryz.underlying50 rfl (by rw [hs]; exact size_fault)

/-- A number, and a fault through a cell. -/
theorem ret_tf {fn : Func} {t p : Tmp} {tmps : Array Value} {g : Nat} {cs : Array Value} {w : World} (h : fn.results = #[.tmp t, .cell p 50]) (hp : tmps.getD p undef = .pointer (some ⟨g, 0, none⟩)) (hr : Row w g cs 50) (hs : cs.size = 5) :
    (results fn tmps).run Tryz.prog w = .ok (.tuple #[tmps.getD t undef, .agg cs]) w := by
  have hl := load_fault hr hs
  have hp' : tmps[p]?.getD undef = .pointer (some ⟨g, 0, none⟩) := by simpa using hp
  simp only [results, h]
  simp [Result.andThen, hp', asAddr, hl]

/-- Two numbers, and a fault through a cell. -/
theorem ret_ttf {fn : Func} {t u p : Tmp} {tmps : Array Value} {g : Nat} {cs : Array Value} {w : World} (h : fn.results = #[.tmp t, .tmp u, .cell p 50]) (hp : tmps.getD p undef = .pointer (some ⟨g, 0, none⟩)) (hr : Row w g cs 50) (hs : cs.size = 5) :
    (results fn tmps).run Tryz.prog w = .ok (.tuple #[tmps.getD t undef, tmps.getD u undef, .agg cs]) w := by
  have hl := load_fault hr hs
  have hp' : tmps[p]?.getD undef = .pointer (some ⟨g, 0, none⟩) := by simpa using hp
  simp only [results, h]
  simp [Result.andThen, hp', asAddr, hl]

/-- An entry and a fault, through cells. -/
theorem ret_ef {fn : Func} {q p : Tmp} {tmps : Array Value} {g g' : Nat} {cs cs' : Array Value} {w : World} (h : fn.results = #[.cell q 71, .cell p 50]) (hq : tmps.getD q undef = .pointer (some ⟨g', 0, none⟩)) (hr' : Row w g' cs' 71) (hs' : cs'.size = 4)
    (hp : tmps.getD p undef = .pointer (some ⟨g, 0, none⟩)) (hr : Row w g cs 50) (hs : cs.size = 5) :
    (results fn tmps).run Tryz.prog w = .ok (.tuple #[.agg cs', .agg cs]) w := by
  have hl := load_fault hr hs
  have hl' := load_entry hr' hs'
  have hp' : tmps[p]?.getD undef = .pointer (some ⟨g, 0, none⟩) := by simpa using hp
  have hq' : tmps[q]?.getD undef = .pointer (some ⟨g', 0, none⟩) := by simpa using hq
  simp only [results, h]
  simp [Sem.run_bind, Result.andThen, hp', hq', asAddr, hl, hl']

theorem row4 {w : World} {b : Nat} {c0 c1 c2 c3 : Value} {t : TypeId} (h : Row w b #[c0, c1, c2, c3] t) :
    w.cell? ⟨b, 0, none⟩ = some c0 ∧ w.cell? ⟨b, 1, none⟩ = some c1 ∧ w.cell? ⟨b, 2, none⟩ = some c2 ∧ w.cell? ⟨b, 3, none⟩ = some c3 :=
  ⟨h.cell 0, h.cell 1, h.cell 2, h.cell 3⟩

set_option maxHeartbeats 400000 in
theorem none_any (x : Ft) (w : World) : Calls Tryz.prog 116 #[.agg #[.int .i64 x.k, .int .i64 x.s, .int .i64 x.l, .bool x.wk, .int .i64 x.p]] w fun e w' => e = .returned (.bool (x.k == 0)) ∧ Fr none' w w' := by
  go_enter Tryz.func116, Tryz.ntmps116
  go_wp2_with fail
  go_ret
  exact ⟨rfl, (Fr.refl _ _).alloc _⟩

set_option maxHeartbeats 400000 in
theorem outside_any (w : World) : Calls Tryz.prog 57 #[] w fun e w' => e = .returned (.agg #[.int .i64 3, .int .i64 0, .int .i64 0, .bool false, .int .i64 0]) ∧ Fr none' w w' := by
  go_enter Tryz.func57, Tryz.ntmps57
  go_wp2_with fail
  refine bodyPost_ret (ret_f rfl rfl (row_alloc _ _ _) rfl) rfl ?_
  exact ⟨rfl, (Fr.refl _ _).alloc _⟩

set_option maxHeartbeats 400000 in
theorem itself_any (t : Int) (w : World) : Calls Tryz.prog 59 #[.int .i64 t] w fun e w' => e = .returned (.tuple #[.int .i64 t, .agg #[.int .i64 0, .int .i64 0, .int .i64 0, .bool false, .int .i64 0]]) ∧ Fr none' w w' := by
  go_enter Tryz.func59, Tryz.ntmps59
  go_wp2_with fail
  refine bodyPost_ret (ret_tf rfl rfl (row_alloc _ _ _) rfl) rfl ?_
  exact ⟨rfl, (Fr.refl _ _).alloc _⟩

set_option maxHeartbeats 400000 in
theorem isPage_any (n : Int) (w : World) : Calls Tryz.prog 56 #[.int .i64 n] w fun e w' => e = .returned (.bool (isP n)) ∧ w' = w := by
  by_cases h0 : 0 ≤ n
  · go_enter Tryz.func56, Tryz.ntmps56
    go_wp2_with fail
    go_ret
    refine ⟨ret_bool ?_, rfl⟩
    simp only [isP, decide_eq_true h0, Bool.true_and]
    exact decide_eq_decide.2 (by omega)
  · have h1 : decide (0 ≤ n) = false := decide_eq_false h0
    go_enter Tryz.func56, Tryz.ntmps56
    go_wp2_with fail
    go_ret
    exact ⟨by simp [isP, h1], rfl⟩

set_option maxHeartbeats 400000 in
theorem isRight_any (n : Int) (w : World) : Calls Tryz.prog 179 #[.int .i64 n] w fun e w' => e = .returned (.bool (isR n)) ∧ w' = w := by
  cases h1 : (n == 1) with
  | true =>
    go_enter Tryz.func179, Tryz.ntmps179
    go_wp2_with fail
    go_ret
    exact ⟨by simp [isR, h1], rfl⟩
  | false =>
    cases h2 : (n == 2) with
    | true =>
      go_enter Tryz.func179, Tryz.ntmps179
      go_wp2_with fail
      go_ret
      exact ⟨by simp [isR, h2], rfl⟩
    | false =>
      go_enter Tryz.func179, Tryz.ntmps179
      go_wp2_with fail
      go_ret
      exact ⟨by simp [isR, h1, h2], rfl⟩

/-- A walk's state, in a block of its own: the memory, the stage, the level, the page. -/
def IsState (w : World) (b p : Nat) (st lv pg : Int) : Prop := Row w b #[.pointer (some ⟨p, 0, none⟩), .int .i64 st, .int .i64 lv, .int .i64 pg] 146

set_option maxHeartbeats 1000000 in
theorem fault_any (w : World) (b p : Nat) (st lv pg kind : Int) (h : IsState w b p st lv pg) :
    Calls Tryz.prog 155 #[.pointer (some ⟨b, 0, none⟩), .int .i64 kind] w fun e w' => e = .returned (.agg #[.int .i64 kind, .int .i64 st, .int .i64 lv, .bool false, .int .i64 pg]) ∧ Fr none' w w' := by
  have h0 : Row w b _ _ := h
  have h1 := h0.alloc (.cells #[.int .i64 0, .int .i64 0, .int .i64 0, .bool false, .int .i64 0] 50)
  have hb : b ≠ w.heap.size := Nat.ne_of_lt h0.lt
  obtain ⟨c0, c1, c2, c3⟩ := row4 h1
  clear h h0 h1
  go_enter Tryz.func155, Tryz.ntmps155
  go_wp2_with fail
  go_region
  go_wp2_with fail
  refine bodyPost_ret (ret_f rfl rfl (row_alloc _ _ _).drew rfl) rfl ?_
  exact ⟨rfl, ((Fr.refl _ _).alloc _).drew⟩

def put4 (w : World) (b : Nat) (c0 c1 c2 c3 : Value) : World := (((w.setCell ⟨b, 0, none⟩ c0).setCell ⟨b, 1, none⟩ c1).setCell ⟨b, 2, none⟩ c2).setCell ⟨b, 3, none⟩ c3
def put5 (w : World) (b : Nat) (c0 c1 c2 c3 c4 : Value) : World := ((((w.setCell ⟨b, 0, none⟩ c0).setCell ⟨b, 1, none⟩ c1).setCell ⟨b, 2, none⟩ c2).setCell ⟨b, 3, none⟩ c3).setCell ⟨b, 4, none⟩ c4

theorem Row.put4 {w : World} {b : Nat} {a0 a1 a2 a3 : Value} {t : TypeId} (h : Row w b #[a0, a1, a2, a3] t) (c0 c1 c2 c3 : Value) : Row (put4 w b c0 c1 c2 c3) b #[c0, c1, c2, c3] t :=
  (((h.setCell 0 c0).setCell 1 c1).setCell 2 c2).setCell 3 c3

theorem Row.put5 {w : World} {b : Nat} {a0 a1 a2 a3 a4 : Value} {t : TypeId} (h : Row w b #[a0, a1, a2, a3, a4] t) (c0 c1 c2 c3 c4 : Value) : Row (put5 w b c0 c1 c2 c3 c4) b #[c0, c1, c2, c3, c4] t :=
  ((((h.setCell 0 c0).setCell 1 c1).setCell 2 c2).setCell 3 c3).setCell 4 c4

theorem Fr.put4 {S : Nat → Prop} {w w1 : World} {b : Nat} (f : Fr S w w1) (hb : w.heap.size ≤ b ∨ S b) (c0 c1 c2 c3 : Value) : Fr S w (put4 w1 b c0 c1 c2 c3) :=
  (((f.setCell (p := ⟨b, 0, none⟩) hb c0).setCell (p := ⟨b, 1, none⟩) hb c1).setCell (p := ⟨b, 2, none⟩) hb c2).setCell (p := ⟨b, 3, none⟩) hb c3

theorem Fr.put5 {S : Nat → Prop} {w w1 : World} {b : Nat} (f : Fr S w w1) (hb : w.heap.size ≤ b ∨ S b) (c0 c1 c2 c3 c4 : Value) : Fr S w (put5 w1 b c0 c1 c2 c3 c4) :=
  ((((f.setCell (p := ⟨b, 0, none⟩) hb c0).setCell (p := ⟨b, 1, none⟩) hb c1).setCell (p := ⟨b, 2, none⟩) hb c2).setCell (p := ⟨b, 3, none⟩) hb c3).setCell (p := ⟨b, 4, none⟩) hb c4

theorem Row.past4 {w : World} {b b' : Nat} {cs : Array Value} {t : TypeId} (h : Row w b cs t) (hn : b ≠ b') (c0 c1 c2 c3 : Value) : Row (Go.Proofs.YtgnoakidjnilpaaGreat.put4 w b' c0 c1 c2 c3) b cs t :=
  h.keep ((Fr.refl (at' b') w).put4 (Or.inr rfl) c0 c1 c2 c3) hn

theorem Row.past5 {w : World} {b b' : Nat} {cs : Array Value} {t : TypeId} (h : Row w b cs t) (hn : b ≠ b') (c0 c1 c2 c3 c4 : Value) : Row (Go.Proofs.YtgnoakidjnilpaaGreat.put5 w b' c0 c1 c2 c3 c4) b cs t :=
  h.keep ((Fr.refl (at' b') w).put5 (Or.inr rfl) c0 c1 c2 c3 c4) hn

theorem frozen4 {w : World} {b : Nat} {cs : Array Value} {t : TypeId} (h : Row w b cs t) :
    w.frozen? ⟨b, 0, none⟩ = false ∧ w.frozen? ⟨b, 1, none⟩ = false ∧ w.frozen? ⟨b, 2, none⟩ = false ∧ w.frozen? ⟨b, 3, none⟩ = false :=
  ⟨h.frozen 0, h.frozen 1, h.frozen 2, h.frozen 3⟩

theorem frozen5 {w : World} {b : Nat} {cs : Array Value} {t : TypeId} (h : Row w b cs t) :
    w.frozen? ⟨b, 0, none⟩ = false ∧ w.frozen? ⟨b, 1, none⟩ = false ∧ w.frozen? ⟨b, 2, none⟩ = false ∧ w.frozen? ⟨b, 3, none⟩ = false ∧ w.frozen? ⟨b, 4, none⟩ = false :=
  ⟨h.frozen 0, h.frozen 1, h.frozen 2, h.frozen 3, h.frozen 4⟩

theorem cells5 {w : World} {b : Nat} {c0 c1 c2 c3 c4 : Value} {t : TypeId} (h : Row w b #[c0, c1, c2, c3, c4] t) :
    w.cell? ⟨b, 0, none⟩ = some c0 ∧ w.cell? ⟨b, 1, none⟩ = some c1 ∧ w.cell? ⟨b, 2, none⟩ = some c2 ∧ w.cell? ⟨b, 3, none⟩ = some c3 ∧ w.cell? ⟨b, 4, none⟩ = some c4 :=
  ⟨h.cell 0, h.cell 1, h.cell 2, h.cell 3, h.cell 4⟩

theorem size_alloc (w : World) (o : Obj) : (w.alloc o).heap.size = w.heap.size + 1 := by simp

theorem row_alloc2 (w : World) (o : Obj) (cs : Array Value) (t : TypeId) : Row ((w.alloc o).alloc (.cells cs t)) (w.heap.size + 1) cs t := by
  have := row_alloc (w.alloc o) cs t
  rwa [size_alloc] at this

theorem IsRam.drew {w : World} {p bf nf : Nat} {bs : List UInt8} (h : IsRam w p bf nf bs) : IsRam w.drew p bf nf bs := ⟨h.head, h.row, h.len, h.most, h.apart⟩

theorem IsRam.alloc {w : World} {p bf nf : Nat} {bs : List UInt8} (h : IsRam w p bf nf bs) (o : Obj) : IsRam (w.alloc o) p bf nf bs := h.keep ((Fr.refl none' w).alloc o) (fun h => h) (fun h => h)

end Go.Proofs.YtgnoakidjnilpaaGreat
