/-
  The contract of package cspace's step over the translation. No statement is proved here.
-/
import Derived.Test.YtibdkadojoeopaaCsTake
import Derived.Deep.Cut
namespace Go.Proofs.Ytibdkadojoeopaa
open Go.RowKit Go.Maps Go.WideMaps

theorem pair_cells {w : World} {p : Nat} {u v : Value} {t : TypeId} (h : Row w p #[u, v] t) : w.cell? ⟨p, 0, none⟩ = some u ∧ w.cell? ⟨p, 1, none⟩ = some v ∧ w.frozen? ⟨p, 0, none⟩ = false ∧ w.frozen? ⟨p, 1, none⟩ = false := ⟨h.cell 0, h.cell 1, h.frozen 0, h.frozen 1⟩
def pput (w : World) (p : Nat) (u v : Value) : World := (w.setCell ⟨p, 0, none⟩ u).setCell ⟨p, 1, none⟩ v
theorem pair_set {w : World} {p : Nat} {u v : Value} {t : TypeId} (h : Row w p #[u, v] t) (u' v' : Value) : Row (pput w p u' v') p #[u', v'] t := by
  unfold pput
  simpa using (h.setCell 0 u').setCell 1 v'
theorem pair_other {w : World} {p p' : Nat} {cs : Array Value} {t : TypeId} (h : Row w p cs t) (hp : p' ≠ p) (u v : Value) : Row (pput w p' u v) p cs t :=
  (h.setCell_other (p := ⟨p', 0, none⟩) hp _).setCell_other (p := ⟨p', 1, none⟩) hp _
theorem pair_fr {S : Nat → Prop} {w w1 : World} {p : Nat} (u v : Value) (h : Fr S w w1) (hb : w.heap.size ≤ p ∨ S p) : Fr S w (pput w1 p u v) :=
  (h.setCell (p := ⟨p, 0, none⟩) hb _).setCell (p := ⟨p, 1, none⟩) hb _

theorem step_rows (w : World) (o r b g : Int) (m n : Nat) (d : Bool) (x l : Nat) :
    Row ((((w.alloc (.cells #[.int .i64 2, .int .i64 o, .int .i64 r, .int .i64 b, .int .i64 (m : Int), .int .i64 g, .int .i64 (n : Int), .bool d] 34)).alloc (.cells #[.int .u32 (x : Int), .int .i64 (l : Int)] 76)).alloc (.cells #[.int .i64 0, .int .i64 0] 32)).alloc (.cells #[.int .u32 0, .int .i64 0] 76)) w.heap.size (cbox 2 o r b m g n d) 34 ∧
    Row ((((w.alloc (.cells #[.int .i64 2, .int .i64 o, .int .i64 r, .int .i64 b, .int .i64 (m : Int), .int .i64 g, .int .i64 (n : Int), .bool d] 34)).alloc (.cells #[.int .u32 (x : Int), .int .i64 (l : Int)] 76)).alloc (.cells #[.int .i64 0, .int .i64 0] 32)).alloc (.cells #[.int .u32 0, .int .i64 0] 76)) (w.heap.size + 1) #[.int .u32 (x : Int), .int .i64 (l : Int)] 76 ∧
    Row ((((w.alloc (.cells #[.int .i64 2, .int .i64 o, .int .i64 r, .int .i64 b, .int .i64 (m : Int), .int .i64 g, .int .i64 (n : Int), .bool d] 34)).alloc (.cells #[.int .u32 (x : Int), .int .i64 (l : Int)] 76)).alloc (.cells #[.int .i64 0, .int .i64 0] 32)).alloc (.cells #[.int .u32 0, .int .i64 0] 76)) (w.heap.size + 1 + 1) #[.int .i64 0, .int .i64 0] 32 ∧
    Row ((((w.alloc (.cells #[.int .i64 2, .int .i64 o, .int .i64 r, .int .i64 b, .int .i64 (m : Int), .int .i64 g, .int .i64 (n : Int), .bool d] 34)).alloc (.cells #[.int .u32 (x : Int), .int .i64 (l : Int)] 76)).alloc (.cells #[.int .i64 0, .int .i64 0] 32)).alloc (.cells #[.int .u32 0, .int .i64 0] 76)) (w.heap.size + 1 + 1 + 1) #[.int .u32 0, .int .i64 0] 76 := by
  refine ⟨((row_alloc w _ _).alloc _).alloc _ |>.alloc _, ((row_alloc1 w _ _ _).alloc _).alloc _, (row_alloc2 w _ _ _ _).alloc _, ?_⟩
  have := row_alloc (((w.alloc (.cells #[.int .i64 2, .int .i64 o, .int .i64 r, .int .i64 b, .int .i64 (m : Int), .int .i64 g, .int .i64 (n : Int), .bool d] 34)).alloc (.cells #[.int .u32 (x : Int), .int .i64 (l : Int)] 76)).alloc (.cells #[.int .i64 0, .int .i64 0] 32)) #[.int .u32 0, .int .i64 0] 76
  rwa [show (((w.alloc (.cells #[.int .i64 2, .int .i64 o, .int .i64 r, .int .i64 b, .int .i64 (m : Int), .int .i64 g, .int .i64 (n : Int), .bool d] 34)).alloc (.cells #[.int .u32 (x : Int), .int .i64 (l : Int)] 76)).alloc (.cells #[.int .i64 0, .int .i64 0] 32)).heap.size = w.heap.size + 1 + 1 + 1 by simp] at this

set_option maxRecDepth 100000 in
set_option maxHeartbeats 2000000 in
theorem step_a (w : World) (p : Pb) (L : List Nd) (h : IsP w p L) (o r b g : Int) (m n : Nat) (d : Bool) (x l : Nat) (hn : decide ((l : Int) < (n : Int)) = true) :
    Calls Try.prog 40 #[.pointer (some ⟨p.b, 0, none⟩), .agg #[.int .i64 2, .int .i64 o, .int .i64 r, .int .i64 b, .int .i64 (m : Int), .int .i64 g, .int .i64 (n : Int), .bool d], .agg #[.int .u32 (x : Int), .int .i64 (l : Int)]] w fun e w' => e = .returned (.tuple #[.agg #[.int .i64 0, .int .i64 0], .agg #[.int .u32 0, .int .i64 0], .int .i64 122]) ∧ Fr none' w w' := by
  obtain ⟨B1, hB1⟩ : ∃ B, B = Obj.cells #[.int .i64 2, .int .i64 o, .int .i64 r, .int .i64 b, .int .i64 (m : Int), .int .i64 g, .int .i64 (n : Int), .bool d] 34 := ⟨_, rfl⟩
  obtain ⟨B2, hB2⟩ : ∃ B, B = Obj.cells #[.int .u32 (x : Int), .int .i64 (l : Int)] 76 := ⟨_, rfl⟩
  have f0 := ((((Fr.refl none' w).alloc (.cells #[.int .i64 2, .int .i64 o, .int .i64 r, .int .i64 b, .int .i64 (m : Int), .int .i64 g, .int .i64 (n : Int), .bool d] 34)).alloc (.cells #[.int .u32 (x : Int), .int .i64 (l : Int)] 76)).alloc (.cells #[.int .i64 0, .int .i64 0] 32)).alloc (.cells #[.int .u32 0, .int .i64 0] 76)
  obtain ⟨rc, ra, rr, rz⟩ := step_rows w o r b g m n d x l
  have h0 := h.keep0 f0
  have HB : Hid (∀ q, w.heap.size ≤ q → ¬ p.s L q) := fun q hq hs => by have := h.lt q hs; omega
  clear B1 hB1 B2 hB2 h
  go_enter Try.func40, Try.ntmps40
  go_wp2_with fail
  generalize ((((w.alloc (.cells #[.int .i64 2, .int .i64 o, .int .i64 r, .int .i64 b, .int .i64 (m : Int), .int .i64 g, .int .i64 (n : Int), .bool d] 34)).alloc (.cells #[.int .u32 (x : Int), .int .i64 (l : Int)] 76)).alloc (.cells #[.int .i64 0, .int .i64 0] 32)).alloc (.cells #[.int .u32 0, .int .i64 0] 76)) = v0 at *
  obtain ⟨k0, k1, k2, k3, k4, k5, k6, k7⟩ := cbox_cells (k := 2) rc
  obtain ⟨a0, a1, y0, y1⟩ := pair_cells ra
  obtain ⟨s0, s1, q0, q1⟩ := pair_cells rr
  obtain ⟨t0, t1, v0', v1'⟩ := pair_cells rz
  refine (take_no _ _ _ _ hn).mono ?_
  rintro e w1 ⟨rfl, f1⟩
  clear k0 k1 k2 k3 k4 k5 k6 k7 a0 a1 y0 y1 s0 s1 q0 q1 t0 t1 v0' v1'
  replace rc := rc.keep f1 (fun h => h)
  replace ra := ra.keep f1 (fun h => h)
  replace rr := rr.keep f1 (fun h => h)
  replace rz := rz.keep f1 (fun h => h)
  replace h0 := h0.keep0 f1
  replace f0 := f0.trans f1
  clear f1
  obtain ⟨k0, k1, k2, k3, k4, k5, k6, k7⟩ := cbox_cells (k := 2) rc
  obtain ⟨a0, a1, y0, y1⟩ := pair_cells ra
  obtain ⟨s0, s1, q0, q1⟩ := pair_cells rr
  obtain ⟨t0, t1, v0', v1'⟩ := pair_cells rz
  replace f0 := pair_fr (p := w.heap.size + 1) (.int .u32 0) (.int .i64 0) f0 (Or.inl (by omega))
  replace rc := pair_other rc (p' := w.heap.size + 1) (by omega) (.int .u32 0) (.int .i64 0)
  replace rr := pair_other rr (p' := w.heap.size + 1) (by omega) (.int .u32 0) (.int .i64 0)
  replace rz := pair_other rz (p' := w.heap.size + 1) (by omega) (.int .u32 0) (.int .i64 0)
  replace ra := pair_set ra (.int .u32 0) (.int .i64 0)
  replace h0 := h0.keep (pair_fr (S := at' (w.heap.size + 1)) (p := w.heap.size + 1) (.int .u32 0) (.int .i64 0) (Fr.refl _ _) (Or.inr rfl)) (fun k hk e => HB.out (w.heap.size + 1) (by omega) (e ▸ hk))
  have HR : Hid (Row (pput (pput (pput w1 (w.heap.size + 1) (.int .u32 0) (.int .i64 0)) (w.heap.size + 1 + 1) (.int .i64 0) (.int .i64 0)) (w.heap.size + 1 + 1 + 1) (.int .u32 0) (.int .i64 0)) (w.heap.size + 1 + 1) #[.int .i64 0, .int .i64 0] 32 ∧ Row (pput (pput (pput w1 (w.heap.size + 1) (.int .u32 0) (.int .i64 0)) (w.heap.size + 1 + 1) (.int .i64 0) (.int .i64 0)) (w.heap.size + 1 + 1 + 1) (.int .u32 0) (.int .i64 0)) (w.heap.size + 1 + 1 + 1) #[.int .u32 0, .int .i64 0] 76 ∧ Fr none' w (pput (pput (pput w1 (w.heap.size + 1) (.int .u32 0) (.int .i64 0)) (w.heap.size + 1 + 1) (.int .i64 0) (.int .i64 0)) (w.heap.size + 1 + 1 + 1) (.int .u32 0) (.int .i64 0))) :=
    ⟨pair_other (pair_set rr _ _) (by omega) _ _, pair_set (pair_other rz (by omega) _ _) _ _, pair_fr _ _ (pair_fr _ _ f0 (Or.inl (by omega))) (Or.inl (by omega))⟩
  clear rc ra rr rz f0
  go_wp2_with fail
  refine bodyPost_ret (ret_step rfl rfl HR.out.1 rfl rfl HR.out.2.1 rfl) rfl ?_
  exact ⟨rfl, HR.out.2.2⟩

set_option maxRecDepth 100000 in
set_option maxHeartbeats 2000000 in
theorem step_b (w : World) (p : Pb) (L : List Nd) (h : IsP w p L) (o r b g : Int) (m n : Nat) (d : Bool) (x l : Nat) (hx : x < 4294967296) (h16 : l ≤ 16) (hn : n ≤ l) (hg : ((bitV x (l - n) n : Nat) : Int) ≠ g) :
    Calls Try.prog 40 #[.pointer (some ⟨p.b, 0, none⟩), .agg #[.int .i64 2, .int .i64 o, .int .i64 r, .int .i64 b, .int .i64 (m : Int), .int .i64 g, .int .i64 (n : Int), .bool d], .agg #[.int .u32 (x : Int), .int .i64 (l : Int)]] w fun e w' => e = .returned (.tuple #[.agg #[.int .i64 0, .int .i64 0], .agg #[.int .u32 0, .int .i64 0], .int .i64 122]) ∧ Fr none' w w' := by
  obtain ⟨B1, hB1⟩ : ∃ B, B = Obj.cells #[.int .i64 2, .int .i64 o, .int .i64 r, .int .i64 b, .int .i64 (m : Int), .int .i64 g, .int .i64 (n : Int), .bool d] 34 := ⟨_, rfl⟩
  obtain ⟨B2, hB2⟩ : ∃ B, B = Obj.cells #[.int .u32 (x : Int), .int .i64 (l : Int)] 76 := ⟨_, rfl⟩
  have f0 := ((((Fr.refl none' w).alloc (.cells #[.int .i64 2, .int .i64 o, .int .i64 r, .int .i64 b, .int .i64 (m : Int), .int .i64 g, .int .i64 (n : Int), .bool d] 34)).alloc (.cells #[.int .u32 (x : Int), .int .i64 (l : Int)] 76)).alloc (.cells #[.int .i64 0, .int .i64 0] 32)).alloc (.cells #[.int .u32 0, .int .i64 0] 76)
  obtain ⟨rc, ra, rr, rz⟩ := step_rows w o r b g m n d x l
  have h0 := h.keep0 f0
  have HB : Hid (∀ q, w.heap.size ≤ q → ¬ p.s L q) := fun q hq hs => by have := h.lt q hs; omega
  clear B1 hB1 B2 hB2 h
  go_enter Try.func40, Try.ntmps40
  go_wp2_with fail
  generalize ((((w.alloc (.cells #[.int .i64 2, .int .i64 o, .int .i64 r, .int .i64 b, .int .i64 (m : Int), .int .i64 g, .int .i64 (n : Int), .bool d] 34)).alloc (.cells #[.int .u32 (x : Int), .int .i64 (l : Int)] 76)).alloc (.cells #[.int .i64 0, .int .i64 0] 32)).alloc (.cells #[.int .u32 0, .int .i64 0] 76)) = v0 at *
  obtain ⟨k0, k1, k2, k3, k4, k5, k6, k7⟩ := cbox_cells (k := 2) rc
  obtain ⟨a0, a1, y0, y1⟩ := pair_cells ra
  obtain ⟨s0, s1, q0, q1⟩ := pair_cells rr
  obtain ⟨t0, t1, v0', v1'⟩ := pair_cells rz
  refine (take_ok _ x l n hx hn h16).mono ?_
  rintro e w1 ⟨rfl, f1⟩
  clear k0 k1 k2 k3 k4 k5 k6 k7 a0 a1 y0 y1 s0 s1 q0 q1 t0 t1 v0' v1'
  replace rc := rc.keep f1 (fun h => h)
  replace ra := ra.keep f1 (fun h => h)
  replace rr := rr.keep f1 (fun h => h)
  replace rz := rz.keep f1 (fun h => h)
  replace h0 := h0.keep0 f1
  replace f0 := f0.trans f1
  clear f1
  have t1 : (((bitV x (l - n) n : Nat) : Int) != g) = true := by simpa using hg
  clear hg
  generalize ((bitV x (l - n) n : Nat) : Int) = V at *
  obtain ⟨k0, k1, k2, k3, k4, k5, k6, k7⟩ := cbox_cells (k := 2) rc
  obtain ⟨a0, a1, y0, y1⟩ := pair_cells ra
  obtain ⟨s0, s1, q0, q1⟩ := pair_cells rr
  obtain ⟨t0, t1, v0', v1'⟩ := pair_cells rz
  replace f0 := pair_fr (p := w.heap.size + 1) (.int .u32 (x : Int)) (.int .i64 ((l - n : Nat) : Int)) f0 (Or.inl (by omega))
  replace rc := pair_other rc (p' := w.heap.size + 1) (by omega) (.int .u32 (x : Int)) (.int .i64 ((l - n : Nat) : Int))
  replace rr := pair_other rr (p' := w.heap.size + 1) (by omega) (.int .u32 (x : Int)) (.int .i64 ((l - n : Nat) : Int))
  replace rz := pair_other rz (p' := w.heap.size + 1) (by omega) (.int .u32 (x : Int)) (.int .i64 ((l - n : Nat) : Int))
  replace ra := pair_set ra (.int .u32 (x : Int)) (.int .i64 ((l - n : Nat) : Int))
  replace h0 := h0.keep (pair_fr (S := at' (w.heap.size + 1)) (p := w.heap.size + 1) (.int .u32 (x : Int)) (.int .i64 ((l - n : Nat) : Int)) (Fr.refl _ _) (Or.inr rfl)) (fun k hk e => HB.out (w.heap.size + 1) (by omega) (e ▸ hk))
  have HR : Hid (Row (pput (pput (pput w1 (w.heap.size + 1) (.int .u32 (x : Int)) (.int .i64 ((l - n : Nat) : Int))) (w.heap.size + 1 + 1) (.int .i64 0) (.int .i64 0)) (w.heap.size + 1 + 1 + 1) (.int .u32 0) (.int .i64 0)) (w.heap.size + 1 + 1) #[.int .i64 0, .int .i64 0] 32 ∧ Row (pput (pput (pput w1 (w.heap.size + 1) (.int .u32 (x : Int)) (.int .i64 ((l - n : Nat) : Int))) (w.heap.size + 1 + 1) (.int .i64 0) (.int .i64 0)) (w.heap.size + 1 + 1 + 1) (.int .u32 0) (.int .i64 0)) (w.heap.size + 1 + 1 + 1) #[.int .u32 0, .int .i64 0] 76 ∧ Fr none' w (pput (pput (pput w1 (w.heap.size + 1) (.int .u32 (x : Int)) (.int .i64 ((l - n : Nat) : Int))) (w.heap.size + 1 + 1) (.int .i64 0) (.int .i64 0)) (w.heap.size + 1 + 1 + 1) (.int .u32 0) (.int .i64 0))) :=
    ⟨pair_other (pair_set rr _ _) (by omega) _ _, pair_set (pair_other rz (by omega) _ _) _ _, pair_fr _ _ (pair_fr _ _ f0 (Or.inl (by omega))) (Or.inl (by omega))⟩
  clear rc ra rr rz f0
  go_wp2_with fail
  refine bodyPost_ret (ret_step rfl rfl HR.out.1 rfl rfl HR.out.2.1 rfl) rfl ?_
  exact ⟨rfl, HR.out.2.2⟩

set_option maxRecDepth 100000 in
set_option maxHeartbeats 2000000 in
theorem step_c (w : World) (p : Pb) (L : List Nd) (h : IsP w p L) (o r b g : Int) (m n : Nat) (d : Bool) (x l : Nat) (hx : x < 4294967296) (h16 : l ≤ 16) (hn : n ≤ l) (hg : ((bitV x (l - n) n : Nat) : Int) = g) (hm : decide (((l - n : Nat) : Int) < (m : Int)) = true) :
    Calls Try.prog 40 #[.pointer (some ⟨p.b, 0, none⟩), .agg #[.int .i64 2, .int .i64 o, .int .i64 r, .int .i64 b, .int .i64 (m : Int), .int .i64 g, .int .i64 (n : Int), .bool d], .agg #[.int .u32 (x : Int), .int .i64 (l : Int)]] w fun e w' => e = .returned (.tuple #[.agg #[.int .i64 0, .int .i64 0], .agg #[.int .u32 0, .int .i64 0], .int .i64 123]) ∧ Fr none' w w' := by
  obtain ⟨B1, hB1⟩ : ∃ B, B = Obj.cells #[.int .i64 2, .int .i64 o, .int .i64 r, .int .i64 b, .int .i64 (m : Int), .int .i64 g, .int .i64 (n : Int), .bool d] 34 := ⟨_, rfl⟩
  obtain ⟨B2, hB2⟩ : ∃ B, B = Obj.cells #[.int .u32 (x : Int), .int .i64 (l : Int)] 76 := ⟨_, rfl⟩
  have f0 := ((((Fr.refl none' w).alloc (.cells #[.int .i64 2, .int .i64 o, .int .i64 r, .int .i64 b, .int .i64 (m : Int), .int .i64 g, .int .i64 (n : Int), .bool d] 34)).alloc (.cells #[.int .u32 (x : Int), .int .i64 (l : Int)] 76)).alloc (.cells #[.int .i64 0, .int .i64 0] 32)).alloc (.cells #[.int .u32 0, .int .i64 0] 76)
  obtain ⟨rc, ra, rr, rz⟩ := step_rows w o r b g m n d x l
  have h0 := h.keep0 f0
  have HB : Hid (∀ q, w.heap.size ≤ q → ¬ p.s L q) := fun q hq hs => by have := h.lt q hs; omega
  clear B1 hB1 B2 hB2 h
  go_enter Try.func40, Try.ntmps40
  go_wp2_with fail
  generalize ((((w.alloc (.cells #[.int .i64 2, .int .i64 o, .int .i64 r, .int .i64 b, .int .i64 (m : Int), .int .i64 g, .int .i64 (n : Int), .bool d] 34)).alloc (.cells #[.int .u32 (x : Int), .int .i64 (l : Int)] 76)).alloc (.cells #[.int .i64 0, .int .i64 0] 32)).alloc (.cells #[.int .u32 0, .int .i64 0] 76)) = v0 at *
  obtain ⟨k0, k1, k2, k3, k4, k5, k6, k7⟩ := cbox_cells (k := 2) rc
  obtain ⟨a0, a1, y0, y1⟩ := pair_cells ra
  obtain ⟨s0, s1, q0, q1⟩ := pair_cells rr
  obtain ⟨t0, t1, v0', v1'⟩ := pair_cells rz
  refine (take_ok _ x l n hx hn h16).mono ?_
  rintro e w1 ⟨rfl, f1⟩
  clear k0 k1 k2 k3 k4 k5 k6 k7 a0 a1 y0 y1 s0 s1 q0 q1 t0 t1 v0' v1'
  replace rc := rc.keep f1 (fun h => h)
  replace ra := ra.keep f1 (fun h => h)
  replace rr := rr.keep f1 (fun h => h)
  replace rz := rz.keep f1 (fun h => h)
  replace h0 := h0.keep0 f1
  replace f0 := f0.trans f1
  clear f1
  have t1 : (((bitV x (l - n) n : Nat) : Int) != g) = false := by simpa using hg
  clear hg
  generalize ((bitV x (l - n) n : Nat) : Int) = V at *
  obtain ⟨l', hl'⟩ : ∃ l', l' = l - n := ⟨_, rfl⟩
  have h16' : l' ≤ 16 := by omega
  rw [← hl'] at hm ⊢
  clear hl' hn h16
  obtain ⟨k0, k1, k2, k3, k4, k5, k6, k7⟩ := cbox_cells (k := 2) rc
  obtain ⟨a0, a1, y0, y1⟩ := pair_cells ra
  obtain ⟨s0, s1, q0, q1⟩ := pair_cells rr
  obtain ⟨t0, t1, v0', v1'⟩ := pair_cells rz
  go_wp2_with fail
  clear k0 k1 k2 k3 k4 k5 k6 k7 a0 a1 y0 y1 s0 s1 q0 q1 t0 t1 v0' v1'
  replace f0 := pair_fr (p := w.heap.size + 1) (.int .u32 (x : Int)) (.int .i64 (l' : Int)) f0 (Or.inl (by omega))
  replace rc := pair_other rc (p' := w.heap.size + 1) (by omega) (.int .u32 (x : Int)) (.int .i64 (l' : Int))
  replace rr := pair_other rr (p' := w.heap.size + 1) (by omega) (.int .u32 (x : Int)) (.int .i64 (l' : Int))
  replace rz := pair_other rz (p' := w.heap.size + 1) (by omega) (.int .u32 (x : Int)) (.int .i64 (l' : Int))
  replace ra := pair_set ra (.int .u32 (x : Int)) (.int .i64 (l' : Int))
  replace h0 := h0.keep (pair_fr (S := at' (w.heap.size + 1)) (p := w.heap.size + 1) (.int .u32 (x : Int)) (.int .i64 (l' : Int)) (Fr.refl _ _) (Or.inr rfl)) (fun k hk e => HB.out (w.heap.size + 1) (by omega) (e ▸ hk))
  refine (take_no _ _ _ _ hm).mono ?_
  rintro e w2 ⟨rfl, f1⟩
  replace rc := rc.keep f1 (fun h => h)
  replace ra := ra.keep f1 (fun h => h)
  replace rr := rr.keep f1 (fun h => h)
  replace rz := rz.keep f1 (fun h => h)
  replace h0 := h0.keep0 f1
  replace f0 := f0.trans f1
  clear f1
  obtain ⟨k0, k1, k2, k3, k4, k5, k6, k7⟩ := cbox_cells (k := 2) rc
  obtain ⟨a0, a1, y0, y1⟩ := pair_cells ra
  obtain ⟨s0, s1, q0, q1⟩ := pair_cells rr
  obtain ⟨t0, t1, v0', v1'⟩ := pair_cells rz
  replace f0 := pair_fr (p := w.heap.size + 1) (.int .u32 0) (.int .i64 0) f0 (Or.inl (by omega))
  replace rc := pair_other rc (p' := w.heap.size + 1) (by omega) (.int .u32 0) (.int .i64 0)
  replace rr := pair_other rr (p' := w.heap.size + 1) (by omega) (.int .u32 0) (.int .i64 0)
  replace rz := pair_other rz (p' := w.heap.size + 1) (by omega) (.int .u32 0) (.int .i64 0)
  replace ra := pair_set ra (.int .u32 0) (.int .i64 0)
  replace h0 := h0.keep (pair_fr (S := at' (w.heap.size + 1)) (p := w.heap.size + 1) (.int .u32 0) (.int .i64 0) (Fr.refl _ _) (Or.inr rfl)) (fun k hk e => HB.out (w.heap.size + 1) (by omega) (e ▸ hk))
  have HR : Hid (Row (pput (pput (pput w2 (w.heap.size + 1) (.int .u32 0) (.int .i64 0)) (w.heap.size + 1 + 1) (.int .i64 0) (.int .i64 0)) (w.heap.size + 1 + 1 + 1) (.int .u32 0) (.int .i64 0)) (w.heap.size + 1 + 1) #[.int .i64 0, .int .i64 0] 32 ∧ Row (pput (pput (pput w2 (w.heap.size + 1) (.int .u32 0) (.int .i64 0)) (w.heap.size + 1 + 1) (.int .i64 0) (.int .i64 0)) (w.heap.size + 1 + 1 + 1) (.int .u32 0) (.int .i64 0)) (w.heap.size + 1 + 1 + 1) #[.int .u32 0, .int .i64 0] 76 ∧ Fr none' w (pput (pput (pput w2 (w.heap.size + 1) (.int .u32 0) (.int .i64 0)) (w.heap.size + 1 + 1) (.int .i64 0) (.int .i64 0)) (w.heap.size + 1 + 1 + 1) (.int .u32 0) (.int .i64 0))) :=
    ⟨pair_other (pair_set rr _ _) (by omega) _ _, pair_set (pair_other rz (by omega) _ _) _ _, pair_fr _ _ (pair_fr _ _ f0 (Or.inl (by omega))) (Or.inl (by omega))⟩
  clear rc ra rr rz f0
  go_wp2_with fail
  refine bodyPost_ret (ret_step rfl rfl HR.out.1 rfl rfl HR.out.2.1 rfl) rfl ?_
  exact ⟨rfl, HR.out.2.2⟩

set_option maxRecDepth 100000 in
set_option maxHeartbeats 2000000 in
theorem step_d (w : World) (p : Pb) (L : List Nd) (h : IsP w p L) (o r b g : Int) (m n : Nat) (d : Bool) (x l : Nat) (hx : x < 4294967296) (h16 : l ≤ 16) (ho : I64 o) (hn : n ≤ l) (hg : ((bitV x (l - n) n : Nat) : Int) = g) (hm : m ≤ l - n) (hr : radS L o ≠ (m : Int)) :
    Calls Try.prog 40 #[.pointer (some ⟨p.b, 0, none⟩), .agg #[.int .i64 2, .int .i64 o, .int .i64 r, .int .i64 b, .int .i64 (m : Int), .int .i64 g, .int .i64 (n : Int), .bool d], .agg #[.int .u32 (x : Int), .int .i64 (l : Int)]] w fun e w' => e = .returned (.tuple #[.agg #[.int .i64 0, .int .i64 0], .agg #[.int .u32 0, .int .i64 0], .int .i64 120]) ∧ Fr none' w w' := by
  obtain ⟨B1, hB1⟩ : ∃ B, B = Obj.cells #[.int .i64 2, .int .i64 o, .int .i64 r, .int .i64 b, .int .i64 (m : Int), .int .i64 g, .int .i64 (n : Int), .bool d] 34 := ⟨_, rfl⟩
  obtain ⟨B2, hB2⟩ : ∃ B, B = Obj.cells #[.int .u32 (x : Int), .int .i64 (l : Int)] 76 := ⟨_, rfl⟩
  have f0 := ((((Fr.refl none' w).alloc (.cells #[.int .i64 2, .int .i64 o, .int .i64 r, .int .i64 b, .int .i64 (m : Int), .int .i64 g, .int .i64 (n : Int), .bool d] 34)).alloc (.cells #[.int .u32 (x : Int), .int .i64 (l : Int)] 76)).alloc (.cells #[.int .i64 0, .int .i64 0] 32)).alloc (.cells #[.int .u32 0, .int .i64 0] 76)
  obtain ⟨rc, ra, rr, rz⟩ := step_rows w o r b g m n d x l
  have h0 := h.keep0 f0
  have HB : Hid (∀ q, w.heap.size ≤ q → ¬ p.s L q) := fun q hq hs => by have := h.lt q hs; omega
  clear B1 hB1 B2 hB2 h
  go_enter Try.func40, Try.ntmps40
  go_wp2_with fail
  generalize ((((w.alloc (.cells #[.int .i64 2, .int .i64 o, .int .i64 r, .int .i64 b, .int .i64 (m : Int), .int .i64 g, .int .i64 (n : Int), .bool d] 34)).alloc (.cells #[.int .u32 (x : Int), .int .i64 (l : Int)] 76)).alloc (.cells #[.int .i64 0, .int .i64 0] 32)).alloc (.cells #[.int .u32 0, .int .i64 0] 76)) = v0 at *
  obtain ⟨k0, k1, k2, k3, k4, k5, k6, k7⟩ := cbox_cells (k := 2) rc
  obtain ⟨a0, a1, y0, y1⟩ := pair_cells ra
  obtain ⟨s0, s1, q0, q1⟩ := pair_cells rr
  obtain ⟨t0, t1, v0', v1'⟩ := pair_cells rz
  refine (take_ok _ x l n hx hn h16).mono ?_
  rintro e w1 ⟨rfl, f1⟩
  clear k0 k1 k2 k3 k4 k5 k6 k7 a0 a1 y0 y1 s0 s1 q0 q1 t0 t1 v0' v1'
  replace rc := rc.keep f1 (fun h => h)
  replace ra := ra.keep f1 (fun h => h)
  replace rr := rr.keep f1 (fun h => h)
  replace rz := rz.keep f1 (fun h => h)
  replace h0 := h0.keep0 f1
  replace f0 := f0.trans f1
  clear f1
  have t1 : (((bitV x (l - n) n : Nat) : Int) != g) = false := by simpa using hg
  clear hg
  generalize ((bitV x (l - n) n : Nat) : Int) = V at *
  obtain ⟨l', hl'⟩ : ∃ l', l' = l - n := ⟨_, rfl⟩
  have h16' : l' ≤ 16 := by omega
  rw [← hl'] at hm ⊢
  clear hl' hn h16
  obtain ⟨k0, k1, k2, k3, k4, k5, k6, k7⟩ := cbox_cells (k := 2) rc
  obtain ⟨a0, a1, y0, y1⟩ := pair_cells ra
  obtain ⟨s0, s1, q0, q1⟩ := pair_cells rr
  obtain ⟨t0, t1, v0', v1'⟩ := pair_cells rz
  go_wp2_with fail
  clear k0 k1 k2 k3 k4 k5 k6 k7 a0 a1 y0 y1 s0 s1 q0 q1 t0 t1 v0' v1'
  replace f0 := pair_fr (p := w.heap.size + 1) (.int .u32 (x : Int)) (.int .i64 (l' : Int)) f0 (Or.inl (by omega))
  replace rc := pair_other rc (p' := w.heap.size + 1) (by omega) (.int .u32 (x : Int)) (.int .i64 (l' : Int))
  replace rr := pair_other rr (p' := w.heap.size + 1) (by omega) (.int .u32 (x : Int)) (.int .i64 (l' : Int))
  replace rz := pair_other rz (p' := w.heap.size + 1) (by omega) (.int .u32 (x : Int)) (.int .i64 (l' : Int))
  replace ra := pair_set ra (.int .u32 (x : Int)) (.int .i64 (l' : Int))
  replace h0 := h0.keep (pair_fr (S := at' (w.heap.size + 1)) (p := w.heap.size + 1) (.int .u32 (x : Int)) (.int .i64 (l' : Int)) (Fr.refl _ _) (Or.inr rfl)) (fun k hk e => HB.out (w.heap.size + 1) (by omega) (e ▸ hk))
  refine (take_ok _ x l' m hx hm h16').mono ?_
  rintro e w2 ⟨rfl, f1⟩
  replace rc := rc.keep f1 (fun h => h)
  replace ra := ra.keep f1 (fun h => h)
  replace rr := rr.keep f1 (fun h => h)
  replace rz := rz.keep f1 (fun h => h)
  replace h0 := h0.keep0 f1
  replace f0 := f0.trans f1
  clear f1
  obtain ⟨l2, hl2⟩ : ∃ l2, l2 = l' - m := ⟨_, rfl⟩
  rw [← hl2]
  clear hl2 hm h16'
  generalize ((bitV x l2 m : Nat) : Int) = U at *
  obtain ⟨k0, k1, k2, k3, k4, k5, k6, k7⟩ := cbox_cells (k := 2) rc
  obtain ⟨a0, a1, y0, y1⟩ := pair_cells ra
  obtain ⟨s0, s1, q0, q1⟩ := pair_cells rr
  obtain ⟨t0, t1, v0', v1'⟩ := pair_cells rz
  go_upto_region 7 with fail
  clear k0 k1 k2 k3 k4 k5 k6 k7 a0 a1 y0 y1 s0 s1 q0 q1 t0 t1 v0' v1'
  replace f0 := pair_fr (p := w.heap.size + 1) (.int .u32 (x : Int)) (.int .i64 (l2 : Int)) f0 (Or.inl (by omega))
  replace rc := pair_other rc (p' := w.heap.size + 1) (by omega) (.int .u32 (x : Int)) (.int .i64 (l2 : Int))
  replace rr := pair_other rr (p' := w.heap.size + 1) (by omega) (.int .u32 (x : Int)) (.int .i64 (l2 : Int))
  replace rz := pair_other rz (p' := w.heap.size + 1) (by omega) (.int .u32 (x : Int)) (.int .i64 (l2 : Int))
  replace ra := pair_set ra (.int .u32 (x : Int)) (.int .i64 (l2 : Int))
  replace h0 := h0.keep (pair_fr (S := at' (w.heap.size + 1)) (p := w.heap.size + 1) (.int .u32 (x : Int)) (.int .i64 (l2 : Int)) (Fr.refl _ _) (Or.inr rfl)) (fun k hk e => HB.out (w.heap.size + 1) (by omega) (e ▸ hk))
  obtain ⟨v2, hv2⟩ : ∃ v2, v2 = pput w2 (w.heap.size + 1) (.int .u32 (x : Int)) (.int .i64 (l2 : Int)) := ⟨_, rfl⟩
  rw [← hv2] at rc ra rr rz h0 f0
  change Code.wp _ _ _ _ (pput w2 (w.heap.size + 1) (.int .u32 (x : Int)) (.int .i64 (l2 : Int)))
  rw [← hv2]
  clear hv2
  obtain ⟨k0, k1, k2, k3, k4, k5, k6, k7⟩ := cbox_cells (k := 2) rc
  obtain ⟨a0, a1, y0, y1⟩ := pair_cells ra
  obtain ⟨s0, s1, q0, q1⟩ := pair_cells rr
  obtain ⟨t0, t1, v0', v1'⟩ := pair_cells rz
  have hq := fun n => radix_any (v2.drewN n) p L (h0.keep0 (fr_drewN v2 n)) o ho
  have t2 : (radS L o != (m : Int)) = true := by simpa using hr
  generalize radS L o = R at *
  clear hr h0
  have HR : Hid (∀ q, Row ((pput (pput (v2.drewN q) (w.heap.size + 1 + 1) (.int .i64 0) (.int .i64 0)) (w.heap.size + 1 + 1 + 1) (.int .u32 0) (.int .i64 0))) (w.heap.size + 1 + 1) #[.int .i64 0, .int .i64 0] 32 ∧ Row ((pput (pput (v2.drewN q) (w.heap.size + 1 + 1) (.int .i64 0) (.int .i64 0)) (w.heap.size + 1 + 1 + 1) (.int .u32 0) (.int .i64 0))) (w.heap.size + 1 + 1 + 1) #[.int .u32 0, .int .i64 0] 76 ∧ Fr none' w ((pput (pput (v2.drewN q) (w.heap.size + 1 + 1) (.int .i64 0) (.int .i64 0)) (w.heap.size + 1 + 1 + 1) (.int .u32 0) (.int .i64 0)))) := fun q =>
    ⟨(pair_other (pair_set (rr.keep (fr_drewN v2 q) (fun h => h)) _ _) (by omega) _ _), (pair_set (pair_other (rz.keep (fr_drewN v2 q) (fun h => h)) (by omega) _ _) _ _), (pair_fr _ _ (pair_fr _ _ (f0.trans (fr_drewN v2 q)) (Or.inl (by omega))) (Or.inl (by omega)))⟩
  clear rc ra rr rz f0
  go_quiet (first | (go_at_call 15; refine Calls.quiet_of_same (hq _)))
  go_wp2_with fail
  refine bodyPost_ret (ret_step rfl rfl (HR.out _).1 rfl rfl (HR.out _).2.1 rfl) rfl ?_
  exact ⟨rfl, (HR.out _).2.2⟩

set_option maxRecDepth 100000 in
set_option maxHeartbeats 2000000 in
theorem step_e (w : World) (p : Pb) (L : List Nd) (h : IsP w p L) (o r b g : Int) (m n : Nat) (d : Bool) (x l : Nat) (hx : x < 4294967296) (h16 : l ≤ 16) (ho : I64 o) (hn : n ≤ l) (hg : ((bitV x (l - n) n : Nat) : Int) = g) (hm : m ≤ l - n) (hr : radS L o = (m : Int)) (l' l2 : Nat) (U : Int) (hl' : l' = l - n) (hl2 : l2 = l' - m) (hU : ((bitV x l2 m : Nat) : Int) = U) :
    Calls Try.prog 40 #[.pointer (some ⟨p.b, 0, none⟩), .agg #[.int .i64 2, .int .i64 o, .int .i64 r, .int .i64 b, .int .i64 (m : Int), .int .i64 g, .int .i64 (n : Int), .bool d], .agg #[.int .u32 (x : Int), .int .i64 (l : Int)]] w fun e w' => e = .returned (.tuple #[.agg #[.int .i64 o, .int .i64 U], .agg #[.int .u32 (x : Int), .int .i64 (l2 : Int)], .int .i64 0]) ∧ Fr none' w w' := by
  obtain ⟨B1, hB1⟩ : ∃ B, B = Obj.cells #[.int .i64 2, .int .i64 o, .int .i64 r, .int .i64 b, .int .i64 (m : Int), .int .i64 g, .int .i64 (n : Int), .bool d] 34 := ⟨_, rfl⟩
  obtain ⟨B2, hB2⟩ : ∃ B, B = Obj.cells #[.int .u32 (x : Int), .int .i64 (l : Int)] 76 := ⟨_, rfl⟩
  have f0 := ((((Fr.refl none' w).alloc (.cells #[.int .i64 2, .int .i64 o, .int .i64 r, .int .i64 b, .int .i64 (m : Int), .int .i64 g, .int .i64 (n : Int), .bool d] 34)).alloc (.cells #[.int .u32 (x : Int), .int .i64 (l : Int)] 76)).alloc (.cells #[.int .i64 0, .int .i64 0] 32)).alloc (.cells #[.int .u32 0, .int .i64 0] 76)
  obtain ⟨rc, ra, rr, rz⟩ := step_rows w o r b g m n d x l
  have h0 := h.keep0 f0
  have HB : Hid (∀ q, w.heap.size ≤ q → ¬ p.s L q) := fun q hq hs => by have := h.lt q hs; omega
  clear B1 hB1 B2 hB2 h
  go_enter Try.func40, Try.ntmps40
  go_wp2_with fail
  generalize ((((w.alloc (.cells #[.int .i64 2, .int .i64 o, .int .i64 r, .int .i64 b, .int .i64 (m : Int), .int .i64 g, .int .i64 (n : Int), .bool d] 34)).alloc (.cells #[.int .u32 (x : Int), .int .i64 (l : Int)] 76)).alloc (.cells #[.int .i64 0, .int .i64 0] 32)).alloc (.cells #[.int .u32 0, .int .i64 0] 76)) = v0 at *
  obtain ⟨k0, k1, k2, k3, k4, k5, k6, k7⟩ := cbox_cells (k := 2) rc
  obtain ⟨a0, a1, y0, y1⟩ := pair_cells ra
  obtain ⟨s0, s1, q0, q1⟩ := pair_cells rr
  obtain ⟨t0, t1, v0', v1'⟩ := pair_cells rz
  refine (take_ok _ x l n hx hn h16).mono ?_
  rintro e w1 ⟨rfl, f1⟩
  clear k0 k1 k2 k3 k4 k5 k6 k7 a0 a1 y0 y1 s0 s1 q0 q1 t0 t1 v0' v1'
  replace rc := rc.keep f1 (fun h => h)
  replace ra := ra.keep f1 (fun h => h)
  replace rr := rr.keep f1 (fun h => h)
  replace rz := rz.keep f1 (fun h => h)
  replace h0 := h0.keep0 f1
  replace f0 := f0.trans f1
  clear f1
  have t1 : (((bitV x (l - n) n : Nat) : Int) != g) = false := by simpa using hg
  clear hg
  generalize ((bitV x (l - n) n : Nat) : Int) = V at *
  have h16' : l' ≤ 16 := by omega
  rw [← hl'] at hm ⊢
  clear hl' hn h16
  obtain ⟨k0, k1, k2, k3, k4, k5, k6, k7⟩ := cbox_cells (k := 2) rc
  obtain ⟨a0, a1, y0, y1⟩ := pair_cells ra
  obtain ⟨s0, s1, q0, q1⟩ := pair_cells rr
  obtain ⟨t0, t1, v0', v1'⟩ := pair_cells rz
  go_wp2_with fail
  clear k0 k1 k2 k3 k4 k5 k6 k7 a0 a1 y0 y1 s0 s1 q0 q1 t0 t1 v0' v1'
  replace f0 := pair_fr (p := w.heap.size + 1) (.int .u32 (x : Int)) (.int .i64 (l' : Int)) f0 (Or.inl (by omega))
  replace rc := pair_other rc (p' := w.heap.size + 1) (by omega) (.int .u32 (x : Int)) (.int .i64 (l' : Int))
  replace rr := pair_other rr (p' := w.heap.size + 1) (by omega) (.int .u32 (x : Int)) (.int .i64 (l' : Int))
  replace rz := pair_other rz (p' := w.heap.size + 1) (by omega) (.int .u32 (x : Int)) (.int .i64 (l' : Int))
  replace ra := pair_set ra (.int .u32 (x : Int)) (.int .i64 (l' : Int))
  replace h0 := h0.keep (pair_fr (S := at' (w.heap.size + 1)) (p := w.heap.size + 1) (.int .u32 (x : Int)) (.int .i64 (l' : Int)) (Fr.refl _ _) (Or.inr rfl)) (fun k hk e => HB.out (w.heap.size + 1) (by omega) (e ▸ hk))
  refine (take_ok _ x l' m hx hm h16').mono ?_
  rintro e w2 ⟨rfl, f1⟩
  replace rc := rc.keep f1 (fun h => h)
  replace ra := ra.keep f1 (fun h => h)
  replace rr := rr.keep f1 (fun h => h)
  replace rz := rz.keep f1 (fun h => h)
  replace h0 := h0.keep0 f1
  replace f0 := f0.trans f1
  clear f1
  rw [← hl2]
  clear hl2 hm h16'
  rw [hU]
  clear hU
  obtain ⟨k0, k1, k2, k3, k4, k5, k6, k7⟩ := cbox_cells (k := 2) rc
  obtain ⟨a0, a1, y0, y1⟩ := pair_cells ra
  obtain ⟨s0, s1, q0, q1⟩ := pair_cells rr
  obtain ⟨t0, t1, v0', v1'⟩ := pair_cells rz
  go_upto_region 7 with fail
  clear k0 k1 k2 k3 k4 k5 k6 k7 a0 a1 y0 y1 s0 s1 q0 q1 t0 t1 v0' v1'
  replace f0 := pair_fr (p := w.heap.size + 1) (.int .u32 (x : Int)) (.int .i64 (l2 : Int)) f0 (Or.inl (by omega))
  replace rc := pair_other rc (p' := w.heap.size + 1) (by omega) (.int .u32 (x : Int)) (.int .i64 (l2 : Int))
  replace rr := pair_other rr (p' := w.heap.size + 1) (by omega) (.int .u32 (x : Int)) (.int .i64 (l2 : Int))
  replace rz := pair_other rz (p' := w.heap.size + 1) (by omega) (.int .u32 (x : Int)) (.int .i64 (l2 : Int))
  replace ra := pair_set ra (.int .u32 (x : Int)) (.int .i64 (l2 : Int))
  replace h0 := h0.keep (pair_fr (S := at' (w.heap.size + 1)) (p := w.heap.size + 1) (.int .u32 (x : Int)) (.int .i64 (l2 : Int)) (Fr.refl _ _) (Or.inr rfl)) (fun k hk e => HB.out (w.heap.size + 1) (by omega) (e ▸ hk))
  obtain ⟨v2, hv2⟩ : ∃ v2, v2 = pput w2 (w.heap.size + 1) (.int .u32 (x : Int)) (.int .i64 (l2 : Int)) := ⟨_, rfl⟩
  rw [← hv2] at rc ra rr rz h0 f0
  change Code.wp _ _ _ _ (pput w2 (w.heap.size + 1) (.int .u32 (x : Int)) (.int .i64 (l2 : Int)))
  rw [← hv2]
  clear hv2
  obtain ⟨k0, k1, k2, k3, k4, k5, k6, k7⟩ := cbox_cells (k := 2) rc
  obtain ⟨a0, a1, y0, y1⟩ := pair_cells ra
  obtain ⟨s0, s1, q0, q1⟩ := pair_cells rr
  obtain ⟨t0, t1, v0', v1'⟩ := pair_cells rz
  have hq := fun n => radix_any (v2.drewN n) p L (h0.keep0 (fr_drewN v2 n)) o ho
  have t2 : (radS L o != (m : Int)) = false := by simpa using hr
  generalize radS L o = R at *
  clear hr h0
  have HR : Hid (∀ q, Row ((pput (pput (v2.drewN q) (w.heap.size + 1 + 1) (.int .i64 o) (.int .i64 U)) (w.heap.size + 1 + 1 + 1) (.int .u32 (x : Int)) (.int .i64 (l2 : Int)))) (w.heap.size + 1 + 1) #[.int .i64 o, .int .i64 U] 32 ∧ Row ((pput (pput (v2.drewN q) (w.heap.size + 1 + 1) (.int .i64 o) (.int .i64 U)) (w.heap.size + 1 + 1 + 1) (.int .u32 (x : Int)) (.int .i64 (l2 : Int)))) (w.heap.size + 1 + 1 + 1) #[.int .u32 (x : Int), .int .i64 (l2 : Int)] 76 ∧ Fr none' w ((pput (pput (v2.drewN q) (w.heap.size + 1 + 1) (.int .i64 o) (.int .i64 U)) (w.heap.size + 1 + 1 + 1) (.int .u32 (x : Int)) (.int .i64 (l2 : Int))))) := fun q =>
    ⟨(pair_other (pair_set (rr.keep (fr_drewN v2 q) (fun h => h)) _ _) (by omega) _ _), (pair_set (pair_other (rz.keep (fr_drewN v2 q) (fun h => h)) (by omega) _ _) _ _), (pair_fr _ _ (pair_fr _ _ (f0.trans (fr_drewN v2 q)) (Or.inl (by omega))) (Or.inl (by omega)))⟩
  clear rc ra rr rz f0
  go_quiet (first | (go_at_call 15; refine Calls.quiet_of_same (hq _)))
  go_wp2_with fail
  go_region
  all_goals go_wp2_with fail
  all_goals (refine bodyPost_ret (ret_step rfl rfl (HR.out _).1 rfl rfl (HR.out _).2.1 rfl) rfl ?_; exact ⟨rfl, (HR.out _).2.2⟩)

theorem right_cn {c : K} (h : rightC c = true) (hk : c.k = 2) : (0 ≤ c.o ∧ c.o ≤ 1023) ∧ (1 ≤ c.x ∧ c.x ≤ 4) ∧ (0 ≤ c.n ∧ c.n ≤ 16) ∧ 0 ≤ c.g ∧ c.g < 2 ^ c.n.toNat := by
  have hb := right_bounds h
  unfold rightC at h
  rw [hk] at h
  simp [gOk] at h
  obtain ⟨_, _, _, _, h1, h2⟩ := h
  exact ⟨by omega, h1, by omega, h2.2.2⟩

theorem step_bad (w : World) (p : Pb) (L : List Nd) (h : IsP w p L) (c : K) (hc : rightC c = true) (hk : c.k = 2) (x l : Nat) (hx : x < 4294967296) (h16 : l ≤ 16) (E : Int) (hE : stepE L c x l = E) (h0 : E ≠ 0) :
    Calls Try.prog 40 #[.pointer (some ⟨p.b, 0, none⟩), .agg (capV c), .agg #[.int .u32 (x : Int), .int .i64 (l : Int)]] w fun e w' => e = .returned (.tuple #[.agg #[.int .i64 0, .int .i64 0], .agg #[.int .u32 0, .int .i64 0], .int .i64 E]) ∧ Fr none' w w' := by
  obtain ⟨ho, hX, hn, _⟩ := right_cn hc hk
  obtain ⟨k, o, r, b, m, g, n, d⟩ := c
  dsimp only at hk ho hX hn
  subst hk
  obtain ⟨m, rfl⟩ := Int.eq_ofNat_of_zero_le (show 0 ≤ m by omega)
  obtain ⟨n, rfl⟩ := Int.eq_ofNat_of_zero_le hn.1
  have hI : I64 o := by unfold I64; omega
  unfold stepE at hE
  dsimp only at hE
  simp only [Int.toNat_natCast] at hE
  split at hE
  · subst hE
    exact step_a w p L h o r b g m n d x l (by simp; omega)
  split at hE
  · subst hE
    exact step_b w p L h o r b g m n d x l hx h16 (by omega) (by assumption)
  rename_i g1 g2
  have g2' : ((bitV x (l - n) n : Nat) : Int) = g := by simpa using g2
  split at hE
  · subst hE
    exact step_c w p L h o r b g m n d x l hx h16 (by omega) g2' (by simp; omega)
  split at hE
  · subst hE
    exact step_d w p L h o r b g m n d x l hx h16 hI (by omega) g2' (by omega) (by assumption)
  · exact absurd hE.symm h0

theorem step_good (w : World) (p : Pb) (L : List Nd) (h : IsP w p L) (c : K) (hc : rightC c = true) (hk : c.k = 2) (x l : Nat) (hx : x < 4294967296) (h16 : l ≤ 16) (hE : stepE L c x l = 0) :
    Calls Try.prog 40 #[.pointer (some ⟨p.b, 0, none⟩), .agg (capV c), .agg #[.int .u32 (x : Int), .int .i64 (l : Int)]] w fun e w' => e = .returned (.tuple #[.agg #[.int .i64 (stepA c x l).n, .int .i64 (stepA c x l).i], .agg #[.int .u32 (x : Int), .int .i64 ((stepL c l : Nat) : Int)], .int .i64 0]) ∧ Fr none' w w' := by
  obtain ⟨e1, e2, e3, e4⟩ := stepE_zero hE
  obtain ⟨ho, hX, hn, _⟩ := right_cn hc hk
  obtain ⟨k, o, r, b, m, g, n, d⟩ := c
  dsimp only at hk ho hX hn e1 e2 e3 e4
  subst hk
  obtain ⟨m, rfl⟩ := Int.eq_ofNat_of_zero_le (show 0 ≤ m by omega)
  obtain ⟨n, rfl⟩ := Int.eq_ofNat_of_zero_le hn.1
  simp only [Int.toNat_natCast] at e1 e2 e3
  exact step_e w p L h o r b g m n d x l hx h16 (by unfold I64; omega) e1 e2 e3 e4 (l - n) (l - n - m) _ rfl rfl rfl


end Go.Proofs.Ytibdkadojoeopaa
