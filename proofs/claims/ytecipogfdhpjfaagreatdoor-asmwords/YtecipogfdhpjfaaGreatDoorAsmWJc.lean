/-
  AsmWords over the translation: whatever source came in, the law returns true, and nothing old turns. No statement is proved here.
-/
import Derived.Test.YtecipogfdhpjfaaGreatDoorAsmWJb
import Derived.Deep.CutBlock
import Derived.Deep.RegionWith
import Derived.Deep.CutRange
import Derived.Test.YtecipogfdhpjfaaGreatDoorIsaRef
import Derived.Below
/- AsmRefN -/
namespace Go.Proofs.YtecipogfdhpjfaaGreatDoor
open Go.RowKit

/-- A line as a value. -/
def lnA (y : Ln6) : Value := .agg (lnR y).toArray
/-- Does a label stand first? -/
def isLab : List Tok → Bool
  | .nm _ :: .sg c :: _ => c == 58
  | _ => false
theorem readT_no (l : List Tok) (h : isLab l = false) : readT l = itemT [] l := by
  unfold readT
  split
  · simp [isLab] at h
  · rfl
theorem isLab_yes (l : List Tok) (h : isLab l = true) : ∃ s r, l = .nm s :: .sg 58 :: r := by
  unfold isLab at h
  split at h
  · rename_i s c r
    obtain rfl : c = 58 := by simpa using h
    exact ⟨s, r, rfl⟩
  · cases h
def y0 : Ln6 := ⟨[], 0, 0, 0, 0, 0, 0, [], 0⟩
def cellsY (y : Ln6) : Array Value := #[.string ⟨y.lab.toArray⟩, .bool (decide (y.k ≠ 0)), .int .i64 y.o, .int .i64 y.a, .int .i64 y.b, .int .i64 y.c, .int .i64 y.i, .string ⟨y.nm.toArray⟩, .bool (decide (y.k = 2)), .int .i64 (y.n : Int)]

/-- Tokens from a cell on. -/
def TkF (W : World) (g o : Nat) (l : List Tok) : Prop := ∀ i t, l[i]? = some t → ∀ q, q < 3 → W.cell? ⟨g, o + i * 3 + q, none⟩ = (tokC t)[q]?
theorem TkF.keep {S : Nat → Prop} {W W' : World} {g o : Nat} {l : List Tok} (h : TkF W g o l) (f : Fr S W W') (hs : ¬ S g) : TkF W' g o l := fun i t hi q hq => by
  have h1 := h i t hi q hq
  have h2 : q < (tokC t).length := by rw [tokC_len]; exact hq
  rw [List.getElem?_eq_getElem h2] at h1 ⊢
  exact cell_keep f h1 hs
theorem TkF.set {W : World} {g o : Nat} {l : List Tok} (h : TkF W g o l) {p : Addr} (hp : p.block ≠ g) (v : Value) : TkF (W.setCell p v) g o l := fun i t hi q hq => by
  rw [World.cell?_setCell_far _ _ _ _ hp]
  exact h i t hi q hq
theorem itemT_none (lab s : List UInt8) (r : List Tok) (h : opOf s = 0) : itemT lab (.nm s :: r) = (61, ⟨lab, 0, 0, 0, 0, 0, 0, [], 0⟩) := by
  show (if opOf s = 0 then _ else _) = _
  rw [if_pos h]
theorem itemT_w1 (lab s : List UInt8) (n : Nat) (h : opOf s < 0) : itemT lab [.nm s, .num n] = if 4294967295 < n then (63, ⟨lab, 2, 0, 0, 0, 0, 0, [], 0⟩) else (0, ⟨lab, 2, 0, 0, 0, 0, 0, [], n⟩) := by
  show (if opOf s = 0 then _ else if opOf s < 0 then (if 4294967295 < n then _ else _) else _) = _
  rw [if_neg (by omega), if_pos h]
theorem itemT_w0 (lab s : List UInt8) (r : List Tok) (h : opOf s < 0) (hr : ∀ n, r ≠ [.num n]) : itemT lab (.nm s :: r) = (61, ⟨lab, 2, 0, 0, 0, 0, 0, [], 0⟩) := by
  have key : ∀ x y : Nat × Ln6, (if opOf s = 0 then x else if opOf s < 0 then (61, ⟨lab, 2, 0, 0, 0, 0, 0, [], 0⟩) else y) = (61, ⟨lab, 2, 0, 0, 0, 0, 0, [], 0⟩) := fun x y => by rw [if_neg (by omega), if_pos h]
  match r, hr with
  | [], _ => exact key _ _
  | [.sg _], _ => exact key _ _
  | [.reg _], _ => exact key _ _
  | [.nm _], _ => exact key _ _
  | [.num n], hr => exact absurd rfl (hr n)
  | .sg _ :: _ :: _, _ => exact key _ _
  | .reg _ :: _ :: _, _ => exact key _ _
  | .nm _ :: _ :: _, _ => exact key _ _
  | .num _ :: _ :: _, _ => exact key _ _
theorem itemT_ins (lab s : List UInt8) (r : List Tok) (h : 0 < opOf s) : itemT lab (.nm s :: r) = opersT (shapeB (opOf s)) r ⟨lab, 1, opOf s, 0, 0, 0, 0, [], 0⟩ 0 := by
  show (if opOf s = 0 then _ else if opOf s < 0 then _ else _) = _
  rw [if_neg (by omega), if_neg (by omega)]

/-- What read answers. -/
def RdOut (w : World) (z : Nat × Ln6) (e : Ending) (w' : World) : Prop := ∃ y : Ln6, e = .returned (.tuple #[lnA y, .int .i64 (z.1 : Int)]) ∧ Fr none' w w' ∧ (z.1 = 0 → y = z.2)
def put10 (W : World) (g : Nat) (v0 v1 v2 v3 v4 v5 v6 v7 v8 v9 : Value) : World := ((((((((((W.setCell ⟨g, 0, none⟩ v0).setCell ⟨g, 1, none⟩ v1).setCell ⟨g, 2, none⟩ v2).setCell ⟨g, 3, none⟩ v3).setCell ⟨g, 4, none⟩ v4).setCell ⟨g, 5, none⟩ v5).setCell ⟨g, 6, none⟩ v6).setCell ⟨g, 7, none⟩ v7).setCell ⟨g, 8, none⟩ v8).setCell ⟨g, 9, none⟩ v9)
theorem put10_row {W : World} {g : Nat} {c0 c1 c2 c3 c4 c5 c6 c7 c8 c9 : Value} (r : Row W g #[c0, c1, c2, c3, c4, c5, c6, c7, c8, c9] 48) (v0 v1 v2 v3 v4 v5 v6 v7 v8 v9 : Value) : Row (put10 W g v0 v1 v2 v3 v4 v5 v6 v7 v8 v9) g #[v0, v1, v2, v3, v4, v5, v6, v7, v8, v9] 48 := by
  have h := ((((((((((r.setCell 0 v0).setCell 1 v1).setCell 2 v2).setCell 3 v3).setCell 4 v4).setCell 5 v5).setCell 6 v6).setCell 7 v7).setCell 8 v8).setCell 9 v9)
  simp only [List.setIfInBounds_toArray, List.set_cons_zero, List.set_cons_succ] at h
  exact h
theorem put10_fr {w W : World} {g : Nat} (f : Fr none' w W) (hl : w.heap.size ≤ g) (v0 v1 v2 v3 v4 v5 v6 v7 v8 v9 : Value) : Fr none' w (put10 W g v0 v1 v2 v3 v4 v5 v6 v7 v8 v9) := ((((((((((f.setCell (p := ⟨g, 0, none⟩) (Or.inl hl) v0).setCell (p := ⟨g, 1, none⟩) (Or.inl hl) v1).setCell (p := ⟨g, 2, none⟩) (Or.inl hl) v2).setCell (p := ⟨g, 3, none⟩) (Or.inl hl) v3).setCell (p := ⟨g, 4, none⟩) (Or.inl hl) v4).setCell (p := ⟨g, 5, none⟩) (Or.inl hl) v5).setCell (p := ⟨g, 6, none⟩) (Or.inl hl) v6).setCell (p := ⟨g, 7, none⟩) (Or.inl hl) v7).setCell (p := ⟨g, 8, none⟩) (Or.inl hl) v8).setCell (p := ⟨g, 9, none⟩) (Or.inl hl) v9)
theorem size_ln6 : (Tryz.prog.info? 48).map (·.size) = some 10 := by kernel_rfl
theorem ret_ln6 {fn : Func} {p u : Tmp} {tmps : Array Value} {g : Nat} {cs : Array Value} {w : World} (h : fn.results = #[.cell p 48, .tmp u]) (hp : tmps.getD p undef = .pointer (some ⟨g, 0, none⟩)) (hr : Row w g cs 48) (hs : cs.size = 10) :
    (results fn tmps).run Tryz.prog w = .ok (.tuple #[.agg cs, tmps.getD u undef]) w := by
  rw [results_cell_tmp h, hp]
  simp only [asAddr, Sem.run_pure, Result.andThen]
  rw [run_loadVar_row w g _ 48 cs (0, 0) _ hr Tryz.underlying48 rfl (by rw [hs]; exact size_ln6)]
theorem ends10 {W : World} {gX gR : Nat} {v0 v1 v2 v3 v4 v5 v6 v7 v8 v9 c0 c1 c2 c3 c4 c5 c6 c7 c8 c9 : Value} (rX : Row W gX #[v0, v1, v2, v3, v4, v5, v6, v7, v8, v9] 48) (rR : Row W gR #[c0, c1, c2, c3, c4, c5, c6, c7, c8, c9] 48) :
    W.cell? ⟨gX, 0, none⟩ = some v0 ∧ W.cell? ⟨gX, 1, none⟩ = some v1 ∧ W.cell? ⟨gX, 2, none⟩ = some v2 ∧ W.cell? ⟨gX, 3, none⟩ = some v3 ∧ W.cell? ⟨gX, 4, none⟩ = some v4 ∧ W.cell? ⟨gX, 5, none⟩ = some v5 ∧ W.cell? ⟨gX, 6, none⟩ = some v6 ∧ W.cell? ⟨gX, 7, none⟩ = some v7 ∧ W.cell? ⟨gX, 8, none⟩ = some v8 ∧ W.cell? ⟨gX, 9, none⟩ = some v9 ∧ W.cell? ⟨gR, 0, none⟩ = some c0 ∧ W.cell? ⟨gR, 1, none⟩ = some c1 ∧ W.cell? ⟨gR, 2, none⟩ = some c2 ∧ W.cell? ⟨gR, 3, none⟩ = some c3 ∧ W.cell? ⟨gR, 4, none⟩ = some c4 ∧ W.cell? ⟨gR, 5, none⟩ = some c5 ∧ W.cell? ⟨gR, 6, none⟩ = some c6 ∧ W.cell? ⟨gR, 7, none⟩ = some c7 ∧ W.cell? ⟨gR, 8, none⟩ = some c8 ∧ W.cell? ⟨gR, 9, none⟩ = some c9 ∧ W.frozen? ⟨gR, 0, none⟩ = false ∧ W.frozen? ⟨gR, 1, none⟩ = false ∧ W.frozen? ⟨gR, 2, none⟩ = false ∧ W.frozen? ⟨gR, 3, none⟩ = false ∧ W.frozen? ⟨gR, 4, none⟩ = false ∧ W.frozen? ⟨gR, 5, none⟩ = false ∧ W.frozen? ⟨gR, 6, none⟩ = false ∧ W.frozen? ⟨gR, 7, none⟩ = false ∧ W.frozen? ⟨gR, 8, none⟩ = false ∧ W.frozen? ⟨gR, 9, none⟩ = false :=
  ⟨rX.cell 0, rX.cell 1, rX.cell 2, rX.cell 3, rX.cell 4, rX.cell 5, rX.cell 6, rX.cell 7, rX.cell 8, rX.cell 9, rR.cell 0, rR.cell 1, rR.cell 2, rR.cell 3, rR.cell 4, rR.cell 5, rR.cell 6, rR.cell 7, rR.cell 8, rR.cell 9, rR.frozen 0, rR.frozen 1, rR.frozen 2, rR.frozen 3, rR.frozen 4, rR.frozen 5, rR.frozen 6, rR.frozen 7, rR.frozen 8, rR.frozen 9⟩

theorem tokC_form (t : Tok) : ∃ (k : Int) (s : ByteArray) (n : Int), tokC t = [.int .i64 k, .string s, .int .i64 n] ∧ tokR t = .agg #[.int .i64 k, .string s, .int .i64 n] := by
  cases t <;> exact ⟨_, _, _, rfl, rfl⟩
/-- Where the loop over an instruction's signs stands: j of them are read. -/
structure Lp6 (w wr : World) (gR gX g o : Nat) (l : List Tok) (cs : List UInt8) (r : List Tok) (z : Nat × Ln6) (j e : Nat) : Prop where
  ex : ∃ y : Ln6, y.k = 1 ∧ Row wr gX (lnY y) 48 ∧ z = opersT (cs.drop j) (r.drop j) y e
  rR : Row wr gR (cellsY y0) 48
  fr : Fr none' w wr
  tk : TkF wr g o l

theorem lone6 {w W W' : World} {g : Nat} (f : Fr none' w W) (h : Fr (at' g) W W') (hg : w.heap.size ≤ g) : Fr none' w W' :=
  ⟨h.os.trans f.os, h.tape.trans f.tape, h.output.trans f.output, Nat.le_trans f.size h.size, fun i hi hn => (h.block i (Nat.lt_of_lt_of_le hi f.size) (fun e => by have e : i = g := e; omega)).trans (f.block i hi hn)⟩
/-- Behind one sign. -/
structure Lq6 (w wx : World) (gR gX g o : Nat) (l : List Tok) (y : Ln6) : Prop where
  rX : Row wx gX (lnY y) 48
  rR : Row wx gR (cellsY y0) 48
  fr : Fr none' w wx
  tk : TkF wx g o l
theorem Lp6.after {w wr wx : World} {gR gX g o : Nat} {l : List Tok} {cs : List UInt8} {r : List Tok} {z : Nat × Ln6} {j e : Nat} {y : Ln6} (h : Lp6 w wr gR gX g o l cs r z j e) (f : Fr (at' gX) wr.drew wx) (rX : Row wx gX (lnY y) 48) (hX : w.heap.size ≤ gX) (h1 : gX ≠ gR) (h2 : gX ≠ g) : Lq6 w wx gR gX g o l y :=
  ⟨rX, (h.rR.keep (Fr.refl none' wr).drew (fun h => h)).keep f (fun e => h1 e.symm), lone6 (h.fr.trans (Fr.refl none' wr).drew) f hX, (h.tk.keep (Fr.refl none' wr).drew (fun h => h)).keep f (fun e => h2 e.symm)⟩

/-- Where read stands behind the label. -/
structure RdAt (w W : World) (gR gX : Nat) (l : List Tok) (lab : List UInt8) (a : Option Addr) (r : List Tok) : Prop where
  fr : Fr none' w W
  lR : w.heap.size ≤ gR
  lX : w.heap.size ≤ gX
  ne : gR ≠ gX
  rR : Row W gR (cellsY y0) 48
  rX : Row W gX (cellsY ⟨lab, 0, 0, 0, 0, 0, 0, [], 0⟩) 48
  tk : r ≠ [] → ∃ g o, a = some ⟨g, o, none⟩ ∧ g < w.heap.size ∧ TkF W g o r
  eq : readT l = itemT lab r

set_option maxRecDepth 100000 in
set_option maxHeartbeats 4000000 in
theorem read_ref (w : World) (B : Nat) (v : Value) (l : List Tok) (h : TkS w B v l) (hl : l.length ≤ 10000) :
    Calls Tryz.prog 15 #[v] w (RdOut w (readT l)) := by
  obtain ⟨a, cap, rfl, hcap, hc⟩ := h.cells
  have HC := hid' hc
  obtain ⟨N, hN⟩ : ∃ N, N = l.length := ⟨_, rfl⟩
  have HN := hid' hN
  rw [← hN] at hl hcap ⊢
  obtain ⟨z, hz⟩ : ∃ z, z = readT l := ⟨_, rfl⟩
  have HZ := hid' hz
  rw [← hz]
  clear h hc hN hz
  obtain ⟨b, hb⟩ : ∃ b, b = isLab l := ⟨_, rfl⟩
  have HB := hid' hb
  clear hb
  have f0 := ((Fr.refl none' w).alloc (.cells (cellsY y0) 48)).alloc (.cells (cellsY y0) 48)
  have rR := (row_alloc w (cellsY y0) 48).alloc (.cells (cellsY y0) 48)
  have rX := row_alloc (w.alloc (.cells (cellsY y0) 48)) (cellsY y0) 48
  go_enter Tryz.func15, Tryz.ntmps15
  go_upto_region 2 with fail
  have hsz : (w.alloc (.cells (cellsY y0) 48)).heap.size = w.heap.size + 1 := by simp
  rw [hsz] at rX
  change Fr none' w ((w.alloc (.cells #[.string ⟨#[]⟩, .bool false, .int .i64 0, .int .i64 0, .int .i64 0, .int .i64 0, .int .i64 0, .string ⟨#[]⟩, .bool false, .int .i64 0] 48)).alloc (.cells #[.string ⟨#[]⟩, .bool false, .int .i64 0, .int .i64 0, .int .i64 0, .int .i64 0, .int .i64 0, .string ⟨#[]⟩, .bool false, .int .i64 0] 48)) at f0
  change Row ((w.alloc (.cells #[.string ⟨#[]⟩, .bool false, .int .i64 0, .int .i64 0, .int .i64 0, .int .i64 0, .int .i64 0, .string ⟨#[]⟩, .bool false, .int .i64 0] 48)).alloc (.cells #[.string ⟨#[]⟩, .bool false, .int .i64 0, .int .i64 0, .int .i64 0, .int .i64 0, .int .i64 0, .string ⟨#[]⟩, .bool false, .int .i64 0] 48)) _ _ _ at rR rX
  generalize (w.alloc (.cells #[.string ⟨#[]⟩, .bool false, .int .i64 0, .int .i64 0, .int .i64 0, .int .i64 0, .int .i64 0, .string ⟨#[]⟩, .bool false, .int .i64 0] 48)).alloc (.cells #[.string ⟨#[]⟩, .bool false, .int .i64 0, .int .i64 0, .int .i64 0, .int .i64 0, .int .i64 0, .string ⟨#[]⟩, .bool false, .int .i64 0] 48) = W at *
  have HK := hid' (HC.out.keep f0)
  obtain ⟨gR, hgR⟩ : ∃ gR, gR = w.heap.size := ⟨_, rfl⟩
  obtain ⟨gX, hgX⟩ : ∃ gX, gX = w.heap.size + 1 := ⟨_, rfl⟩
  rw [← hgX] at rX ⊢
  rw [← hgR] at rR ⊢
  have HG := hid' (⟨hgR, hgX⟩ : _ ∧ _)
  have HF := hid' f0
  clear hgR hgX f0 hsz
  go_cut [35] from 12 to 34 (fun s wx => s = .bool b ∧ wx = W)
  case first =>
    match l, HN, HB, HK with
    | [], HN, HB, HK =>
      obtain rfl : N = 0 := HN.out
      obtain rfl : b = false := HB.out
      go_wp2_with fail
      go_meet
      exact ⟨rfl, rfl⟩
    | [t], HN, HB, HK =>
      obtain rfl : N = 1 := HN.out
      obtain rfl : b = false := by rw [HB.out]; cases t <;> rfl
      go_wp2_with fail
      go_meet
      exact ⟨rfl, rfl⟩
    | t0 :: t1 :: r, HN, HB, HK =>
      have i1 : (1 : Int) < (N : Int) := by have := HN.out; simp at this; omega
      have i0 : (0 : Int) < (N : Int) := by omega
      have v1 : decide ((1 : Int) < (N : Int)) = true := decide_eq_true i1
      have j1 : 1 < N := by omega
      have j0 : 0 < N := by omega
      have v2 : decide (1 < N) = true := decide_eq_true j1
      obtain ⟨g, rfl, hg, c0⟩ := HK.out 0 t0 rfl
      obtain ⟨g', e', hg', c1⟩ := HK.out 1 t1 rfl
      obtain rfl : g = g' := by simpa using e'
      have d0 := c0 0 (by omega)
      have d1 := c1 0 (by omega)
      have d2 := c1 1 (by omega)
      clear e' hg hg' c0 c1 HK
      simp only [Nat.zero_mul, Nat.one_mul, Nat.zero_add, Nat.add_zero] at d0 d1 d2
      cases t0 with
      | nm s =>
        cases t1 with
        | sg c =>
          have d0' : W.cell? ⟨g, 0, none⟩ = some (.int .i64 4) := d0
          have d1' : W.cell? ⟨g, 3, none⟩ = some (.int .i64 1) := d1
          have d2' : W.cell? ⟨g, 4, none⟩ = some (.string ⟨[c].toArray⟩) := d2
          obtain ⟨tt, htt⟩ : ∃ tt : ByteArray, tt = ⟨[c].toArray⟩ := ⟨_, rfl⟩
          rw [← htt] at d2'
          have ue : (tt.toList == [58]) = b := by rw [HB.out, htt, ByteArray.toList_eq]; simp [isLab]
          clear d0 d1 d2 htt HB
          cases b <;> go_wp2_with fail
          all_goals (go_meet; exact ⟨rfl, rfl⟩)
        | num n =>
          have d0' : W.cell? ⟨g, 0, none⟩ = some (.int .i64 4) := d0
          have d1' : W.cell? ⟨g, 3, none⟩ = some (.int .i64 2) := d1
          obtain rfl : b = false := HB.out
          clear d0 d1 d2
          go_wp2_with fail
          go_meet
          exact ⟨rfl, rfl⟩
        | reg n =>
          have d0' : W.cell? ⟨g, 0, none⟩ = some (.int .i64 4) := d0
          have d1' : W.cell? ⟨g, 3, none⟩ = some (.int .i64 3) := d1
          obtain rfl : b = false := HB.out
          clear d0 d1 d2
          go_wp2_with fail
          go_meet
          exact ⟨rfl, rfl⟩
        | nm n =>
          have d0' : W.cell? ⟨g, 0, none⟩ = some (.int .i64 4) := d0
          have d1' : W.cell? ⟨g, 3, none⟩ = some (.int .i64 4) := d1
          obtain rfl : b = false := HB.out
          clear d0 d1 d2
          go_wp2_with fail
          go_meet
          exact ⟨rfl, rfl⟩
      | sg s =>
        have d0' : W.cell? ⟨g, 0, none⟩ = some (.int .i64 1) := d0
        obtain rfl : b = false := HB.out
        clear d0 d1 d2
        go_wp2_with fail
        go_meet
        exact ⟨rfl, rfl⟩
      | num s =>
        have d0' : W.cell? ⟨g, 0, none⟩ = some (.int .i64 2) := d0
        obtain rfl : b = false := HB.out
        clear d0 d1 d2
        go_wp2_with fail
        go_meet
        exact ⟨rfl, rfl⟩
      | reg s =>
        have d0' : W.cell? ⟨g, 0, none⟩ = some (.int .i64 3) := d0
        obtain rfl : b = false := HB.out
        clear d0 d1 d2
        go_wp2_with fail
        go_meet
        exact ⟨rfl, rfl⟩
  case rest =>
    obtain ⟨rfl, rfl⟩ := hcut
    go_upto_if 35 with fail
    go_cut [0, 5] from 36 to 48 (fun s _ wx => ∃ (a' : Option Addr) (M cap' : Nat), s = .slice a' M cap' ∧ M ≤ cap' ∧ M ≤ 10000 ∧ Hid (∃ lab r, M = r.length ∧ RdAt w wx gR gX l lab a' r))
    case first =>
      cases b with
      | false =>
        go_wp2_with fail
        go_meet
        refine ⟨a, N, cap, rfl, hcap, hl, hid' ⟨[], l, HN.out, HF.out, ?_, ?_, ?_, rR, rX, ?_, readT_no l HB.out.symm⟩⟩
        · have := HG.out; omega
        · have := HG.out; omega
        · have := HG.out; omega
        · intro hne
          obtain ⟨t, r, rfl⟩ := List.exists_cons_of_ne_nil hne
          obtain ⟨g, e, hg, _⟩ := HC.out 0 t rfl
          refine ⟨g, 0, e, hg, fun i t' hi q hq => ?_⟩
          obtain ⟨g', e', _, hc⟩ := HK.out i t' hi
          obtain rfl : g = g' := by rw [e] at e'; simpa using e'
          exact hc q hq
      | true =>
        obtain ⟨s, r, rfl⟩ := isLab_yes l HB.out.symm
        have hN : N = r.length + 2 := HN.out
        have i0 : (0 : Int) < (N : Int) := by omega
        have i2 : (2 : Int) ≤ (N : Int) := by omega
        have j0 : 0 < N := by omega
        have j2 : 2 ≤ N := by omega
        have i2' : (0 : Int) ≤ 2 := by omega
        obtain ⟨g, rfl, hg, c0⟩ := HK.out 0 _ rfl
        have d1 : wc.cell? ⟨g, 1, none⟩ = some (.string ⟨s.toArray⟩) := c0 1 (by omega)
        obtain ⟨tt, htt⟩ : ∃ tt : ByteArray, tt = ⟨s.toArray⟩ := ⟨_, rfl⟩
        have HT := hid' htt
        rw [← htt] at d1
        have HO := fun w => operation_ref tt w
        have e1 : tt.data.toList = s := by rw [htt]
        rw [e1] at HO
        have xl0 : wc.cell? ⟨gX, 0, none⟩ = some (.string ⟨#[]⟩) := rX.cell 0
        have xz0 := rX.frozen 0
        have rX1 := rX.setCell 0 (.string tt)
        have rR1 := rR.setCell_other (p := ⟨gX, 0, none⟩) (by have := HG.out; show gX ≠ gR; omega) (.string tt)
        have F1 := HF.out.setCell (p := ⟨gX, 0, none⟩) (Or.inl (by have := HG.out; show w.heap.size ≤ gX; omega)) (.string tt)
        have HR1 := hid' (⟨rX1, rR1, F1⟩ : _ ∧ _ ∧ _)
        have hK1 : ∀ i t, r[i]? = some t → ∀ q, q < 3 → (wc.setCell ⟨gX, 0, none⟩ (.string tt)).cell? ⟨g, 6 + i * 3 + q, none⟩ = (tokC t)[q]? := fun i t hi q hq => by
          obtain ⟨g', e', hg', cc⟩ := HK.out (i + 2) t (by simpa using hi)
          obtain rfl : g = g' := by simpa using e'
          have h3 := cc q hq
          obtain ⟨g', e2, hg2, _⟩ := HC.out 0 _ rfl
          obtain rfl : g = g' := by simpa using e2
          have hne : gX ≠ g := by have := HG.out; omega
          rw [World.cell?_setCell_far _ _ _ _ hne]
          rw [show 6 + i * 3 + q = 0 + (i + 2) * 3 + q by omega]
          exact h3
        have HK1 := hid' hK1
        have HGL := hid' (show g < w.heap.size from by
          obtain ⟨g', e2, hg2, _⟩ := HC.out 0 _ rfl
          obtain rfl : g = g' := by simpa using e2
          exact hg2)
        clear htt e1 c0 rX1 rR1 F1 hK1
        go_wp2_with fail
        refine (HO _).mono ?_
        rintro e w2 ⟨rfl, f2⟩
        obtain ⟨rX1, rR1, F1⟩ := HR1.out
        have qX := rX1.keep f2 (fun h => h)
        have qR := rR1.keep f2 (fun h => h)
        have HF2 := hid' (F1.trans f2)
        have HK2 := hid' (show TkF w2 g 6 r from (show TkF _ g 6 r from HK1.out).keep f2 (fun h => h))
        have HRD := hid' (show readT (.nm s :: .sg 58 :: r) = itemT s r → ∀ a', (r ≠ [] → ∃ g o, a' = some ⟨g, o, none⟩ ∧ g < w.heap.size ∧ TkF w2 g o r) → RdAt w w2 gR gX (.nm s :: .sg 58 :: r) s a' r from fun e a' ht => ⟨HF2.out, by have := HG.out; omega, by have := HG.out; omega, by have := HG.out; omega, qR, by have := HT.out; subst this; exact qX, ht, e⟩)
        clear rX1 rR1 F1 HR1 f2 HO xl0 xz0 d1 HK1
        by_cases ho : opOf s = 0
        · have uo : (opOf s != 0) = false := by simpa using ho
          have HE := hid' (show readT (.nm s :: .sg 58 :: r) = itemT s r by rw [readT, if_neg (fun h => h ho)])
          generalize opOf s = oq at *
          by_cases hc2 : cap = 2
          · subst hc2
            go_wp2_with fail
            go_meet
            have hr0 : r.length = 0 := by omega
            refine ⟨_, _, _, rfl, by omega, by omega, hid' ⟨s, r, rfl, HRD.out HE.out _ (fun hne => absurd (List.eq_nil_of_length_eq_zero hr0) hne)⟩⟩
          · go_wp2_with fail
            go_meet
            exact ⟨_, _, _, rfl, by omega, by omega, hid' ⟨s, r, rfl, HRD.out HE.out _ (fun _ => ⟨g, 6, rfl, HGL.out, HK2.out⟩)⟩⟩
        · have uo : (opOf s != 0) = true := by simpa using ho
          have hz : z = (61, ⟨s, 0, 0, 0, 0, 0, 0, [], 0⟩) := by rw [HZ.out, readT, if_pos ho]
          subst hz
          generalize opOf s = oq at *
          change Row w2 gX #[.string tt, .bool false, .int .i64 0, .int .i64 0, .int .i64 0, .int .i64 0, .int .i64 0, .string ⟨#[]⟩, .bool false, .int .i64 0] _ at qX
          change Row w2 gR #[.string ⟨#[]⟩, .bool false, .int .i64 0, .int .i64 0, .int .i64 0, .int .i64 0, .int .i64 0, .string ⟨#[]⟩, .bool false, .int .i64 0] _ at qR
          have HQ := hid' (⟨qX, qR⟩ : _ ∧ _)
          have nRX : gR ≠ gX := by have := HG.out; omega
          have nXR : gX ≠ gR := by have := HG.out; omega
          obtain ⟨x0, x1, x2, x3, x4, x5, x6, x7, x8, x9, q0, q1, q2, q3, q4, q5, q6, q7, q8, q9, z0, z1, z2, z3, z4, z5, z6, z7, z8, z9⟩ := ends10 qX qR
          clear qX qR
          go_wp2_with fail
          refine bodyPost_ret (ret_ln6 rfl rfl (put10_row HQ.out.2 _ _ _ _ _ _ _ _ _ _) rfl) rfl ?_
          exact ⟨⟨s, 0, 0, 0, 0, 0, 0, [], 0⟩, by rw [HT.out]; rfl, put10_fr HF2.out (by have := HG.out; omega) _ _ _ _ _ _ _ _ _ _, fun e => by cases e⟩
    case rest =>
      clear rR rX HK HC HN HB HF hl hcap
      obtain ⟨a', M, cap', rfl, hcap', hM, HR⟩ := hcut
      obtain ⟨lab, r, hMr, RD⟩ := HR.out
      have hz : z = itemT lab r := HZ.out.trans RD.eq
      obtain ⟨ll, hll⟩ : ∃ ll : ByteArray, ll = ⟨lab.toArray⟩ := ⟨_, rfl⟩
      have HLL := hid' hll
      have qX := RD.rX
      have qR := RD.rR
      change Row wc gX #[.string ⟨lab.toArray⟩, .bool false, .int .i64 0, .int .i64 0, .int .i64 0, .int .i64 0, .int .i64 0, .string ⟨#[]⟩, .bool false, .int .i64 0] _ at qX
      rw [← hll] at qX
      change Row wc gR #[.string ⟨#[]⟩, .bool false, .int .i64 0, .int .i64 0, .int .i64 0, .int .i64 0, .int .i64 0, .string ⟨#[]⟩, .bool false, .int .i64 0] _ at qR
      have HL := hid' (⟨RD.lR, RD.lX⟩ : _ ∧ _)
      have nRX : gR ≠ gX := RD.ne
      have nXR : gX ≠ gR := fun e => nRX e.symm
      have HF := hid' RD.fr
      have HT := hid' RD.tk
      clear HR RD hll HG HZ
      cases r with
      | nil =>
        obtain rfl : M = 0 := hMr
        subst hz
        have HQ := hid' (⟨qX, qR⟩ : _ ∧ _)
        obtain ⟨x0, x1, x2, x3, x4, x5, x6, x7, x8, x9, q0, q1, q2, q3, q4, q5, q6, q7, q8, q9, z0, z1, z2, z3, z4, z5, z6, z7, z8, z9⟩ := ends10 qX qR
        clear qX qR
        go_wp2_with fail
        refine bodyPost_ret (ret_ln6 rfl rfl (put10_row HQ.out.2 _ _ _ _ _ _ _ _ _ _) rfl) rfl ?_
        exact ⟨⟨lab, 0, 0, 0, 0, 0, 0, [], 0⟩, by rw [HLL.out]; rfl, put10_fr HF.out HL.out.1 _ _ _ _ _ _ _ _ _ _, fun _ => rfl⟩
      | cons t r =>
        have hM0 : ((M : Int) == 0) = false := by simp at hMr; simp; omega
        have hM1 : (M == 0) = false := by simp at hMr; simp; omega
        have i0 : (0 : Int) < (M : Int) := by simp at hMr; omega
        have j0 : 0 < M := by omega
        have HMR := hid' hMr
        clear hMr
        have x1 := qX.cell 1
        simp only [List.getElem?_toArray, List.getElem?_cons_zero, List.getElem?_cons_succ] at x1
        have y1 := qX.frozen 1
        have rX1 := qX.setCell 1 (.bool true)
        simp only [List.setIfInBounds_toArray, List.set_cons_zero, List.set_cons_succ] at rX1
        have rR1 := qR.setCell_other (p := ⟨gX, 1, none⟩) nXR (.bool true)
        have F1 := HF.out.setCell (p := ⟨gX, 1, none⟩) (Or.inl HL.out.2) (.bool true)
        go_upto_region 11 with fail
        obtain ⟨g, o, rfl, hgl, hT0⟩ := HT.out (by simp)
        have hgX : gX ≠ g := by have := HL.out.2; omega
        have hT := hT0.set (p := ⟨gX, 1, none⟩) hgX (.bool true)
        clear hT0
        generalize wc.setCell ⟨gX, 1, none⟩ (.bool true) = W1 at *
        have HF1 := hid' F1
        have HQ1 := hid' (⟨rX1, rR1⟩ : _ ∧ _)
        clear qX qR x1 y1 F1 HF HT
        have HT2 := hid' hT
        have d0 := hT 0 t rfl 0 (by omega)
        have d1 := hT 0 t rfl 1 (by omega)
        simp only [Nat.zero_mul, Nat.add_zero] at d0 d1
        clear hT
        cases t with
        | sg c =>
          have d0' : W1.cell? ⟨g, o, none⟩ = some (.int .i64 1) := d0
          clear d0 d1
          obtain rfl : z = (61, ⟨lab, 0, 0, 0, 0, 0, 0, [], 0⟩) := hz
          obtain ⟨x0, x1, x2, x3, x4, x5, x6, x7, x8, x9, q0, q1, q2, q3, q4, q5, q6, q7, q8, q9, z0, z1, z2, z3, z4, z5, z6, z7, z8, z9⟩ := ends10 rX1 rR1
          clear rX1 rR1
          go_wp2_with fail
          refine bodyPost_ret (ret_ln6 rfl rfl (put10_row HQ1.out.2 _ _ _ _ _ _ _ _ _ _) rfl) rfl ?_
          exact ⟨⟨lab, 1, 0, 0, 0, 0, 0, [], 0⟩, by rw [HLL.out]; rfl, put10_fr HF1.out HL.out.1 _ _ _ _ _ _ _ _ _ _, fun e => by cases e⟩
        | num n =>
          have d0' : W1.cell? ⟨g, o, none⟩ = some (.int .i64 2) := d0
          clear d0 d1
          obtain rfl : z = (61, ⟨lab, 0, 0, 0, 0, 0, 0, [], 0⟩) := hz
          obtain ⟨x0, x1, x2, x3, x4, x5, x6, x7, x8, x9, q0, q1, q2, q3, q4, q5, q6, q7, q8, q9, z0, z1, z2, z3, z4, z5, z6, z7, z8, z9⟩ := ends10 rX1 rR1
          clear rX1 rR1
          go_wp2_with fail
          refine bodyPost_ret (ret_ln6 rfl rfl (put10_row HQ1.out.2 _ _ _ _ _ _ _ _ _ _) rfl) rfl ?_
          exact ⟨⟨lab, 1, 0, 0, 0, 0, 0, [], 0⟩, by rw [HLL.out]; rfl, put10_fr HF1.out HL.out.1 _ _ _ _ _ _ _ _ _ _, fun e => by cases e⟩
        | reg n =>
          have d0' : W1.cell? ⟨g, o, none⟩ = some (.int .i64 3) := d0
          clear d0 d1
          obtain rfl : z = (61, ⟨lab, 0, 0, 0, 0, 0, 0, [], 0⟩) := hz
          obtain ⟨x0, x1, x2, x3, x4, x5, x6, x7, x8, x9, q0, q1, q2, q3, q4, q5, q6, q7, q8, q9, z0, z1, z2, z3, z4, z5, z6, z7, z8, z9⟩ := ends10 rX1 rR1
          clear rX1 rR1
          go_wp2_with fail
          refine bodyPost_ret (ret_ln6 rfl rfl (put10_row HQ1.out.2 _ _ _ _ _ _ _ _ _ _) rfl) rfl ?_
          exact ⟨⟨lab, 1, 0, 0, 0, 0, 0, [], 0⟩, by rw [HLL.out]; rfl, put10_fr HF1.out HL.out.1 _ _ _ _ _ _ _ _ _ _, fun e => by cases e⟩
        | nm s =>
          have d0' : W1.cell? ⟨g, o, none⟩ = some (.int .i64 4) := d0
          have d1' : W1.cell? ⟨g, o + 1, none⟩ = some (.string ⟨s.toArray⟩) := d1
          obtain ⟨tt, htt⟩ : ∃ tt : ByteArray, tt = ⟨s.toArray⟩ := ⟨_, rfl⟩
          rw [← htt] at d1'
          have HO := operation_ref tt W1
          have e1 : tt.data.toList = s := by rw [htt]
          rw [e1] at HO
          clear d0 d1 htt e1
          clear rX1 rR1
          go_wp2_with fail
          refine HO.mono ?_
          rintro e w2 ⟨rfl, f2⟩
          have qX := HQ1.out.1.keep f2 (fun h => h)
          have qR := HQ1.out.2.keep f2 (fun h => h)
          have HF2 := hid' (HF1.out.trans f2)
          have hT := HT2.out.keep f2 (fun h => h)
          clear HO d0' d1' HF1 HQ1 HT2
          have HQ := hid' (⟨qX, qR⟩ : _ ∧ _)
          by_cases ho : opOf s = 0
          · have uo : (opOf s == 0) = true := by simpa using ho
            obtain rfl : z = (61, ⟨lab, 0, 0, 0, 0, 0, 0, [], 0⟩) := by rw [hz, itemT_none _ _ _ ho]
            generalize opOf s = oq at *
            obtain ⟨x0, x1, x2, x3, x4, x5, x6, x7, x8, x9, q0, q1, q2, q3, q4, q5, q6, q7, q8, q9, z0, z1, z2, z3, z4, z5, z6, z7, z8, z9⟩ := ends10 qX qR
            clear qX qR ho f2
            go_wp2_with fail
            refine bodyPost_ret (ret_ln6 rfl rfl (put10_row HQ.out.2 _ _ _ _ _ _ _ _ _ _) rfl) rfl ?_
            exact ⟨⟨lab, 1, 0, 0, 0, 0, 0, [], 0⟩, by rw [HLL.out]; rfl, put10_fr HF2.out HL.out.1 _ _ _ _ _ _ _ _ _ _, fun e => by cases e⟩
          · have uo : (opOf s == 0) = false := by simpa using ho
            by_cases hn : opOf s < 0
            · have un : decide (opOf s < 0) = true := decide_eq_true hn
              have hw1 := fun n => itemT_w1 lab s n hn
              have hw0 := fun r => itemT_w0 lab s r hn
              have HZ := hid' hz
              have HW1 := hid' hw1
              have HW0 := hid' hw0
              clear hz hw1 hw0
              generalize opOf s = oq at *
              have x8 := qX.cell 8
              simp only [List.getElem?_toArray, List.getElem?_cons_zero, List.getElem?_cons_succ] at x8
              have y8 := qX.frozen 8
              have rX2 := qX.setCell 8 (.bool true)
              simp only [List.setIfInBounds_toArray, List.set_cons_zero, List.set_cons_succ] at rX2
              have rR2 := qR.setCell_other (p := ⟨gX, 8, none⟩) nXR (.bool true)
              have F3 := HF2.out.setCell (p := ⟨gX, 8, none⟩) (Or.inl HL.out.2) (.bool true)
              have hT3 := hT.set (p := ⟨gX, 8, none⟩) hgX (.bool true)
              clear hT qX qR HQ HF2 f2
              go_upto_region 18 with fail
              generalize w2.setCell ⟨gX, 8, none⟩ (.bool true) = W2 at *
              clear x8 y8
              have HF3 := hid' F3
              have HQ3 := hid' (⟨rX2, rR2⟩ : _ ∧ _)
              have HT3 := hid' hT3
              clear F3 hT3
              by_cases h2 : M = 2
              · subst h2
                obtain ⟨t1, rfl⟩ : ∃ t1, r = [t1] := by
                  have hMr := HMR.out
                  simp at hMr
                  exact List.length_eq_one_iff.1 (by omega)
                have d0 := HT3.out 1 t1 rfl 0 (by omega)
                have d2 := HT3.out 1 t1 rfl 2 (by omega)
                simp only [Nat.one_mul, Nat.add_zero, Nat.add_assoc, Nat.reduceAdd] at d0 d2
                cases t1 with
                | sg c =>
                  have d0' : W2.cell? ⟨g, o + 3, none⟩ = some (.int .i64 1) := d0
                  clear d0 d2
                  obtain rfl : z = (61, ⟨lab, 2, 0, 0, 0, 0, 0, [], 0⟩) := by rw [HZ.out]; exact HW0.out _ (fun n e => by cases e)
                  obtain ⟨x0, x1, x2, x3, x4, x5, x6, x7, x8, x9, q0, q1, q2, q3, q4, q5, q6, q7, q8, q9, z0, z1, z2, z3, z4, z5, z6, z7, z8, z9⟩ := ends10 rX2 rR2
                  clear rX2 rR2
                  go_wp2_with fail
                  refine bodyPost_ret (ret_ln6 rfl rfl (put10_row HQ3.out.2 _ _ _ _ _ _ _ _ _ _) rfl) rfl ?_
                  exact ⟨⟨lab, 2, 0, 0, 0, 0, 0, [], 0⟩, by rw [HLL.out]; rfl, put10_fr HF3.out HL.out.1 _ _ _ _ _ _ _ _ _ _, fun e => by cases e⟩
                | reg n =>
                  have d0' : W2.cell? ⟨g, o + 3, none⟩ = some (.int .i64 3) := d0
                  clear d0 d2
                  obtain rfl : z = (61, ⟨lab, 2, 0, 0, 0, 0, 0, [], 0⟩) := by rw [HZ.out]; exact HW0.out _ (fun n e => by cases e)
                  obtain ⟨x0, x1, x2, x3, x4, x5, x6, x7, x8, x9, q0, q1, q2, q3, q4, q5, q6, q7, q8, q9, z0, z1, z2, z3, z4, z5, z6, z7, z8, z9⟩ := ends10 rX2 rR2
                  clear rX2 rR2
                  go_wp2_with fail
                  refine bodyPost_ret (ret_ln6 rfl rfl (put10_row HQ3.out.2 _ _ _ _ _ _ _ _ _ _) rfl) rfl ?_
                  exact ⟨⟨lab, 2, 0, 0, 0, 0, 0, [], 0⟩, by rw [HLL.out]; rfl, put10_fr HF3.out HL.out.1 _ _ _ _ _ _ _ _ _ _, fun e => by cases e⟩
                | nm n =>
                  have d0' : W2.cell? ⟨g, o + 3, none⟩ = some (.int .i64 4) := d0
                  clear d0 d2
                  obtain rfl : z = (61, ⟨lab, 2, 0, 0, 0, 0, 0, [], 0⟩) := by rw [HZ.out]; exact HW0.out _ (fun n e => by cases e)
                  obtain ⟨x0, x1, x2, x3, x4, x5, x6, x7, x8, x9, q0, q1, q2, q3, q4, q5, q6, q7, q8, q9, z0, z1, z2, z3, z4, z5, z6, z7, z8, z9⟩ := ends10 rX2 rR2
                  clear rX2 rR2
                  go_wp2_with fail
                  refine bodyPost_ret (ret_ln6 rfl rfl (put10_row HQ3.out.2 _ _ _ _ _ _ _ _ _ _) rfl) rfl ?_
                  exact ⟨⟨lab, 2, 0, 0, 0, 0, 0, [], 0⟩, by rw [HLL.out]; rfl, put10_fr HF3.out HL.out.1 _ _ _ _ _ _ _ _ _ _, fun e => by cases e⟩
                | num n =>
                  have d0' : W2.cell? ⟨g, o + 3, none⟩ = some (.int .i64 2) := d0
                  have d2' : W2.cell? ⟨g, o + 5, none⟩ = some (.int .i64 (n : Int)) := d2
                  clear d0 d2
                  by_cases hb : 4294967295 < n
                  · have vb : decide (4294967295 < (n : Int)) = true := decide_eq_true (by omega)
                    have vb' : decide (4294967295 < n) = true := decide_eq_true hb
                    obtain rfl : z = (63, ⟨lab, 2, 0, 0, 0, 0, 0, [], 0⟩) := by rw [HZ.out, HW1.out, if_pos hb]
                    obtain ⟨x0, x1, x2, x3, x4, x5, x6, x7, x8, x9, q0, q1, q2, q3, q4, q5, q6, q7, q8, q9, z0, z1, z2, z3, z4, z5, z6, z7, z8, z9⟩ := ends10 rX2 rR2
                    clear rX2 rR2
                    go_wp2_with fail
                    refine bodyPost_ret (ret_ln6 rfl rfl (put10_row HQ3.out.2 _ _ _ _ _ _ _ _ _ _) rfl) rfl ?_
                    exact ⟨⟨lab, 2, 0, 0, 0, 0, 0, [], 0⟩, by rw [HLL.out]; rfl, put10_fr HF3.out HL.out.1 _ _ _ _ _ _ _ _ _ _, fun e => by cases e⟩
                  · have vb : decide (4294967295 < (n : Int)) = false := decide_eq_false (by omega)
                    have vb' : decide (4294967295 < n) = false := decide_eq_false hb
                    obtain rfl : z = (0, ⟨lab, 2, 0, 0, 0, 0, 0, [], n⟩) := by rw [HZ.out, HW1.out, if_neg hb]
                    have rR4 := rR2.setCell_other (p := ⟨gX, 9, none⟩) nXR (.int .i64 (n : Int))
                    have F4 := HF3.out.setCell (p := ⟨gX, 9, none⟩) (Or.inl HL.out.2) (.int .i64 (n : Int))
                    have HQ4 := hid' (⟨rR4, F4⟩ : _ ∧ _)
                    have y9 := rX2.frozen 9
                    obtain ⟨x0, x1, x2, x3, x4, x5, x6, x7, x8, x9, q0, q1, q2, q3, q4, q5, q6, q7, q8, q9, z0, z1, z2, z3, z4, z5, z6, z7, z8, z9⟩ := ends10 rX2 rR2
                    clear rX2 rR2 rR4 F4
                    go_wp2_with fail
                    refine bodyPost_ret (ret_ln6 rfl rfl (put10_row HQ4.out.1 _ _ _ _ _ _ _ _ _ _) rfl) rfl ?_
                    exact ⟨⟨lab, 2, 0, 0, 0, 0, 0, [], n⟩, by rw [HLL.out]; rfl, put10_fr HQ4.out.2 HL.out.1 _ _ _ _ _ _ _ _ _ _, fun _ => rfl⟩
              · have v2 : ((M : Int) != 2) = true := by simp; omega
                have v3 : (M == 2) = false := by simpa using h2
                have v4 : ((M : Int) == 2) = false := by simp; omega
                have v5 : (M != 2) = true := by simpa using h2
                obtain rfl : z = (61, ⟨lab, 2, 0, 0, 0, 0, 0, [], 0⟩) := by
                  rw [HZ.out]
                  exact HW0.out _ (fun n e => by have hMr := HMR.out; subst e; simp at hMr; omega)
                obtain ⟨x0, x1, x2, x3, x4, x5, x6, x7, x8, x9, q0, q1, q2, q3, q4, q5, q6, q7, q8, q9, z0, z1, z2, z3, z4, z5, z6, z7, z8, z9⟩ := ends10 rX2 rR2
                clear rX2 rR2
                go_wp2_with fail
                refine bodyPost_ret (ret_ln6 rfl rfl (put10_row HQ3.out.2 _ _ _ _ _ _ _ _ _ _) rfl) rfl ?_
                exact ⟨⟨lab, 2, 0, 0, 0, 0, 0, [], 0⟩, by rw [HLL.out]; rfl, put10_fr HF3.out HL.out.1 _ _ _ _ _ _ _ _ _ _, fun e => by cases e⟩
            · have un : decide (opOf s < 0) = false := decide_eq_false hn
              have HZ := hid' (hz.trans (itemT_ins lab s r (by omega)))
              clear hz
              generalize opOf s = oq at *
              have x2 := qX.cell 2
              simp only [List.getElem?_toArray, List.getElem?_cons_zero, List.getElem?_cons_succ] at x2
              have y2 := qX.frozen 2
              have rX2 := qX.setCell 2 (.int .i64 oq)
              simp only [List.setIfInBounds_toArray, List.set_cons_zero, List.set_cons_succ] at rX2
              have rR2 := qR.setCell_other (p := ⟨gX, 2, none⟩) nXR (.int .i64 oq)
              have F3 := HF2.out.setCell (p := ⟨gX, 2, none⟩) (Or.inl HL.out.2) (.int .i64 oq)
              have hT3 := hT.set (p := ⟨gX, 2, none⟩) hgX (.int .i64 oq)
              clear hT qX qR HQ HF2 f2
              go_upto_region 25 with fail
              generalize w2.setCell ⟨gX, 2, none⟩ (.int .i64 oq) = W2 at *
              clear x2 y2
              have HF3 := hid' F3
              have HQ3 := hid' (⟨rX2, rR2⟩ : _ ∧ _)
              have HT3 := hid' hT3
              clear F3 hT3
              have HS := shape_ref oq W2
              obtain ⟨sh, hsh⟩ : ∃ sh : ByteArray, sh = ⟨(shapeB oq).toArray⟩ := ⟨_, rfl⟩
              have hsv : strV (shapeB oq) = .string sh := by rw [hsh]
              rw [hsv] at HS
              have hsl : sh.data.toList = shapeB oq := by rw [hsh]
              obtain ⟨Ls, hLs⟩ : ∃ Ls, sh.size = Ls := ⟨_, rfl⟩
              have hll : (shapeB oq).length = Ls := by rw [← hsl, Array.length_toList]; exact hLs
              have HSL := hid' hsl
              have HLN := hid' hll
              have hL10 : Ls ≤ 10 := by
                rw [← hll]
                unfold shapeB
                split
                · simp
                · split <;> simp
              clear hsh hsv hsl hll
              go_wp2_with fail
              refine HS.mono ?_
              rintro e w3 ⟨rfl, hw⟩
              have hw := hw.symm
              subst hw
              clear HS
              by_cases hlen : M = 1 + Ls
              · have v2 : ((M : Int) != 1 + (Ls : Int)) = false := by simp; omega
                have HL0 : Hid (Lp6 w W2 gR gX g o (.nm s :: r) (shapeB oq) r z 0 0) := by
                  refine ⟨⟨_, rfl, ?_, HZ.out⟩, rR2, HF3.out, HT3.out⟩
                  have h := HQ3.out.1
                  rw [HLL.out] at h
                  exact h
                have HRL : Hid (r.length = Ls) := by
                  show _ = _
                  have := HMR.out
                  simp only [List.length_cons] at this
                  omega
                have HLM := hid' hlen
                clear rX2 rR2 HQ3 HT3 HF3 HZ hlen
                go_wp2_with fail
                go_loopw [8, 9] (fun a b wr => ∃ (j e : Nat), j ≤ Ls ∧ a = .int .i64 (e : Int) ∧ b = .int .i64 (j : Int) ∧ Hid (Lp6 w wr gR gX g o (.nm s :: r) (shapeB oq) r z j e)) (fun _ b _ => Ls - (intOf b).toNat)
                case atStart => exact ⟨0, 0, by omega, rfl, rfl, HL0.out⟩
                case round =>
                  clear HL0
                  obtain ⟨j, e, hj, rfl, rfl, HP⟩ := hrel
                  obtain ⟨y, hy, rY, hz⟩ := HP.out.ex
                  have rR2 := HP.out.rR
                  by_cases hjl : j < Ls
                  · have vj : decide ((j : Int) < (Ls : Int)) = true := decide_eq_true (by omega)
                    have vj' : decide (j < Ls) = true := decide_eq_true hjl
                    have hcl : j < (shapeB oq).length := by rw [HLN.out]; exact hjl
                    have hrl : j < r.length := by rw [HRL.out]; exact hjl
                    have hcd : (shapeB oq).drop j = (shapeB oq)[j] :: (shapeB oq).drop (j + 1) := List.drop_eq_getElem_cons hcl
                    have hrd : r.drop j = r[j] :: r.drop (j + 1) := List.drop_eq_getElem_cons hrl
                    have hcc : sh.data.toList[j]? = some (shapeB oq)[j] := by rw [HSL.out]; exact List.getElem?_eq_getElem hcl
                    have htt : TkF wr g o (.nm s :: r) := HP.out.tk
                    have hrr : (Tok.nm s :: r)[j + 1]? = some r[j] := by
                      rw [List.getElem?_cons_succ]
                      exact List.getElem?_eq_getElem hrl
                    generalize (shapeB oq)[j] = c at *
                    generalize r[j] = t at *
                    obtain ⟨tk, ts, tn, ht1, ht2⟩ := tokC_form t
                    have dd0 := htt (j + 1) t hrr 0 (by omega)
                    have dd1 := htt (j + 1) t hrr 1 (by omega)
                    have dd2 := htt (j + 1) t hrr 2 (by omega)
                    rw [ht1] at dd0 dd1 dd2
                    simp only [List.getElem?_cons_zero, List.getElem?_cons_succ, Nat.add_zero] at dd0 dd1 dd2
                    have hi : ∀ w, (Instr.index 9 (.string sh) (.int .i64 (j : Int))).run Tryz.prog w = .ok (.int .u8 (c.toNat : Int)) w := fun w => sidx_run sh j c hcc _ rfl w
                    have X := operand_ref wr.drew gX y (rY.keep (Fr.refl none' wr).drew (fun h => h)) c t
                    rw [ht2] at X
                    have HZ2 := hid' hz
                    have HY := hid' hy
                    have HCD := hid' (⟨hcd, hrd⟩ : _ ∧ _)
                    have i3 : 0 ≤ 1 + (j : Int) ∧ 1 + (j : Int) < (M : Int) := by have := HLM.out; omega
                    have i4 : 0 ≤ (j : Int) ∧ (j : Int) < (Ls : Int) := by omega
                    have i5 : j + 1 < M := by have := HLM.out; omega
                    have i6 : IntKind.i64.wrap (1 + (j : Int)) = ((j + 1 : Nat) : Int) := by rw [show (1 : Int) + (j : Int) = ((j + 1 : Nat) : Int) by omega]; rw [IntKind.wrap_i64]; omega
                    have i7 : 0 ≤ ((j + 1 : Nat) : Int) ∧ ((j + 1 : Nat) : Int) < (M : Int) := by have := HLM.out; omega
                    clear rY rR2 hz hy hcd hrd hcc htt hrr ht1 ht2 hcl hrl
                    obtain ⟨e1, y1, hop⟩ : ∃ e1 y1, operT y c t = (e1, y1) := ⟨_, _, rfl⟩
                    have HE := operT_e y c t
                    have HK := (operT_k y c t).1
                    have hgo : (operT y c t).1 ≠ 61 → z = opersT ((shapeB oq).drop (j + 1)) (r.drop (j + 1)) (operT y c t).2 (if (operT y c t).1 ≠ 0 then (operT y c t).1 else e) := fun hne => by
                      rw [HZ2.out, HCD.out.1, HCD.out.2, opersT_go _ _ _ _ _ _ hne]
                    have hst : (operT y c t).1 = 61 → z.1 = 61 := fun he => by
                      rw [HZ2.out, HCD.out.1, HCD.out.2, opersT_stop _ _ _ _ _ _ he]
                    have hk1 : (operT y c t).2.k = 1 := by rw [HK]; exact HY.out
                    replace X : Calls Tryz.prog 30 #[.pointer (some ⟨gX, 0, none⟩), .int .u8 (c.toNat : Int), .agg #[.int .i64 tk, .string ts, .int .i64 tn]] wr.drew fun e9 w9 => e9 = .returned (.int .i64 (e1 : Int)) ∧ Fr (at' gX) wr.drew w9 ∧ Row w9 gX (lnY y1) 48 := by
                      have h := X
                      rw [hop] at h
                      exact h
                    rw [hop] at HE hgo hst hk1
                    have HGO := hid' hgo
                    have HST := hid' hst
                    have HK1 := hid' hk1
                    have HEE := hid' HE
                    clear hgo hst hk1 HK HE hop HZ2 HCD HY
                    go_upto_region 32 with fail
                    go_cut [10] from 109 to 126 (fun v wx => v = .int .i64 (e1 : Int) ∧ Hid (Lq6 w wx gR gX g o (.nm s :: r) y1))
                    case first =>
                      go_region_with (go_at_call 30; refine X.mono ?_; rintro e9 w9 ⟨rfl, f9, r9⟩)
                      all_goals (go_wp2_with fail; go_meet; exact ⟨rfl, hid' (HP.out.after f9 r9 HL.out.2 nXR hgX)⟩)
                    case rest =>
                      obtain ⟨rfl, HQ⟩ := hcut
                      have HE := HEE.out
                      clear X hi dd0 dd1 dd2 HEE
                      dsimp only at HE
                      rcases HE with rfl | rfl | rfl
                      · clear HST
                        go_wp2_with fail
                        go_roundw
                        case rel => exact ⟨j + 1, e, by omega, rfl, by go_num, ⟨⟨y1, HK1.out, HQ.out.rX, HGO.out (by show (_ : Nat) ≠ _; dsimp only; omega)⟩, HQ.out.rR, HQ.out.fr, HQ.out.tk⟩⟩
                        case measure => simp [intOf]; omega
                      · have hz1 := HST.out rfl
                        obtain ⟨z1, z2⟩ := z
                        obtain rfl : z1 = 61 := hz1
                        have rX9 := HQ.out.rX
                        have rR9 := HQ.out.rR
                        have HY1 := hid' (lnY_R y1 HK1.out)
                        have HR9 := hid' rR9
                        unfold cellsY at rR9
                        dsimp only [lnY] at rX9
                        obtain ⟨x0, x1, x2, x3, x4, x5, x6, x7, x8, x9, q0, q1, q2, q3, q4, q5, q6, q7, q8, q9, z0, z1, z2, z3, z4, z5, z6, z7, z8, z9⟩ := ends10 rX9 rR9
                        clear rX9 rR9 HGO HST
                        go_wp2_with fail
                        refine bodyPost_ret (ret_ln6 rfl rfl (put10_row HR9.out _ _ _ _ _ _ _ _ _ _) rfl) rfl ?_
                        exact ⟨y1, by unfold lnA; rw [← HY1.out]; rfl, put10_fr HQ.out.fr HL.out.1 _ _ _ _ _ _ _ _ _ _, fun e => by cases e⟩
                      · clear HST
                        go_wp2_with fail
                        go_roundw
                        case rel => exact ⟨j + 1, 63, by omega, rfl, by go_num, ⟨⟨y1, HK1.out, HQ.out.rX, HGO.out (by show (_ : Nat) ≠ _; dsimp only; omega)⟩, HQ.out.rR, HQ.out.fr, HQ.out.tk⟩⟩
                        case measure => simp [intOf]; omega
                  · have vj : decide ((j : Int) < (Ls : Int)) = false := decide_eq_false (by omega)
                    have vj' : decide (j < Ls) = false := decide_eq_false hjl
                    have hze : z = (e, y) := by
                      rw [hz, List.drop_eq_nil_of_le (by rw [HLN.out]; omega), List.drop_eq_nil_of_le (by rw [HRL.out]; omega)]
                      rfl
                    subst hze
                    have rX9 := rY
                    have rR9 := rR2
                    have HY1 := hid' (lnY_R y hy)
                    have HR9 := hid' rR2
                    have HF9 := hid' HP.out.fr
                    unfold cellsY at rR9
                    dsimp only [lnY] at rX9
                    obtain ⟨x0, x1, x2, x3, x4, x5, x6, x7, x8, x9, q0, q1, q2, q3, q4, q5, q6, q7, q8, q9, z0, z1, z2, z3, z4, z5, z6, z7, z8, z9⟩ := ends10 rX9 rR9
                    clear rX9 rR9 rY rR2 hy hz HP
                    go_wp2_with fail
                    refine bodyPost_ret (ret_ln6 rfl rfl (put10_row HR9.out _ _ _ _ _ _ _ _ _ _) rfl) rfl ?_
                    exact ⟨y, by unfold lnA; rw [← HY1.out]; rfl, put10_fr HF9.out HL.out.1 _ _ _ _ _ _ _ _ _ _, fun _ => rfl⟩
              · have v2 : ((M : Int) != 1 + (Ls : Int)) = true := by simp; omega
                have hz1 : z.1 = 61 := by
                  rw [HZ.out]
                  exact opersT_len _ _ _ _ (by have hMr := HMR.out; rw [HLN.out]; simp at hMr; omega)
                obtain ⟨z1, z2⟩ := z
                obtain rfl : z1 = 61 := hz1
                obtain ⟨x0, x1, x2, x3, x4, x5, x6, x7, x8, x9, q0, q1, q2, q3, q4, q5, q6, q7, q8, q9, z0, z1, z2, z3, z4, z5, z6, z7, z8, z9⟩ := ends10 rX2 rR2
                clear rX2 rR2
                go_wp2_with fail
                refine bodyPost_ret (ret_ln6 rfl rfl (put10_row HQ3.out.2 _ _ _ _ _ _ _ _ _ _) rfl) rfl ?_
                exact ⟨⟨lab, 1, oq, 0, 0, 0, 0, [], 0⟩, by rw [HLL.out]; rfl, put10_fr HF3.out HL.out.1 _ _ _ _ _ _ _ _ _ _, fun e => by cases e⟩

end Go.Proofs.YtecipogfdhpjfaaGreatDoor

/- AsmRefQ -/
namespace Go.Proofs.YtecipogfdhpjfaaGreatDoor
open Go.RowKit

theorem q_flush_len (x : Cut) : (flush x).l.length ≤ x.l.length + 1 := by
  unfold flush
  split
  · omega
  · split <;> simp
theorem stepC_len (x : Cut) (c : UInt8) : (stepC x c).l.length ≤ x.l.length + 2 := by
  have := q_flush_len x
  unfold stepC
  split
  · simp
  · split
    · simp; omega
    · split <;> simp <;> omega
theorem foldC_len : ∀ (s : List UInt8) (x : Cut), (s.foldl stepC x).l.length ≤ x.l.length + 2 * s.length
  | [], x => by simp
  | c :: s, x => by
    have h1 := foldC_len s (stepC x c)
    have h2 := stepC_len x c
    simp only [List.foldl_cons, List.length_cons]
    omega
theorem cutC_len (s : List UInt8) : (cutC s).l.length ≤ 2 * s.length + 1 := by
  have h1 := foldC_len (code s) ⟨[], [], true⟩
  have h2 := q_flush_len ((code s).foldl stepC ⟨[], [], true⟩)
  have h3 : (code s).length ≤ s.length := by unfold code; exact List.Sublist.length_le (List.takeWhile_sublist _)
  simp only [List.length_nil] at h1
  unfold cutC
  omega
theorem lineT_cut (s : List UInt8) (h : (cutC s).ok = true) : lineT s = readT (cutC s).l := by unfold lineT cutT; rw [if_pos h]
theorem lineT_no (s : List UInt8) (h : (cutC s).ok = false) : (lineT s).1 = 60 := by unfold lineT cutT; rw [if_neg (by rw [h]; decide)]
theorem opersT_k : ∀ (cs : List UInt8) (ts : List Tok) (x : Ln6) (e : Nat), (opersT cs ts x e).2.k = x.k
  | [], [], _, _ => rfl
  | [], _ :: _, _, _ => rfl
  | _ :: _, [], _, _ => rfl
  | c :: cs, t :: ts, x, e => by
    unfold opersT
    split
    · exact (operT_k x c t).1
    · rw [opersT_k cs ts _ _]; exact (operT_k x c t).1
theorem itemT_n (lab : List UInt8) (l : List Tok) (h : (itemT lab l).1 = 0) : (itemT lab l).2.k = 2 → (itemT lab l).2.n ≤ 4294967295 := by
  unfold itemT at h ⊢
  split
  · intro hk; cases hk
  · rename_i s r
    by_cases h0 : opOf s = 0
    · rw [if_pos h0]; intro hk; cases hk
    · rw [if_neg h0]
      by_cases h1 : opOf s < 0
      · rw [if_pos h1]
        split
        · rename_i m
          by_cases hm : 4294967295 < m
          · rw [if_pos hm]; intro _; exact Nat.zero_le _
          · rw [if_neg hm]; intro _; exact Nat.le_of_not_lt hm
        · intro _; exact Nat.zero_le _
      · rw [if_neg h1]
        intro hk
        rw [opersT_k] at hk
        cases hk
  · intro hk; cases hk
theorem readT_n (l : List Tok) (h : (readT l).1 = 0) (hk : (readT l).2.k = 2) : (readT l).2.n ≤ 4294967295 := by
  obtain ⟨z, hz⟩ : ∃ z, readT l = z := ⟨_, rfl⟩
  rw [hz] at h hk ⊢
  unfold readT at hz
  split at hz
  · split at hz
    · rw [← hz] at h; cases h
    · rw [← hz] at h hk ⊢; exact itemT_n _ _ h hk
  · rw [← hz] at h hk ⊢; exact itemT_n _ _ h hk
theorem lineT_n (s : List UInt8) (h : (lineT s).1 = 0) : (lineT s).2.k = 2 → (lineT s).2.n ≤ 4294967295 := by
  cases hc : (cutC s).ok with
  | false => rw [lineT_no s hc] at h; cases h
  | true =>
    rw [lineT_cut s hc] at h ⊢
    exact readT_n _ h

/-! ### slices of texts and of lines -/
theorem StS.cells {w : World} {B : Nat} {v : Value} {l : List (List UInt8)} (h : StS w B v l) : ∃ a cap, v = .slice a l.length cap ∧ ∀ (i : Nat) (s : List UInt8), l[i]? = some s → ∃ g, a = some ⟨g, 0, none⟩ ∧ w.cell? ⟨g, i, none⟩ = some (.string ⟨s.toArray⟩) := by
  by_cases hn : l.length = 0
  · have := h.2 hn
    refine ⟨none, 0, by rw [this, hn], fun i y hi => ?_⟩
    rw [List.eq_nil_of_length_eq_zero hn] at hi
    simp at hi
  · obtain ⟨g, cap, cur, hv, _, hr, _, _, _, hx⟩ := h.row hn
    refine ⟨_, cap, hv, fun i s hi => ⟨g, rfl, ?_⟩⟩
    rw [hr.cell]
    exact hx i _ (by simp [strL, hi])
theorem info_ln6 : (Tryz.prog.info? 48).map (fun i => (i.zero, i.size, i.bytes)) = some (some (.agg #[.string ⟨#[]⟩, .bool false, .int .i64 0, .int .i64 0, .int .i64 0, .int .i64 0, .int .i64 0, .string ⟨#[]⟩, .bool false, .int .i64 0]), 10, 96) := by kernel_rfl
theorem append_ln6 (w : World) (B g : Nat) (v : Value) (n : Nat) (K : List Value) (lb nb : ByteArray) (kb wb : Bool) (o a b c im n' : Int) (hb : B ≤ w.heap.size) (ho : OwnK 48 10 w B v n K) (hn : n < 1000000) (r : Row w g #[.string lb, .bool kb, .int .i64 o, .int .i64 a, .int .i64 b, .int .i64 c, .int .i64 im, .string nb, .bool wb, .int .i64 n'] 48) :
    ∃ v' w', (Builtin.append_ #[41, 41] 41 #[v, .slice (some ⟨g, 0, none⟩) 1 1]).run Tryz.prog w = .ok v' w' ∧ Fr (fun q => some q = v.ownBlock) w w' ∧ OwnK 48 10 w' B v' (n + 1) (K ++ [.string lb, .bool kb, .int .i64 o, .int .i64 a, .int .i64 b, .int .i64 c, .int .i64 im, .string nb, .bool wb, .int .i64 n']) :=
  append_k (T := 41) Tryz.underlying41 info_ln6 rfl (by omega) (by omega) w B ⟨g, 0, none⟩ v n K [.string lb, .bool kb, .int .i64 o, .int .i64 a, .int .i64 b, .int .i64 c, .int .i64 im, .string nb, .bool wb, .int .i64 n'] hb ho (by omega) rfl (fun j u hu => by
    rw [add_lit', Nat.zero_add, r.cell]
    have hj : j < 10 := by
      rcases Nat.lt_or_ge j 10 with h | h
      · exact h
      · rw [List.getElem?_eq_none (by simpa using h)] at hu; cases hu
    rw [← hu]
    match j, hj with
    | 0, _ => rfl
    | 1, _ => rfl
    | 2, _ => rfl
    | 3, _ => rfl
    | 4, _ => rfl
    | 5, _ => rfl
    | 6, _ => rfl
    | 7, _ => rfl
    | 8, _ => rfl
    | 9, _ => rfl) (fun u hu => by simp at hu; rcases hu with rfl | rfl | rfl | rfl | rfl | rfl | rfl | rfl | rfl | rfl <;> rfl)
/-- The texts, and the lines that are read. -/
structure As1 (w wr : World) (B : Nat) (tv v : Value) (L : List (List UInt8)) (j : Nat) : Prop where
  tx : StS wr w.heap.size tv L
  low : ∀ q, some q = tv.ownBlock → q < B
  ln : LnS wr B v (linesT (L.take j))
  fr : Fr none' w wr
  sz : w.heap.size ≤ B ∧ B ≤ wr.heap.size
  fe : firstE (L.drop j) (j + 1) = firstE L 1
  ok : ∀ s ∈ L.take j, (lineT s).1 = 0
theorem linesT_len (l : List (List UInt8)) : (linesT l).length = l.length := by simp [linesT]
theorem As1.keep {w wr wx : World} {B : Nat} {tv v : Value} {L : List (List UInt8)} {j : Nat} (h : As1 w wr B tv v L j) (f : Fr none' wr wx) : As1 w wx B tv v L j :=
  ⟨h.tx.keep0 f, h.low, h.ln.keep0 f, h.fr.trans f, ⟨h.sz.1, Nat.le_trans h.sz.2 f.size⟩, h.fe, h.ok⟩
theorem fr_own {w W W' : World} {v : Value} (f : Fr none' w W) (g : Fr (fun q => some q = v.ownBlock) W W') (h : ∀ q, some q = v.ownBlock → w.heap.size ≤ q) : Fr none' w W' :=
  ⟨g.os.trans f.os, g.tape.trans f.tape, g.output.trans f.output, Nat.le_trans f.size g.size, fun i hi hn => (g.block i (Nat.lt_of_lt_of_le hi f.size) (fun e => by have := h i e; omega)).trans (f.block i hi hn)⟩
theorem As1.step {w wr W W' : World} {B : Nat} {tv v v' : Value} {L : List (List UInt8)} {j : Nat} {s : List UInt8} (h : As1 w wr B tv v L j) (f : Fr none' wr W) (hs : L[j]? = some s) (he : (lineT s).1 = 0) (g : Fr (fun q => some q = v.ownBlock) W W') (ho : OwnK 48 10 W' B v' ((linesT (L.take j)).length + 1) (flatY (linesT (L.take j)) ++ lnR (lineT s).2)) : As1 w W' B tv v' L (j + 1) := by
  have hi : ∀ q, some q = v.ownBlock → B ≤ q := fun q hq => OwnK.high h.ln q hq
  have ht : L.take (j + 1) = L.take j ++ [s] := by rw [List.take_add_one, hs]; rfl
  have hl : linesT (L.take (j + 1)) = linesT (L.take j) ++ [(lineT s).2] := by rw [ht]; simp [linesT]
  refine ⟨OwnK.keep (h.tx.keep0 f) g (fun q hq hv => ?_), h.low, ?_, fr_own (h.fr.trans f) g (fun q hq => Nat.le_trans h.sz.1 (hi q hq)), ⟨h.sz.1, Nat.le_trans h.sz.2 (Nat.le_trans f.size g.size)⟩, ?_, fun x hx => ?_⟩
  · have := h.low q hq
    have := hi q hv
    omega
  · unfold LnS
    rw [hl, flatY_add, List.length_append]
    exact ho
  · rw [← h.fe]
    have hd : L.drop j = s :: L.drop (j + 1) := by
      obtain ⟨hlt, e⟩ := List.getElem?_eq_some_iff.1 hs
      rw [List.drop_eq_getElem_cons hlt, e]
    rw [hd]
    show _ = (if (lineT s).1 ≠ 0 then _ else _)
    rw [if_neg (fun h' => h' he)]
  · rw [ht] at hx
    rcases List.mem_append.1 hx with hx | hx
    · exact h.ok x hx
    · simp at hx
      rw [hx]; exact he
theorem As1.bad {w wr : World} {B : Nat} {tv v : Value} {L : List (List UInt8)} {j : Nat} {s : List UInt8} (h : As1 w wr B tv v L j) (hs : L[j]? = some s) (he : (lineT s).1 ≠ 0) : firstE L 1 = some (j + 1, (lineT s).1) := by
  rw [← h.fe]
  obtain ⟨hlt, e⟩ := List.getElem?_eq_some_iff.1 hs
  rw [List.drop_eq_getElem_cons hlt, e]
  show (if (lineT s).1 ≠ 0 then _ else _) = _
  rw [if_pos he]
theorem As1.done {w wr : World} {B : Nat} {tv v : Value} {L : List (List UInt8)} {j : Nat} (h : As1 w wr B tv v L j) (hj : L.length ≤ j) : firstE L 1 = none := by
  rw [← h.fe, List.drop_eq_nil_of_le hj]
  rfl
/-- All lines are read. -/
structure As2 (w wr : World) (B : Nat) (v : Value) (L : List Ln6) : Prop where
  ln : LnS wr B v L
  fr : Fr none' w wr
  sz : w.heap.size ≤ B ∧ B ≤ wr.heap.size
theorem As2.keep {w wr wx : World} {B : Nat} {v : Value} {L : List Ln6} (h : As2 w wr B v L) (f : Fr none' wr wx) : As2 w wx B v L := ⟨h.ln.keep0 f, h.fr.trans f, ⟨h.sz.1, Nat.le_trans h.sz.2 f.size⟩⟩
/-- No label of the first ones twice. -/
def Tw6 (L : List Ln6) (i : Nat) : Prop := twiceE ((L.take i).map (·.lab)).reverse (L.drop i) (i + 1) = twiceE [] L 1
theorem tw_start (L : List Ln6) : Tw6 L 0 := by unfold Tw6; simp
theorem tw_mem {L : List Ln6} {i : Nat} {x : List UInt8} : x ∈ ((L.take i).map (·.lab)).reverse ↔ ∃ k y, k < i ∧ L[k]? = some y ∧ y.lab = x := by
  rw [List.mem_reverse, List.mem_map]
  constructor
  · rintro ⟨y, hy, rfl⟩
    obtain ⟨k, hk, e⟩ := List.getElem_of_mem hy
    rw [List.length_take] at hk
    refine ⟨k, y, by omega, ?_, rfl⟩
    rw [List.getElem_take] at e
    rw [← e, List.getElem?_eq_getElem (by omega)]
  · rintro ⟨k, y, hk, hy, rfl⟩
    obtain ⟨hlt, e⟩ := List.getElem?_eq_some_iff.1 hy
    refine ⟨y, ?_, rfl⟩
    rw [List.mem_take_iff_getElem]
    exact ⟨k, by omega, e⟩
theorem tw_hit {L : List Ln6} {i k : Nat} {x y : Ln6} (h : Tw6 L i) (hx : L[i]? = some x) (hk : k < i) (hy : L[k]? = some y) (h1 : x.lab ≠ []) (h2 : y.lab = x.lab) : twiceE [] L 1 = some (i + 1) := by
  rw [← show _ = twiceE [] L 1 from h]
  obtain ⟨hlt, e⟩ := List.getElem?_eq_some_iff.1 hx
  rw [List.drop_eq_getElem_cons hlt, e]
  show (if x.lab ≠ [] ∧ x.lab ∈ _ then _ else _) = _
  rw [if_pos ⟨h1, tw_mem.2 ⟨k, y, hk, hy, h2⟩⟩]
theorem tw_next {L : List Ln6} {i : Nat} {x : Ln6} (h : Tw6 L i) (hx : L[i]? = some x) (hn : ∀ k y, k < i → L[k]? = some y → ¬ (x.lab ≠ [] ∧ y.lab = x.lab)) : Tw6 L (i + 1) := by
  unfold Tw6
  rw [← show _ = twiceE [] L 1 from h]
  obtain ⟨hlt, e⟩ := List.getElem?_eq_some_iff.1 hx
  rw [List.drop_eq_getElem_cons hlt, e]
  have ht : L.take (i + 1) = L.take i ++ [x] := by rw [List.take_add_one, hx]; rfl
  rw [ht]
  show _ = (if x.lab ≠ [] ∧ x.lab ∈ _ then _ else _)
  rw [if_neg (fun hh => by
    obtain ⟨k, y, hk, hy, e2⟩ := tw_mem.1 hh.2
    exact hn k y hk hy ⟨hh.1, e2⟩)]
  simp
theorem tw_end {L : List Ln6} {i : Nat} (h : Tw6 L i) (hi : L.length ≤ i) : twiceE [] L 1 = none := by
  rw [← show _ = twiceE [] L 1 from h, List.drop_eq_nil_of_le hi]
  rfl
/-- The words of the first lines. -/
structure As3 (w wr : World) (B : Nat) (v u : Value) (L : List Ln6) (base i : Nat) (ws : List Int) : Prop where
  a : As2 w wr B v L
  o : OwnK 28 1 wr B u ws.length (ws.map (Value.int .u32))
  e : wordsT L base (L.drop i) (i + 1) ws = wordsT L base L 1 []
  n : ws.length ≤ i
theorem As3.keep {w wr wx : World} {B : Nat} {v u : Value} {L : List Ln6} {base i : Nat} {ws : List Int} (h : As3 w wr B v u L base i ws) (f : Fr none' wr wx) : As3 w wx B v u L base i ws := ⟨h.a.keep f, h.o.keep0 f, h.e, h.n⟩
theorem As3.cons {w wr : World} {B : Nat} {v u : Value} {L : List Ln6} {base i : Nat} {ws : List Int} {x : Ln6} (h : As3 w wr B v u L base i ws) (hx : L[i]? = some x) : wordsT L base (x :: L.drop (i + 1)) (i + 1) ws = wordsT L base L 1 [] := by
  rw [← h.e]
  obtain ⟨hlt, e⟩ := List.getElem?_eq_some_iff.1 hx
  rw [List.drop_eq_getElem_cons hlt, e]
theorem As3.skip {w wr : World} {B : Nat} {v u : Value} {L : List Ln6} {base i : Nat} {ws : List Int} {x : Ln6} (h : As3 w wr B v u L base i ws) (hx : L[i]? = some x) (hk : x.k = 0) : As3 w wr B v u L base (i + 1) ws := by
  refine ⟨h.a, h.o, ?_, Nat.le_succ_of_le h.n⟩
  rw [← h.cons hx]
  show _ = (if x.k = 0 then _ else _)
  rw [if_pos hk]
theorem own_rowAt {e : TypeId} {k : Nat} {w : World} {B q : Nat} {v : Value} {n : Nat} {L : List Value} (h : OwnK e k w B v n L) (hq : some q = v.ownBlock) : ∃ cur, Row w q cur e := by
  obtain ⟨⟨_, hh | ⟨g, cap, cur, hv, hb, hg, _⟩⟩, _⟩ := h
  · rw [hh.1] at hq; simp [Value.ownBlock] at hq
  · rw [hv] at hq
    have e' : q = g := by simpa [Value.ownBlock] using hq
    subst e'
    exact ⟨cur, hg⟩
theorem as3_own {w wr W W' : World} {B : Nat} {v u : Value} {L : List Ln6} {base i : Nat} {ws : List Int} (h : As3 w wr B v u L base i ws) (f : Fr none' wr W) (g : Fr (fun q => some q = u.ownBlock) W W') : As2 w W' B v L := by
  have hi : ∀ q, some q = u.ownBlock → B ≤ q := fun q hq => OwnK.high h.o q hq
  have a2 := h.a.keep f
  refine ⟨OwnK.keep a2.ln g (fun q hq hu => ?_), fr_own a2.fr g (fun q hq => Nat.le_trans h.a.sz.1 (hi q hq)), ⟨h.a.sz.1, Nat.le_trans a2.sz.2 g.size⟩⟩
  obtain ⟨cur, hr⟩ := own_rowAt (h.o.keep0 f) hu
  exact OwnK.apart a2.ln hr (by decide) hq
theorem As3.word {w wr W W' : World} {B : Nat} {v u u' : Value} {L : List Ln6} {base i : Nat} {ws : List Int} {x : Ln6} (h : As3 w wr B v u L base i ws) (f : Fr none' wr W) (g : Fr (fun q => some q = u.ownBlock) W W') (hx : L[i]? = some x) (hk : x.k = 2) (ho : OwnK 28 1 W' B u' (ws ++ [(x.n : Int)]).length ((ws ++ [(x.n : Int)]).map (Value.int .u32))) : As3 w W' B v u' L base (i + 1) (ws ++ [(x.n : Int)]) := by
  refine ⟨as3_own h f g, ho, ?_, by rw [List.length_append]; exact Nat.succ_le_succ h.n⟩
  rw [← h.cons hx]
  show _ = (if x.k = 0 then _ else if x.k = 2 then _ else _)
  rw [if_neg (by omega), if_pos hk]
theorem As3.ins {w wr W W' : World} {B : Nat} {v u u' : Value} {L : List Ln6} {base i : Nat} {ws : List Int} {x : Ln6} {im : Int} (h : As3 w wr B v u L base i ws) (f : Fr none' wr W) (g : Fr (fun q => some q = u.ownBlock) W W') (hx : L[i]? = some x) (hk : x.k ≠ 0) (hk2 : x.k ≠ 2) (hm : immT L base x = some im) (ho : OwnK 28 1 W' B u' (ws ++ [encW x.o x.a x.b x.c im]).length ((ws ++ [encW x.o x.a x.b x.c im]).map (Value.int .u32))) : As3 w W' B v u' L base (i + 1) (ws ++ [encW x.o x.a x.b x.c im]) := by
  refine ⟨as3_own h f g, ho, ?_, by rw [List.length_append]; exact Nat.succ_le_succ h.n⟩
  rw [← h.cons hx]
  show _ = (if x.k = 0 then _ else if x.k = 2 then _ else _)
  rw [if_neg hk, if_neg hk2, hm]
theorem As3.err {w wr : World} {B : Nat} {v u : Value} {L : List Ln6} {base i : Nat} {ws : List Int} {x : Ln6} (h : As3 w wr B v u L base i ws) (hx : L[i]? = some x) (hk : x.k ≠ 0) (hk2 : x.k ≠ 2) (hm : immT L base x = none) : wordsT L base L 1 [] = .error (i + 1) := by
  rw [← h.cons hx]
  show (if x.k = 0 then _ else if x.k = 2 then _ else _) = _
  rw [if_neg hk, if_neg hk2, hm]
theorem As3.fin {w wr : World} {B : Nat} {v u : Value} {L : List Ln6} {base i : Nat} {ws : List Int} (h : As3 w wr B v u L base i ws) (hi : L.length ≤ i) : wordsT L base L 1 [] = .ok ws := by
  rw [← h.e, List.drop_eq_nil_of_le hi]
  rfl
theorem imm_plain {L : List Ln6} {base : Nat} {x : Ln6} (h : x.nm = []) : immT L base x = some x.i := by unfold immT; rw [if_pos h]
theorem imm_name {L : List Ln6} {base : Nat} {x : Ln6} (h : x.nm ≠ []) : immT L base x = (if addrI x.nm L base < 0 ∨ 65535 < addrI x.nm L base then none else some (addrI x.nm L base)) := by
  unfold immT addrI
  rw [if_neg h]
  cases addrT x.nm L base with
  | none => rfl
  | some v =>
    show (if 65535 < v then none else some (v : Int)) = if (v : Int) < 0 ∨ 65535 < (v : Int) then none else some (v : Int)
    by_cases hv : 65535 < v
    · rw [if_pos hv, if_pos (Or.inr (by omega))]
    · rw [if_neg hv, if_neg (by omega)]
theorem asmT_range {base : Int} {src : List UInt8} (h : base < 0 ∨ 65535 < base) : asmT base src = ⟨[], 0, 1⟩ := by unfold asmT; rw [if_pos h]
theorem asmT_long {base : Int} {src : List UInt8} (h : ¬ (base < 0 ∨ 65535 < base)) (hl : 4000 < src.length) : asmT base src = ⟨[], 0, 2⟩ := by unfold asmT; rw [if_neg h, if_pos hl]
theorem asmT_first {base : Int} {src : List UInt8} (h : ¬ (base < 0 ∨ 65535 < base)) (hl : ¬ 4000 < src.length) {n e : Nat} (hf : firstE (splitB src) 1 = some (n, e)) : asmT base src = ⟨[], n, e⟩ := by unfold asmT; rw [if_neg h, if_neg hl, hf]
theorem asmT_twice {base : Int} {src : List UInt8} (h : ¬ (base < 0 ∨ 65535 < base)) (hl : ¬ 4000 < src.length) (hf : firstE (splitB src) 1 = none) {n : Nat} (ht : twiceE [] (linesT (splitB src)) 1 = some n) : asmT base src = ⟨[], n, 62⟩ := by unfold asmT; rw [if_neg h, if_neg hl, hf]; simp only [ht]
theorem asmT_err {base : Int} {src : List UInt8} (h : ¬ (base < 0 ∨ 65535 < base)) (hl : ¬ 4000 < src.length) (hf : firstE (splitB src) 1 = none) (ht : twiceE [] (linesT (splitB src)) 1 = none) {n : Nat} (hw : wordsT (linesT (splitB src)) base.toNat (linesT (splitB src)) 1 [] = .error n) : asmT base src = ⟨[], n, 62⟩ := by unfold asmT; rw [if_neg h, if_neg hl, hf]; simp only [ht, hw]
theorem asmT_ok {base : Int} {src : List UInt8} (h : ¬ (base < 0 ∨ 65535 < base)) (hl : ¬ 4000 < src.length) (hf : firstE (splitB src) 1 = none) (ht : twiceE [] (linesT (splitB src)) 1 = none) {ws : List Int} (hw : wordsT (linesT (splitB src)) base.toNat (linesT (splitB src)) 1 [] = .ok ws) : asmT base src = ⟨ws, 0, 0⟩ := by unfold asmT; rw [if_neg h, if_neg hl, hf]; simp only [ht, hw]
theorem asmIs_none {w w' : World} {n e : Nat} {r : Asm} (hr : r = ⟨[], n, e⟩) (f : Fr none' w w') {e1 : Ending} (he : e1 = .returned (.tuple #[.slice none 0 0, .int .i64 (n : Int), .int .i64 (e : Int)])) : AsmIs w w' r e1 := by
  subst hr
  exact ⟨⟨_, he, ownk_nil _ _ _ _⟩, f⟩

end Go.Proofs.YtecipogfdhpjfaaGreatDoor

/- AsmRefR -/
namespace Go.Proofs.YtecipogfdhpjfaaGreatDoor
open Go.RowKit

set_option maxRecDepth 100000 in
set_option maxHeartbeats 16000000 in
theorem assemble_ref (base : Int) (s : ByteArray) (w : World) : Calls Tryz.prog 6 #[.int .i64 base, .string s] w fun e w' => AsmIs w w' (asmT base s.data.toList) e := by
  have hss : s.data.toList.length = s.size := Array.length_toList
  by_cases hb0 : base < 0
  · have v0 : decide (base < 0) = true := decide_eq_true hb0
    have HR := hid' (asmT_range (src := s.data.toList) (Or.inl hb0))
    go_enter Tryz.func6, Tryz.ntmps6
    go_wp2_with fail
    go_ret3
    exact asmIs_none HR.out (Fr.refl _ _) rfl
  have v0 : decide (base < 0) = false := decide_eq_false hb0
  by_cases hb1 : 65535 < base
  · have v1 : decide (65535 < base) = true := decide_eq_true hb1
    have HR := hid' (asmT_range (src := s.data.toList) (Or.inr hb1))
    go_enter Tryz.func6, Tryz.ntmps6
    go_wp2_with fail
    go_ret3
    exact asmIs_none HR.out (Fr.refl _ _) rfl
  have v1 : decide (65535 < base) = false := decide_eq_false hb1
  have hb : ¬ (base < 0 ∨ 65535 < base) := by omega
  obtain ⟨bs, rfl⟩ : ∃ bs : Nat, base = (bs : Int) := ⟨base.toNat, by omega⟩
  have hbs : bs ≤ 65535 := by omega
  by_cases hlen : 4000 < s.size
  · have v2 : decide (4000 < (s.size : Int)) = true := decide_eq_true (by omega)
    have v3 : decide (4000 < s.size) = true := decide_eq_true hlen
    have HR := hid' (asmT_long (src := s.data.toList) hb (by rw [hss]; exact hlen))
    obtain ⟨sz, hsz⟩ : ∃ sz, s.size = sz := ⟨_, rfl⟩
    rw [hsz] at v2 v3
    clear hss hlen
    go_enter Tryz.func6, Tryz.ntmps6
    go_wp2_with fail
    go_ret3
    exact asmIs_none HR.out (Fr.refl _ _) rfl
  have v2 : decide (4000 < (s.size : Int)) = false := decide_eq_false (by omega)
  have v3 : decide (4000 < s.size) = false := decide_eq_false hlen
  have hsl : ¬ 4000 < s.data.toList.length := by rw [hss]; exact hlen
  have HSP := fun w => split_ref s (by omega) w
  have HLE := hid' (fun x hx => Nat.le_trans (split_le s.data.toList x hx) (by rw [hss]; exact Nat.le_of_not_lt hlen) : ∀ x ∈ splitB s.data.toList, x.length ≤ 4000)
  have hcnt : (splitB s.data.toList).length ≤ 4001 := Nat.le_trans (split_count s.data.toList) (by rw [hss]; omega)
  have HA1 := hid' (fun n e hf => asmT_first (src := s.data.toList) hb hsl (n := n) (e := e) hf)
  have HA2 := hid' (fun hf n ht => asmT_twice (src := s.data.toList) hb hsl hf (n := n) ht)
  have HA3 := hid' (fun hf ht n hw => asmT_err (src := s.data.toList) hb hsl hf ht (n := n) hw)
  have HA4 := hid' (fun hf ht ws hw => asmT_ok (src := s.data.toList) hb hsl hf ht (ws := ws) hw)
  rw [show ((bs : Int)).toNat = bs from rfl] at HA3 HA4
  generalize splitB s.data.toList = L at *
  generalize asmT (bs : Int) s.data.toList = res at *
  obtain ⟨N, hN⟩ : ∃ N, N = L.length := ⟨_, rfl⟩
  have HN := hid' hN
  have hN1 : N ≤ 4001 := by rw [hN]; exact hcnt
  obtain ⟨sz, hsz⟩ : ∃ sz, s.size = sz := ⟨_, rfl⟩
  rw [hsz] at v2 v3
  clear hss hlen hsl hcnt hb hb0 hb1 hN
  go_enter Tryz.func6, Tryz.ntmps6
  go_wp2_with fail
  refine (HSP _).mono ?_
  clear HSP
  rintro e w1 ⟨tv, rfl, f1, st1⟩
  obtain ⟨B, hB⟩ : ∃ B, B = w1.heap.size := ⟨_, rfl⟩
  have HI0 := hid' (show As1 w w1 B tv (.slice none 0 0) L 0 from ⟨st1, fun q hq => by
    obtain ⟨cur, hr⟩ := own_rowAt st1 hq
    rw [hB]; exact hr.lt, ownk_nil _ _ _ _, f1, ⟨by rw [hB]; exact f1.size, by omega⟩, by simp, fun s hs => by simp at hs⟩)
  obtain ⟨ta, tc, htv, _⟩ := st1.cells
  subst htv
  rw [← HN.out]
  have HTV := hid' (⟨ta, N, tc, by rw [HN.out]⟩ : ∃ a n c, (Value.slice ta L.length tc) = .slice a n c)
  clear st1 f1 hB v2 v3
  go_wp2_with fail
  go_loopw [8, 9] (fun v i wr => ∃ j : Nat, j ≤ N ∧ i = .int .i64 (j : Int) ∧ (∃ a c, v = .slice a j c) ∧ Hid (As1 w wr B (.slice ta L.length tc) v L j)) (fun _ i _ => N - (intOf i).toNat)
  case atStart => exact ⟨0, by omega, rfl, ⟨none, 0, rfl⟩, HI0.out⟩
  case round =>
    clear HI0 HTV
    obtain ⟨j, hj, rfl, ⟨va, vc, rfl⟩, HI⟩ := hrel
    by_cases hjN : j < N
    · have uj : decide ((j : Int) < (N : Int)) = true := decide_eq_true (by omega)
      have uj' : decide (j < N) = true := decide_eq_true hjN
      have ij : 0 ≤ (j : Int) ∧ (j : Int) < (N : Int) := by omega
      obtain ⟨x, hx⟩ : ∃ x, L[j]? = some x := ⟨_, List.getElem?_eq_getElem (by rw [← HN.out]; exact hjN)⟩
      obtain ⟨ta', tc', ht, hcell⟩ := HI.out.tx.cells
      simp only [Value.slice.injEq] at ht
      obtain ⟨rfl, _, rfl⟩ := ht
      obtain ⟨g, rfl, c0⟩ := hcell j x hx
      obtain ⟨st, hst⟩ : ∃ st : ByteArray, st = ⟨x.toArray⟩ := ⟨_, rfl⟩
      rw [← hst] at c0
      have hsx : st.data.toList = x := by rw [hst]
      have hxl : x.length ≤ 4000 := HLE.out x (List.mem_of_getElem? hx)
      have hsz' : st.size ≤ 5000 := by
        have : st.data.toList.length = st.size := Array.length_toList
        rw [hsx] at this
        omega
      have X := cut_ref st hsz' wr
      rw [hsx] at X
      have HX := hid' hx
      have HCL := hid' (show (cutC x).l.length ≤ 10000 by have := cutC_len x; omega)
      clear hcell hx hst hsx hsz' hxl
      go_wp2_with fail
      refine X.mono ?_
      clear X
      rintro e w2 ⟨v2, b2, rfl, f2, hb2, htk⟩
      have H2 := hid' (HI.out.keep f2)
      have HTK := hid' htk
      have HOK := hid' hb2
      clear HI f2 htk hb2
      cases b2 with
      | false =>
        have HR := hid' (HA1.out _ _ (H2.out.bad HX.out (by rw [lineT_no x HOK.out.symm]; decide)))
        have he : (lineT x).1 = 60 := lineT_no x HOK.out.symm
        have HE := hid' he
        clear he
        go_wp2_with fail
        go_ret3
        refine asmIs_none HR.out H2.out.fr ?_
        rw [HE.out]
        rfl
      | true =>
        have Y := read_ref w2 wr.heap.size v2 (cutC x).l (HTK.out rfl) HCL.out
        rw [← lineT_cut x HOK.out.symm] at Y
        clear HTK HCL
        go_wp2_with fail
        refine Y.mono ?_
        clear Y
        rintro e w3 ⟨y, rfl, f3, hy⟩
        have H3 := hid' (H2.out.keep f3)
        have HY := hid' hy
        clear H2 f3 hy
        obtain ⟨er, her⟩ : ∃ er, er = (lineT x).1 := ⟨_, rfl⟩
        have HER := hid' her
        rw [← her]
        clear her
        dsimp only [lnA, lnR]
        have HLNR := hid' (show lnR y = [.string ⟨y.lab.toArray⟩, .bool (decide (y.k ≠ 0)), .int .i64 y.o, .int .i64 y.a, .int .i64 y.b, .int .i64 y.c, .int .i64 y.i, .string ⟨y.nm.toArray⟩, .bool (decide (y.k = 2)), .int .i64 (y.n : Int)] from rfl)
        generalize (⟨y.lab.toArray⟩ : ByteArray) = lb at *
        generalize decide (y.k ≠ 0) = kb at *
        generalize y.o = o6 at *
        generalize y.a = a6 at *
        generalize y.b = b6 at *
        generalize y.c = c6 at *
        generalize y.i = i6 at *
        generalize (⟨y.nm.toArray⟩ : ByteArray) = nb at *
        generalize decide (y.k = 2) = wb at *
        generalize (y.n : Int) = n6 at *
        have F4 := (Fr.refl none' w3).alloc (.cells #[.string lb, .bool kb, .int .i64 o6, .int .i64 a6, .int .i64 b6, .int .i64 c6, .int .i64 i6, .string nb, .bool wb, .int .i64 n6] 48)
        by_cases he0 : er = 0
        · have u0 : ((er : Int) != 0) = false := by simp [he0]
          have hl1 : (lineT x).1 = 0 := by rw [← HER.out]; exact he0
          have hy2 : y = (lineT x).2 := HY.out hl1
          have F5 := F4.alloc (.cells #[.string lb, .bool kb, .int .i64 o6, .int .i64 a6, .int .i64 b6, .int .i64 c6, .int .i64 i6, .string nb, .bool wb, .int .i64 n6] 48)
          have r5 : Row ((w3.alloc (.cells #[.string lb, .bool kb, .int .i64 o6, .int .i64 a6, .int .i64 b6, .int .i64 c6, .int .i64 i6, .string nb, .bool wb, .int .i64 n6] 48)).alloc (.cells #[.string lb, .bool kb, .int .i64 o6, .int .i64 a6, .int .i64 b6, .int .i64 c6, .int .i64 i6, .string nb, .bool wb, .int .i64 n6] 48)) (w3.heap.size + 1) #[.string lb, .bool kb, .int .i64 o6, .int .i64 a6, .int .i64 b6, .int .i64 c6, .int .i64 i6, .string nb, .bool wb, .int .i64 n6] 48 := by
            have := row_alloc (w3.alloc (.cells #[.string lb, .bool kb, .int .i64 o6, .int .i64 a6, .int .i64 b6, .int .i64 c6, .int .i64 i6, .string nb, .bool wb, .int .i64 n6] 48)) #[.string lb, .bool kb, .int .i64 o6, .int .i64 a6, .int .i64 b6, .int .i64 c6, .int .i64 i6, .string nb, .bool wb, .int .i64 n6] 48
            simpa using this
          have H5 := H3.out.keep F5
          have hnn : (linesT (L.take j)).length < 1000000 := by rw [linesT_len, List.length_take]; omega
          obtain ⟨v6, w6, R1, g6, o6'⟩ := append_ln6 _ B (w3.heap.size + 1) (.slice va j vc) _ _ lb nb kb wb o6 a6 b6 c6 i6 n6 H5.sz.2 H5.ln hnn r5
          have hln6 := o6'
          rw [← HLNR.out, hy2] at hln6
          have H6 := hid' (H3.out.step F5 HX.out hl1 g6 hln6)
          have hform : ∃ a c, v6 = .slice a (j + 1) c := by
            obtain ⟨a, c, e, _⟩ := LnS.cells H6.out.ln
            have hl : (linesT (L.take (j + 1))).length = j + 1 := by rw [linesT_len, List.length_take]; have := HN.out; omega
            exact ⟨a, c, by rw [e, hl]⟩
          clear H5 hnn r5 F5 F4 g6 o6' hln6 HLNR HY hy2 hl1
          subst he0
          go_wp2_with (at_builtin; refine wpList_append_runK rfl _ _ 41 rfl _ _ rfl rfl _ _ R1 ?_)
          go_roundw
          case rel => exact ⟨j + 1, by omega, by go_num, hform, H6.out⟩
          case measure => simp [intOf]; omega
        · have u0 : ((er : Int) != 0) = true := by simp; omega
          have HR := hid' (HA1.out _ _ (H3.out.bad HX.out (by rw [← HER.out]; exact he0)))
          have H4 := hid' (H3.out.keep F4)
          clear F4 HLNR HY
          go_wp2_with fail
          go_ret3
          refine asmIs_none HR.out H4.out.fr ?_
          rw [← HER.out]
          rfl
    · have uj : decide ((j : Int) < (N : Int)) = false := decide_eq_false (by omega)
      have uj' : decide (j < N) = false := decide_eq_false hjN
      have hjn : L.length ≤ j := by rw [← HN.out]; omega
      have HF1 := hid' (HI.out.done hjn)
      have hjj : j = N := by omega
      have hLJ : linesT (L.take j) = linesT L := by rw [List.take_of_length_le hjn]
      have HK := hid' (show ∀ s ∈ L, (lineT s).1 = 0 from fun s hs => HI.out.ok s (by rw [List.take_of_length_le hjn]; exact hs))
      have H0 := hid' (show As2 w wr B (.slice va j vc) (linesT L) from ⟨by have := HI.out.ln; rw [hLJ] at this; exact this, HI.out.fr, HI.out.sz⟩)
      have HNM := hid' (show ∀ y ∈ linesT L, y.k = 2 → y.n ≤ 4294967295 from fun y hy => by
        unfold linesT at hy
        obtain ⟨s', hs', rfl⟩ := List.mem_map.1 hy
        exact lineT_n s' (HK.out s' hs'))
      have HLL := hid' (show (linesT L).length = N by rw [linesT_len]; exact HN.out.symm)
      replace HA2 := hid' (HA2.out HF1.out)
      replace HA3 := hid' (HA3.out HF1.out)
      replace HA4 := hid' (HA4.out HF1.out)
      clear HI HK hLJ hjn HA1 HF1 HLE HN hj
      rw [hjj] at H0 ⊢
      generalize linesT L = M at *
      clear hjj hjN uj uj'
      go_wp2_with fail
      go_loopw [14] (fun a wx => ∃ i : Nat, i ≤ N ∧ a = .int .i64 (i : Int) ∧ Hid (As2 w wx B (.slice va N vc) M ∧ Tw6 M i)) (fun a _ => N - (intOf a).toNat)
      case atStart => exact ⟨0, by omega, rfl, H0.out, tw_start M⟩
      case round =>
        clear H0
        obtain ⟨i, hi, rfl, HI⟩ := hrel
        by_cases hiN : i < N
        · have ui : decide ((i : Int) < (N : Int)) = true := decide_eq_true (by omega)
          have ui' : decide (i < N) = true := decide_eq_true hiN
          obtain ⟨x, hx⟩ : ∃ x, M[i]? = some x := ⟨_, List.getElem?_eq_getElem (by rw [HLL.out]; exact hiN)⟩
          have HX := hid' hx
          have HTW := hid' HI.out.2
          have HA := hid' HI.out.1
          clear hx HI
          go_wp2_with fail
          go_loopw [15] (fun a wx => ∃ k : Nat, k ≤ i ∧ a = .int .i64 (k : Int) ∧ Hid (As2 w wx B (.slice va N vc) M ∧ ∀ m y, m < k → M[m]? = some y → ¬ (x.lab ≠ [] ∧ y.lab = x.lab))) (fun a _ => i - (intOf a).toNat)
          case atStart => exact ⟨0, by omega, rfl, HA.out, fun m y hm => by omega⟩
          case round =>
            clear HA
            obtain ⟨k, hk, rfl, HK⟩ := hrel
            by_cases hki : k < i
            · have uk : decide ((k : Int) < (i : Int)) = true := decide_eq_true (by omega)
              have uk' : decide (k < i) = true := decide_eq_true hki
              obtain ⟨y, hy⟩ : ∃ y, M[k]? = some y := ⟨_, List.getElem?_eq_getElem (by rw [HLL.out]; omega)⟩
              obtain ⟨va', vc', hv, hcell⟩ := LnS.cells HK.out.1.ln
              simp only [Value.slice.injEq] at hv
              obtain ⟨rfl, hvv, rfl⟩ := hv; clear hvv
              obtain ⟨g, rfl, hcx⟩ := hcell i x HX.out
              obtain ⟨g', e', hcy⟩ := hcell k y hy
              obtain rfl : g = g' := by simpa using e'
              have cx : wr.cell? ⟨g, i * 10, none⟩ = some (.string ⟨x.lab.toArray⟩) := hcx 0 (by omega)
              have cy : wr.cell? ⟨g, k * 10, none⟩ = some (.string ⟨y.lab.toArray⟩) := hcy 0 (by omega)
              obtain ⟨lx, hlx⟩ : ∃ lx : ByteArray, lx = ⟨x.lab.toArray⟩ := ⟨_, rfl⟩
              obtain ⟨ly, hly⟩ : ∃ ly : ByteArray, ly = ⟨y.lab.toArray⟩ := ⟨_, rfl⟩
              rw [← hlx] at cx
              rw [← hly] at cy
              have ixN : 0 ≤ (i : Int) ∧ (i : Int) < (N : Int) := by omega
              have ikN : 0 ≤ (k : Int) ∧ (k : Int) < (N : Int) := by omega
              have hkN : k < N := by omega
              have el : lx.toList = x.lab := by rw [hlx, ByteArray.toList_eq]
              have em : ly.toList = y.lab := by rw [hly, ByteArray.toList_eq]
              have HY := hid' hy
              have HEL := hid' (⟨el, em⟩ : _ ∧ _)
              clear hcx hcy hcell e' hlx hly hy
              by_cases h0 : x.lab = []
              · have un : (lx.toList == []) = true := by rw [el]; simp [h0]
                have un2 : (lx.toList != []) = false := by rw [el]; simp [h0]
                have HN := hid' (show ∀ m y, m < k + 1 → M[m]? = some y → ¬ (x.lab ≠ [] ∧ y.lab = x.lab) from fun m y hm hy h => h.1 h0)
                clear el em h0
                go_wp2_with fail
                go_quiet (fail)
                go_wp2_with fail
                go_roundw
                case rel => exact ⟨k + 1, by omega, by go_num, HK.out.1.keep (fr_drewN _ _), HN.out⟩
                case measure => simp [intOf]; omega
              · have un : (lx.toList == []) = false := by rw [el]; simpa using h0
                have un2 : (lx.toList != []) = true := by rw [el]; simpa using h0
                by_cases h1 : y.lab = x.lab
                · have ue : (ly.toList == lx.toList) = true := by rw [el, em]; simp [h1]
                  have HR := hid' (HA2.out _ (tw_hit HTW.out HX.out hki HY.out h0 h1))
                  clear el em h0 h1
                  go_wp2_with fail
                  go_quiet (fail)
                  go_wp2_with fail
                  go_ret3
                  exact asmIs_none HR.out (HK.out.1.fr.trans (fr_drewN _ _)) rfl
                · have ue : (ly.toList == lx.toList) = false := by rw [el, em]; simpa using h1
                  have HN := hid' (show ∀ m y', m < k + 1 → M[m]? = some y' → ¬ (x.lab ≠ [] ∧ y'.lab = x.lab) from fun m y' hm hy' h => by
                    by_cases e : m = k
                    · subst e
                      rw [HY.out] at hy'
                      cases hy'
                      exact h1 h.2
                    · exact HK.out.2 m y' (by omega) hy' h)
                  clear el em h0 h1
                  go_wp2_with fail
                  go_quiet (fail)
                  go_wp2_with fail
                  go_roundw
                  case rel => exact ⟨k + 1, by omega, by go_num, HK.out.1.keep (fr_drewN _ _), HN.out⟩
                  case measure => simp [intOf]; omega
            · have uk : decide ((k : Int) < (i : Int)) = false := decide_eq_false (by omega)
              have uk' : decide (k < i) = false := decide_eq_false hki
              have HN := hid' (tw_next HTW.out HX.out (fun m y hm hy => HK.out.2 m y (by omega) hy))
              go_wp2_with fail
              go_roundw
              case rel => exact ⟨i + 1, by omega, by go_num, HK.out.1, HN.out⟩
              case measure => simp [intOf]; omega
        · have ui : decide ((i : Int) < (N : Int)) = false := decide_eq_false (by omega)
          have ui' : decide (i < N) = false := decide_eq_false hiN
          have HT2 := hid' (tw_end HI.out.2 (by rw [HLL.out]; omega))
          replace HA3 := hid' (HA3.out HT2.out)
          replace HA4 := hid' (HA4.out HT2.out)
          have H3 := hid' (show As3 w wr B (.slice va N vc) (.slice none 0 0) M bs 0 [] from ⟨HI.out.1, ownk_nil _ _ _ _, by simp, by simp⟩)
          clear HI HA2 HT2 hiN hi
          go_wp2_with fail
          go_loopw [16, 17] (fun u a wx => ∃ (i : Nat) (ws : List Int), i ≤ N ∧ a = .int .i64 (i : Int) ∧ Hid (As3 w wx B (.slice va N vc) u M bs i ws)) (fun _ a _ => N - (intOf a).toNat)
          case atStart => exact ⟨0, [], by omega, rfl, H3.out⟩
          case round =>
            clear H3
            obtain ⟨i, ws, hi, rfl, HI⟩ := hrel
            by_cases hiN : i < N
            · have ui : decide ((i : Int) < (N : Int)) = true := decide_eq_true (by omega)
              have ui' : decide (i < N) = true := decide_eq_true hiN
              have ixN : 0 ≤ (i : Int) ∧ (i : Int) < (N : Int) := by omega
              obtain ⟨x, hx⟩ : ∃ x, M[i]? = some x := ⟨_, List.getElem?_eq_getElem (by rw [HLL.out]; exact hiN)⟩
              obtain ⟨va', vc', hv, hcell⟩ := LnS.cells HI.out.a.ln
              simp only [Value.slice.injEq] at hv
              obtain ⟨rfl, hvv, rfl⟩ := hv; clear hvv
              obtain ⟨g, rfl, hcc⟩ := hcell i x hx
              have c0 : wr.cell? ⟨g, i * 10, none⟩ = some (.string ⟨x.lab.toArray⟩) := hcc 0 (by omega)
              have c1 : wr.cell? ⟨g, i * 10 + 1, none⟩ = some (.bool (decide (x.k ≠ 0))) := hcc 1 (by omega)
              have c2 : wr.cell? ⟨g, i * 10 + 2, none⟩ = some (.int .i64 x.o) := hcc 2 (by omega)
              have c3 : wr.cell? ⟨g, i * 10 + 3, none⟩ = some (.int .i64 x.a) := hcc 3 (by omega)
              have c4 : wr.cell? ⟨g, i * 10 + 4, none⟩ = some (.int .i64 x.b) := hcc 4 (by omega)
              have c5 : wr.cell? ⟨g, i * 10 + 5, none⟩ = some (.int .i64 x.c) := hcc 5 (by omega)
              have c6 : wr.cell? ⟨g, i * 10 + 6, none⟩ = some (.int .i64 x.i) := hcc 6 (by omega)
              have c7 : wr.cell? ⟨g, i * 10 + 7, none⟩ = some (.string ⟨x.nm.toArray⟩) := hcc 7 (by omega)
              have c8 : wr.cell? ⟨g, i * 10 + 8, none⟩ = some (.bool (decide (x.k = 2))) := hcc 8 (by omega)
              have c9 : wr.cell? ⟨g, i * 10 + 9, none⟩ = some (.int .i64 (x.n : Int)) := hcc 9 (by omega)
              have HNX := hid' (HNM.out x (List.mem_of_getElem? hx))
              have HX := hid' hx
              obtain ⟨nb, hnb⟩ : ∃ nb : ByteArray, nb = ⟨x.nm.toArray⟩ := ⟨_, rfl⟩
              rw [← hnb] at c7
              have HNB := hid' (show nb.toList = x.nm by rw [hnb, ByteArray.toList_eq])
              have HNB2 := hid' (show nb.data.toList = x.nm by rw [hnb])
              generalize (⟨x.lab.toArray⟩ : ByteArray) = lb at *
              obtain ⟨kb, hkb⟩ : ∃ kb, kb = decide (x.k ≠ 0) := ⟨_, rfl⟩
              obtain ⟨wb, hwb⟩ : ∃ wb, wb = decide (x.k = 2) := ⟨_, rfl⟩
              rw [← hkb] at c1
              rw [← hwb] at c8
              obtain ⟨p2, ho6⟩ : ∃ p2, p2 = x.o := ⟨_, rfl⟩
              obtain ⟨p3, ha6⟩ : ∃ p3, p3 = x.a := ⟨_, rfl⟩
              obtain ⟨p4, hb6⟩ : ∃ p4, p4 = x.b := ⟨_, rfl⟩
              obtain ⟨p5, hc6⟩ : ∃ p5, p5 = x.c := ⟨_, rfl⟩
              obtain ⟨p6, hi6⟩ : ∃ p6, p6 = x.i := ⟨_, rfl⟩
              obtain ⟨n6, hn6⟩ : ∃ n6 : Nat, n6 = x.n := ⟨_, rfl⟩
              rw [← ho6] at c2
              rw [← ha6] at c3
              rw [← hb6] at c4
              rw [← hc6] at c5
              rw [← hi6] at c6
              rw [← hn6] at c9
              have HV := hid' (⟨hkb, hwb, ho6, ha6, hb6, hc6, hi6, hn6⟩ : _ ∧ _ ∧ _ ∧ _ ∧ _ ∧ _ ∧ _ ∧ _)
              have H4 := hid' (HI.out.keep ((Fr.refl none' wr).alloc (.cells #[.string lb, .bool kb, .int .i64 p2, .int .i64 p3, .int .i64 p4, .int .i64 p5, .int .i64 p6, .string nb, .bool wb, .int .i64 (n6 : Int)] 48)))
              clear hcc hcell hx hnb hkb hwb ho6 ha6 hb6 hc6 hi6 hn6
              cases kb with
              | false =>
                have HK0 := hid' (show x.k = 0 by have := of_decide_eq_false HV.out.1.symm; omega)
                go_wp2_with fail
                go_roundw
                case rel => exact ⟨i + 1, ws, by omega, by go_num, H4.out.skip HX.out HK0.out⟩
                case measure => simp [intOf]; omega
              | true =>
                have HK1 := hid' (show x.k ≠ 0 from of_decide_eq_true HV.out.1.symm)
                cases wb with
                | true =>
                  have HK2 := hid' (show x.k = 2 from of_decide_eq_true HV.out.2.1.symm)
                  have hw : IntKind.u32.wrap (n6 : Int) = (n6 : Int) := by
                    have := HNX.out HK2.out
                    rw [HV.out.2.2.2.2.2.2.2, IntKind.wrap_u32]
                    omega
                  have hw2 : (n6 : Int) % 4294967296 = (n6 : Int) := by
                    have := HNX.out HK2.out
                    rw [HV.out.2.2.2.2.2.2.2]
                    omega
                  have hB4 := H4.out.a.sz.2
                  have o4 := H4.out.o
                  have hn4 : ws.length < 100000 := by have := HI.out.n; omega
                  have HE := hid' (show (n6 : Int) = (x.n : Int) by rw [HV.out.2.2.2.2.2.2.2])
                  have HF4 := hid' ((Fr.refl none' wr).alloc (.cells #[.string lb, .bool true, .int .i64 p2, .int .i64 p3, .int .i64 p4, .int .i64 p5, .int .i64 p6, .string nb, .bool true, .int .i64 (n6 : Int)] 48))
                  go_wp2_with (at_builtin; refine wpList_u32 rfl _ _ rfl rfl _ _ _ ws rfl rfl (by simp) B (by exact hB4) (by exact o4) hn4 ?_; intro v7 w7 g7 o7)
                  rw [HE.out] at o7
                  have H7 := hid' (HI.out.word HF4.out g7 HX.out HK2.out o7)
                  clear g7 o7 o4 hB4 H4
                  go_roundw
                  case rel => exact ⟨i + 1, _, by omega, by go_num, H7.out⟩
                  case measure => simp [intOf]; omega
                | false =>
                  have HK2 := hid' (show x.k ≠ 2 from of_decide_eq_false HV.out.2.1.symm)
                  by_cases hnm : x.nm = []
                  · have un : (nb.toList == []) = true := by rw [HNB.out]; simp [hnm]
                    have un2 : (nb.toList != []) = false := by rw [HNB.out]; simp [hnm]
                    have HM := hid' (imm_plain (L := M) (base := bs) hnm)
                    have HF4 := hid' ((Fr.refl none' wr).alloc (.cells #[.string lb, .bool true, .int .i64 p2, .int .i64 p3, .int .i64 p4, .int .i64 p5, .int .i64 p6, .string nb, .bool false, .int .i64 (n6 : Int)] 48))
                    have H5 := hid' (HI.out.keep HF4.out)
                    have hn4 : ws.length < 100000 := by have := HI.out.n; omega
                    have Z := fun W => renc_any p2 p3 p4 p5 p6 W
                    obtain ⟨ew, hew⟩ : ∃ ew, ew = encW p2 p3 p4 p5 p6 := ⟨_, rfl⟩
                    have HEW := hid' hew
                    have Z2 : ∀ W, Calls Tryz.prog 17 #[.agg #[.int .i64 p2, .int .i64 p3, .int .i64 p4, .int .i64 p5, .int .i64 p6]] W fun e w' => ∃ q, e = .returned (.tuple #[.int .u32 ew, .int .i64 q]) ∧ Fr none' W w' := fun W => (Z W).mono fun _ _ ⟨h1, h2⟩ => ⟨_, by rw [hew]; exact h1, h2⟩
                    clear Z hew H4
                    go_wp2_with fail
                    refine (Z2 _).mono ?_
                    clear Z2
                    rintro e w6 ⟨q6, rfl, f6⟩
                    have H6 := hid' (H5.out.keep f6)
                    have HF6 := hid' (HF4.out.trans f6)
                    have hB6 := H6.out.a.sz.2
                    have o6' := H6.out.o
                    clear f6
                    go_wp2_with (at_builtin; refine wpList_u32 rfl _ _ rfl rfl _ _ _ ws rfl rfl (by simp) B (by exact hB6) (by exact o6') hn4 ?_; intro v7 w7 g7 o7)
                    have H7 := hid' (HI.out.ins HF6.out g7 HX.out HK1.out HK2.out HM.out (by rw [← HV.out.2.2.1, ← HV.out.2.2.2.1, ← HV.out.2.2.2.2.1, ← HV.out.2.2.2.2.2.1, ← HV.out.2.2.2.2.2.2.1, ← HEW.out]; exact o7))
                    clear g7 o7 o6' hB6
                    go_roundw
                    case rel => exact ⟨i + 1, _, by omega, by go_num, H7.out⟩
                    case measure => simp [intOf]; omega
                  · have un : (nb.toList == []) = false := by rw [HNB.out]; simpa using hnm
                    have un2 : (nb.toList != []) = true := by rw [HNB.out]; simpa using hnm
                    have HM := hid' (imm_name (L := M) (base := bs) hnm)
                    have Z := address_ref _ B (.slice (some ⟨g, 0, none⟩) N vc) M H4.out.a.ln (by rw [HLL.out]; omega) bs hbs nb
                    rw [HNB2.out] at Z
                    generalize addrI x.nm M bs = at6 at *
                    clear hnm
                    go_wp2_with fail
                    refine Z.mono ?_
                    clear Z
                    rintro e w6 ⟨rfl, rfl⟩
                    by_cases ha0 : at6 < 0
                    · have u1 : decide (at6 < 0) = true := decide_eq_true ha0
                      have HR := hid' (HA3.out _ (HI.out.err HX.out HK1.out HK2.out (by rw [HM.out, if_pos (Or.inl ha0)])))
                      go_wp2_with fail
                      go_ret3
                      exact asmIs_none HR.out H4.out.a.fr rfl
                    · have u1 : decide (at6 < 0) = false := decide_eq_false ha0
                      by_cases ha1 : 65535 < at6
                      · have u2 : decide (65535 < at6) = true := decide_eq_true ha1
                        have HR := hid' (HA3.out _ (HI.out.err HX.out HK1.out HK2.out (by rw [HM.out, if_pos (Or.inr ha1)])))
                        go_wp2_with fail
                        go_ret3
                        exact asmIs_none HR.out H4.out.a.fr rfl
                      · have u2 : decide (65535 < at6) = false := decide_eq_false ha1
                        replace HM := hid' (show immT M bs x = some at6 by rw [HM.out, if_neg (fun h => h.elim ha0 ha1)])
                        clear ha0 ha1
                        have HF4 := hid' ((Fr.refl none' wr).alloc (.cells #[.string lb, .bool true, .int .i64 p2, .int .i64 p3, .int .i64 p4, .int .i64 p5, .int .i64 at6, .string nb, .bool false, .int .i64 (n6 : Int)] 48))
                        have H5 := hid' (HI.out.keep HF4.out)
                        have hn4 : ws.length < 100000 := by have := HI.out.n; omega
                        have Z := fun W => renc_any p2 p3 p4 p5 at6 W
                        obtain ⟨ew, hew⟩ : ∃ ew, ew = encW p2 p3 p4 p5 at6 := ⟨_, rfl⟩
                        have HEW := hid' hew
                        have Z2 : ∀ W, Calls Tryz.prog 17 #[.agg #[.int .i64 p2, .int .i64 p3, .int .i64 p4, .int .i64 p5, .int .i64 at6]] W fun e w' => ∃ q, e = .returned (.tuple #[.int .u32 ew, .int .i64 q]) ∧ Fr none' W w' := fun W => (Z W).mono fun _ _ ⟨h1, h2⟩ => ⟨_, by rw [hew]; exact h1, h2⟩
                        clear Z hew H4
                        go_wp2_with fail
                        refine (Z2 _).mono ?_
                        clear Z2
                        rintro e w6 ⟨q6, rfl, f6⟩
                        have H6 := hid' (H5.out.keep f6)
                        have HF6 := hid' (HF4.out.trans f6)
                        have hB6 := H6.out.a.sz.2
                        have o6' := H6.out.o
                        clear f6
                        go_wp2_with (at_builtin; refine wpList_u32 rfl _ _ rfl rfl _ _ _ ws rfl rfl (by simp) B (by exact hB6) (by exact o6') hn4 ?_; intro v7 w7 g7 o7)
                        have H7 := hid' (HI.out.ins HF6.out g7 HX.out HK1.out HK2.out HM.out (by rw [← HV.out.2.2.1, ← HV.out.2.2.2.1, ← HV.out.2.2.2.2.1, ← HV.out.2.2.2.2.2.1, ← HEW.out]; exact o7))
                        clear g7 o7 o6' hB6
                        go_roundw
                        case rel => exact ⟨i + 1, _, by omega, by go_num, H7.out⟩
                        case measure => simp [intOf]; omega
            · have ui : decide ((i : Int) < (N : Int)) = false := decide_eq_false (by omega)
              have ui' : decide (i < N) = false := decide_eq_false hiN
              have HR := hid' (HA4.out _ (HI.out.fin (by rw [HLL.out]; omega)))
              go_wp2_with fail
              go_ret3
              unfold AsmIs
              rw [HR.out]
              exact ⟨⟨_, rfl, OwnK.mono HI.out.o HI.out.a.sz.1⟩, HI.out.a.fr⟩

end Go.Proofs.YtecipogfdhpjfaaGreatDoor

/- AsmWordsWalk -/
namespace Go.Proofs.YtecipogfdhpjfaaGreatDoor
open Go.RowKit

/-- How long the words of a source are, at most. -/
theorem wordsT_len (all : List Ln6) (base : Nat) : ∀ (l : List Ln6) (n : Nat) (out ws : List Int), wordsT all base l n out = .ok ws → ws.length ≤ out.length + l.length
  | [], _, out, ws, h => by
    unfold wordsT at h
    cases h
    simp
  | x :: l, n, out, ws, h => by
    unfold wordsT at h
    split at h
    · have := wordsT_len all base l _ _ _ h
      simp only [List.length_cons]; omega
    · split at h
      · have := wordsT_len all base l _ _ _ h
        simp only [List.length_cons, List.length_append, List.length_nil] at this ⊢; omega
      · split at h
        · have := wordsT_len all base l _ _ _ h
          simp only [List.length_cons, List.length_append, List.length_nil] at this ⊢; omega
        · cases h
theorem asmT_len (base : Int) (src : List UInt8) : (asmT base src).ws.length ≤ 4001 := by
  unfold asmT
  split
  · simp
  · split
    · simp
    · rename_i hl
      split
      · simp
      · split
        · simp
        · split
          · rename_i ws h
            have h1 := wordsT_len _ _ _ _ _ _ h
            have h2 := split_count src
            have h3 : (linesT (splitB src)).length = (splitB src).length := linesT_len _
            simp only [List.length_nil] at h1
            show ws.length ≤ 4001
            omega
          · simp

/-- A block of words that are turned. -/
structure Wr (w wr : World) (g : Nat) (N : Nat) : Prop where
  row : ∃ cs, Row wr g cs 28 ∧ N ≤ cs.size
  fr : Fr (at' g) w wr
theorem Wr.step {w wr : World} {g N j : Nat} (h : Wr w wr g N) (hj : j < N) : (∃ v, wr.cell? ⟨g, j, none⟩ = some v) ∧ wr.frozen? ⟨g, j, none⟩ = false ∧ Wr w (wr.setCell ⟨g, j, none⟩ (.int .u32 7)) g N := by
  obtain ⟨cs, r, hs⟩ := h.row
  refine ⟨⟨cs[j], ?_⟩, r.frozen j, ⟨_, r.setCell j (.int .u32 7), by simpa using hs⟩, h.fr.setCell (p := ⟨g, j, none⟩) (Or.inr rfl) (.int .u32 7)⟩
  rw [r.cell]
  exact Array.getElem?_eq_getElem (by omega)
set_option maxRecDepth 100000 in
set_option maxHeartbeats 4000000 in
theorem words_row (base : Int) (s : ByteArray) (w : World) (hE : Env w) :
    Calls Tryz.prog 3 #[.int .i64 base, .string s] w fun e w' => e = .returned (.bool true) ∧ Fr none' w w' := by
  have HE := hid' hE
  have A0 := awake_any w hE
  clear hE
  go_enter Tryz.func3, Tryz.ntmps3
  go_wp2_with fail
  refine A0.mono ?_
  clear A0
  rintro e w1 ⟨rfl, f1⟩
  have H1 := hid' f1
  have A1 := asmis_any base s w1 (HE.out.keep f1)
  clear f1
  obtain ⟨r, hr⟩ : ∃ r, r = asmT base s.data.toList := ⟨_, rfl⟩
  have HR := hid' hr
  have hlen : r.ws.length ≤ 4001 := by rw [hr]; exact asmT_len _ _
  rw [← hr] at A1
  clear hr
  obtain ⟨ws, ln, er⟩ := r
  go_wp2_with fail
  refine A1.mono ?_
  clear A1
  rintro e w2 ⟨⟨v1, rfl, o1⟩, f2⟩
  have H2 := hid' (H1.out.trans f2)
  have HS2 := hid' f2.size
  have HO1 := hid' o1
  have A2 := assemble_ref base s w2
  rw [← HR.out] at A2
  clear f2 o1
  go_wp2_with fail
  refine A2.mono ?_
  clear A2
  rintro e w3 ⟨⟨v2, rfl, o2⟩, f3⟩
  have H3 := hid' (H2.out.trans f3)
  have HO3 := hid' (HO1.out.keep0 f3)
  have HO2 := hid' o2
  have A3 := same_eq v1 v2 ws w3 (by have h : ws.length ≤ 4001 := hlen; omega) (ws_own HO3.out) (ws_own o2)
  have HL1 := hid' (show ∀ q, some q = v1.ownBlock → q < w2.heap.size from fun q hq => by
    obtain ⟨cur, hh⟩ := own_rowAt HO1.out hq
    exact hh.lt)
  clear f3 o2
  go_wp2_with fail
  refine A3.mono ?_
  clear A3
  rintro e w4 ⟨rfl, f4⟩
  have H4 := hid' (H3.out.trans f4)
  have HO4 := hid' (HO3.out.keep0 f4)
  have HQ4 := hid' (HO2.out.keep0 f4)
  obtain ⟨N, hN⟩ : ∃ N, N = ws.length := ⟨_, rfl⟩
  have HN := hid' hN
  have hN4 : N ≤ 4001 := by rw [hN]; exact hlen
  clear f4 hN hlen
  by_cases h0 : N = 0
  · have hv1 : v1 = .slice none 0 0 := HO4.out.2 (by rw [← HN.out]; exact h0)
    subst hv1
    have A5 := asmis_any base s w4 (HE.out.keep H4.out)
    rw [← HR.out] at A5
    clear h0
    go_wp2_with fail
    go_loopw [13] (fun a wx => a = .int .i64 0 ∧ Hid (wx = w4)) (fun _ _ => 0)
    case atStart => exact ⟨rfl, rfl⟩
    case round =>
      obtain ⟨rfl, hw⟩ := hrel
      have hw := hw.out.symm
      subst hw
      go_wp2_with fail
      refine A5.mono ?_
      clear A5
      rintro e w6 ⟨⟨v3, rfl, o3⟩, f6⟩
      have A6 := same_eq v3 v2 ws w6 (by have := HN.out; omega) (ws_own o3) (ws_own (HQ4.out.keep0 f6))
      have H6 := hid' (H4.out.trans f6)
      clear f6 o3
      go_wp2_with fail
      refine A6.mono ?_
      clear A6
      rintro e w7 ⟨rfl, f7⟩
      have H7 := hid' (H6.out.trans f7)
      clear f7
      go_wp2_with fail
      go_ret
      exact ⟨rfl, H7.out⟩
  · obtain ⟨g, cap, cur, rfl, hg, rg, hcap, _, hcs, _⟩ := HO4.out.row (by rw [← HN.out]; exact h0)
    have HG := hid' (show w.heap.size ≤ g from Nat.le_trans H1.out.size hg)
    have HGL := hid' (HL1.out g rfl)
    have HW0 := hid' (show Wr w4 w4 g N from ⟨⟨cur, rg, by rw [hcs, Nat.mul_one, HN.out]; exact hcap⟩, Fr.refl _ _⟩)
    rw [← HN.out]
    clear rg hcap hcs hg h0
    go_wp2_with fail
    go_loopw [13] (fun a wx => ∃ j : Nat, j ≤ N ∧ a = .int .i64 (j : Int) ∧ Hid (Wr w4 wx g N)) (fun a _ => N - (intOf a).toNat)
    case atStart => exact ⟨0, by omega, rfl, HW0.out⟩
    case round =>
      clear HW0
      obtain ⟨j, hj, rfl, HI⟩ := hrel
      by_cases hjN : j < N
      · have uj : decide ((j : Int) < (N : Int)) = true := decide_eq_true (by omega)
        have uj' : decide (j < N) = true := decide_eq_true hjN
        have ij : 0 ≤ (j : Int) ∧ (j : Int) < (N : Int) := by omega
        obtain ⟨⟨v, cj⟩, zj, hW⟩ := HI.out.step hjN
        have HW := hid' hW
        clear hW
        go_wp2_with fail
        go_roundw
        case rel => exact ⟨j + 1, by omega, by go_num, HW.out⟩
        case measure => simp [intOf]; omega
      · have uj : decide ((j : Int) < (N : Int)) = false := decide_eq_false (by omega)
        have uj' : decide (j < N) = false := decide_eq_false hjN
        have H5 := hid' (show Fr none' w wr from lone6 H4.out HI.out.fr HG.out)
        have HQ5 := hid' (HQ4.out.keep HI.out.fr (fun q hq e => by
          have := OwnK.high HQ4.out q hq
          have e : q = g := e
          have := HGL.out
          omega))
        have A5 := asmis_any base s wr (HE.out.keep H5.out)
        rw [← HR.out] at A5
        go_wp2_with fail
        refine A5.mono ?_
        clear A5
        rintro e w6 ⟨⟨v3, rfl, o3⟩, f6⟩
        have A6 := same_eq v3 v2 ws w6 (by have := HN.out; omega) (ws_own o3) (ws_own (HQ5.out.keep0 f6))
        have H6 := hid' (H5.out.trans f6)
        clear f6 o3
        go_wp2_with fail
        refine A6.mono ?_
        clear A6
        rintro e w7 ⟨rfl, f7⟩
        have H7 := hid' (H6.out.trans f7)
        clear f7
        go_wp2_with fail
        go_ret
        exact ⟨rfl, H7.out⟩
theorem wordsl_any (base : Int) (s : ByteArray) (w : World) (hE : Env w) :
    Calls Tryz.prog 3 #[.int .i64 base, .string s] w fun e w' => e = .returned (.bool true) ∧ Below w.heap.size w w' :=
  (words_row base s w hE).mono fun _ _ ⟨he, hf⟩ => ⟨he, hf.below (Nat.le_refl _) (fun _ h => h.elim)⟩

end Go.Proofs.YtecipogfdhpjfaaGreatDoor

