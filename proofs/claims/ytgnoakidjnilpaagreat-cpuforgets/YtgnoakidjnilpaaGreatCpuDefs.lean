/-
  A thread's state, traps, an instruction under way and the machine as plain data, and how they lie in memory. No statement is proved here.
-/
import Derived.Test.YtgnoakidjnilpaaGreatWalkVal
import Derived.Test.YtgnoakidjnilpaaGreatTlbAny
import Derived.Test.YtgnoakidjnilpaaGreatIsaEnc
import Derived.Test.YtgnoakidjnilpaaGreatVgNext
import Derived.Test.YtgnoakidjnilpaaGreatTlbFlush
import Derived.Deep.MidRow
namespace Go.Proofs.YtgnoakidjnilpaaGreat
open Go.RowKit

structure Cp where
  r : Nat → Nat
  pc : Int
  s : Nat → Nat

def Cp.setR (c : Cp) (k v : Nat) : Cp := { c with r := fun i => if i = k then v else c.r i }
def Cp.setS (c : Cp) (k v : Nat) : Cp := { c with s := fun i => if i = k then v else c.s i }
def Cp.setP (c : Cp) (x : Int) : Cp := { c with pc := x }
structure Cp.Ok (c : Cp) : Prop where
  r : ∀ i, c.r i < 4294967296
  s : ∀ i, c.s i < 4294967296
theorem Cp.Ok.setR {c : Cp} (h : c.Ok) (k : Nat) {v : Nat} (hv : v < 4294967296) : (c.setR k v).Ok := ⟨fun i => by unfold Cp.setR; dsimp only; split; exact hv; exact h.r i, h.s⟩
theorem Cp.Ok.setS {c : Cp} (h : c.Ok) (k : Nat) {v : Nat} (hv : v < 4294967296) : (c.setS k v).Ok := ⟨h.r, fun i => by unfold Cp.setS; dsimp only; split; exact hv; exact h.s i⟩
theorem Cp.Ok.setP {c : Cp} (h : c.Ok) (x : Int) : (c.setP x).Ok := ⟨h.r, h.s⟩

structure Tr where (ca nu ad : Int) (f : Ft)
def t0 : Tr := ⟨0, 0, 0, f0⟩
def trL (t : Tr) : Array Value := #[.int .i64 t.ca, .int .i64 t.nu, .int .i64 t.ad, .int .i64 t.f.k, .int .i64 t.f.s, .int .i64 t.f.l, .bool t.f.wk, .int .i64 t.f.p]

/-- The cells of a thread's state. -/
def cpL (c : Cp) : List Value := (List.range 16).map (fun i => Value.int .u32 ((c.r i : Nat) : Int)) ++ .int .i64 c.pc :: (List.range 8).map (fun i => Value.int .u32 ((c.s i : Nat) : Int))
theorem cpL_len (c : Cp) : (cpL c).length = 25 := by simp [cpL]
theorem cpL_r (c : Cp) {i : Nat} (h : i < 16) : (cpL c)[i]? = some (.int .u32 ((c.r i : Nat) : Int)) := by
  unfold cpL
  rw [List.getElem?_append_left (by simpa using h)]
  simp [List.getElem?_range h]
theorem cpL_pc (c : Cp) : (cpL c)[16]? = some (.int .i64 c.pc) := by simp [cpL]
theorem cpL_s (c : Cp) {i : Nat} (h : i < 8) : (cpL c)[17 + i]? = some (.int .u32 ((c.s i : Nat) : Int)) := by
  unfold cpL
  rw [List.getElem?_append_right (by simp; omega)]
  simp only [List.length_map, List.length_range]
  rw [show 17 + i - 16 = i + 1 by omega, List.getElem?_cons_succ]
  simp [List.getElem?_range h]
theorem cpL_ext {c : Cp} {l : List Value} (hl : l.length = 25) (h1 : ∀ i, i < 16 → l[i]? = some (.int .u32 ((c.r i : Nat) : Int))) (h2 : l[16]? = some (.int .i64 c.pc)) (h3 : ∀ i, i < 8 → l[17 + i]? = some (.int .u32 ((c.s i : Nat) : Int))) : l = cpL c := by
  apply List.ext_getElem?
  intro i
  by_cases a : i < 16
  · rw [h1 i a, cpL_r c a]
  · by_cases b : i = 16
    · subst b; rw [h2, cpL_pc]
    · by_cases d : i < 25
      · obtain ⟨j, rfl⟩ : ∃ j, i = 17 + j := ⟨i - 17, by omega⟩
        rw [h3 j (by omega), cpL_s c (by omega)]
      · rw [List.getElem?_eq_none (by omega), List.getElem?_eq_none (by rw [cpL_len]; omega)]
theorem one_u32 (x : Int) : (Value.int .u32 x).oneCell' = true := by simp [Value.oneCell']
theorem cpL_one (c : Cp) : ∀ v ∈ cpL c, v.oneCell' = true := by
  intro v hv
  unfold cpL at hv
  simp only [List.mem_append, List.mem_map, List.mem_cons] at hv
  rcases hv with ⟨i, _, rfl⟩ | rfl | ⟨i, _, rfl⟩ <;> simp [Value.oneCell']

def ptrV : Option Nat → Value
  | some b => .pointer (some ⟨b, 0, none⟩)
  | none => .pointer none

/-- An instruction under way. -/
structure Wk where
  p : Nat
  t : Nat
  v : Option Nat
  vm : Int
  sd : Int
  fi : Int
  se : Int
  ix : Int
  pc : Int
  wd : Nat
  op : Nat
  a : Nat
  b : Nat
  c : Nat
  imm : Nat
  z : Cp

structure Sw (cs : Array Value) (X : Wk) : Prop where
  size : cs.size = 40
  c0 : cs[0]? = some (.pointer (some ⟨X.p, 0, none⟩))
  c1 : cs[1]? = some (.pointer (some ⟨X.t, 0, none⟩))
  c2 : cs[2]? = some (ptrV X.v)
  c3 : cs[3]? = some (.int .i64 X.vm)
  c4 : cs[4]? = some (.int .i64 X.sd)
  c5 : cs[5]? = some (.int .i64 X.fi)
  c6 : cs[6]? = some (.int .i64 X.se)
  c7 : cs[7]? = some (.int .i64 X.ix)
  c8 : cs[8]? = some (.int .i64 X.pc)
  c9 : cs[9]? = some (.int .u32 ((X.wd : Nat) : Int))
  c10 : cs[10]? = some (.int .i64 ((X.op : Nat) : Int))
  c11 : cs[11]? = some (.int .i64 ((X.a : Nat) : Int))
  c12 : cs[12]? = some (.int .i64 ((X.b : Nat) : Int))
  c13 : cs[13]? = some (.int .i64 ((X.c : Nat) : Int))
  c14 : cs[14]? = some (.int .i64 ((X.imm : Nat) : Int))
  cr : ∀ i, i < 16 → cs[15 + i]? = some (.int .u32 ((X.z.r i : Nat) : Int))
  cp : cs[31]? = some (.int .i64 X.z.pc)
  cz : ∀ i, i < 8 → cs[32 + i]? = some (.int .u32 ((X.z.s i : Nat) : Int))

def IsW (w : World) (bx : Nat) (X : Wk) : Prop := ∃ cs, Row w bx cs 175 ∧ Sw cs X

section
variable {w w' : World} {bx : Nat} {X : Wk}
theorem IsW.keep {S : Nat → Prop} (h : IsW w bx X) (f : Fr S w w') (hs : ¬ S bx) : IsW w' bx X := by obtain ⟨cs, hr, hc⟩ := h; exact ⟨cs, hr.keep f hs, hc⟩
theorem IsW.keep0 (h : IsW w bx X) (f : Fr none' w w') : IsW w' bx X := h.keep f (fun h => h)
theorem IsW.alloc (h : IsW w bx X) (o : Obj) : IsW (w.alloc o) bx X := h.keep0 ((Fr.refl none' w).alloc o)
theorem IsW.lt (h : IsW w bx X) : bx < w.heap.size := by obtain ⟨cs, hr, _⟩ := h; exact hr.lt
theorem IsW.frozen (h : IsW w bx X) (i : Nat) : w.frozen? ⟨bx, i, none⟩ = false := by obtain ⟨cs, hr, _⟩ := h; exact hr.frozen i
theorem IsW.drew (h : IsW w bx X) : IsW w.drew bx X := h.keep0 (Fr.refl none' w).drew
theorem IsW.drewN (h : IsW w bx X) (n : Nat) : IsW (w.drewN n) bx X := h.keep0 (fr_drewN w n)
theorem IsW.reg (h : IsW w bx X) {i : Nat} (hi : i < 16) : w.cell? ⟨bx, 15 + i, none⟩ = some (.int .u32 ((X.z.r i : Nat) : Int)) := by obtain ⟨cs, hr, hc⟩ := h; exact (hr.cell _).trans (hc.cr i hi)
theorem IsW.sys (h : IsW w bx X) {i : Nat} (hi : i < 8) : w.cell? ⟨bx, 32 + i, none⟩ = some (.int .u32 ((X.z.s i : Nat) : Int)) := by obtain ⟨cs, hr, hc⟩ := h; exact (hr.cell _).trans (hc.cz i hi)
theorem IsW.k0 (h : IsW w bx X) : w.cell? ⟨bx, 0, none⟩ = some (.pointer (some ⟨X.p, 0, none⟩)) := by obtain ⟨cs, hr, hc⟩ := h; exact (hr.cell _).trans hc.c0
theorem IsW.k1 (h : IsW w bx X) : w.cell? ⟨bx, 1, none⟩ = some (.pointer (some ⟨X.t, 0, none⟩)) := by obtain ⟨cs, hr, hc⟩ := h; exact (hr.cell _).trans hc.c1
theorem IsW.k2 (h : IsW w bx X) : w.cell? ⟨bx, 2, none⟩ = some (ptrV X.v) := by obtain ⟨cs, hr, hc⟩ := h; exact (hr.cell _).trans hc.c2
theorem IsW.k3 (h : IsW w bx X) : w.cell? ⟨bx, 3, none⟩ = some (.int .i64 X.vm) := by obtain ⟨cs, hr, hc⟩ := h; exact (hr.cell _).trans hc.c3
theorem IsW.k4 (h : IsW w bx X) : w.cell? ⟨bx, 4, none⟩ = some (.int .i64 X.sd) := by obtain ⟨cs, hr, hc⟩ := h; exact (hr.cell _).trans hc.c4
theorem IsW.k5 (h : IsW w bx X) : w.cell? ⟨bx, 5, none⟩ = some (.int .i64 X.fi) := by obtain ⟨cs, hr, hc⟩ := h; exact (hr.cell _).trans hc.c5
theorem IsW.k6 (h : IsW w bx X) : w.cell? ⟨bx, 6, none⟩ = some (.int .i64 X.se) := by obtain ⟨cs, hr, hc⟩ := h; exact (hr.cell _).trans hc.c6
theorem IsW.k7 (h : IsW w bx X) : w.cell? ⟨bx, 7, none⟩ = some (.int .i64 X.ix) := by obtain ⟨cs, hr, hc⟩ := h; exact (hr.cell _).trans hc.c7
theorem IsW.k8 (h : IsW w bx X) : w.cell? ⟨bx, 8, none⟩ = some (.int .i64 X.pc) := by obtain ⟨cs, hr, hc⟩ := h; exact (hr.cell _).trans hc.c8
theorem IsW.k9 (h : IsW w bx X) : w.cell? ⟨bx, 9, none⟩ = some (.int .u32 ((X.wd : Nat) : Int)) := by obtain ⟨cs, hr, hc⟩ := h; exact (hr.cell _).trans hc.c9
theorem IsW.k11 (h : IsW w bx X) : w.cell? ⟨bx, 11, none⟩ = some (.int .i64 ((X.a : Nat) : Int)) := by obtain ⟨cs, hr, hc⟩ := h; exact (hr.cell _).trans hc.c11
theorem IsW.k12 (h : IsW w bx X) : w.cell? ⟨bx, 12, none⟩ = some (.int .i64 ((X.b : Nat) : Int)) := by obtain ⟨cs, hr, hc⟩ := h; exact (hr.cell _).trans hc.c12
theorem IsW.k13 (h : IsW w bx X) : w.cell? ⟨bx, 13, none⟩ = some (.int .i64 ((X.c : Nat) : Int)) := by obtain ⟨cs, hr, hc⟩ := h; exact (hr.cell _).trans hc.c13
theorem IsW.k14 (h : IsW w bx X) : w.cell? ⟨bx, 14, none⟩ = some (.int .i64 ((X.imm : Nat) : Int)) := by obtain ⟨cs, hr, hc⟩ := h; exact (hr.cell _).trans hc.c14
theorem IsW.some_cell (h : IsW w bx X) {i : Nat} (hi : i < 40) : ∃ v, w.cell? ⟨bx, i, none⟩ = some v := by
  obtain ⟨cs, hr, hc⟩ := h
  exact ⟨_, (hr.cell i).trans (Array.getElem?_eq_getElem (by rw [hc.size]; exact hi))⟩

theorem IsW.set (h : IsW w bx X) {i : Nat} {v : Value} {X' : Wk} (hc : ∀ cs, Sw cs X → Sw (cs.setIfInBounds i v) X') : IsW (w.setCell ⟨bx, i, none⟩ v) bx X' := by
  obtain ⟨cs, hr, hs⟩ := h; exact ⟨_, hr.setCell i v, hc cs hs⟩

theorem Sw.other {cs : Array Value} (_h : Sw cs X) {i j : Nat} {v u : Value} (hij : i ≠ j) (e : cs[j]? = some u) : (cs.setIfInBounds i v)[j]? = some u := by
  rw [Array.getElem?_setIfInBounds, if_neg hij]; exact e

theorem Sw.low {cs : Array Value} (h : Sw cs X) {i : Nat} {v : Value} {z : Cp} (hi : 15 ≤ i)
    (hr : ∀ j, j < 16 → (cs.setIfInBounds i v)[15 + j]? = some (.int .u32 ((z.r j : Nat) : Int))) (hp : (cs.setIfInBounds i v)[31]? = some (.int .i64 z.pc)) (hz : ∀ j, j < 8 → (cs.setIfInBounds i v)[32 + j]? = some (.int .u32 ((z.s j : Nat) : Int))) : Sw (cs.setIfInBounds i v) { X with z := z } :=
  ⟨by simpa using h.size, h.other (by omega) h.c0, h.other (by omega) h.c1, h.other (by omega) h.c2, h.other (by omega) h.c3, h.other (by omega) h.c4, h.other (by omega) h.c5, h.other (by omega) h.c6, h.other (by omega) h.c7, h.other (by omega) h.c8, h.other (by omega) h.c9, h.other (by omega) h.c10, h.other (by omega) h.c11, h.other (by omega) h.c12, h.other (by omega) h.c13, h.other (by omega) h.c14, hr, hp, hz⟩

theorem Sw.here {cs : Array Value} (h : Sw cs X) {i : Nat} (v : Value) (hi : i < 40) : (cs.setIfInBounds i v)[i]? = some v := by
  rw [Array.getElem?_setIfInBounds, if_pos rfl, if_pos (by rw [h.size]; exact hi)]

theorem IsW.setR (h : IsW w bx X) {k v : Nat} (hk : k < 16) : IsW (w.setCell ⟨bx, 15 + k, none⟩ (.int .u32 (v : Int))) bx { X with z := X.z.setR k v } :=
  h.set fun cs hs => hs.low (by omega) (fun j hj => by
    by_cases e : j = k
    · subst e; rw [hs.here _ (by omega)]; simp [Cp.setR]
    · rw [hs.other (by omega) (hs.cr j hj)]; simp [Cp.setR, e]) (hs.other (by omega) hs.cp) (fun j hj => hs.other (by omega) (hs.cz j hj))

theorem IsW.setS (h : IsW w bx X) {k v : Nat} (hk : k < 8) : IsW (w.setCell ⟨bx, 32 + k, none⟩ (.int .u32 (v : Int))) bx { X with z := X.z.setS k v } :=
  h.set fun cs hs => hs.low (by omega) (fun j hj => hs.other (by omega) (hs.cr j hj)) (hs.other (by omega) hs.cp) (fun j hj => by
    by_cases e : j = k
    · subst e; rw [hs.here _ (by omega)]; simp [Cp.setS]
    · rw [hs.other (by omega) (hs.cz j hj)]; simp [Cp.setS, e])

theorem IsW.setP (h : IsW w bx X) (x : Int) : IsW (w.setCell ⟨bx, 31, none⟩ (.int .i64 x)) bx { X with z := X.z.setP x } :=
  h.set fun cs hs => hs.low (by omega) (fun j hj => hs.other (by omega) (hs.cr j hj)) (hs.here _ (by omega)) (fun j hj => hs.other (by omega) (hs.cz j hj))

theorem IsW.setWd (h : IsW w bx X) (x : Nat) : IsW (w.setCell ⟨bx, 9, none⟩ (.int .u32 (x : Int))) bx { X with wd := x } :=
  h.set fun cs hs => ⟨by simpa using hs.size, hs.other (by omega) hs.c0, hs.other (by omega) hs.c1, hs.other (by omega) hs.c2, hs.other (by omega) hs.c3, hs.other (by omega) hs.c4, hs.other (by omega) hs.c5, hs.other (by omega) hs.c6, hs.other (by omega) hs.c7, hs.other (by omega) hs.c8, hs.here _ (by omega), hs.other (by omega) hs.c10, hs.other (by omega) hs.c11, hs.other (by omega) hs.c12, hs.other (by omega) hs.c13, hs.other (by omega) hs.c14, fun j hj => hs.other (by omega) (hs.cr j hj), hs.other (by omega) hs.cp, fun j hj => hs.other (by omega) (hs.cz j hj)⟩

/-- The five cells of the instruction. -/
theorem IsW.setI (h : IsW w bx X) (o a b c i : Nat) : IsW (((((w.setCell ⟨bx, 10, none⟩ (.int .i64 (o : Int))).setCell ⟨bx, 11, none⟩ (.int .i64 (a : Int))).setCell ⟨bx, 12, none⟩ (.int .i64 (b : Int))).setCell ⟨bx, 13, none⟩ (.int .i64 (c : Int))).setCell ⟨bx, 14, none⟩ (.int .i64 (i : Int))) bx { X with op := o, a := a, b := b, c := c, imm := i } := by
  obtain ⟨cs, hr, hs⟩ := h
  refine ⟨_, ((((hr.setCell 10 _).setCell 11 _).setCell 12 _).setCell 13 _).setCell 14 _, ?_⟩
  have sz := hs.size
  have q : ∀ j, ¬ (10 ≤ j ∧ j ≤ 14) → (((((cs.setIfInBounds 10 (.int .i64 (o : Int))).setIfInBounds 11 (.int .i64 (a : Int))).setIfInBounds 12 (.int .i64 (b : Int))).setIfInBounds 13 (.int .i64 (c : Int))).setIfInBounds 14 (.int .i64 (i : Int)))[j]? = cs[j]? := fun j hj => by
    simp (disch := omega) only [Array.getElem?_setIfInBounds, if_neg]
  refine ⟨by simpa using sz, (q _ (by omega)).trans hs.c0, (q _ (by omega)).trans hs.c1, (q _ (by omega)).trans hs.c2, (q _ (by omega)).trans hs.c3, (q _ (by omega)).trans hs.c4, (q _ (by omega)).trans hs.c5, (q _ (by omega)).trans hs.c6, (q _ (by omega)).trans hs.c7, (q _ (by omega)).trans hs.c8, (q _ (by omega)).trans hs.c9, ?_, ?_, ?_, ?_, ?_, fun j hj => (q _ (by omega)).trans (hs.cr j hj), (q _ (by omega)).trans hs.cp, fun j hj => (q _ (by omega)).trans (hs.cz j hj)⟩
  all_goals simp [sz]
end

/-- The state as it stands in the work, read whole. -/
theorem IsW.range {w : World} {bx : Nat} {X : Wk} (h : IsW w bx X) : w.rangeAt bx 15 (cpL X.z) := fun j v hv => by
  have hj : j < 25 := by rw [← cpL_len X.z]; exact (List.getElem?_eq_some_iff.1 hv).1
  by_cases a : j < 16
  · rw [cpL_r _ a] at hv; rw [h.reg a]; exact hv
  · by_cases b : j = 16
    · subst b; rw [cpL_pc] at hv; obtain ⟨cs, hr, hc⟩ := h; rw [hr.cell]; rw [← hv]; exact hc.cp
    · obtain ⟨k, rfl⟩ : ∃ k, j = 17 + k := ⟨j - 17, by omega⟩
      rw [cpL_s _ (show k < 8 by omega)] at hv
      rw [show 15 + (17 + k) = 32 + k by omega, h.sys (show k < 8 by omega)]; exact hv

/-- The machine as it is. -/
structure Mc where
  bs : List UInt8
  T : Nat → Ln
  fo : Int
  mi : Int
  V : Option Vg

/-- Where it lies. -/
structure Bm where
  p : Nat
  bf : Nat
  bt : Nat
  v : Option Bk

def Bm.g (B : Bm) : Nat → Prop := fun k => match B.v with
  | some b => b.s k
  | none => False
/-- What may turn. -/
def Bm.s (B : Bm) : Nat → Prop := fun k => k = B.bf ∨ k = B.bt ∨ B.g k

def IsV (w : World) : Option Bk → Option Vg → Prop
  | some b, some S => IsVg w b S
  | none, none => True
  | _, _ => False

structure IsMc (w : World) (B : Bm) (nf : Nat) (M : Mc) : Prop where
  ram : IsRam w B.p B.bf nf M.bs
  tlb : IsTlb w B.bt M.T M.fo M.mi
  vg : IsV w B.v M.V
  d1 : B.p ≠ B.bt
  d2 : B.bf ≠ B.bt
  d3 : B.p ≠ B.bf
  e1 : ¬ B.g B.p
  e2 : ¬ B.g B.bf
  e3 : ¬ B.g B.bt

theorem IsV.keep {w w' : World} {b : Option Bk} {V : Option Vg} (h : IsV w b V) {S : Nat → Prop} (f : Fr S w w') (hs : ∀ B, b = some B → ∀ k, B.s k → ¬ S k) : IsV w' b V := by
  cases b with
  | none => cases V with
    | none => trivial
    | some S => exact h.elim
  | some B => cases V with
    | none => exact h.elim
    | some S => exact IsVg.keep h f (hs B rfl)

theorem IsMc.keep {w w' : World} {B : Bm} {nf : Nat} {M : Mc} (h : IsMc w B nf M) {S : Nat → Prop} (f : Fr S w w') (h1 : ¬ S B.p) (h2 : ¬ S B.bf) (h3 : ¬ S B.bt) (h4 : ∀ k, B.g k → ¬ S k) : IsMc w' B nf M :=
  ⟨h.ram.keep f h1 h2, h.tlb.keep f h3, h.vg.keep f (fun b hb k hk => h4 k (by simp only [Bm.g, hb]; exact hk)), h.d1, h.d2, h.d3, h.e1, h.e2, h.e3⟩
theorem IsMc.keep0 {w w' : World} {B : Bm} {nf : Nat} {M : Mc} (h : IsMc w B nf M) (f : Fr none' w w') : IsMc w' B nf M := h.keep f (fun h => h) (fun h => h) (fun h => h) (fun _ _ h => h)
theorem IsMc.ltg {w : World} {B : Bm} {nf : Nat} {M : Mc} (h : IsMc w B nf M) (k : Nat) (hk : B.g k) : k < w.heap.size := by
  have hv := h.vg
  unfold Bm.g at hk
  cases hb : B.v with
  | none => simp [hb] at hk
  | some b =>
    simp only [hb] at hk
    rw [hb] at hv
    cases hV : M.V with
    | none => rw [hV] at hv; exact hv.elim
    | some S => rw [hV] at hv; exact IsVg.lt hv k hk
theorem IsMc.lts {w : World} {B : Bm} {nf : Nat} {M : Mc} (h : IsMc w B nf M) (k : Nat) (hk : B.s k) : k < w.heap.size := by
  rcases hk with rfl | rfl | hk
  · exact h.ram.row.lt
  · exact h.tlb.lt
  · exact h.ltg k hk

end Go.Proofs.YtgnoakidjnilpaaGreat
