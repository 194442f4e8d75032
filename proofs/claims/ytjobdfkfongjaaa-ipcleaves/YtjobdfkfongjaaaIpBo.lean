/-
  Eight numbers of a law's own; what the laws ask of threads' places. No statement is proved here.
-/
import Derived.Test.YtjobdfkfongjaaaIpOpen
import Derived.Test.YtjobdfkfongjaaaIpActs
import Derived.Test.YtjobdfkfongjaaaIpRlJ
import Derived.Deep.CutBlock
import Derived.Deep.CutRange
/- IpOpenA -/
namespace Go.Proofs.Ytjobdfkfongjaaa
open Go.ChangeShapes Go.WideShapes Go.ChangeAt Go.RowKit Go.Deep

theorem cells_ac : Try.prog.cellsOf 42 = 13 := by kernel_rfl
def OkAc (A : Ac) : Prop := I64 A.d ∧ I64 A.a ∧ I64 A.t ∧ I64 A.x
def acL (A : Ac) : List Value := (acA A).toList
theorem acL_len (A : Ac) : (acL A).length = 13 := rfl

set_option maxRecDepth 100000 in
theorem ac_cells {H : Type} {enc : TypeId × Value → H} {W : World} {n : Nat} {cs : List Value} {y : DataW H × List MemPlace} (h : DataW.trod enc Try.prog W 0 (fun _ => true) true n 42 cs = some y) :
    ∃ x : Ac, cs = acL x ∧ OkAc x := by
  obtain ⟨xs, n', _, _, hl, hxl, hf⟩ := DataW.trod_struct Try.underlying42 h
  rw [cells_ac] at hl
  have hxl' : xs.length = 7 := hxl
  have g0 : DataW.trod enc Try.prog W 0 (fun _ => true) true n' 3 ((cs.drop 0).take (Try.prog.cellsOf 3)) = xs[0]? := hf 0 _ rfl
  have g1 : DataW.trod enc Try.prog W 0 (fun _ => true) true n' 3 ((cs.drop 1).take (Try.prog.cellsOf 3)) = xs[1]? := hf 1 _ rfl
  have g2 : DataW.trod enc Try.prog W 0 (fun _ => true) true n' 3 ((cs.drop 2).take (Try.prog.cellsOf 3)) = xs[2]? := hf 2 _ rfl
  have g3 : DataW.trod enc Try.prog W 0 (fun _ => true) true n' 3 ((cs.drop 3).take (Try.prog.cellsOf 3)) = xs[3]? := hf 3 _ rfl
  have g4 : DataW.trod enc Try.prog W 0 (fun _ => true) true n' 36 ((cs.drop 4).take (Try.prog.cellsOf 36)) = xs[4]? := hf 4 _ rfl
  have g5 : DataW.trod enc Try.prog W 0 (fun _ => true) true n' 4 ((cs.drop 11).take (Try.prog.cellsOf 4)) = xs[5]? := hf 5 _ rfl
  have g6 : DataW.trod enc Try.prog W 0 (fun _ => true) true n' 4 ((cs.drop 12).take (Try.prog.cellsOf 4)) = xs[6]? := hf 6 _ rfl
  rw [cells_int, field_one 0 (by omega), List.getElem?_eq_getElem (by omega)] at g0
  rw [cells_int, field_one 1 (by omega), List.getElem?_eq_getElem (by omega)] at g1
  rw [cells_int, field_one 2 (by omega), List.getElem?_eq_getElem (by omega)] at g2
  rw [cells_int, field_one 3 (by omega), List.getElem?_eq_getElem (by omega)] at g3
  rw [cells_ms, List.getElem?_eq_getElem (by omega)] at g4
  rw [cells_bool, field_one 11 (by omega), List.getElem?_eq_getElem (by omega)] at g5
  rw [cells_bool, field_one 12 (by omega), List.getElem?_eq_getElem (by omega)] at g6
  obtain ⟨a0, e0, _, u0⟩ := DataW.trod_int Try.underlying3 g0
  obtain ⟨a1, e1, _, u1⟩ := DataW.trod_int Try.underlying3 g1
  obtain ⟨a2, e2, _, u2⟩ := DataW.trod_int Try.underlying3 g2
  obtain ⟨a3, e3, _, u3⟩ := DataW.trod_int Try.underlying3 g3
  obtain ⟨m, e4⟩ := ms_cells g4
  obtain ⟨b5, e5, _⟩ := DataW.trod_bool Try.underlying4 g5
  obtain ⟨b6, e6, _⟩ := DataW.trod_bool Try.underlying4 g6
  simp only [List.cons.injEq, and_true] at e0 e1 e2 e3 e5 e6
  refine ⟨⟨a0, a1, a2, a3, m, b5, b6⟩, ?_, bounds_i64 u0, bounds_i64 u1, bounds_i64 u2, bounds_i64 u3⟩
  match cs, hl with
  | [c0, c1, c2, c3, c4, c5, c6, c7, c8, c9, c10, c11, c12], _ =>
    simp only [List.getElem_cons_zero, List.getElem_cons_succ] at e0 e1 e2 e3 e5 e6
    simp only [List.drop_succ_cons, List.drop_zero, List.take_succ_cons, List.take_zero, msL, List.cons.injEq, and_true] at e4
    obtain ⟨m0, m1, m2, m3, m4, m5, m6⟩ := e4
    rw [e0, e1, e2, e3, e5, e6, m0, m1, m2, m3, m4, m5, m6]
    rfl
/-- Acts that came in. -/
abbrev Acs (w : World) (a0 : Option Addr) (len : Nat) (A : Nat → Ac) : Prop := Sls w a0 len 13 acL OkAc A
theorem Acs.keep' {w w' : World} {a0 : Option Addr} {len : Nat} {A : Nat → Ac} (h : Acs w a0 len A) (fr : Fr none' w w') : Acs w' a0 len A := Sls.keep h acL_len fr
theorem acs_open {H : Type} {enc : TypeId × Value → H} {W : World} {fuel : Nat} {a0 : Option Addr} {len cap : Nat} {y : DataW H × List MemPlace} (hf : DataW.trod enc Try.prog W 0 (fun _ => true) true fuel 22 [.slice a0 len cap] = some y) :
    len ≤ 9223372036854775807 ∧ ∃ A, Acs W a0 len A :=
  slice_open (⟨0, 0, 0, 0, M0, false, false⟩ : Ac) Try.underlying22 cells_ac (by omega) acL OkAc (fun h => ac_cells h) hf

end Go.Proofs.Ytjobdfkfongjaaa

/- IpBoth -/
namespace Go.Proofs.Ytjobdfkfongjaaa
open Go.RowKit Go.Maps Go.WideMaps Go.Shelf

/-- Both, newer than w0, alike. -/
structure Bx (w0 w : World) (b : Nat) (q : Db) (S : Ip) (D : Dc) (n : Nat) : Prop where
  ix : Ix w0 w b S q.s
  d : IsD w q D
  hi : ∀ k, q.s k → w0.heap.size ≤ k
  rl : Rl S D
  sm : Shrt D n
section
variable {w0 w w1 w2 : World} {b : Nat} {q q' : Db} {S S' : Ip} {D D' : Dc} {n : Nat}
theorem Bx.old (h : Bx w0 w b q S D n) : Fr none' w0 w := h.ix.old
theorem Bx.keep0 (h : Bx w0 w b q S D n) (f : Fr none' w w1) : Bx w0 w1 b q S D n := ⟨h.ix.keep0 f, h.d.keep0 f, h.hi, h.rl, h.sm⟩
/-- Behind an act of the program's. -/
theorem Bx.prog (h : Bx w0 w b q S D n) (f : FrO w0 q.s w w1) : IsD w1 q D := h.d.keep f (fun _ hk e => e.2 hk)
/-- Behind an act of both. -/
theorem Bx.both (h : Bx w0 w b q S D n) (i : Ix w0 w1 b S' q.s) (c : ChgD w1 q w2 q' D') (r : Rl S' D') {m : Nat} (s : Shrt D' m) : Bx w0 w2 b q' S' D' m := by
  refine ⟨i.turn c.fr (fun k hk => ⟨h.hi k hk, hk⟩) (fun k hk => ⟨c.new k hk, c.is.lt k hk⟩), c.is, fun k hk => ?_, r, s⟩
  rcases c.new k hk with h1 | h1
  · exact h.hi k h1
  · exact Nat.le_trans (ix_low i).1 h1
theorem Bx.start {w0 w : World} {b : Nat} (h : Ix w0 w b ip0 (fun _ => False)) : Bx w0 (w.alloc (.cells #[.slice none 0 0, .slice none 0 0, .slice none 0 0, .slice none 0 0, .slice none 0 0] 31)) b ⟨w.heap.size, .slice none 0 0, .slice none 0 0, .slice none 0 0, .slice none 0 0, .slice none 0 0⟩ ip0 ⟨[], [], [], [], []⟩ 0 := by
  have hq : ∀ k, Db.s ⟨w.heap.size, .slice none 0 0, .slice none 0 0, .slice none 0 0, .slice none 0 0, .slice none 0 0⟩ k → k = w.heap.size := fun _ hk => by
    rcases hk with hk | hk | hk | hk | hk | hk
    · exact hk
    all_goals simp [Value.ownBlock] at hk
  refine ⟨h.more ((Fr.refl none' w).alloc _) (fun k hk => ?_), isD_new w, fun k hk => ?_, rl_0, ⟨Nat.le_refl _, Nat.le_refl _, Nat.le_refl _, Nat.le_refl _, Nat.le_refl _⟩⟩
  · rw [hq k hk]
    exact ⟨Or.inr (Nat.le_refl _), by simp⟩
  · rw [hq k hk]
    exact (ix_low h).1
end
/-- The program's Ipc behind k acts. -/
def plS (A : Nat → Ac) : Nat → Ip
  | 0 => ip0
  | k + 1 => doesS (plS A k) (A k)

set_option maxRecDepth 100000 in
set_option maxHeartbeats 4000000 in
theorem played_any (w : World) (a0 : Option Addr) (len cap : Nat) (A : Nat → Ac) (hA : Acs w a0 len A) (hl : len ≤ 9223372036854775807) :
    Calls Try.prog 14 #[.slice a0 len cap] w fun e w' => ∃ b r K, e = .returned (.tuple #[pv b, pv r]) ∧ (K ≤ len ∧ K ≤ 80 ∧ (K = len ∨ K = 80)) ∧ Ix w w' b (plS A K) (fun _ => False) ∧ Iv (plS A K) := by
  have HA : Hid (Acs w a0 len A) := hA
  clear hA
  go_enter Try.func14, Try.ntmps14
  go_wp2_with fail
  refine (xnew w).mono ?_
  rintro e w1 ⟨b, rfl, h1⟩
  have HB : Hid (Bx w (w1.alloc (.cells #[.slice none 0 0, .slice none 0 0, .slice none 0 0, .slice none 0 0, .slice none 0 0] 31)) b _ ip0 ⟨[], [], [], [], []⟩ 0) := Bx.start h1
  clear h1
  go_wp2_with fail
  generalize (w1.alloc (.cells #[.slice none 0 0, .slice none 0 0, .slice none 0 0, .slice none 0 0, .slice none 0 0] 31)) = v at *
  generalize hq : Db.mk w1.heap.size _ _ _ _ _ = q at HB
  have hr : w1.heap.size = q.b := by rw [← hq]
  rw [hr]
  generalize hrr : q.b = r at *
  have HR : Hid (q.b = r) := hrr
  clear hr hq hrr
  go_loopw [6] (fun i wr => ∃ k : Nat, k ≤ len ∧ k ≤ 80 ∧ i = .int .i64 (k : Int) ∧ Hid (∃ q D, q.b = r ∧ Bx w wr b q (plS A k) D k)) (fun i _ => 80 - (intOf i).toNat)
  case atStart => exact ⟨0, by omega, by omega, rfl, ⟨q, _, HR.out, HB.out⟩⟩
  case round =>
    clear HB HR q
    obtain ⟨k, hk, hk2, rfl, hb⟩ := hrel
    obtain ⟨q, D, hqb, hB⟩ := hb.out
    by_cases hlt : k < len
    · by_cases hlt2 : k < 80
      · obtain ⟨bb, o, rfl, ak, ok⟩ := (HA.out.keep' hB.old) k hlt
        have i1 : 0 ≤ (k : Int) ∧ (k : Int) < (len : Int) := by omega
        have uk1 : decide ((k : Int) < (len : Int)) = true := decide_eq_true (by omega)
        have uk2 : decide ((k : Int) < 80) = true := decide_eq_true (by omega)
        have c0 : wr.cell? ⟨bb, o + k * 13, none⟩ = some (.int .i64 (A k).d) := ak 0 (by omega)
        have c1 : wr.cell? ⟨bb, o + k * 13 + 1, none⟩ = some (.int .i64 (A k).a) := ak 1 (by omega)
        have c2 : wr.cell? ⟨bb, o + k * 13 + 2, none⟩ = some (.int .i64 (A k).t) := ak 2 (by omega)
        have c3 : wr.cell? ⟨bb, o + k * 13 + 3, none⟩ = some (.int .i64 (A k).x) := ak 3 (by omega)
        have c4 : wr.cell? ⟨bb, o + k * 13 + 4, none⟩ = some (.int .i64 (A k).m.l) := ak 4 (by omega)
        have c5 : wr.cell? ⟨bb, o + k * 13 + 5, none⟩ = some (.int .i64 (A k).m.b) := ak 5 (by omega)
        have c6 : wr.cell? ⟨bb, o + k * 13 + 6, none⟩ = some (.int .i64 (A k).m.n) := ak 6 (by omega)
        have c7 : wr.cell? ⟨bb, o + k * 13 + 7, none⟩ = some (.int .u32 (A k).m.w0) := ak 7 (by omega)
        have c8 : wr.cell? ⟨bb, o + k * 13 + 8, none⟩ = some (.int .u32 (A k).m.w1) := ak 8 (by omega)
        have c9 : wr.cell? ⟨bb, o + k * 13 + 9, none⟩ = some (.int .u32 (A k).m.w2) := ak 9 (by omega)
        have c10 : wr.cell? ⟨bb, o + k * 13 + 10, none⟩ = some (.int .u32 (A k).m.w3) := ak 10 (by omega)
        have c11 : wr.cell? ⟨bb, o + k * 13 + 11, none⟩ = some (.bool (A k).c) := ak 11 (by omega)
        have c12 : wr.cell? ⟨bb, o + k * 13 + 12, none⟩ = some (.bool (A k).bl) := ak 12 (by omega)
        have X := does_any hB.ix (A k) ok.2.1 ok.2.2.1
        unfold acV acA at X
        have HX : Hid (Bx w wr b q (plS A k) D k ∧ q.b = r) := ⟨hB, hqb⟩
        clear ok ak hB hb hqb
        go_wp2_with fail
        refine X.mono ?_
        clear X c0 c1 c2 c3 c4 c5 c6 c7 c8 c9 c10 c11 c12
        rintro e w3 ⟨va, rfl, _, i3, f3⟩
        have hd := HX.out.1.prog f3
        have fit := HX.out.1.rl.fit HX.out.1.sm (by omega)
        have Y := means_any hd fit (A k)
        rw [HX.out.2] at Y
        unfold acV acA at Y
        obtain ⟨bb', o', eb, ak3, _⟩ := (HA.out.keep' i3.old) k hlt
        simp only [Option.some.injEq, Addr.mk.injEq, and_true] at eb
        obtain ⟨rfl, rfl⟩ := eb
        have d0 : w3.cell? ⟨bb, o + k * 13, none⟩ = some (.int .i64 (A k).d) := ak3 0 (by omega)
        have d1 : w3.cell? ⟨bb, o + k * 13 + 1, none⟩ = some (.int .i64 (A k).a) := ak3 1 (by omega)
        have d2 : w3.cell? ⟨bb, o + k * 13 + 2, none⟩ = some (.int .i64 (A k).t) := ak3 2 (by omega)
        have d3 : w3.cell? ⟨bb, o + k * 13 + 3, none⟩ = some (.int .i64 (A k).x) := ak3 3 (by omega)
        have d4 : w3.cell? ⟨bb, o + k * 13 + 4, none⟩ = some (.int .i64 (A k).m.l) := ak3 4 (by omega)
        have d5 : w3.cell? ⟨bb, o + k * 13 + 5, none⟩ = some (.int .i64 (A k).m.b) := ak3 5 (by omega)
        have d6 : w3.cell? ⟨bb, o + k * 13 + 6, none⟩ = some (.int .i64 (A k).m.n) := ak3 6 (by omega)
        have d7 : w3.cell? ⟨bb, o + k * 13 + 7, none⟩ = some (.int .u32 (A k).m.w0) := ak3 7 (by omega)
        have d8 : w3.cell? ⟨bb, o + k * 13 + 8, none⟩ = some (.int .u32 (A k).m.w1) := ak3 8 (by omega)
        have d9 : w3.cell? ⟨bb, o + k * 13 + 9, none⟩ = some (.int .u32 (A k).m.w2) := ak3 9 (by omega)
        have d10 : w3.cell? ⟨bb, o + k * 13 + 10, none⟩ = some (.int .u32 (A k).m.w3) := ak3 10 (by omega)
        have d11 : w3.cell? ⟨bb, o + k * 13 + 11, none⟩ = some (.bool (A k).c) := ak3 11 (by omega)
        have d12 : w3.cell? ⟨bb, o + k * 13 + 12, none⟩ = some (.bool (A k).bl) := ak3 12 (by omega)
        have HI : Hid (Ix w w3 b (doesS (plS A k) (A k)) q.s) := i3
        clear ak3 i3 f3 hd fit
        go_wp2_with fail
        refine Y.mono ?_
        clear Y d0 d1 d2 d3 d4 d5 d6 d7 d8 d9 d10 d11 d12
        rintro e w4 ⟨vb, q4, rfl, _, C4⟩
        have HN : Hid (∃ q D, q.b = r ∧ Bx w w4 b q (plS A (k + 1)) D (k + 1)) := ⟨q4, _, C4.eb.trans HX.out.2, HX.out.1.both HI.out C4 (HX.out.1.rl.act (A k)).2.2.2.2.2 (HX.out.1.sm.act (A k))⟩
        clear C4
        go_wp2_with fail
        go_roundw
        case rel => exact ⟨k + 1, by omega, by omega, by go_num, HN.out⟩
        case measure => simp [intOf]; omega
      · obtain rfl : k = 80 := by omega
        have uk1 : decide (((80 : Nat) : Int) < (len : Int)) = true := decide_eq_true (by omega)
        have uk1' : decide ((80 : Int) < (len : Int)) = true := decide_eq_true (by omega)
        have HP : Hid (Ix w wr b (plS A 80) (fun _ => False) ∧ Iv (plS A 80)) := ⟨hB.ix.less (fun _ h => h.elim), hB.rl.iv⟩
        clear hb hB hqb
        go_wp2_with fail
        go_ret2
        exact ⟨b, r, 80, rfl, ⟨by omega, by omega, Or.inr rfl⟩, HP.out⟩
    · obtain rfl : k = len := by omega
      have uk1 : decide ((k : Int) < (k : Int)) = false := decide_eq_false (by omega)
      have HP : Hid (Ix w wr b (plS A k) (fun _ => False) ∧ Iv (plS A k)) := ⟨hB.ix.less (fun _ h => h.elim), hB.rl.iv⟩
      clear hb hB hqb
      go_wp2_with fail
      go_ret2
      exact ⟨b, r, k, rfl, ⟨by omega, by omega, Or.inl rfl⟩, HP.out⟩

end Go.Proofs.Ytjobdfkfongjaaa

/- IpLawA -/
namespace Go.Proofs.Ytjobdfkfongjaaa
open Go.RowKit Go.Maps Go.WideMaps Go.Shelf

def ar8 (f : Int → Int) : Array Value := #[.int .i64 (f 0), .int .i64 (f 1), .int .i64 (f 2), .int .i64 (f 3), .int .i64 (f 4), .int .i64 (f 5), .int .i64 (f 6), .int .i64 (f 7)]
theorem ar8_at (f : Int → Int) {k : Nat} (hk : k < 8) : (ar8 f)[k]? = some (.int .i64 (f k)) := by
  match k, hk with
  | 0, _ => rfl
  | 1, _ => rfl
  | 2, _ => rfl
  | 3, _ => rfl
  | 4, _ => rfl
  | 5, _ => rfl
  | 6, _ => rfl
  | 7, _ => rfl
theorem ar8_set (f g : Int → Int) {k : Nat} (hk : k < 8) (h : ∀ j : Nat, j < 8 → j ≠ k → g j = f j) : (ar8 f).setIfInBounds k (.int .i64 (g k)) = ar8 g := by
  refine Array.ext_getElem? fun i => ?_
  rw [Array.getElem?_setIfInBounds]
  by_cases hi : i < 8
  · by_cases e : k = i
    · subst e
      rw [if_pos rfl, if_pos (by show k < 8; exact hk), ar8_at g hk]
    · rw [if_neg e, ar8_at f hi, ar8_at g hi, h i hi (fun e2 => e e2.symm)]
  · rw [if_neg (fun e => by omega)]
    have : ∀ F, (ar8 F)[i]? = none := fun F => Array.getElem?_eq_none (by show 8 ≤ i; omega)
    rw [this, this]
theorem ar8_same (f g : Int → Int) (h : ∀ j : Nat, j < 8 → g j = f j) : ar8 f = ar8 g := by
  refine Array.ext_getElem? fun i => ?_
  by_cases hi : i < 8
  · rw [ar8_at f hi, ar8_at g hi, h i hi]
  · have : ∀ F, (ar8 F)[i]? = none := fun F => Array.getElem?_eq_none (by show 8 ≤ i; omega)
    rw [this, this]
/-- An Ipc of the law's own, and eight numbers. -/
structure Lw (w0 w : World) (b : Nat) (S : Ip) (g : Nat) (f : Int → Int) : Prop where
  ix : Ix w0 w b S (at' g)
  ar : Row w g (ar8 f) 49
  hg : w0.heap.size ≤ g
section
variable {w0 w w1 : World} {b g : Nat} {S : Ip} {f f' : Int → Int}
theorem Lw.keep0 (h : Lw w0 w b S g f) (fr : Fr none' w w1) : Lw w0 w1 b S g f := ⟨h.ix.keep0 fr, h.ar.keep fr (fun h => h), h.hg⟩
theorem Lw.set (h : Lw w0 w b S g f) {k : Nat} (hk : k < 8) (hs : ∀ j : Nat, j < 8 → j ≠ k → f' j = f j) : Lw w0 (w.setCell ⟨g, k, none⟩ (.int .i64 (f' k))) b S g f' := by
  have fr := fr_set w g k (.int .i64 (f' k)) (Fr.refl (at' g) w)
  refine ⟨h.ix.keep fr (fun k hk => ⟨by have e : k = g := hk; rw [e]; exact h.hg, hk⟩), ?_, h.hg⟩
  have := h.ar.setCell k (.int .i64 (f' k))
  rw [ar8_set f f' hk hs] at this
  exact this
theorem Lw.to (h : Lw w0 w b S g f) (e : ∀ j : Nat, j < 8 → f' j = f j) : Lw w0 w b S g f' := ⟨h.ix, by rw [← ar8_same f f' e]; exact h.ar, h.hg⟩
theorem Lw.cell (h : Lw w0 w b S g f) {k : Nat} (hk : k < 8) : w.cell? ⟨g, k, none⟩ = some (.int .i64 (f k)) := by
  rw [show w.cell? ⟨g, k, none⟩ = (ar8 f)[k]? from Row.cell h.ar k, ar8_at f hk]
theorem Lw.frozen (h : Lw w0 w b S g f) (k : Nat) : w.frozen? ⟨g, k, none⟩ = false := Row.frozen h.ar k
theorem Lw.new (h : Ix w0 w b S (fun _ => False)) : Lw w0 (w.alloc (.cells (ar8 fun _ => 0) 49)) b S w.heap.size (fun _ => 0) :=
  ⟨h.more ((Fr.refl none' w).alloc _) (fun k hk => by have e : k = w.heap.size := hk; rw [e]; exact ⟨Or.inr (Nat.le_refl _), by simp⟩), row_alloc _ _ _, (ix_low h).1⟩
end
theorem bel_law {w w1 w2 : World} {b g : Nat} {S : Ip} {f : Int → Int} (h : Fr none' w w1) (l : Lw w1 w2 b S g f) : Below w.heap.size w w2 := bel_of' (h.trans l.ix.old)
theorem cal_at {S : Ip} (ok : Ok S) (iv : Iv S) {t c : Int} (e : calO S t = some c) : plcS S c = 4 ∧ plcO S c = t ∧ 0 ≤ c ∧ c < 1024 ∧ S.q 4 t = [c] := by
  unfold calO at e
  split at e
  · rename_i hn
    have h0 := (num_iff.1 hn).1
    unfold firO at e
    have hin : c ∈ S.q 4 t := List.mem_of_mem_head? (by rw [e]; rfl)
    obtain ⟨a1, a2, _, hu⟩ := ok.memT hin
    have := fnd_pos ok.gl hu
    exact ⟨a1, a2, this.1, by omega, one_of iv h0 hin⟩
  · cases e
theorem cal_of {S : Ip} (ok : Ok S) (iv : Iv S) {t c : Int} (h4 : plcS S c = 4) (ho : plcO S c = t) (h0 : 0 ≤ t) : calO S t = some c := by
  have hin : c ∈ S.q 4 t := by
    have := (ok.inT (x := c) (by show plcS S c ≠ 0; rw [h4]; decide)).1
    have h4' : (thrT S c).st = 4 := h4
    have ho' : (thrT S c).on = t := ho
    rw [h4', ho'] at this
    exact this
  have hp := ok.plT c
  have ho' : (thrT S c).on = t := ho
  unfold okP at hp
  have hn : numB t = true := num_iff.2 (by omega)
  unfold calO firO
  rw [hn, if_pos rfl, one_of iv h0 hin]
  rfl
theorem forN_cases {S : Ip} (ok : Ok S) (iv : Iv S) (t : Int) : (forN S t = -1 ∧ calO S t = none) ∨ (0 ≤ forN S t ∧ forN S t < 1024 ∧ calO S t = some (forN S t)) := by
  cases e : calO S t with
  | none => left; unfold forN; rw [e]; exact ⟨rfl, rfl⟩
  | some c =>
    right
    obtain ⟨_, _, h0, h1, _⟩ := cal_at ok iv e
    have : forN S t = c := by unfold forN; rw [e]; rfl
    rw [this]
    exact ⟨h0, h1, rfl⟩

end Go.Proofs.Ytjobdfkfongjaaa

