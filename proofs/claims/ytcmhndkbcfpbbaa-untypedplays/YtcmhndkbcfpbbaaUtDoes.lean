/-
  The contract of viceroylaw14.does over the translation: both act alike. No statement is proved here.
-/
import Derived.Test.YtcmhndkbcfpbbaaUtBoth
namespace Go.Proofs.Ytcmhndkbcfpbbaa
open Go.RowKit

theorem ac_cells {w : World} {g : Nat} {a : Ac} (h : Row w g (acC a) 41) : w.cell? ⟨g, 0, none⟩ = some (.int .i64 a.op) ∧ w.cell? ⟨g, 1, none⟩ = some (.int .i64 a.f) ∧ w.cell? ⟨g, 2, none⟩ = some (.int .i64 a.x.f) ∧ w.cell? ⟨g, 3, none⟩ = some (.int .i64 a.x.n) ∧ w.cell? ⟨g, 4, none⟩ = some (.int .i64 a.x.m) ∧ w.cell? ⟨g, 5, none⟩ = some (.bool a.x.d) ∧ w.cell? ⟨g, 6, none⟩ = some (.int .i64 a.k) ∧ w.cell? ⟨g, 7, none⟩ = some (.int .i64 a.n) ∧ w.cell? ⟨g, 8, none⟩ = some (.int .i64 a.c) ∧ w.cell? ⟨g, 9, none⟩ = some (.int .i64 a.u) :=
  ⟨h.cell 0, h.cell 1, h.cell 2, h.cell 3, h.cell 4, h.cell 5, h.cell 6, h.cell 7, h.cell 8, h.cell 9⟩

set_option maxRecDepth 100000 in
set_option maxHeartbeats 2000000 in
theorem does_1 (w0 w : World) (bp bq pm bm pr br : Nat) (L : List Rg) (bs : List UInt8) (h : BoAt w0 w bp bq pm bm pr br L L bs bs) (a : Ac) (ok : OkA a) (hop : a.op = 1) : Calls Try.prog 13 #[.pointer (some ⟨bp, 0, none⟩), .pointer (some ⟨pm, 0, none⟩), .pointer (some ⟨bq, 0, none⟩), .pointer (some ⟨pr, 0, none⟩), acV a] w fun e w' => e = .returned (.bool true) ∧ ∃ L' bs', BoAt w0 w' bp bq pm bm pr br L' L' bs' bs' := by
  have r0 := row_alloc w (acC a) 41
  have f0 := (Fr.refl none' w).alloc (.cells (acC a) 41)
  have B0 := h.keep0 f0
  have HL : Hid (w0.heap.size ≤ w.heap.size) := h.fr.size
  obtain ⟨c0, c1, c2, c3, c4, c5, c6, c7, c8, c9⟩ := ac_cells r0
  obtain ⟨_, of, ox, _, _, _, ou⟩ := ok
  have oxf := ox.1
  clear h f0 ox
  unfold acV acC at *
  rw [hop] at *
  clear hop
  go_enter Try.func13, Try.ntmps13
  go_wp2_with fail
  refine (B0.add a.x oxf).mono ?_
  rintro e w1 ⟨rfl, B1, K1⟩
  replace r0 := K1 _ _ _ r0 (by unfold tP; decide)
  clear c0 c1 c2 c3 c4 c5 c6 c7 c8 c9
  clear K1 B0
  obtain ⟨c0, c1, c2, c3, c4, c5, c6, c7, c8, c9⟩ := ac_cells (a := ⟨1, a.f, a.x, a.k, a.n, a.c, a.u⟩) r0
  dsimp only at c0 c1 c2 c3 c4 c5 c6 c7 c8 c9
  go_wp2_with fail
  refine (B1.radd a.x).mono ?_
  rintro e w2 ⟨rfl, B2, _⟩
  have HB : Hid (∃ L' bs', BoAt w0 w2 bp bq pm bm pr br L' L' bs' bs') := ⟨_, _, B2⟩
  clear c0 c1 c2 c3 c4 c5 c6 c7 c8 c9
  clear B1 B2 r0
  generalize addE L a.x = E at *
  go_wp2_with fail
  go_ret
  exact ⟨by first | rfl | simp, HB.out⟩

set_option maxRecDepth 100000 in
set_option maxHeartbeats 2000000 in
theorem does_2 (w0 w : World) (bp bq pm bm pr br : Nat) (L : List Rg) (bs : List UInt8) (h : BoAt w0 w bp bq pm bm pr br L L bs bs) (a : Ac) (ok : OkA a) (hop : a.op = 2) : Calls Try.prog 13 #[.pointer (some ⟨bp, 0, none⟩), .pointer (some ⟨pm, 0, none⟩), .pointer (some ⟨bq, 0, none⟩), .pointer (some ⟨pr, 0, none⟩), acV a] w fun e w' => e = .returned (.bool true) ∧ ∃ L' bs', BoAt w0 w' bp bq pm bm pr br L' L' bs' bs' := by
  have r0 := row_alloc w (acC a) 41
  have f0 := (Fr.refl none' w).alloc (.cells (acC a) 41)
  have B0 := h.keep0 f0
  have HL : Hid (w0.heap.size ≤ w.heap.size) := h.fr.size
  obtain ⟨c0, c1, c2, c3, c4, c5, c6, c7, c8, c9⟩ := ac_cells r0
  obtain ⟨_, of, ox, _, _, _, ou⟩ := ok
  have oxf := ox.1
  clear h f0 ox
  unfold acV acC at *
  rw [hop] at *
  clear hop
  go_enter Try.func13, Try.ntmps13
  go_wp2_with fail
  refine (B0.drop a.f of).mono ?_
  rintro e w1 ⟨rfl, B1, K1⟩
  replace r0 := K1 _ _ _ r0 (by unfold tP; decide)
  clear c0 c1 c2 c3 c4 c5 c6 c7 c8 c9
  clear K1 B0
  obtain ⟨c0, c1, c2, c3, c4, c5, c6, c7, c8, c9⟩ := ac_cells (a := ⟨2, a.f, a.x, a.k, a.n, a.c, a.u⟩) r0
  dsimp only at c0 c1 c2 c3 c4 c5 c6 c7 c8 c9
  go_wp2_with fail
  refine (B1.rdrop a.f).mono ?_
  rintro e w2 ⟨rfl, B2, _⟩
  have HB : Hid (∃ L' bs', BoAt w0 w2 bp bq pm bm pr br L' L' bs' bs') := ⟨_, _, B2⟩
  clear c0 c1 c2 c3 c4 c5 c6 c7 c8 c9
  clear B1 B2 r0
  generalize drE L a.f = E at *
  go_wp2_with fail
  go_ret
  exact ⟨by first | rfl | simp, HB.out⟩

set_option maxRecDepth 100000 in
set_option maxHeartbeats 2000000 in
theorem does_4 (w0 w : World) (bp bq pm bm pr br : Nat) (L : List Rg) (bs : List UInt8) (h : BoAt w0 w bp bq pm bm pr br L L bs bs) (a : Ac) (ok : OkA a) (hop : a.op = 4) : Calls Try.prog 13 #[.pointer (some ⟨bp, 0, none⟩), .pointer (some ⟨pm, 0, none⟩), .pointer (some ⟨bq, 0, none⟩), .pointer (some ⟨pr, 0, none⟩), acV a] w fun e w' => e = .returned (.bool true) ∧ ∃ L' bs', BoAt w0 w' bp bq pm bm pr br L' L' bs' bs' := by
  have r0 := row_alloc w (acC a) 41
  have f0 := (Fr.refl none' w).alloc (.cells (acC a) 41)
  have B0 := h.keep0 f0
  have HL : Hid (w0.heap.size ≤ w.heap.size) := h.fr.size
  obtain ⟨c0, c1, c2, c3, c4, c5, c6, c7, c8, c9⟩ := ac_cells r0
  obtain ⟨_, of, ox, _, _, _, ou⟩ := ok
  have oxf := ox.1
  clear h f0 ox
  unfold acV acC at *
  rw [hop] at *
  clear hop
  go_enter Try.func13, Try.ntmps13
  go_wp2_with fail
  refine (B0.carve a.f a.k a.n a.c of).mono ?_
  rintro e w1 ⟨rfl, B1, K1⟩
  replace r0 := K1 _ _ _ r0 (by unfold tP; decide)
  clear c0 c1 c2 c3 c4 c5 c6 c7 c8 c9
  clear K1 B0
  obtain ⟨c0, c1, c2, c3, c4, c5, c6, c7, c8, c9⟩ := ac_cells (a := ⟨4, a.f, a.x, a.k, a.n, a.c, a.u⟩) r0
  dsimp only at c0 c1 c2 c3 c4 c5 c6 c7 c8 c9
  go_wp2_with fail
  refine (B1.rcarve a.f a.k a.n a.c).mono ?_
  rintro e w2 ⟨rfl, B2, _⟩
  have HB : Hid (∃ L' bs', BoAt w0 w2 bp bq pm bm pr br L' L' bs' bs') := ⟨_, _, B2⟩
  clear c0 c1 c2 c3 c4 c5 c6 c7 c8 c9
  clear B1 B2 r0
  generalize rooE L a.f a.k a.n a.c = E at *
  generalize rooV L a.f a.k a.n a.c = V at *
  go_wp2_with fail
  go_ret
  exact ⟨by first | rfl | simp, HB.out⟩

set_option maxRecDepth 100000 in
set_option maxHeartbeats 2000000 in
theorem does_6 (w0 w : World) (bp bq pm bm pr br : Nat) (L : List Rg) (bs : List UInt8) (h : BoAt w0 w bp bq pm bm pr br L L bs bs) (a : Ac) (ok : OkA a) (hop : a.op = 6) : Calls Try.prog 13 #[.pointer (some ⟨bp, 0, none⟩), .pointer (some ⟨pm, 0, none⟩), .pointer (some ⟨bq, 0, none⟩), .pointer (some ⟨pr, 0, none⟩), acV a] w fun e w' => e = .returned (.bool true) ∧ ∃ L' bs', BoAt w0 w' bp bq pm bm pr br L' L' bs' bs' := by
  have r0 := row_alloc w (acC a) 41
  have f0 := (Fr.refl none' w).alloc (.cells (acC a) 41)
  have B0 := h.keep0 f0
  have HL : Hid (w0.heap.size ≤ w.heap.size) := h.fr.size
  obtain ⟨c0, c1, c2, c3, c4, c5, c6, c7, c8, c9⟩ := ac_cells r0
  obtain ⟨_, of, ox, _, _, _, ou⟩ := ok
  have oxf := ox.1
  clear h f0 ox
  unfold acV acC at *
  rw [hop] at *
  clear hop
  go_enter Try.func13, Try.ntmps13
  go_wp2_with fail
  refine (B0.room a.f a.k a.n a.c of).mono ?_
  rintro e w1 ⟨rfl, f1⟩
  replace r0 := r0.keep f1 (fun h => h)
  replace B0 := B0.keep0 f1
  clear c0 c1 c2 c3 c4 c5 c6 c7 c8 c9
  clear f1
  obtain ⟨c0, c1, c2, c3, c4, c5, c6, c7, c8, c9⟩ := ac_cells (a := ⟨6, a.f, a.x, a.k, a.n, a.c, a.u⟩) r0
  dsimp only at c0 c1 c2 c3 c4 c5 c6 c7 c8 c9
  go_wp2_with fail
  refine (B0.rroom a.f a.k a.n a.c).mono ?_
  rintro e w2 ⟨rfl, f2⟩
  have HB : Hid (∃ L' bs', BoAt w0 w2 bp bq pm bm pr br L' L' bs' bs') := ⟨_, _, B0.keep0 f2⟩
  clear c0 c1 c2 c3 c4 c5 c6 c7 c8 c9
  clear B0 r0 f2
  generalize rooE L a.f a.k a.n a.c = E at *
  generalize rooV L a.f a.k a.n a.c = V at *
  go_wp2_with fail
  go_ret
  exact ⟨by first | rfl | simp, HB.out⟩

set_option maxRecDepth 100000 in
set_option maxHeartbeats 2000000 in
theorem does_3 (w0 w : World) (bp bq pm bm pr br : Nat) (L : List Rg) (bs : List UInt8) (h : BoAt w0 w bp bq pm bm pr br L L bs bs) (a : Ac) (ok : OkA a) (hop : a.op = 3) : Calls Try.prog 13 #[.pointer (some ⟨bp, 0, none⟩), .pointer (some ⟨pm, 0, none⟩), .pointer (some ⟨bq, 0, none⟩), .pointer (some ⟨pr, 0, none⟩), acV a] w fun e w' => e = .returned (.bool true) ∧ ∃ L' bs', BoAt w0 w' bp bq pm bm pr br L' L' bs' bs' := by
  have r0 := row_alloc w (acC a) 41
  have f0 := (Fr.refl none' w).alloc (.cells (acC a) 41)
  have B0 := h.keep0 f0
  have HL : Hid (w0.heap.size ≤ w.heap.size) := h.fr.size
  obtain ⟨c0, c1, c2, c3, c4, c5, c6, c7, c8, c9⟩ := ac_cells r0
  obtain ⟨_, of, ox, _, _, _, ou⟩ := ok
  have oxf := ox.1
  clear h f0 ox
  unfold acV acC at *
  rw [hop] at *
  clear hop
  go_enter Try.func13, Try.ntmps13
  have heq := eq_reg
  go_wp2_with fail
  refine (B0.get a.f of).mono ?_
  rintro e w1 ⟨rfl, f1⟩
  replace f1 := f1.alloc (.cells (rgA (getC L a.f)) 39)
  replace r0 := r0.keep f1 (fun h => h)
  replace B0 := B0.keep0 f1
  have rs := row_alloc w1 (rgA (getC L a.f)) 39
  clear c0 c1 c2 c3 c4 c5 c6 c7 c8 c9
  clear f1
  obtain ⟨c0, c1, c2, c3, c4, c5, c6, c7, c8, c9⟩ := ac_cells (a := ⟨3, a.f, a.x, a.k, a.n, a.c, a.u⟩) r0
  dsimp only at c0 c1 c2 c3 c4 c5 c6 c7 c8 c9
  have T := B0.rget a.f
  generalize hC : getC L a.f = C at *
  have es := eqG_self C
  obtain ⟨x1, x2, x3, x4⟩ := C
  dsimp only [rgA] at *
  go_wp2_with fail
  generalize w1.heap.size = gs at *
  generalize w1.alloc (.cells #[.int .i64 x1, .int .i64 x2, .int .i64 x3, .bool x4] 39) = v1 at *
  refine T.mono ?_
  rintro e w2 ⟨rfl, f2⟩
  have ft := f2.alloc (.cells #[.int .i64 x1, .int .i64 x2, .int .i64 x3, .bool x4] 39)
  have HB : Hid (∃ L' bs', BoAt w0 (w2.alloc (.cells #[.int .i64 x1, .int .i64 x2, .int .i64 x3, .bool x4] 39)) bp bq pm bm pr br L' L' bs' bs') := ⟨_, _, B0.keep0 ft⟩
  have rs2 := rs.keep ft (fun h => h)
  have rt := row_alloc w2 #[.int .i64 x1, .int .i64 x2, .int .i64 x3, .bool x4] 39
  obtain ⟨s0, s1, s2, s3⟩ := RgR.cells (x := ⟨x1, x2, x3, x4⟩) rs2
  obtain ⟨t0, t1, t2, t3⟩ := RgR.cells (x := ⟨x1, x2, x3, x4⟩) rt
  dsimp only at s0 s1 s2 s3 t0 t1 t2 t3
  clear c0 c1 c2 c3 c4 c5 c6 c7 c8 c9
  clear B0 r0 f2 ft rs rs2 rt T hC
  generalize getE L a.f = E at *
  go_wp2_with fail
  go_ret
  exact ⟨by first | rfl | simp [es], HB.out⟩

set_option maxRecDepth 100000 in
set_option maxHeartbeats 2000000 in
theorem does_7 (w0 w : World) (bp bq pm bm pr br : Nat) (L : List Rg) (bs : List UInt8) (h : BoAt w0 w bp bq pm bm pr br L L bs bs) (a : Ac) (ok : OkA a) (hop : a.op = 7) : Calls Try.prog 13 #[.pointer (some ⟨bp, 0, none⟩), .pointer (some ⟨pm, 0, none⟩), .pointer (some ⟨bq, 0, none⟩), .pointer (some ⟨pr, 0, none⟩), acV a] w fun e w' => e = .returned (.bool true) ∧ ∃ L' bs', BoAt w0 w' bp bq pm bm pr br L' L' bs' bs' := by
  have r0 := row_alloc w (acC a) 41
  have f0 := (Fr.refl none' w).alloc (.cells (acC a) 41)
  have B0 := h.keep0 f0
  have HL : Hid (w0.heap.size ≤ w.heap.size) := h.fr.size
  obtain ⟨c0, c1, c2, c3, c4, c5, c6, c7, c8, c9⟩ := ac_cells r0
  obtain ⟨_, of, ox, _, _, _, ou⟩ := ok
  have oxf := ox.1
  clear h f0 ox
  unfold acV acC at *
  rw [hop] at *
  clear hop
  go_enter Try.func13, Try.ntmps13
  obtain ⟨v, ev, hv⟩ : ∃ v : Nat, a.c % 4294967296 = (v : Int) ∧ v < 4294967296 := ⟨(a.c % 4294967296).toNat, by omega, by omega⟩
  have ev2 : IntKind.u32.wrap a.c = (v : Int) := by rw [← ev]; rfl
  go_wp2_with fail
  refine (B0.store a.f of.2 v hv).mono ?_
  rintro e w1 ⟨rfl, B1, K1⟩
  replace r0 := K1 _ _ _ r0 (by decide)
  clear c0 c1 c2 c3 c4 c5 c6 c7 c8 c9
  clear K1 B0
  obtain ⟨c0, c1, c2, c3, c4, c5, c6, c7, c8, c9⟩ := ac_cells (a := ⟨7, a.f, a.x, a.k, a.n, a.c, a.u⟩) r0
  dsimp only at c0 c1 c2 c3 c4 c5 c6 c7 c8 c9
  go_wp2_with fail
  refine (B1.rstore a.f v hv).mono ?_
  rintro e w2 ⟨rfl, B2, _⟩
  have HB : Hid (∃ L' bs', BoAt w0 w2 bp bq pm bm pr br L' L' bs' bs') := ⟨_, _, B2⟩
  clear c0 c1 c2 c3 c4 c5 c6 c7 c8 c9
  clear B1 B2 r0
  generalize errOf a.f 1 32 = E at *
  go_wp2_with fail
  go_ret
  exact ⟨by first | rfl | simp, HB.out⟩

set_option maxRecDepth 100000 in
set_option maxHeartbeats 2000000 in
theorem does_o (w0 w : World) (bp bq pm bm pr br : Nat) (L : List Rg) (bs : List UInt8) (h : BoAt w0 w bp bq pm bm pr br L L bs bs) (a : Ac) (ok : OkA a) (h1 : a.op ≠ 1) (h2 : a.op ≠ 2) (h3 : a.op ≠ 3) (h4 : a.op ≠ 4) (h5 : a.op ≠ 5) (h6 : a.op ≠ 6) (h7 : a.op ≠ 7) : Calls Try.prog 13 #[.pointer (some ⟨bp, 0, none⟩), .pointer (some ⟨pm, 0, none⟩), .pointer (some ⟨bq, 0, none⟩), .pointer (some ⟨pr, 0, none⟩), acV a] w fun e w' => e = .returned (.bool true) ∧ ∃ L' bs', BoAt w0 w' bp bq pm bm pr br L' L' bs' bs' := by
  have r0 := row_alloc w (acC a) 41
  have f0 := (Fr.refl none' w).alloc (.cells (acC a) 41)
  have B0 := h.keep0 f0
  have HL : Hid (w0.heap.size ≤ w.heap.size) := h.fr.size
  obtain ⟨c0, c1, c2, c3, c4, c5, c6, c7, c8, c9⟩ := ac_cells r0
  obtain ⟨_, of, ox, _, _, _, ou⟩ := ok
  have oxf := ox.1
  clear h f0 ox
  unfold acV acC at *
  go_enter Try.func13, Try.ntmps13
  have HB : Hid _ := B0
  clear B0 r0
  go_wp2_with fail
  go_ret
  exact ⟨by first | rfl | simp, _, _, HB.out⟩

set_option maxRecDepth 100000 in
set_option maxHeartbeats 2000000 in
theorem does_5a (w0 w : World) (bp bq pm bm pr br : Nat) (L : List Rg) (bs : List UInt8) (h : BoAt w0 w bp bq pm bm pr br L L bs bs) (a : Ac) (ok : OkA a) (hop : a.op = 5) (hu : 0 < a.u) : Calls Try.prog 13 #[.pointer (some ⟨bp, 0, none⟩), .pointer (some ⟨pm, 0, none⟩), .pointer (some ⟨bq, 0, none⟩), .pointer (some ⟨pr, 0, none⟩), acV a] w fun e w' => e = .returned (.bool true) ∧ ∃ L' bs', BoAt w0 w' bp bq pm bm pr br L' L' bs' bs' := by
  have r0 := row_alloc w (acC a) 41
  have f0 := (Fr.refl none' w).alloc (.cells (acC a) 41)
  have B0 := h.keep0 f0
  have HL : Hid (w0.heap.size ≤ w.heap.size) := h.fr.size
  obtain ⟨c0, c1, c2, c3, c4, c5, c6, c7, c8, c9⟩ := ac_cells r0
  obtain ⟨_, of, ox, _, _, _, ou⟩ := ok
  have oxf := ox.1
  clear h f0 ox
  unfold acV acC at *
  rw [hop] at *
  clear hop
  go_enter Try.func13, Try.ntmps13
  have emx : max 0 a.u = a.u := by omega
  have fU := (Fr.refl none' (w.alloc (.cells #[.int .i64 5, .int .i64 a.f, .int .i64 a.x.f, .int .i64 a.x.n, .int .i64 a.x.m, .bool a.x.d, .int .i64 a.k, .int .i64 a.n, .int .i64 a.c, .int .i64 a.u] 41))).alloc (.cells #[.int .i64 a.u] 3)
  have fV := fU.alloc (.cells #[.int .i64 a.u] 75)
  have rU := row_alloc (w.alloc (.cells #[.int .i64 5, .int .i64 a.f, .int .i64 a.x.f, .int .i64 a.x.n, .int .i64 a.x.m, .bool a.x.d, .int .i64 a.k, .int .i64 a.n, .int .i64 a.c, .int .i64 a.u] 41)) #[.int .i64 a.u] 3
  have rV := row_alloc1 (w.alloc (.cells #[.int .i64 5, .int .i64 a.f, .int .i64 a.x.f, .int .i64 a.x.n, .int .i64 a.x.m, .bool a.x.d, .int .i64 a.k, .int .i64 a.n, .int .i64 a.c, .int .i64 a.u] 41)) (.cells #[.int .i64 a.u] 3) #[.int .i64 a.u] 75
  have rU2 := rU.alloc (.cells #[.int .i64 a.u] 75)
  have r2 := r0.keep fV (fun h => h)
  have r1 := r0.keep fU (fun h => h)
  have B2 := B0.keep0 fV
  obtain ⟨q0, q1, q2, q3, q4, q5, q6, q7, q8, q9⟩ := ac_cells (a := ⟨5, a.f, a.x, a.k, a.n, a.c, a.u⟩) r1
  obtain ⟨p0, p1, p2, p3, p4, p5, p6, p7, p8, p9⟩ := ac_cells (a := ⟨5, a.f, a.x, a.k, a.n, a.c, a.u⟩) r2
  dsimp only at q0 q1 q2 q3 q4 q5 q6 q7 q8 q9 p0 p1 p2 p3 p4 p5 p6 p7 p8 p9
  simp only [World.size_alloc] at rU rV rU2
  clear fU fV r1 B0 r0 rU
  go_wp2_with fail
  refine (B2.reset a.f a.u of ou (w.heap.size + 1) rU2 (by have := HL.out; omega)).mono ?_
  rintro e w1 ⟨rfl, B3, ru3, K3⟩
  have r3 := K3 _ _ _ r2 (by unfold tR tP; decide)
  have rV3 := K3 _ _ _ rV (by unfold tR tP; decide)
  rw [← emx] at rV3
  have HL2 : Hid (w0.heap.size ≤ w.heap.size + 1 + 1) := by have := HL.out; show _ ≤ _; omega
  clear c0 c1 c2 c3 c4 c5 c6 c7 c8 c9
  clear q0 q1 q2 q3 q4 q5 q6 q7 q8 q9 p0 p1 p2 p3 p4 p5 p6 p7 p8 p9 K3 B2 rU2 rV r2
  generalize w.heap.size + 1 + 1 = gv at *
  generalize w.heap.size + 1 = gu at *
  obtain ⟨c0, c1, c2, c3, c4, c5, c6, c7, c8, c9⟩ := ac_cells (a := ⟨5, a.f, a.x, a.k, a.n, a.c, a.u⟩) r3
  dsimp only at c0 c1 c2 c3 c4 c5 c6 c7 c8 c9
  clear emx
  go_wp2_with fail
  refine (B3.rreset a.f a.u ou gv rV3 HL2.out).mono ?_
  rintro e w2 ⟨rfl, B4, rv4, K4⟩
  have ru4 := K4 _ _ _ ru3 (by unfold tS tQ; decide)
  have HB : Hid (∀ k, ∃ L' bs', BoAt w0 (w2.drewN k) bp bq pm bm pr br L' L' bs' bs') := fun k => ⟨_, _, B4.keep0 (fr_drewN w2 k)⟩
  clear c0 c1 c2 c3 c4 c5 c6 c7 c8 c9
  clear B3 B4 K4 r3 ru3 rV3
  generalize rstE L a.f a.u = E at *
  generalize rstU L a.f a.u = Uu at *
  have x0 : w2.cell? ⟨gu, 0, none⟩ = some (.int .i64 Uu) := ru4.cell 0
  by_cases hU : 0 < Uu
  · have y0 : w2.cell? ⟨gv, 0, none⟩ = some (.int .i64 Uu) := by rw [show Uu = max 0 Uu by omega]; exact rv4.cell 0
    clear ru4 rv4
    go_wp2_with fail
    go_quiet (fail)
    go_wp2_with fail
    go_ret
    exact ⟨by first | rfl | simp, HB.out _⟩
  · have y0 : w2.cell? ⟨gv, 0, none⟩ = some (.int .i64 0) := by rw [show (0 : Int) = max 0 Uu by omega]; exact rv4.cell 0
    clear ru4 rv4
    go_wp2_with fail
    go_quiet (fail)
    go_wp2_with fail
    go_ret
    exact ⟨by first | rfl | simp, HB.out _⟩

set_option maxRecDepth 100000 in
set_option maxHeartbeats 2000000 in
theorem does_5b (w0 w : World) (bp bq pm bm pr br : Nat) (L : List Rg) (bs : List UInt8) (h : BoAt w0 w bp bq pm bm pr br L L bs bs) (a : Ac) (ok : OkA a) (hop : a.op = 5) (hu : ¬ 0 < a.u) : Calls Try.prog 13 #[.pointer (some ⟨bp, 0, none⟩), .pointer (some ⟨pm, 0, none⟩), .pointer (some ⟨bq, 0, none⟩), .pointer (some ⟨pr, 0, none⟩), acV a] w fun e w' => e = .returned (.bool true) ∧ ∃ L' bs', BoAt w0 w' bp bq pm bm pr br L' L' bs' bs' := by
  have r0 := row_alloc w (acC a) 41
  have f0 := (Fr.refl none' w).alloc (.cells (acC a) 41)
  have B0 := h.keep0 f0
  have HL : Hid (w0.heap.size ≤ w.heap.size) := h.fr.size
  obtain ⟨c0, c1, c2, c3, c4, c5, c6, c7, c8, c9⟩ := ac_cells r0
  obtain ⟨_, of, ox, _, _, _, ou⟩ := ok
  have oxf := ox.1
  clear h f0 ox
  unfold acV acC at *
  rw [hop] at *
  clear hop
  go_enter Try.func13, Try.ntmps13
  have emx : max 0 a.u = 0 := by omega
  have fU := (Fr.refl none' (w.alloc (.cells #[.int .i64 5, .int .i64 a.f, .int .i64 a.x.f, .int .i64 a.x.n, .int .i64 a.x.m, .bool a.x.d, .int .i64 a.k, .int .i64 a.n, .int .i64 a.c, .int .i64 a.u] 41))).alloc (.cells #[.int .i64 a.u] 3)
  have fV := fU.alloc (.cells #[.int .i64 0] 75)
  have rU := row_alloc (w.alloc (.cells #[.int .i64 5, .int .i64 a.f, .int .i64 a.x.f, .int .i64 a.x.n, .int .i64 a.x.m, .bool a.x.d, .int .i64 a.k, .int .i64 a.n, .int .i64 a.c, .int .i64 a.u] 41)) #[.int .i64 a.u] 3
  have rV := row_alloc1 (w.alloc (.cells #[.int .i64 5, .int .i64 a.f, .int .i64 a.x.f, .int .i64 a.x.n, .int .i64 a.x.m, .bool a.x.d, .int .i64 a.k, .int .i64 a.n, .int .i64 a.c, .int .i64 a.u] 41)) (.cells #[.int .i64 a.u] 3) #[.int .i64 0] 75
  have rU2 := rU.alloc (.cells #[.int .i64 0] 75)
  have r2 := r0.keep fV (fun h => h)
  have r1 := r0.keep fU (fun h => h)
  have B2 := B0.keep0 fV
  obtain ⟨q0, q1, q2, q3, q4, q5, q6, q7, q8, q9⟩ := ac_cells (a := ⟨5, a.f, a.x, a.k, a.n, a.c, a.u⟩) r1
  obtain ⟨p0, p1, p2, p3, p4, p5, p6, p7, p8, p9⟩ := ac_cells (a := ⟨5, a.f, a.x, a.k, a.n, a.c, a.u⟩) r2
  dsimp only at q0 q1 q2 q3 q4 q5 q6 q7 q8 q9 p0 p1 p2 p3 p4 p5 p6 p7 p8 p9
  simp only [World.size_alloc] at rU rV rU2
  clear fU fV r1 B0 r0 rU
  go_wp2_with fail
  refine (B2.reset a.f a.u of ou (w.heap.size + 1) rU2 (by have := HL.out; omega)).mono ?_
  rintro e w1 ⟨rfl, B3, ru3, K3⟩
  have r3 := K3 _ _ _ r2 (by unfold tR tP; decide)
  have rV3 := K3 _ _ _ rV (by unfold tR tP; decide)
  rw [← emx] at rV3
  have HL2 : Hid (w0.heap.size ≤ w.heap.size + 1 + 1) := by have := HL.out; show _ ≤ _; omega
  clear c0 c1 c2 c3 c4 c5 c6 c7 c8 c9
  clear q0 q1 q2 q3 q4 q5 q6 q7 q8 q9 p0 p1 p2 p3 p4 p5 p6 p7 p8 p9 K3 B2 rU2 rV r2
  generalize w.heap.size + 1 + 1 = gv at *
  generalize w.heap.size + 1 = gu at *
  obtain ⟨c0, c1, c2, c3, c4, c5, c6, c7, c8, c9⟩ := ac_cells (a := ⟨5, a.f, a.x, a.k, a.n, a.c, a.u⟩) r3
  dsimp only at c0 c1 c2 c3 c4 c5 c6 c7 c8 c9
  clear emx
  go_wp2_with fail
  refine (B3.rreset a.f a.u ou gv rV3 HL2.out).mono ?_
  rintro e w2 ⟨rfl, B4, rv4, K4⟩
  have ru4 := K4 _ _ _ ru3 (by unfold tS tQ; decide)
  have HB : Hid (∀ k, ∃ L' bs', BoAt w0 (w2.drewN k) bp bq pm bm pr br L' L' bs' bs') := fun k => ⟨_, _, B4.keep0 (fr_drewN w2 k)⟩
  clear c0 c1 c2 c3 c4 c5 c6 c7 c8 c9
  clear B3 B4 K4 r3 ru3 rV3
  generalize rstE L a.f a.u = E at *
  generalize rstU L a.f a.u = Uu at *
  have x0 : w2.cell? ⟨gu, 0, none⟩ = some (.int .i64 Uu) := ru4.cell 0
  by_cases hU : 0 < Uu
  · have y0 : w2.cell? ⟨gv, 0, none⟩ = some (.int .i64 Uu) := by rw [show Uu = max 0 Uu by omega]; exact rv4.cell 0
    clear ru4 rv4
    go_wp2_with fail
    go_quiet (fail)
    go_wp2_with fail
    go_ret
    exact ⟨by first | rfl | simp, HB.out _⟩
  · have y0 : w2.cell? ⟨gv, 0, none⟩ = some (.int .i64 0) := by rw [show (0 : Int) = max 0 Uu by omega]; exact rv4.cell 0
    clear ru4 rv4
    go_wp2_with fail
    go_quiet (fail)
    go_wp2_with fail
    go_ret
    exact ⟨by first | rfl | simp, HB.out _⟩

theorem does_any (w0 w : World) (bp bq pm bm pr br : Nat) (L : List Rg) (bs : List UInt8) (h : BoAt w0 w bp bq pm bm pr br L L bs bs) (a : Ac) (ok : OkA a) : Calls Try.prog 13 #[.pointer (some ⟨bp, 0, none⟩), .pointer (some ⟨pm, 0, none⟩), .pointer (some ⟨bq, 0, none⟩), .pointer (some ⟨pr, 0, none⟩), acV a] w fun e w' => e = .returned (.bool true) ∧ ∃ L' bs', BoAt w0 w' bp bq pm bm pr br L' L' bs' bs' := by
  by_cases h1 : a.op = 1
  · exact does_1 w0 w bp bq pm bm pr br L bs h a ok h1
  by_cases h2 : a.op = 2
  · exact does_2 w0 w bp bq pm bm pr br L bs h a ok h2
  by_cases h3 : a.op = 3
  · exact does_3 w0 w bp bq pm bm pr br L bs h a ok h3
  by_cases h4 : a.op = 4
  · exact does_4 w0 w bp bq pm bm pr br L bs h a ok h4
  by_cases h5 : a.op = 5
  · by_cases hu : 0 < a.u
    · exact does_5a w0 w bp bq pm bm pr br L bs h a ok h5 hu
    · exact does_5b w0 w bp bq pm bm pr br L bs h a ok h5 hu
  by_cases h6 : a.op = 6
  · exact does_6 w0 w bp bq pm bm pr br L bs h a ok h6
  by_cases h7 : a.op = 7
  · exact does_7 w0 w bp bq pm bm pr br L bs h a ok h7
  exact does_o w0 w bp bq pm bm pr br L bs h a ok h1 h2 h3 h4 h5 h6 h7

end Go.Proofs.Ytcmhndkbcfpbbaa
