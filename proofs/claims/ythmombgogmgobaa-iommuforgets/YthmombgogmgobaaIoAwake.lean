/-
  The contract of the laws' awake: the chapter's examples come out as it says. No statement is proved here.
-/
import Derived.Test.YthmombgogmgobaaIoMade
import Derived.Test.YthmombgogmgobaaIoDoes
namespace Go.Proofs.Ythmombgogmgobaa
open Go.RowKit

def ioexP : Nat → Pq
  | 0 => ⟨1, 0, true, false, 0, 2⟩
  | _ => ⟨2, 3, true, true, 1, 7⟩

set_option maxHeartbeats 1000000 in
theorem ioexample_any (w : World) : Calls Try.prog 20 #[] w fun e w' => ∃ a0 cap, e = .returned (.slice a0 2 cap) ∧ Fr none' w w' ∧ Pqs w' a0 2 ioexP := by
  have R := row_alloc w #[.int .i64 1, .int .i64 0, .bool true, .bool false, .int .i64 0, .int .i64 2, .int .i64 2, .int .i64 3, .bool true, .bool true, .int .i64 1, .int .i64 7] 31
  have HR : Hid (Row (w.alloc (.cells #[.int .i64 1, .int .i64 0, .bool true, .bool false, .int .i64 0, .int .i64 2, .int .i64 2, .int .i64 3, .bool true, .bool true, .int .i64 1, .int .i64 7] 31)) w.heap.size #[.int .i64 1, .int .i64 0, .bool true, .bool false, .int .i64 0, .int .i64 2, .int .i64 2, .int .i64 3, .bool true, .bool true, .int .i64 1, .int .i64 7] 31) := R
  clear R
  go_enter Try.func20, Try.ntmps20
  go_wp2_with fail
  go_ret
  refine ⟨_, _, rfl, (Fr.refl _ _).alloc _, fun k hk => ⟨w.heap.size, 0, rfl, ?_⟩⟩
  have R := HR.out
  match k, hk with
  | 0, _ => exact ⟨R.cell 0, R.cell 1, R.cell 2, R.cell 3, R.cell 4, R.cell 5⟩
  | 1, _ => exact ⟨R.cell 6, R.cell 7, R.cell 8, R.cell 9, R.cell 10, R.cell 11⟩
  | k + 2, h => omega

/-! ### the example's states -/
def xb : List UInt8 := mdB ioexP 2
def xs1 : Io := dmaS xb 16 io0 0 192 false
def xs2 : Io := attS xs1 0 1
def xs3 : Io := dmaS xb 16 xs2 0 194 false
def xs4 : Io := dmaS xb 16 xs3 0 194 true
def xc : List UInt8 := putQ xb ⟨2, 3, false, false, 0, 0⟩
def xs5 : Io := dmaS xc 16 xs4 0 194 false
def xs6 : Io := flushS xs5 (goP 0 3)
def xs7 : Io := dmaS xc 16 xs6 0 194 false
theorem ex_1 : dmaE xb 16 io0 0 192 false = 101 := by decide +kernel
theorem ex_3 : dmaE xb 16 xs2 0 194 false = 0 ∧ dmaV xb 16 xs2 0 194 false 0 = 199 := by decide +kernel
theorem ex_4 : dmaE xb 16 xs3 0 194 true = 101 := by decide +kernel
theorem ex_5 : dmaE xc 16 xs4 0 194 false = 0 := by decide +kernel
theorem ex_6 : iocnt (goP 0 3) xs5.ln 8 = 1 := by decide +kernel
theorem ex_7 : dmaE xc 16 xs6 0 194 false = 101 := by decide +kernel
theorem ex_8 : xs7.re = [⟨0, 3, 1, false⟩, ⟨0, 3, 2, true⟩, ⟨0, 3, 1, false⟩] := by kernel_rfl

theorem dmaB_read (bs : List UInt8) (nf : Nat) (S : Io) (s a : Int) (b : Nat) : dmaB bs nf S s a false b = bs := by
  unfold dmaB
  cases dmaOk s a <;> simp
theorem dmaB_fault {bs : List UInt8} {nf : Nat} {S : Io} {s a : Int} {wr : Bool} {b : Nat} (h : dmaE bs nf S s a wr ≠ 0) : dmaB bs nf S s a wr b = bs := by
  unfold dmaB dmaOk
  unfold dmaE at h
  cases h1 : isS s
  · rfl
  cases h2 : isAd a
  · rfl
  rw [h1, h2] at h
  simp only [cond_true] at h
  by_cases hk : dmaK bs nf S s a wr = 0
  · rw [if_pos hk] at h; exact absurd rfl h
  · simp only [Bool.and_self, cond_true]
    rw [if_neg hk]

/-- The program's access alone, as the laws do it. -/
theorem dma_bo (w : World) (x pm bm pr br bi ji : Nat) (O Q : Nat → Prop) (bs bs' : List UInt8) (S S' : Io) (s a : Int) (wr : Bool) (b : Nat) (hb : b < 256) (v : Nat) (e1 : Int) (h : BoAt w x pm bm pr br bi ji O Q bs bs' S S') (hv : dmaV bs 16 S s a wr b = v) (he : dmaE bs 16 S s a wr = e1) :
    Calls Try.prog 15 #[.pointer (some ⟨bi, 0, none⟩), .pointer (some ⟨pm, 0, none⟩), .int .i64 s, .int .i64 a, .bool wr, .int .u8 (b : Int)] w fun e w' => e = .returned (.tuple #[.int .u8 (v : Int), .int .i64 e1]) ∧ ∃ O', BoAt w' x pm bm pr br bi ji O' Q (dmaB bs 16 S s a wr b) bs' (dmaS bs 16 S s a wr) S' ∧ ChgU w (boU x pm bm pr br O Q) w' (boU x pm bm pr br O' Q) := by
  refine (dma_any w bi O S pm bm 16 bs s a wr b hb h.io h.ram (fun e => (h.no _ e).2.1 rfl) (fun e => (h.no _ e).2.2.1 rfl)).mono ?_
  rintro e w' ⟨rfl, c⟩
  obtain ⟨O', h', u⟩ := h.stepD c
  rw [hv, he]
  exact ⟨rfl, O', h', u⟩

set_option maxHeartbeats 4000000 in
set_option maxRecDepth 100000 in
theorem ioawake_any (w : World) : Calls Try.prog 8 #[] w fun e w' => e = .returned (.bool true) ∧ Fr none' w w' := by
  have heq := eq_rec
  go_enter Try.func8, Try.ntmps8
  go_wp2_with fail
  refine (ioexample_any _).mono ?_
  rintro e w1 ⟨a0, cap, rfl, f1, hP⟩
  go_wp2_with fail
  refine (iomade_any _ a0 2 cap ioexP (by omega) hP).mono ?_
  rintro e w2 ⟨x, U, rfl, f2, hB, hU⟩
  have hB' : IsBo w2 x U xb io0 := hB
  obtain ⟨pm, bm, pr, br, bi, ji, O, Q, h, rfl⟩ := hB'
  have F : Fr none' w w2 := f1.trans f2
  have HU : Hid (∀ k, boU x pm bm pr br O Q k → w.heap.size ≤ k) := fun k hk => Nat.le_trans f1.size (hU k hk)
  have C : ChgU w2 (boU x pm bm pr br O Q) w2 (boU x pm bm pr br O Q) := ChgU.refl _ _
  have h1 : BoAt w2 x pm bm pr br bi ji O Q xb xb io0 io0 := h
  clear f1 f2 hP hU hB h
  have hD := h1.keep0 (Fr.refl none' w2).drew
  have rX := h1.row
  go_wp2_with fail
  have hC := dma_bo w2.drew x pm bm pr br bi ji O Q xb _ io0 io0 0 192 false 0 (by decide) 0 101 hD (by decide +kernel) ex_1
  go_region_held3 (fun w' => w'.cell? ⟨x, 1, none⟩ = some (.pointer (some ⟨bi, 0, none⟩)) ∧ w'.cell? ⟨x, 0, none⟩ = some (.pointer (some ⟨pm, 0, none⟩))) (first | with_reducible exact ⟨rX.c1, rX.c0⟩ | exact ⟨rX.c1, rX.c0⟩) (first | (go_at_call 15; refine hC.mono ?_; rintro e w3 ⟨rfl, O1, h', u⟩; replace rX := h'.row))
  rw [dmaB_read] at h'
  replace h1 : BoAt w3 x pm bm pr br bi ji O1 Q xb xb xs1 io0 := h'
  replace C := (C.trans (ChgU.none (Fr.refl none' w2).drew)).trans u
  clear hD hC h' u rX
  obtain ⟨x0, x1, x2, x3⟩ := h1.row
  go_wp2_with fail
  refine (attach_any _ _ _ _ _ _ h1.io).mono ?_
  rintro e w4 ⟨rfl, c⟩
  obtain ⟨O2, h', u⟩ := h1.stepI c
  replace h1 : BoAt w4 x pm bm pr br bi ji O2 Q xb xb xs2 io0 := h'
  replace C := C.trans u
  rw [show attE 0 1 = 0 from rfl]
  clear x0 x1 x2 x3 c h' u
  have hD := h1.keep0 (Fr.refl none' w4).drew
  have rX := h1.row
  go_wp2_with fail
  have hC := dma_bo w4.drew x pm bm pr br bi ji O2 Q xb _ xs2 io0 0 194 false 0 (by decide) 199 0 hD ex_3.2 ex_3.1
  go_region_held3 (fun w' => w'.cell? ⟨x, 1, none⟩ = some (.pointer (some ⟨bi, 0, none⟩)) ∧ w'.cell? ⟨x, 0, none⟩ = some (.pointer (some ⟨pm, 0, none⟩))) (first | with_reducible exact ⟨rX.c1, rX.c0⟩ | exact ⟨rX.c1, rX.c0⟩) (first | (go_at_call 15; refine hC.mono ?_; rintro e w5 ⟨rfl, O3, h', u⟩; replace rX := h'.row))
  rw [dmaB_read] at h'
  replace h1 : BoAt w5 x pm bm pr br bi ji O3 Q xb xb xs3 io0 := h'
  replace C := (C.trans (ChgU.none (Fr.refl none' w4).drew)).trans u
  clear hD hC h' u rX
  have hD := h1.keep0 (Fr.refl none' w5).drew
  have rX := h1.row
  go_wp2_with fail
  have hC := dma_bo w5.drew x pm bm pr br bi ji O3 Q xb _ xs3 io0 0 194 true 9 (by decide) 0 101 hD (by decide +kernel) ex_4
  go_region_held3 (fun w' => w'.cell? ⟨x, 1, none⟩ = some (.pointer (some ⟨bi, 0, none⟩)) ∧ w'.cell? ⟨x, 0, none⟩ = some (.pointer (some ⟨pm, 0, none⟩))) (first | with_reducible exact ⟨rX.c1, rX.c0⟩ | exact ⟨rX.c1, rX.c0⟩) (first | (go_at_call 15; refine hC.mono ?_; rintro e w6 ⟨rfl, O4, h', u⟩; replace rX := h'.row))
  rw [dmaB_fault (by rw [ex_4]; decide)] at h'
  replace h1 : BoAt w6 x pm bm pr br bi ji O4 Q xb xb xs4 io0 := h'
  replace C := (C.trans (ChgU.none (Fr.refl none' w5).drew)).trans u
  clear hD hC h' u rX
  go_wp2_with fail
  refine (ioput_at _ _ _ _ _ _ _ _ _ _ _ _ _ ⟨2, 3, false, false, 0, 0⟩ h1).mono ?_
  rintro e w7 ⟨⟨y, rfl⟩, h', u⟩
  replace h1 : BoAt w7 x pm bm pr br bi ji O4 Q xc xc xs4 io0 := h'
  replace C := C.trans u
  clear h' u
  have hD := h1.keep0 (Fr.refl none' w7).drew
  have rX := h1.row
  go_wp2_with fail
  have hC := dma_bo w7.drew x pm bm pr br bi ji O4 Q xc _ xs4 io0 0 194 false 0 (by decide) _ 0 hD rfl ex_5
  go_region_held3 (fun w' => w'.cell? ⟨x, 1, none⟩ = some (.pointer (some ⟨bi, 0, none⟩)) ∧ w'.cell? ⟨x, 0, none⟩ = some (.pointer (some ⟨pm, 0, none⟩))) (first | with_reducible exact ⟨rX.c1, rX.c0⟩ | exact ⟨rX.c1, rX.c0⟩) (first | (go_at_call 15; refine hC.mono ?_; rintro e w8 ⟨rfl, O5, h', u⟩; replace rX := h'.row))
  rw [dmaB_read] at h'
  replace h1 : BoAt w8 x pm bm pr br bi ji O5 Q xc xc xs5 io0 := h'
  replace C := (C.trans (ChgU.none (Fr.refl none' w7).drew)).trans u
  clear hD hC h' u rX
  obtain ⟨x0, x1, x2, x3⟩ := h1.row
  go_wp2_with fail
  refine (ioflushpage_any _ _ _ _ _ _ h1.io).mono ?_
  rintro e w9 ⟨rfl, c⟩
  obtain ⟨O6, h', u⟩ := h1.stepI c
  replace h1 : BoAt w9 x pm bm pr br bi ji O6 Q xc xc xs6 io0 := h'
  replace C := C.trans u
  rw [ex_6]
  clear x0 x1 x2 x3 c h' u
  have hD := h1.keep0 (Fr.refl none' w9).drew
  have rX := h1.row
  go_wp2_with fail
  have hC := dma_bo w9.drew x pm bm pr br bi ji O6 Q xc _ xs6 io0 0 194 false 0 (by decide) _ 101 hD rfl ex_7
  go_region_held3 (fun w' => w'.cell? ⟨x, 1, none⟩ = some (.pointer (some ⟨bi, 0, none⟩)) ∧ w'.cell? ⟨x, 0, none⟩ = some (.pointer (some ⟨pm, 0, none⟩))) (first | with_reducible exact ⟨rX.c1, rX.c0⟩ | exact ⟨rX.c1, rX.c0⟩) (first | (go_at_call 15; refine hC.mono ?_; rintro e w10 ⟨rfl, O7, h', u⟩; replace rX := h'.row))
  rw [dmaB_read] at h'
  replace h1 : BoAt w10 x pm bm pr br bi ji O7 Q xc xc xs7 io0 := h'
  replace C := (C.trans (ChgU.none (Fr.refl none' w9).drew)).trans u
  clear hD hC h' u rX
  obtain ⟨x0, x1, x2, x3⟩ := h1.row
  go_wp2_with fail
  refine (records_any _ _ _ _ h1.io).mono ?_
  rintro e w11 ⟨g, rfl, hg, f11, hr⟩
  rw [ex_8] at hr ⊢
  obtain ⟨a0, a1, a2, a3⟩ := hr.cells (k := 0) rfl
  obtain ⟨b0, b1, b2, b3⟩ := hr.cells (k := 1) rfl
  simp only [Nat.zero_mul, Nat.zero_add, Nat.one_mul] at a0 a1 a2 a3 b0 b1 b2 b3
  have HF : Hid (Fr none' w w11) := (show Fr _ _ _ from ⟨(f11.os.trans C.1.os).trans F.os, (f11.tape.trans C.1.tape).trans F.tape, (f11.output.trans C.1.output).trans F.output, Nat.le_trans F.size (Nat.le_trans C.1.size f11.size), fun i hi hn => (f11.block i (Nat.lt_of_lt_of_le hi (Nat.le_trans F.size C.1.size)) hn).trans ((C.1.block i (Nat.lt_of_lt_of_le hi F.size) (fun e => by have := HU.out i e; omega)).trans (F.block i hi hn))⟩)
  clear x0 x1 x2 x3 f11 hr hg h1 C F
  go_wp2_with fail
  go_ret
  exact ⟨rfl, HF.out⟩

end Go.Proofs.Ythmombgogmgobaa
