/-
  The contract of package pte's All over the translation, said of the memory's bytes: a table read whole. No statement is proved here.
-/
import Derived.Test.YtefjincghkdeiabPteMem
namespace Go.Proofs.Ytefjincghkdeiab
open Go.RowKit

/-- Cells that show the entries of so many words. -/
def IsEnts (get : Nat → Option Value) (k : Nat) (x : Nat → Int) : Prop :=
  ∀ j, j < k → get (j * 4) = some (.bool (dv (x j))) ∧ get (j * 4 + 1) = some (.bool (dl (x j))) ∧ get (j * 4 + 2) = some (.int .i64 (dr (x j))) ∧ get (j * 4 + 3) = some (.int .i64 (df (x j)))

/-- Block g has room for n entries; the first k are those of the words x. -/
def EntRow (w : World) (g n k : Nat) (x : Nat → Int) : Prop := ∃ cs, Row w g cs 24 ∧ cs.size = n * 4 ∧ IsEnts (fun i => cs[i]?) k x

theorem EntRow.keep {S : Nat → Prop} {w w' : World} {g n k : Nat} {x : Nat → Int} (h : EntRow w g n k x) (f : Fr S w w') (hs : ¬ S g) : EntRow w' g n k x := by
  obtain ⟨cs, h, r⟩ := h; exact ⟨cs, h.keep f hs, r⟩

theorem EntRow.alloc {w : World} {g n k : Nat} {x : Nat → Int} (h : EntRow w g n k x) (o : Obj) : EntRow (w.alloc o) g n k x :=
  h.keep ((Fr.refl none' w).alloc o) (fun h => h)

theorem EntRow.lt {w : World} {g n k : Nat} {x : Nat → Int} (h : EntRow w g n k x) : g < w.heap.size := by
  obtain ⟨cs, h, _⟩ := h; exact h.lt

theorem EntRow.cells {w : World} {g n k : Nat} {x : Nat → Int} (h : EntRow w g n k x) (j : Nat) (hj : j < k) :
    w.cell? ⟨g, j * 4, none⟩ = some (.bool (dv (x j))) ∧ w.cell? ⟨g, j * 4 + 1, none⟩ = some (.bool (dl (x j))) ∧ w.cell? ⟨g, j * 4 + 2, none⟩ = some (.int .i64 (dr (x j))) ∧ w.cell? ⟨g, j * 4 + 3, none⟩ = some (.int .i64 (df (x j))) := by
  obtain ⟨cs, hr, _, he⟩ := h
  obtain ⟨h0, h1, h2, h3⟩ := he j hj
  exact ⟨(hr.cell _).trans h0, (hr.cell _).trans h1, (hr.cell _).trans h2, (hr.cell _).trans h3⟩

theorem EntRow.any {w : World} {g n k : Nat} {x : Nat → Int} (h : EntRow w g n k x) (i : Nat) (hi : i < n * 4) : ∃ y, w.cell? ⟨g, i, none⟩ = some y := by
  obtain ⟨cs, hr, hs, _⟩ := h
  rw [hr.cell]
  exact ⟨cs[i]'(by omega), by simp [hs, hi]⟩

theorem EntRow.frozen {w : World} {g n k : Nat} {x : Nat → Int} (h : EntRow w g n k x) (i : Nat) : w.frozen? ⟨g, i, none⟩ = false := by
  obtain ⟨cs, hr, _⟩ := h; exact hr.frozen i

theorem EntRow.set {w : World} {g n k : Nat} {x : Nat → Int} (h : EntRow w g n k x) (hk : k < n) :
    EntRow ((((w.setCell ⟨g, k * 4, none⟩ (.bool (dv (x k)))).setCell ⟨g, k * 4 + 1, none⟩ (.bool (dl (x k)))).setCell ⟨g, k * 4 + 2, none⟩ (.int .i64 (dr (x k)))).setCell ⟨g, k * 4 + 3, none⟩ (.int .i64 (df (x k)))) g n (k + 1) x := by
  obtain ⟨cs, hr, hs, he⟩ := h
  refine ⟨_, (((hr.setCell _ _).setCell _ _).setCell _ _).setCell _ _, by simpa using hs, fun j hj => ?_⟩
  by_cases hjk : j = k
  · subst hjk
    simp [Array.getElem?_setIfInBounds, hs]
    omega
  · obtain ⟨h0, h1, h2, h3⟩ := he j (by omega)
    have a0 : ∀ a b : Nat, a < 4 → b < 4 → ¬ k * 4 + a = j * 4 + b := by intro a b _ _; omega
    have a00 := a0 0 0 (by omega) (by omega)
    have a01 := a0 0 1 (by omega) (by omega)
    have a02 := a0 0 2 (by omega) (by omega)
    have a03 := a0 0 3 (by omega) (by omega)
    have a10 := a0 1 0 (by omega) (by omega)
    have a11 := a0 1 1 (by omega) (by omega)
    have a12 := a0 1 2 (by omega) (by omega)
    have a13 := a0 1 3 (by omega) (by omega)
    have a20 := a0 2 0 (by omega) (by omega)
    have a21 := a0 2 1 (by omega) (by omega)
    have a22 := a0 2 2 (by omega) (by omega)
    have a23 := a0 2 3 (by omega) (by omega)
    have a30 := a0 3 0 (by omega) (by omega)
    have a31 := a0 3 1 (by omega) (by omega)
    have a32 := a0 3 2 (by omega) (by omega)
    have a33 := a0 3 3 (by omega) (by omega)
    simp only [Nat.add_zero] at a00 a01 a02 a03 a10 a20 a30
    simp only [Array.getElem?_setIfInBounds, a00, a01, a02, a03, a10, a11, a12, a13, a20, a21, a22, a23, a30, a31, a32, a33, if_false]
    exact ⟨h0, h1, h2, h3⟩

theorem info_ent : (Try.prog.info? 24).map (fun i => (i.zero, i.bytes, i.size)) = some (some (.agg #[.bool false, .bool false, .int .i64 0, .int .i64 0]), 24, 4) := by kernel_rfl

theorem make_ents : ∃ zs : Array Value, zs.size = 32 * 4 ∧ ∀ w : World, (Instr.makeSlice 35 (.int .i64 32) (.int .i64 32)).run Try.prog w = .ok (.slice (some ⟨w.heap.size, 0, none⟩) 32 32) (w.alloc (.cells zs 24)) := by
  have hi := info_ent
  cases hq : Try.prog.info? 24 with
  | none => simp [hq] at hi
  | some i =>
    rw [hq] at hi
    simp only [Option.map_some, Option.some.injEq, Prod.mk.injEq] at hi
    obtain ⟨hz, hb, hs⟩ := hi
    refine ⟨madeCells #[.bool false, .bool false, .int .i64 0, .int .i64 0] (32 * 4), by rw [size_madeCells], fun w => ?_⟩
    have := run_make (P := Try.prog) w 35 24 i _ Try.underlying35 hq hz .i64 .i64 32 32 (by omega) (by omega) (by rw [hb]; omega) (by omega)
    rw [this, hs]
    rfl

theorem get_good (w : World) (p bf nf : Nat) (bs : List UInt8) (t i : Nat) (h : IsRam w p bf nf bs) (ht : t < nf) (hi : i < 32) (hd : decOk (half bs t i) = true) :
    Calls Try.prog 15 #[.pointer (some ⟨p, 0, none⟩), .int .i64 (t : Int), .int .i64 (i : Int)] w fun e w' =>
      e = .returned (.tuple #[.agg #[.bool (dv (half bs t i)), .bool (dl (half bs t i)), .int .i64 (dr (half bs t i)), .int .i64 (df (half bs t i))], .int .i64 0]) ∧ Fr none' w w' := by
  have := get_ok w p bf nf bs t i h ht hi
  rwa [show de (half bs t i) = 0 by unfold de; rw [if_pos hd]] at this

theorem get_worse (w : World) (p bf nf : Nat) (bs : List UInt8) (t i : Nat) (h : IsRam w p bf nf bs) (ht : t < nf) (hi : i < 32) (hd : decOk (half bs t i) = false) :
    Calls Try.prog 15 #[.pointer (some ⟨p, 0, none⟩), .int .i64 (t : Int), .int .i64 (i : Int)] w fun e w' =>
      e = .returned (.tuple #[.agg #[.bool (dv (half bs t i)), .bool (dl (half bs t i)), .int .i64 (dr (half bs t i)), .int .i64 (df (half bs t i))], .int .i64 20]) ∧ Fr none' w w' := by
  have := get_ok w p bf nf bs t i h ht hi
  rwa [show de (half bs t i) = 20 by unfold de; rw [hd]; rfl] at this

theorem get_out (w : World) (p bf nf : Nat) (bs : List UInt8) (t : Int) (h : IsRam w p bf nf bs) (ht : t < 0 ∨ (nf : Int) ≤ t) :
    Calls Try.prog 15 #[.pointer (some ⟨p, 0, none⟩), .int .i64 t, .int .i64 0] w fun e w' =>
      e = .returned (.tuple #[.agg #[.bool false, .bool false, .int .i64 0, .int .i64 0], .int .i64 10]) ∧ Fr none' w w' := by
  have he : placeE t 0 nf = 10 := by unfold placeE; rw [if_neg (by omega), if_pos ht]
  have := get_bad w p bf nf bs t 0 h (by rw [he]; omega)
  rwa [he] at this

set_option maxHeartbeats 1000000 in
theorem tab_out (w : World) (p bf nf : Nat) (bs : List UInt8) (t : Int) (h : IsRam w p bf nf bs) (ht : t < 0 ∨ (nf : Int) ≤ t) :
    Calls Try.prog 9 #[.pointer (some ⟨p, 0, none⟩), .int .i64 t] w fun e w' => e = .returned (.tuple #[.slice none 0 0, .int .i64 10]) ∧ Fr none' w w' := by
  obtain ⟨zs, _, hmk⟩ := make_ents
  have f0 := (Fr.refl none' w).alloc (.cells zs 24)
  have h0 := h.keep f0 (fun h => h) (fun h => h)
  have HT : Hid (t < 0 ∨ (nf : Int) ≤ t) := ht
  clear ht
  go_enter Try.func9, Try.ntmps9
  go_wp2_with fail
  refine wp_loop_rounds 1 ?_
  rw [rounds_succ]; go_wp2_with fail
  refine (get_out _ _ _ _ _ _ h0 HT).mono ?_
  rintro e w1 ⟨rfl, f1⟩
  replace f1 := (f0.trans f1).alloc (.cells #[.bool false, .bool false, .int .i64 0, .int .i64 0] 24)
  go_wp2_with fail
  go_ret2
  exact ⟨rfl, f1⟩

/-- What All comes to, of a table that is there. -/
def TabIs (w : World) (bs : List UInt8) (t : Nat) (e : Ending) (w' : World) : Prop :=
  Fr none' w w' ∧ (((∀ k, k < 32 → decOk (half bs t k) = true) ∧ ∃ g cap, e = .returned (.tuple #[.slice (some ⟨g, 0, none⟩) 32 cap, .int .i64 0]) ∧ w.heap.size ≤ g ∧ EntRow w' g cap 32 (fun j => half bs t j)) ∨
    ((∃ k, k < 32 ∧ decOk (half bs t k) = false) ∧ e = .returned (.tuple #[.slice none 0 0, .int .i64 20])))

set_option maxHeartbeats 1000000 in
theorem tab_in (w : World) (p bf nf : Nat) (bs : List UInt8) (t : Nat) (h : IsRam w p bf nf bs) (ht : t < nf) :
    Calls Try.prog 9 #[.pointer (some ⟨p, 0, none⟩), .int .i64 (t : Int)] w (TabIs w bs t) := by
  obtain ⟨zs, hzs, hmk⟩ := make_ents
  have f0 := (Fr.refl none' w).alloc (.cells zs 24)
  have e0 : EntRow (w.alloc (.cells zs 24)) w.heap.size 32 0 (fun j => half bs t j) := ⟨zs, row_alloc _ _ _, hzs, fun j hj => by omega⟩
  clear hzs
  go_enter Try.func9, Try.ntmps9
  go_wp2_with fail
  go_loopw [13] (fun i wr => ∃ k : Nat, k ≤ 32 ∧ i = .int .i64 k ∧ Fr none' w wr ∧ EntRow wr w.heap.size 32 k (fun j => half bs t j) ∧ Hid (∀ j, j < k → decOk (half bs t j) = true)) (fun i _ => 32 - (intOf i).toNat)
  case atStart => exact ⟨0, by omega, rfl, f0, e0, fun j hj => by omega⟩
  case round =>
    clear f0 e0
    obtain ⟨k, hk, rfl, fk, ek, HK⟩ := hrel
    by_cases hlt : k < 32
    · have hr := h.keep fk (fun h => h) (fun h => h)
      by_cases hd : decOk (half bs t k) = true
      · go_wp2_with fail
        refine (get_good _ _ _ _ _ _ _ hr ht hlt hd).mono ?_
        rintro e w1 ⟨rfl, f1⟩
        have e1 := (ek.keep f1 (fun h => h)).alloc (.cells (ebox (dv (half bs t k)) (dl (half bs t k)) (dr (half bs t k)) (df (half bs t k))) 24)
        replace f1 := (fk.trans f1).alloc (.cells (ebox (dv (half bs t k)) (dl (half bs t k)) (dr (half bs t k)) (df (half bs t k))) 24)
        unfold ebox at e1 f1
        clear fk ek hr
        obtain ⟨y0, c0⟩ := e1.any (k * 4) (by omega)
        obtain ⟨y1, c1⟩ := e1.any (k * 4 + 1) (by omega)
        obtain ⟨y2, c2⟩ := e1.any (k * 4 + 2) (by omega)
        obtain ⟨y3, c3⟩ := e1.any (k * 4 + 3) (by omega)
        have g0 := e1.frozen (k * 4)
        have g1 := e1.frozen (k * 4 + 1)
        have g2 := e1.frozen (k * 4 + 2)
        have g3 := e1.frozen (k * 4 + 3)
        have i1 : 0 ≤ (k : Int) ∧ (k : Int) < 32 := by omega
        go_wp2_with fail
        go_roundw
        case rel => exact ⟨k + 1, by omega, by go_num, (((f1.setCell (p := ⟨w.heap.size, k * 4, none⟩) (Or.inl (Nat.le_refl _)) _).setCell (p := ⟨w.heap.size, k * 4 + 1, none⟩) (Or.inl (Nat.le_refl _)) _).setCell (p := ⟨w.heap.size, k * 4 + 2, none⟩) (Or.inl (Nat.le_refl _)) _).setCell (p := ⟨w.heap.size, k * 4 + 3, none⟩) (Or.inl (Nat.le_refl _)) _, e1.set hlt, fun j hj => by
          rcases Nat.lt_or_ge j k with h' | h'
          · exact HK.out j h'
          · obtain rfl : j = k := by omega
            exact hd⟩
        case measure => simp [intOf]; omega
      · have hd' : decOk (half bs t k) = false := by simpa using hd
        clear hd
        go_wp2_with fail
        refine (get_worse _ _ _ _ _ _ _ hr ht hlt hd').mono ?_
        rintro e w1 ⟨rfl, f1⟩
        replace f1 := (fk.trans f1).alloc (.cells (ebox (dv (half bs t k)) (dl (half bs t k)) (dr (half bs t k)) (df (half bs t k))) 24)
        unfold ebox at f1
        clear fk ek hr
        go_wp2_with fail
        go_ret2
        exact ⟨f1, Or.inr ⟨⟨k, hlt, hd'⟩, rfl⟩⟩
    · obtain rfl : k = 32 := by omega
      go_wp2_with fail
      go_ret2
      exact ⟨fk, Or.inl ⟨HK.out, _, _, rfl, Nat.le_refl _, ek⟩⟩

end Go.Proofs.Ytefjincghkdeiab
