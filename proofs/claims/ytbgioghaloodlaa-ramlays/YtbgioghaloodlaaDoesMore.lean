/-
  The contract of 'does' over the translation, act by act: stores, clears, lays, frames; and whole. No statement is proved here.
-/
import Derived.Test.YtbgioghaloodlaaDoes
namespace Go.Proofs.Ytbgioghaloodlaa
open Go.RowKit

theorem Fr.newerS {S : Nat → Prop} {w w1 w2 : World} {b : Nat} (f : Fr S w w1) (g : Fr (at' b) w1 w2) (hb : w.heap.size ≤ b) : Fr S w w2 :=
  ⟨g.os.trans f.os, g.tape.trans f.tape, g.output.trans f.output, Nat.le_trans f.size g.size, fun i hi hn => (g.block i (Nat.lt_of_lt_of_le hi f.size) (fun e => by have e' : i = b := e; omega)).trans (f.block i hi hn)⟩

/-- The state of a row of so many bytes that is being overwritten. -/
def Over (w : World) (b n : Nat) : Prop := ∃ cs, Row w b cs 5 ∧ cs.size = n

theorem Over.cell {w : World} {b n : Nat} (h : Over w b n) (i : Nat) (hi : i < n) : ∃ y, w.cell? ⟨b, i, none⟩ = some y := by
  obtain ⟨cs, hr, hs⟩ := h
  rw [hr.cell]
  exact ⟨cs[i]'(by omega), by simp [hs, hi]⟩
theorem Over.frozen {w : World} {b n : Nat} (h : Over w b n) (i : Nat) : w.frozen? ⟨b, i, none⟩ = false := by
  obtain ⟨cs, hr, _⟩ := h; exact hr.frozen i
theorem Over.set {w : World} {b n : Nat} (h : Over w b n) (i : Nat) (v : Value) : Over (w.setCell ⟨b, i, none⟩ v) b n := by
  obtain ⟨cs, hr, hs⟩ := h; exact ⟨_, hr.setCell i v, by simpa using hs⟩

/-- An act's own box. -/
def box (dO a s : Int) (v m c : Nat) (sp : Option Addr) : Array Value := #[.int .i64 dO, .int .i64 a, .int .i64 s, .int .u32 (v : Int), .slice sp m c]

theorem Twin.lt {w : World} {B pm bm pr br nf : Nat} {bs : List UInt8} (h : Twin w B pm bm pr br nf bs) : pm < w.heap.size ∧ bm < w.heap.size ∧ pr < w.heap.size ∧ br < w.heap.size :=
  ⟨h.ram.head.lt, h.ram.row.lt, h.ref.head.lt, h.ref.row.lt⟩

theorem box_cells {w : World} {b : Nat} {dO a s : Int} {v m c : Nat} {sp : Option Addr} (h : Row w b (box dO a s v m c sp) 35) :
    w.cell? ⟨b, 0, none⟩ = some (.int .i64 dO) ∧ w.cell? ⟨b, 1, none⟩ = some (.int .i64 a) ∧ w.cell? ⟨b, 2, none⟩ = some (.int .i64 s) ∧ w.cell? ⟨b, 3, none⟩ = some (.int .u32 (v : Int)) ∧ w.cell? ⟨b, 4, none⟩ = some (.slice sp m c) :=
  ⟨h.cell 0, h.cell 1, h.cell 2, h.cell 3, h.cell 4⟩

set_option maxHeartbeats 1000000 in
theorem does_store (w : World) (B pm bm pr br nf : Nat) (bs : List UInt8) (h : Twin w B pm bm pr br nf bs) (a s : Int) (v m c : Nat) (sp : Option Addr) (hm : a ≤ 9223372036854775807) (hv : v < 4294967296) :
    Calls Try.prog 11 #[.pointer (some ⟨pm, 0, none⟩), .pointer (some ⟨pr, 0, none⟩), .agg #[.int .i64 2, .int .i64 a, .int .i64 s, .int .u32 (v : Int), .slice sp m c]] w (Done w B pm bm pr br nf) := by
  have h' := h.keep0 ((Fr.refl none' w).alloc (.cells (box 2 a s v m c sp) 35))
  have f' := (Fr.refl (two bm br) w).alloc (.cells (box 2 a s v m c sp) 35)
  have r0 := row_alloc w (box 2 a s v m c sp) 35
  have hlt := h.lt
  unfold box at h' f'
  go_enter Try.func11, Try.ntmps11
  go_wp2_with fail
  refine (store_any _ _ _ _ _ _ _ _ h'.ram hm hv).mono ?_
  rintro e w1 ⟨rfl, f1, r1⟩
  have rb := r0.keep f1 (show ¬ at' bm w.heap.size by unfold at'; omega)
  obtain ⟨_, k1, k2, k3, _⟩ := box_cells rb
  have q1 := h'.refAfter f1
  go_wp2_with fail
  refine (rstore_any _ _ _ _ _ _ _ _ q1 hv).mono ?_
  rintro e w2 ⟨rfl, f2, r2⟩
  obtain ⟨t2, g2⟩ := h'.step f1 r1 f2 r2
  clear f1 r1 f2 r2 q1 h' rb r0 k1 k2 k3
  go_wp2_with fail
  go_ret
  exact ⟨rfl, f'.trans g2, _, t2⟩

set_option maxHeartbeats 1000000 in
theorem does_clear (w : World) (B pm bm pr br nf : Nat) (bs : List UInt8) (h : Twin w B pm bm pr br nf bs) (a s : Int) (v m c : Nat) (sp : Option Addr) :
    Calls Try.prog 11 #[.pointer (some ⟨pm, 0, none⟩), .pointer (some ⟨pr, 0, none⟩), .agg #[.int .i64 5, .int .i64 a, .int .i64 s, .int .u32 (v : Int), .slice sp m c]] w (Done w B pm bm pr br nf) := by
  have h' := h.keep0 ((Fr.refl none' w).alloc (.cells (box 5 a s v m c sp) 35))
  have f' := (Fr.refl (two bm br) w).alloc (.cells (box 5 a s v m c sp) 35)
  have r0 := row_alloc w (box 5 a s v m c sp) 35
  have hlt := h.lt
  unfold box at h' f'
  go_enter Try.func11, Try.ntmps11
  go_wp2_with fail
  refine (clear_any _ _ _ _ _ _ h'.ram).mono ?_
  rintro e w1 ⟨rfl, f1, r1⟩
  have rb := r0.keep f1 (show ¬ at' bm w.heap.size by unfold at'; omega)
  obtain ⟨_, k1, _, _, _⟩ := box_cells rb
  have q1 := h'.refAfter f1
  go_wp2_with fail
  refine (rclear_any _ _ _ _ _ _ q1).mono ?_
  rintro e w2 ⟨rfl, f2, r2⟩
  obtain ⟨t2, g2⟩ := h'.step f1 r1 f2 r2
  clear f1 r1 f2 r2 q1 h' rb r0 k1
  go_wp2_with fail
  go_ret
  exact ⟨rfl, f'.trans g2, _, t2⟩

set_option maxHeartbeats 1000000 in
theorem does_frame_out (w : World) (B pm bm pr br nf : Nat) (bs : List UInt8) (h : Twin w B pm bm pr br nf bs) (dO a s : Int) (v m c : Nat) (sp : Option Addr) (n1 : (dO == 1) = false) (n2 : (dO == 2) = false) (n4 : (dO == 4) = false) (n5 : (dO == 5) = false) (hn : ¬ (0 ≤ a ∧ a < (nf : Int))) :
    Calls Try.prog 11 #[.pointer (some ⟨pm, 0, none⟩), .pointer (some ⟨pr, 0, none⟩), .agg #[.int .i64 dO, .int .i64 a, .int .i64 s, .int .u32 (v : Int), .slice sp m c]] w (Done w B pm bm pr br nf) := by
  have HN : Hid (¬ (0 ≤ a ∧ a < (nf : Int))) := hn
  clear hn
  have h' := h.keep0 ((Fr.refl none' w).alloc (.cells (box dO a s v m c sp) 35))
  have f' := (Fr.refl (two bm br) w).alloc (.cells (box dO a s v m c sp) 35)
  unfold box at h' f'
  go_enter Try.func11, Try.ntmps11
  go_wp2_with fail
  refine (frame_bad _ _ _ _ _ _ h'.ram HN).mono ?_
  rintro e w1 ⟨rfl, rfl⟩
  go_wp2_with fail
  refine (rframe_bad _ _ _ _ _ _ h'.ref HN).mono ?_
  rintro e w1 ⟨rfl, rfl⟩
  go_wp2_with fail
  refine (same_nil _ _ _ _ _).mono ?_
  rintro e w1 ⟨rfl, rfl⟩
  go_wp2_with fail
  refine wp_loop_rounds 1 ?_
  rw [rounds_succ]; go_wp2_with fail
  go_ret
  exact ⟨rfl, f', _, h'⟩

set_option maxHeartbeats 1000000 in
theorem does_frame_in (w : World) (B pm bm pr br nf : Nat) (bs : List UInt8) (h : Twin w B pm bm pr br nf bs) (dO s : Int) (a v m c : Nat) (sp : Option Addr) (n1 : (dO == 1) = false) (n2 : (dO == 2) = false) (n4 : (dO == 4) = false) (n5 : (dO == 5) = false) (hn : a < nf) :
    Calls Try.prog 11 #[.pointer (some ⟨pm, 0, none⟩), .pointer (some ⟨pr, 0, none⟩), .agg #[.int .i64 dO, .int .i64 (a : Int), .int .i64 s, .int .u32 (v : Int), .slice sp m c]] w (Done w B pm bm pr br nf) := by
  have h' := h.keep0 ((Fr.refl none' w).alloc (.cells (box dO a s v m c sp) 35))
  have f' := (Fr.refl (two bm br) w).alloc (.cells (box dO a s v m c sp) 35)
  have r0 := row_alloc w (box dO a s v m c sp) 35
  have hlt := h.lt
  have hw : (w.alloc (.cells (box dO a s v m c sp) 35)).heap.size = w.heap.size + 1 := by simp
  unfold box at h' f' hw
  go_enter Try.func11, Try.ntmps11
  go_wp2_with fail
  refine (frame_ok _ _ _ _ _ _ h'.ram hn).mono ?_
  rintro e w1 ⟨rfl, f1, x1⟩
  rw [hw] at x1 ⊢
  have rb := r0.keep f1 (fun h => h)
  obtain ⟨_, k1, _, _, _⟩ := box_cells rb
  have t1 := h'.keep0 f1
  have g1 := f'.trans (f1.mono fun _ _ e => e.elim)
  go_wp2_with fail
  refine (rframe_ok _ _ _ _ _ _ t1.ref hn).mono ?_
  rintro e w2 ⟨g, cap, rfl, hg, f2, x2⟩
  have z1 := x1.lt
  replace x1 := x1.keep f2 (fun h => h)
  have t2 := t1.keep0 f2
  replace g1 := g1.trans (f2.mono fun _ _ e => e.elim)
  have HL : Hid ((frameOf bs a).length = 64) := length_frameOf bs a nf h.ram.len hn
  clear h' f' r0 f1 rb k1 t1 f2
  go_wp2_with fail
  refine (same_any _ _ _ _ _ _ _ _ _ HL HL (by omega) (begins_row x1).src x2.src).mono ?_
  rintro e w3 ⟨rfl, f3⟩
  rw [decide_eq_true rfl]
  replace x1 := x1.keep f3 (fun h => h)
  have t3 := t2.keep0 f3
  replace g1 := g1.trans (f3.mono fun _ _ e => e.elim)
  have z3 := f3.size
  clear f3 t2 x2
  go_wp2_with fail
  have o1 : Over w3 (w.heap.size + 1) 64 := ⟨_, x1, by rw [size_byteVals]; exact HL⟩
  clear x1
  go_loopw [25] (fun i wr => ∃ k : Nat, k ≤ 64 ∧ i = .int .i64 k ∧ Fr (at' (w.heap.size + 1)) w3 wr ∧ Over wr (w.heap.size + 1) 64) (fun i _ => 64 - (intOf i).toNat)
  case atStart => exact ⟨0, by omega, rfl, Fr.refl _ _, o1⟩
  case round =>
    obtain ⟨k, hk, rfl, fk, ok⟩ := hrel
    by_cases hlt : k < 64
    · obtain ⟨y, c1⟩ := ok.cell k hlt
      have c2 := ok.frozen k
      go_wp2
      go_roundw
      case rel => exact ⟨k + 1, by omega, by go_num, fr_set _ _ _ _ fk, ok.set _ _⟩
      case measure => simp [intOf]; omega
    · obtain rfl : k = 64 := by omega
      go_wp2
      go_ret
      exact ⟨rfl, g1.newerS fk (by omega), _, t3.keep fk (by unfold at'; omega) (by unfold at'; omega) (by unfold at'; omega) (by unfold at'; omega)⟩

set_option maxRecDepth 100000 in
set_option maxHeartbeats 1000000 in
theorem does_lay (w : World) (B pm bm pr br nf : Nat) (bs : List UInt8) (h : Twin w B pm bm pr br nf bs) (a s : Int) (v m c : Nat) (sp : Option Addr) (data : List UInt8) (hb : Bytes w sp m c data) (hm : m ≤ 140737488355328) (hsp : 0 < m → ∀ x, sp = some x → x.block < B) :
    Calls Try.prog 11 #[.pointer (some ⟨pm, 0, none⟩), .pointer (some ⟨pr, 0, none⟩), .agg #[.int .i64 4, .int .i64 a, .int .i64 s, .int .u32 (v : Int), .slice sp m c]] w (Done w B pm bm pr br nf) := by
  have h' := h.keep0 ((Fr.refl none' w).alloc (.cells (box 4 a s v m c sp) 35))
  have f' := (Fr.refl (two bm br) w).alloc (.cells (box 4 a s v m c sp) 35)
  have r0 := row_alloc w (box 4 a s v m c sp) 35
  have hlt := h.lt
  have hlo := h.lo
  have b' := hb.keep ((Fr.refl none' w).alloc (.cells (box 4 a s v m c sp) 35)) (fun _ _ _ h => h)
  have hw : (w.alloc (.cells (box 4 a s v m c sp) 35)).heap.size = w.heap.size + 1 := by simp
  obtain ⟨g, cap, w1, hrun, hg, f1, x1⟩ := append_fresh _ 33 sp m c data b' hm
  rw [hw] at hrun hg
  have HR : Hid ((Builtin.append_ #[33, 33] 33 #[.slice (some ⟨w.heap.size + 1, 0, none⟩) 0 0, .slice sp m c]).run Try.prog ((w.alloc (.cells #[.int .i64 4, .int .i64 a, .int .i64 s, .int .u32 (v : Int), .slice sp m c] 35)).alloc (.cells #[] 5)) = .ok (.slice (some ⟨g, 0, none⟩) m cap) w1) := hrun
  clear hrun
  have t1 := h'.keep0 f1
  have rb1 := r0.keep f1 (fun h => h)
  have b1 := b'.keep f1 (fun _ _ _ h => h)
  have g1 := f'.trans (f1.mono fun _ _ e => e.elim)
  obtain ⟨_, k1, _, _, _⟩ := box_cells rb1
  clear h' f' r0 b' hw f1 hb h
  have HS : Hid (0 < m → ∀ x, sp = some x → x.block < B) := hsp
  clear hsp
  go_enter Try.func11, Try.ntmps11
  go_wp2_with (at_builtin; refine wpList_append_run rfl _ _ _ rfl _ _ rfl rfl _ _ HR ?_)
  clear HR
  refine (lay_any _ _ _ _ _ _ t1.ram _ _ _ _ b1.len x1.src).mono ?_
  rintro e w2 ⟨rfl, f2, r2⟩
  have z1 := x1.lt
  have HO1 : Hid (0 < m → ∀ x, sp = some x → ¬ at' bm x.block) := fun hp x hx e => by have := HS.out hp x hx; unfold at' at e; omega
  have HO2 : Hid (0 < m → ∀ x, sp = some x → ¬ at' br x.block) := fun hp x hx e => by have := HS.out hp x hx; unfold at' at e; omega
  have b2 := b1.keep f2 HO1
  have x2 := x1.keep f2 (show ¬ at' bm g by unfold at'; omega)
  have rb2 := rb1.keep f2 (show ¬ at' bm w.heap.size by unfold at'; omega)
  have q2 := t1.refAfter f2
  obtain ⟨_, k1', _, _, k4'⟩ := box_cells rb2
  go_wp2_with fail
  refine (rlay_any _ _ _ _ _ _ q2 _ _ _ _ b2 HO2).mono ?_
  rintro e w3 ⟨rfl, f3, r3⟩
  obtain ⟨t3, g3⟩ := t1.step f2 r2 f3 r3
  have b3 := b2.keep f3 HO2
  have x3 := x2.keep f3 (show ¬ at' br g by unfold at'; omega)
  have rb3 := rb2.keep f3 (show ¬ at' br w.heap.size by unfold at'; omega)
  obtain ⟨_, _, _, _, k4''⟩ := box_cells rb3
  replace g3 := g1.trans g3
  clear t1 rb1 b1 g1 k1 x1 f2 r2 b2 x2 rb2 q2 k1' k4' f3 r3
  go_wp2_with fail
  refine (same_any _ _ _ _ _ _ _ _ _ b3.len b3.len (by omega) x3.src b3.src).mono ?_
  rintro e w4 ⟨rfl, f4⟩
  rw [decide_eq_true rfl]
  have t4 := t3.keep0 f4
  have x4 := x3.keep f4 (fun h => h)
  replace g3 := g3.trans (f4.mono fun _ _ e => e.elim)
  have HL : Hid (data.length = m) := b3.len
  clear t3 b3 x3 rb3 k4'' f4
  have ov : Over w4 g cap := by obtain ⟨cs, hr, hs, _⟩ := x4; exact ⟨cs, hr, hs⟩
  have hmc : m ≤ cap := by obtain ⟨cs, hr, hs, hl, _⟩ := x4; rw [← HL.out]; exact hl
  clear x4
  go_wp2_with fail
  go_loopw [17] (fun i wr => ∃ k : Nat, k ≤ m ∧ i = .int .i64 k ∧ Fr (at' g) w4 wr ∧ Over wr g cap) (fun i _ => m - (intOf i).toNat)
  case atStart => exact ⟨0, by omega, rfl, Fr.refl _ _, ov⟩
  case round =>
    obtain ⟨k, hk, rfl, fk, ok⟩ := hrel
    by_cases hlt' : k < m
    · obtain ⟨y, c1⟩ := ok.cell k (by omega)
      have c2 := ok.frozen k
      have i2 : 0 ≤ (k : Int) ∧ (k : Int) < (m : Int) := by omega
      go_wp2
      go_roundw
      case rel => exact ⟨k + 1, by omega, by go_num, fr_set _ _ _ _ fk, ok.set _ _⟩
      case measure => simp [intOf]; omega
    · obtain rfl : k = m := by omega
      go_wp2
      go_ret
      exact ⟨rfl, g3.newerS fk (by omega), _, t4.keep fk (by unfold at'; omega) (by unfold at'; omega) (by unfold at'; omega) (by unfold at'; omega)⟩

theorem does_any (w : World) (B pm bm pr br nf : Nat) (bs : List UInt8) (h : Twin w B pm bm pr br nf bs) (dO a s : Int) (v m c : Nat) (sp : Option Addr) (data : List UInt8) (hb : Bytes w sp m c data) (hm : m ≤ 140737488355328) (hsp : 0 < m → ∀ x, sp = some x → x.block < B)
    (ha : a ≤ 9223372036854775807) (hv : v < 4294967296) :
    Calls Try.prog 11 #[.pointer (some ⟨pm, 0, none⟩), .pointer (some ⟨pr, 0, none⟩), .agg #[.int .i64 dO, .int .i64 a, .int .i64 s, .int .u32 (v : Int), .slice sp m c]] w (Done w B pm bm pr br nf) := by
  by_cases h1 : dO = 1
  · subst h1; exact does_load w B pm bm pr br nf bs h a s v m c sp ha
  by_cases h2 : dO = 2
  · subst h2; exact does_store w B pm bm pr br nf bs h a s v m c sp ha hv
  by_cases h4 : dO = 4
  · subst h4; exact does_lay w B pm bm pr br nf bs h a s v m c sp data hb hm hsp
  by_cases h5 : dO = 5
  · subst h5; exact does_clear w B pm bm pr br nf bs h a s v m c sp
  have n1 : (dO == 1) = false := by simpa using h1
  have n2 : (dO == 2) = false := by simpa using h2
  have n4 : (dO == 4) = false := by simpa using h4
  have n5 : (dO == 5) = false := by simpa using h5
  by_cases hn : 0 ≤ a ∧ a < (nf : Int)
  · obtain ⟨k, rfl⟩ := Int.eq_ofNat_of_zero_le hn.1
    exact does_frame_in w B pm bm pr br nf bs h dO s k v m c sp n1 n2 n4 n5 (by omega)
  · exact does_frame_out w B pm bm pr br nf bs h dO a s v m c sp n1 n2 n4 n5 hn

end Go.Proofs.Ytbgioghaloodlaa
