/-
  The contract of the laws' does over the translation: both do an act, and answer alike; what stands then is told by plain functions. No statement is proved here.
-/
import Derived.Test.YthmombgogmgobaaIoBoth
namespace Go.Proofs.Ythmombgogmgobaa
open Go.RowKit

theorem rflush_any0 (w : World) (j : Nat) (O : Nat → Prop) (S : Io) (s : Int) (h : IsRi w j O S) :
    Calls Try.prog 34 #[.pointer (some ⟨j, 0, none⟩), .int .i64 s, .int .i64 0, .bool true] w fun e w' => e = .returned (.int .i64 ((iocnt (goS s) S.ln 8 : Nat) : Int)) ∧ ChgR w j O (flushS S (goS s)) w' := by
  have h1 := rflush_any w j O S s 0 true h
  rwa [goR_s] at h1
theorem rflush_any1 (w : World) (j : Nat) (O : Nat → Prop) (S : Io) (s p : Int) (h : IsRi w j O S) :
    Calls Try.prog 34 #[.pointer (some ⟨j, 0, none⟩), .int .i64 s, .int .i64 p, .bool false] w fun e w' => e = .returned (.int .i64 ((iocnt (goP s p) S.ln 8 : Nat) : Int)) ∧ ChgR w j O (flushS S (goP s p)) w' := by
  have h1 := rflush_any w j O S s p false h
  rwa [goR_p] at h1
theorem eq_rec (s p k : Int) (b : Bool) (s' p' k' : Int) (b' : Bool) (w : World) : (binOp .eql 58 (.agg #[.int .i64 s, .int .i64 p, .int .i64 k, .bool b]) (.agg #[.int .i64 s', .int .i64 p', .int .i64 k', .bool b'])).run Try.prog w = .ok (.bool (s == s' && (p == p' && (k == k' && b == b')))) w := by
  simp [go_sem]
  repeat' split
  all_goals simp_all
theorem neq_rec (s p k : Int) (b : Bool) (s' p' k' : Int) (b' : Bool) (w : World) : (binOp .neq 58 (.agg #[.int .i64 s, .int .i64 p, .int .i64 k, .bool b]) (.agg #[.int .i64 s', .int .i64 p', .int .i64 k', .bool b'])).run Try.prog w = .ok (.bool !(s == s' && (p == p' && (k == k' && b == b')))) w := by
  simp [go_sem]
  repeat' split
  all_goals simp_all

set_option maxHeartbeats 4000000 in
set_option maxRecDepth 100000 in
theorem does_1 (w : World) (x pm bm pr br bi ji : Nat) (O Q : Nat → Prop) (bs : List UInt8) (S : Io) (a : Aq) (_hb : a.b < 256) (h : BoAt w x pm bm pr br bi ji O Q bs bs S S) :
    Calls Try.prog 10 #[.pointer (some ⟨x, 0, none⟩), .agg #[.int .i64 1, .int .i64 a.s, .int .i64 a.n, .bool a.wr, .int .u8 (a.b : Int), .int .i64 a.q.t, .int .i64 a.q.i, .bool a.q.v, .bool a.q.l, .int .i64 a.q.r, .int .i64 a.q.f]] w fun e w' => e = .returned (.bool true) ∧ ∃ O' Q', BoAt w' x pm bm pr br bi ji O' Q' bs bs (attS S a.s a.n) (attS S a.s a.n) ∧ ChgU w (boU x pm bm pr br O Q) w' (boU x pm bm pr br O' Q') := by
  have F0 := (Fr.refl none' w).alloc (.cells #[.int .i64 1, .int .i64 a.s, .int .i64 a.n, .bool a.wr, .int .u8 (a.b : Int), .int .i64 a.q.t, .int .i64 a.q.i, .bool a.q.v, .bool a.q.l, .int .i64 a.q.r, .int .i64 a.q.f] 33)
  have R0 := row_alloc w #[.int .i64 1, .int .i64 a.s, .int .i64 a.n, .bool a.wr, .int .u8 (a.b : Int), .int .i64 a.q.t, .int .i64 a.q.i, .bool a.q.v, .bool a.q.l, .int .i64 a.q.r, .int .i64 a.q.f] 33
  have h0 := h.keep0 F0
  have hUl : ¬ boU x pm bm pr br O Q w.heap.size := fun e => by have := h.lt _ e; omega
  go_enter Try.func10, Try.ntmps10
  go_upto_region 5 with fail
  obtain ⟨W, hW⟩ : ∃ W, W = w.alloc (.cells #[.int .i64 1, .int .i64 a.s, .int .i64 a.n, .bool a.wr, .int .u8 (a.b : Int), .int .i64 a.q.t, .int .i64 a.q.i, .bool a.q.v, .bool a.q.l, .int .i64 a.q.r, .int .i64 a.q.f] 33) := ⟨_, rfl⟩
  obtain ⟨A, hA⟩ : ∃ A, A = w.heap.size := ⟨_, rfl⟩
  rw [← hW] at F0 R0 h0 ⊢
  rw [← hA] at R0 hUl ⊢
  have HA : Hid (¬ boU x pm bm pr br O Q A ∧ A < W.heap.size) := ⟨hUl, R0.lt⟩
  have k0 : W.cell? ⟨A, 0, none⟩ = some (.int .i64 1) := R0.cell 0
  have k1 : W.cell? ⟨A, 1, none⟩ = some (.int .i64 a.s) := R0.cell 1
  have k2 : W.cell? ⟨A, 2, none⟩ = some (.int .i64 a.n) := R0.cell 2
  have k3 : W.cell? ⟨A, 3, none⟩ = some (.bool a.wr) := R0.cell 3
  have k4 : W.cell? ⟨A, 4, none⟩ = some (.int .u8 (a.b : Int)) := R0.cell 4
  have F : ChgU w (boU x pm bm pr br O Q) W (boU x pm bm pr br O Q) := ChgU.none F0
  have hB := h0
  have rX := hB.row
  clear hW hA R0 h h0 F0 hUl
  have hD := hB.keep0 (Fr.refl none' W).drew
  go_region_held3 (fun w' => w'.cell? ⟨x, 1, none⟩ = some (.pointer (some ⟨bi, 0, none⟩)) ∧ w'.cell? ⟨A, 1, none⟩ = some (.int .i64 a.s) ∧ w'.cell? ⟨A, 2, none⟩ = some (.int .i64 a.n)) (first | with_reducible exact ⟨rX.c1, k1, k2⟩ | exact ⟨rX.c1, k1, k2⟩) (first | (go_at_call 21; refine (attach_any _ _ _ _ _ _ hD.io).mono ?_; rintro e w1 ⟨rfl, cc⟩; obtain ⟨O1, h', u⟩ := hD.stepI cc; have fu := (ChgU.none (U := boU x pm bm pr br O Q) (Fr.refl none' W).drew).trans u; replace k1 := cell_keep fu.1 k1 HA.out.1; replace k2 := cell_keep fu.1 k2 HA.out.1; replace k3 := cell_keep fu.1 k3 HA.out.1; replace k4 := cell_keep fu.1 k4 HA.out.1; replace rX := h'.row))
  replace HA : Hid (¬ boU x pm bm pr br O1 Q A ∧ A < w1.heap.size) := ⟨fun hk => by
    rcases fu.2 A hk with g | g
    · exact HA.out.1 g
    · have := HA.out.2; omega, Nat.lt_of_lt_of_le HA.out.2 fu.1.size⟩
  replace F := F.trans fu
  replace hB := h'
  clear fu u cc h' hD
  go_wp2_with fail
  have hD := hB.keep0 (Fr.refl none' w1).drew
  go_region_held3 (fun w' => w'.cell? ⟨x, 3, none⟩ = some (.pointer (some ⟨ji, 0, none⟩)) ∧ w'.cell? ⟨A, 1, none⟩ = some (.int .i64 a.s) ∧ w'.cell? ⟨A, 2, none⟩ = some (.int .i64 a.n)) (first | with_reducible exact ⟨rX.c3, k1, k2⟩ | exact ⟨rX.c3, k1, k2⟩) (first | (go_at_call 29; refine (rattach_any _ _ _ _ _ _ hD.ri).mono ?_; rintro e w2 ⟨rfl, cc⟩; obtain ⟨Q1, h', u⟩ := hD.stepR cc; have fu := (ChgU.none (U := boU x pm bm pr br O1 Q) (Fr.refl none' w1).drew).trans u; replace k1 := cell_keep fu.1 k1 HA.out.1; replace k2 := cell_keep fu.1 k2 HA.out.1; replace k3 := cell_keep fu.1 k3 HA.out.1; replace k4 := cell_keep fu.1 k4 HA.out.1; replace rX := h'.row))
  replace HA : Hid (¬ boU x pm bm pr br O1 Q1 A ∧ A < w2.heap.size) := ⟨fun hk => by
    rcases fu.2 A hk with g | g
    · exact HA.out.1 g
    · have := HA.out.2; omega, Nat.lt_of_lt_of_le HA.out.2 fu.1.size⟩
  replace F := F.trans fu
  replace hB := h'
  clear fu u cc h' hD
  go_wp2_with fail
  go_ret
  exact ⟨ret_bool (by simp), O1, Q1, hB, F⟩

set_option maxHeartbeats 4000000 in
set_option maxRecDepth 100000 in
theorem does_2 (w : World) (x pm bm pr br bi ji : Nat) (O Q : Nat → Prop) (bs : List UInt8) (S : Io) (a : Aq) (_hb : a.b < 256) (h : BoAt w x pm bm pr br bi ji O Q bs bs S S) :
    Calls Try.prog 10 #[.pointer (some ⟨x, 0, none⟩), .agg #[.int .i64 2, .int .i64 a.s, .int .i64 a.n, .bool a.wr, .int .u8 (a.b : Int), .int .i64 a.q.t, .int .i64 a.q.i, .bool a.q.v, .bool a.q.l, .int .i64 a.q.r, .int .i64 a.q.f]] w fun e w' => e = .returned (.bool true) ∧ ∃ O' Q', BoAt w' x pm bm pr br bi ji O' Q' bs bs (detS S a.s) (detS S a.s) ∧ ChgU w (boU x pm bm pr br O Q) w' (boU x pm bm pr br O' Q') := by
  have F0 := (Fr.refl none' w).alloc (.cells #[.int .i64 2, .int .i64 a.s, .int .i64 a.n, .bool a.wr, .int .u8 (a.b : Int), .int .i64 a.q.t, .int .i64 a.q.i, .bool a.q.v, .bool a.q.l, .int .i64 a.q.r, .int .i64 a.q.f] 33)
  have R0 := row_alloc w #[.int .i64 2, .int .i64 a.s, .int .i64 a.n, .bool a.wr, .int .u8 (a.b : Int), .int .i64 a.q.t, .int .i64 a.q.i, .bool a.q.v, .bool a.q.l, .int .i64 a.q.r, .int .i64 a.q.f] 33
  have h0 := h.keep0 F0
  have hUl : ¬ boU x pm bm pr br O Q w.heap.size := fun e => by have := h.lt _ e; omega
  go_enter Try.func10, Try.ntmps10
  go_upto_region 8 with fail
  obtain ⟨W, hW⟩ : ∃ W, W = w.alloc (.cells #[.int .i64 2, .int .i64 a.s, .int .i64 a.n, .bool a.wr, .int .u8 (a.b : Int), .int .i64 a.q.t, .int .i64 a.q.i, .bool a.q.v, .bool a.q.l, .int .i64 a.q.r, .int .i64 a.q.f] 33) := ⟨_, rfl⟩
  obtain ⟨A, hA⟩ : ∃ A, A = w.heap.size := ⟨_, rfl⟩
  rw [← hW] at F0 R0 h0 ⊢
  rw [← hA] at R0 hUl ⊢
  have HA : Hid (¬ boU x pm bm pr br O Q A ∧ A < W.heap.size) := ⟨hUl, R0.lt⟩
  have k0 : W.cell? ⟨A, 0, none⟩ = some (.int .i64 2) := R0.cell 0
  have k1 : W.cell? ⟨A, 1, none⟩ = some (.int .i64 a.s) := R0.cell 1
  have k2 : W.cell? ⟨A, 2, none⟩ = some (.int .i64 a.n) := R0.cell 2
  have k3 : W.cell? ⟨A, 3, none⟩ = some (.bool a.wr) := R0.cell 3
  have k4 : W.cell? ⟨A, 4, none⟩ = some (.int .u8 (a.b : Int)) := R0.cell 4
  have F : ChgU w (boU x pm bm pr br O Q) W (boU x pm bm pr br O Q) := ChgU.none F0
  have hB := h0
  have rX := hB.row
  clear hW hA R0 h h0 F0 hUl
  have hD := hB.keep0 (Fr.refl none' W).drew
  go_region_held3 (fun w' => w'.cell? ⟨x, 1, none⟩ = some (.pointer (some ⟨bi, 0, none⟩)) ∧ w'.cell? ⟨A, 1, none⟩ = some (.int .i64 a.s)) (first | with_reducible exact ⟨rX.c1, k1⟩ | exact ⟨rX.c1, k1⟩) (first | (go_at_call 30; refine (detach_any _ _ _ _ _ hD.io).mono ?_; rintro e w1 ⟨rfl, cc⟩; obtain ⟨O1, h', u⟩ := hD.stepI cc; have fu := (ChgU.none (U := boU x pm bm pr br O Q) (Fr.refl none' W).drew).trans u; replace k1 := cell_keep fu.1 k1 HA.out.1; replace k2 := cell_keep fu.1 k2 HA.out.1; replace k3 := cell_keep fu.1 k3 HA.out.1; replace k4 := cell_keep fu.1 k4 HA.out.1; replace rX := h'.row))
  replace HA : Hid (¬ boU x pm bm pr br O1 Q A ∧ A < w1.heap.size) := ⟨fun hk => by
    rcases fu.2 A hk with g | g
    · exact HA.out.1 g
    · have := HA.out.2; omega, Nat.lt_of_lt_of_le HA.out.2 fu.1.size⟩
  replace F := F.trans fu
  replace hB := h'
  clear fu u cc h' hD
  go_wp2_with fail
  have hD := hB.keep0 (Fr.refl none' w1).drew
  go_region_held3 (fun w' => w'.cell? ⟨x, 3, none⟩ = some (.pointer (some ⟨ji, 0, none⟩)) ∧ w'.cell? ⟨A, 1, none⟩ = some (.int .i64 a.s)) (first | with_reducible exact ⟨rX.c3, k1⟩ | exact ⟨rX.c3, k1⟩) (first | (go_at_call 31; refine (rdetach_any _ _ _ _ _ hD.ri).mono ?_; rintro e w2 ⟨rfl, cc⟩; obtain ⟨Q1, h', u⟩ := hD.stepR cc; have fu := (ChgU.none (U := boU x pm bm pr br O1 Q) (Fr.refl none' w1).drew).trans u; replace k1 := cell_keep fu.1 k1 HA.out.1; replace k2 := cell_keep fu.1 k2 HA.out.1; replace k3 := cell_keep fu.1 k3 HA.out.1; replace k4 := cell_keep fu.1 k4 HA.out.1; replace rX := h'.row))
  replace HA : Hid (¬ boU x pm bm pr br O1 Q1 A ∧ A < w2.heap.size) := ⟨fun hk => by
    rcases fu.2 A hk with g | g
    · exact HA.out.1 g
    · have := HA.out.2; omega, Nat.lt_of_lt_of_le HA.out.2 fu.1.size⟩
  replace F := F.trans fu
  replace hB := h'
  clear fu u cc h' hD
  go_wp2_with fail
  go_ret
  exact ⟨ret_bool (by simp), O1, Q1, hB, F⟩

set_option maxHeartbeats 4000000 in
set_option maxRecDepth 100000 in
theorem does_3 (w : World) (x pm bm pr br bi ji : Nat) (O Q : Nat → Prop) (bs : List UInt8) (S : Io) (a : Aq) (hb : a.b < 256) (h : BoAt w x pm bm pr br bi ji O Q bs bs S S) :
    Calls Try.prog 10 #[.pointer (some ⟨x, 0, none⟩), .agg #[.int .i64 3, .int .i64 a.s, .int .i64 a.n, .bool a.wr, .int .u8 (a.b : Int), .int .i64 a.q.t, .int .i64 a.q.i, .bool a.q.v, .bool a.q.l, .int .i64 a.q.r, .int .i64 a.q.f]] w fun e w' => e = .returned (.bool true) ∧ ∃ O' Q', BoAt w' x pm bm pr br bi ji O' Q' (dmaB bs 16 S a.s a.n a.wr a.b) (dmaB bs 16 S a.s a.n a.wr a.b) (dmaS bs 16 S a.s a.n a.wr) (dmaS bs 16 S a.s a.n a.wr) ∧ ChgU w (boU x pm bm pr br O Q) w' (boU x pm bm pr br O' Q') := by
  have F0 := (Fr.refl none' w).alloc (.cells #[.int .i64 3, .int .i64 a.s, .int .i64 a.n, .bool a.wr, .int .u8 (a.b : Int), .int .i64 a.q.t, .int .i64 a.q.i, .bool a.q.v, .bool a.q.l, .int .i64 a.q.r, .int .i64 a.q.f] 33)
  have R0 := row_alloc w #[.int .i64 3, .int .i64 a.s, .int .i64 a.n, .bool a.wr, .int .u8 (a.b : Int), .int .i64 a.q.t, .int .i64 a.q.i, .bool a.q.v, .bool a.q.l, .int .i64 a.q.r, .int .i64 a.q.f] 33
  have h0 := h.keep0 F0
  have hUl : ¬ boU x pm bm pr br O Q w.heap.size := fun e => by have := h.lt _ e; omega
  go_enter Try.func10, Try.ntmps10
  go_upto_region 11 with fail
  obtain ⟨W, hW⟩ : ∃ W, W = w.alloc (.cells #[.int .i64 3, .int .i64 a.s, .int .i64 a.n, .bool a.wr, .int .u8 (a.b : Int), .int .i64 a.q.t, .int .i64 a.q.i, .bool a.q.v, .bool a.q.l, .int .i64 a.q.r, .int .i64 a.q.f] 33) := ⟨_, rfl⟩
  obtain ⟨A, hA⟩ : ∃ A, A = w.heap.size := ⟨_, rfl⟩
  rw [← hW] at F0 R0 h0 ⊢
  rw [← hA] at R0 hUl ⊢
  have HA : Hid (¬ boU x pm bm pr br O Q A ∧ A < W.heap.size) := ⟨hUl, R0.lt⟩
  have k0 : W.cell? ⟨A, 0, none⟩ = some (.int .i64 3) := R0.cell 0
  have k1 : W.cell? ⟨A, 1, none⟩ = some (.int .i64 a.s) := R0.cell 1
  have k2 : W.cell? ⟨A, 2, none⟩ = some (.int .i64 a.n) := R0.cell 2
  have k3 : W.cell? ⟨A, 3, none⟩ = some (.bool a.wr) := R0.cell 3
  have k4 : W.cell? ⟨A, 4, none⟩ = some (.int .u8 (a.b : Int)) := R0.cell 4
  have F : ChgU w (boU x pm bm pr br O Q) W (boU x pm bm pr br O Q) := ChgU.none F0
  have hB := h0
  have rX := hB.row
  clear hW hA R0 h h0 F0 hUl
  have hD := hB.keep0 (Fr.refl none' W).drew
  go_region_held3 (fun w' => w'.cell? ⟨x, 1, none⟩ = some (.pointer (some ⟨bi, 0, none⟩)) ∧ w'.cell? ⟨x, 0, none⟩ = some (.pointer (some ⟨pm, 0, none⟩)) ∧ w'.cell? ⟨A, 1, none⟩ = some (.int .i64 a.s) ∧ w'.cell? ⟨A, 2, none⟩ = some (.int .i64 a.n) ∧ w'.cell? ⟨A, 3, none⟩ = some (.bool a.wr) ∧ w'.cell? ⟨A, 4, none⟩ = some (.int .u8 (a.b : Int))) (first | with_reducible exact ⟨rX.c1, rX.c0, k1, k2, k3, k4⟩ | exact ⟨rX.c1, rX.c0, k1, k2, k3, k4⟩) (first | (go_at_call 15; refine (dma_any _ _ _ _ _ _ _ _ _ _ _ a.b hb hD.io hD.ram (fun e => (hD.no _ e).2.1 rfl) (fun e => (hD.no _ e).2.2.1 rfl)).mono ?_; rintro e w1 ⟨rfl, cc⟩; obtain ⟨O1, h', u⟩ := hD.stepD cc; have fu := (ChgU.none (U := boU x pm bm pr br O Q) (Fr.refl none' W).drew).trans u; replace k1 := cell_keep fu.1 k1 HA.out.1; replace k2 := cell_keep fu.1 k2 HA.out.1; replace k3 := cell_keep fu.1 k3 HA.out.1; replace k4 := cell_keep fu.1 k4 HA.out.1; replace rX := h'.row))
  replace HA : Hid (¬ boU x pm bm pr br O1 Q A ∧ A < w1.heap.size) := ⟨fun hk => by
    rcases fu.2 A hk with g | g
    · exact HA.out.1 g
    · have := HA.out.2; omega, Nat.lt_of_lt_of_le HA.out.2 fu.1.size⟩
  replace F := F.trans fu
  replace hB := h'
  clear fu u cc h' hD
  go_wp2_with fail
  have hD := hB.keep0 (Fr.refl none' w1).drew
  go_region_held3 (fun w' => w'.cell? ⟨x, 3, none⟩ = some (.pointer (some ⟨ji, 0, none⟩)) ∧ w'.cell? ⟨x, 2, none⟩ = some (.pointer (some ⟨pr, 0, none⟩)) ∧ w'.cell? ⟨A, 1, none⟩ = some (.int .i64 a.s) ∧ w'.cell? ⟨A, 2, none⟩ = some (.int .i64 a.n) ∧ w'.cell? ⟨A, 3, none⟩ = some (.bool a.wr) ∧ w'.cell? ⟨A, 4, none⟩ = some (.int .u8 (a.b : Int))) (first | with_reducible exact ⟨rX.c3, rX.c2, k1, k2, k3, k4⟩ | exact ⟨rX.c3, rX.c2, k1, k2, k3, k4⟩) (first | (go_at_call 32; refine (rdma_any _ _ _ _ _ _ _ _ _ _ _ a.b hb hD.ri hD.ref (fun e => (hD.nq _ e).2.2.2.1 rfl) (fun e => (hD.nq _ e).2.2.2.2 rfl)).mono ?_; rintro e w2 ⟨rfl, cc⟩; obtain ⟨Q1, h', u⟩ := hD.stepE cc; have fu := (ChgU.none (U := boU x pm bm pr br O1 Q) (Fr.refl none' w1).drew).trans u; replace k1 := cell_keep fu.1 k1 HA.out.1; replace k2 := cell_keep fu.1 k2 HA.out.1; replace k3 := cell_keep fu.1 k3 HA.out.1; replace k4 := cell_keep fu.1 k4 HA.out.1; replace rX := h'.row))
  replace HA : Hid (¬ boU x pm bm pr br O1 Q1 A ∧ A < w2.heap.size) := ⟨fun hk => by
    rcases fu.2 A hk with g | g
    · exact HA.out.1 g
    · have := HA.out.2; omega, Nat.lt_of_lt_of_le HA.out.2 fu.1.size⟩
  replace F := F.trans fu
  replace hB := h'
  clear fu u cc h' hD
  go_wp2_with fail
  go_ret
  exact ⟨ret_bool (by simp), O1, Q1, hB, F⟩

set_option maxHeartbeats 4000000 in
set_option maxRecDepth 100000 in
theorem does_4 (w : World) (x pm bm pr br bi ji : Nat) (O Q : Nat → Prop) (bs : List UInt8) (S : Io) (a : Aq) (_hb : a.b < 256) (h : BoAt w x pm bm pr br bi ji O Q bs bs S S) :
    Calls Try.prog 10 #[.pointer (some ⟨x, 0, none⟩), .agg #[.int .i64 4, .int .i64 a.s, .int .i64 a.n, .bool a.wr, .int .u8 (a.b : Int), .int .i64 a.q.t, .int .i64 a.q.i, .bool a.q.v, .bool a.q.l, .int .i64 a.q.r, .int .i64 a.q.f]] w fun e w' => e = .returned (.bool true) ∧ ∃ O' Q', BoAt w' x pm bm pr br bi ji O' Q' bs bs (flushS S (goS a.s)) (flushS S (goS a.s)) ∧ ChgU w (boU x pm bm pr br O Q) w' (boU x pm bm pr br O' Q') := by
  have F0 := (Fr.refl none' w).alloc (.cells #[.int .i64 4, .int .i64 a.s, .int .i64 a.n, .bool a.wr, .int .u8 (a.b : Int), .int .i64 a.q.t, .int .i64 a.q.i, .bool a.q.v, .bool a.q.l, .int .i64 a.q.r, .int .i64 a.q.f] 33)
  have R0 := row_alloc w #[.int .i64 4, .int .i64 a.s, .int .i64 a.n, .bool a.wr, .int .u8 (a.b : Int), .int .i64 a.q.t, .int .i64 a.q.i, .bool a.q.v, .bool a.q.l, .int .i64 a.q.r, .int .i64 a.q.f] 33
  have h0 := h.keep0 F0
  have hUl : ¬ boU x pm bm pr br O Q w.heap.size := fun e => by have := h.lt _ e; omega
  go_enter Try.func10, Try.ntmps10
  go_upto_region 15 with fail
  obtain ⟨W, hW⟩ : ∃ W, W = w.alloc (.cells #[.int .i64 4, .int .i64 a.s, .int .i64 a.n, .bool a.wr, .int .u8 (a.b : Int), .int .i64 a.q.t, .int .i64 a.q.i, .bool a.q.v, .bool a.q.l, .int .i64 a.q.r, .int .i64 a.q.f] 33) := ⟨_, rfl⟩
  obtain ⟨A, hA⟩ : ∃ A, A = w.heap.size := ⟨_, rfl⟩
  rw [← hW] at F0 R0 h0 ⊢
  rw [← hA] at R0 hUl ⊢
  have HA : Hid (¬ boU x pm bm pr br O Q A ∧ A < W.heap.size) := ⟨hUl, R0.lt⟩
  have k0 : W.cell? ⟨A, 0, none⟩ = some (.int .i64 4) := R0.cell 0
  have k1 : W.cell? ⟨A, 1, none⟩ = some (.int .i64 a.s) := R0.cell 1
  have k2 : W.cell? ⟨A, 2, none⟩ = some (.int .i64 a.n) := R0.cell 2
  have k3 : W.cell? ⟨A, 3, none⟩ = some (.bool a.wr) := R0.cell 3
  have k4 : W.cell? ⟨A, 4, none⟩ = some (.int .u8 (a.b : Int)) := R0.cell 4
  have F : ChgU w (boU x pm bm pr br O Q) W (boU x pm bm pr br O Q) := ChgU.none F0
  have hB := h0
  have rX := hB.row
  clear hW hA R0 h h0 F0 hUl
  have hD := hB.keep0 (Fr.refl none' W).drew
  go_region_held3 (fun w' => w'.cell? ⟨x, 1, none⟩ = some (.pointer (some ⟨bi, 0, none⟩)) ∧ w'.cell? ⟨A, 1, none⟩ = some (.int .i64 a.s)) (first | with_reducible exact ⟨rX.c1, k1⟩ | exact ⟨rX.c1, k1⟩) (first | (go_at_call 33; refine (ioflush_any _ _ _ _ _ hD.io).mono ?_; rintro e w1 ⟨rfl, cc⟩; obtain ⟨O1, h', u⟩ := hD.stepI cc; have fu := (ChgU.none (U := boU x pm bm pr br O Q) (Fr.refl none' W).drew).trans u; replace k1 := cell_keep fu.1 k1 HA.out.1; replace k2 := cell_keep fu.1 k2 HA.out.1; replace k3 := cell_keep fu.1 k3 HA.out.1; replace k4 := cell_keep fu.1 k4 HA.out.1; replace rX := h'.row))
  replace HA : Hid (¬ boU x pm bm pr br O1 Q A ∧ A < w1.heap.size) := ⟨fun hk => by
    rcases fu.2 A hk with g | g
    · exact HA.out.1 g
    · have := HA.out.2; omega, Nat.lt_of_lt_of_le HA.out.2 fu.1.size⟩
  replace F := F.trans fu
  replace hB := h'
  clear fu u cc h' hD
  go_wp2_with fail
  have hD := hB.keep0 (Fr.refl none' w1).drew
  go_region_held3 (fun w' => w'.cell? ⟨x, 3, none⟩ = some (.pointer (some ⟨ji, 0, none⟩)) ∧ w'.cell? ⟨A, 1, none⟩ = some (.int .i64 a.s)) (first | with_reducible exact ⟨rX.c3, k1⟩ | exact ⟨rX.c3, k1⟩) (first | (go_at_call 34; refine (rflush_any0 _ _ _ _ _ hD.ri).mono ?_; rintro e w2 ⟨rfl, cc⟩; obtain ⟨Q1, h', u⟩ := hD.stepR cc; have fu := (ChgU.none (U := boU x pm bm pr br O1 Q) (Fr.refl none' w1).drew).trans u; replace k1 := cell_keep fu.1 k1 HA.out.1; replace k2 := cell_keep fu.1 k2 HA.out.1; replace k3 := cell_keep fu.1 k3 HA.out.1; replace k4 := cell_keep fu.1 k4 HA.out.1; replace rX := h'.row))
  replace HA : Hid (¬ boU x pm bm pr br O1 Q1 A ∧ A < w2.heap.size) := ⟨fun hk => by
    rcases fu.2 A hk with g | g
    · exact HA.out.1 g
    · have := HA.out.2; omega, Nat.lt_of_lt_of_le HA.out.2 fu.1.size⟩
  replace F := F.trans fu
  replace hB := h'
  clear fu u cc h' hD
  go_wp2_with fail
  go_ret
  exact ⟨ret_bool (by simp), O1, Q1, hB, F⟩

set_option maxHeartbeats 4000000 in
set_option maxRecDepth 100000 in
theorem does_5 (w : World) (x pm bm pr br bi ji : Nat) (O Q : Nat → Prop) (bs : List UInt8) (S : Io) (a : Aq) (_hb : a.b < 256) (h : BoAt w x pm bm pr br bi ji O Q bs bs S S) :
    Calls Try.prog 10 #[.pointer (some ⟨x, 0, none⟩), .agg #[.int .i64 5, .int .i64 a.s, .int .i64 a.n, .bool a.wr, .int .u8 (a.b : Int), .int .i64 a.q.t, .int .i64 a.q.i, .bool a.q.v, .bool a.q.l, .int .i64 a.q.r, .int .i64 a.q.f]] w fun e w' => e = .returned (.bool true) ∧ ∃ O' Q', BoAt w' x pm bm pr br bi ji O' Q' bs bs (flushS S (goP a.s a.n)) (flushS S (goP a.s a.n)) ∧ ChgU w (boU x pm bm pr br O Q) w' (boU x pm bm pr br O' Q') := by
  have F0 := (Fr.refl none' w).alloc (.cells #[.int .i64 5, .int .i64 a.s, .int .i64 a.n, .bool a.wr, .int .u8 (a.b : Int), .int .i64 a.q.t, .int .i64 a.q.i, .bool a.q.v, .bool a.q.l, .int .i64 a.q.r, .int .i64 a.q.f] 33)
  have R0 := row_alloc w #[.int .i64 5, .int .i64 a.s, .int .i64 a.n, .bool a.wr, .int .u8 (a.b : Int), .int .i64 a.q.t, .int .i64 a.q.i, .bool a.q.v, .bool a.q.l, .int .i64 a.q.r, .int .i64 a.q.f] 33
  have h0 := h.keep0 F0
  have hUl : ¬ boU x pm bm pr br O Q w.heap.size := fun e => by have := h.lt _ e; omega
  go_enter Try.func10, Try.ntmps10
  go_upto_region 19 with fail
  obtain ⟨W, hW⟩ : ∃ W, W = w.alloc (.cells #[.int .i64 5, .int .i64 a.s, .int .i64 a.n, .bool a.wr, .int .u8 (a.b : Int), .int .i64 a.q.t, .int .i64 a.q.i, .bool a.q.v, .bool a.q.l, .int .i64 a.q.r, .int .i64 a.q.f] 33) := ⟨_, rfl⟩
  obtain ⟨A, hA⟩ : ∃ A, A = w.heap.size := ⟨_, rfl⟩
  rw [← hW] at F0 R0 h0 ⊢
  rw [← hA] at R0 hUl ⊢
  have HA : Hid (¬ boU x pm bm pr br O Q A ∧ A < W.heap.size) := ⟨hUl, R0.lt⟩
  have k0 : W.cell? ⟨A, 0, none⟩ = some (.int .i64 5) := R0.cell 0
  have k1 : W.cell? ⟨A, 1, none⟩ = some (.int .i64 a.s) := R0.cell 1
  have k2 : W.cell? ⟨A, 2, none⟩ = some (.int .i64 a.n) := R0.cell 2
  have k3 : W.cell? ⟨A, 3, none⟩ = some (.bool a.wr) := R0.cell 3
  have k4 : W.cell? ⟨A, 4, none⟩ = some (.int .u8 (a.b : Int)) := R0.cell 4
  have F : ChgU w (boU x pm bm pr br O Q) W (boU x pm bm pr br O Q) := ChgU.none F0
  have hB := h0
  have rX := hB.row
  clear hW hA R0 h h0 F0 hUl
  have hD := hB.keep0 (Fr.refl none' W).drew
  go_region_held3 (fun w' => w'.cell? ⟨x, 1, none⟩ = some (.pointer (some ⟨bi, 0, none⟩)) ∧ w'.cell? ⟨A, 1, none⟩ = some (.int .i64 a.s) ∧ w'.cell? ⟨A, 2, none⟩ = some (.int .i64 a.n)) (first | with_reducible exact ⟨rX.c1, k1, k2⟩ | exact ⟨rX.c1, k1, k2⟩) (first | (go_at_call 23; refine (ioflushpage_any _ _ _ _ _ _ hD.io).mono ?_; rintro e w1 ⟨rfl, cc⟩; obtain ⟨O1, h', u⟩ := hD.stepI cc; have fu := (ChgU.none (U := boU x pm bm pr br O Q) (Fr.refl none' W).drew).trans u; replace k1 := cell_keep fu.1 k1 HA.out.1; replace k2 := cell_keep fu.1 k2 HA.out.1; replace k3 := cell_keep fu.1 k3 HA.out.1; replace k4 := cell_keep fu.1 k4 HA.out.1; replace rX := h'.row))
  replace HA : Hid (¬ boU x pm bm pr br O1 Q A ∧ A < w1.heap.size) := ⟨fun hk => by
    rcases fu.2 A hk with g | g
    · exact HA.out.1 g
    · have := HA.out.2; omega, Nat.lt_of_lt_of_le HA.out.2 fu.1.size⟩
  replace F := F.trans fu
  replace hB := h'
  clear fu u cc h' hD
  go_wp2_with fail
  have hD := hB.keep0 (Fr.refl none' w1).drew
  go_region_held3 (fun w' => w'.cell? ⟨x, 3, none⟩ = some (.pointer (some ⟨ji, 0, none⟩)) ∧ w'.cell? ⟨A, 1, none⟩ = some (.int .i64 a.s) ∧ w'.cell? ⟨A, 2, none⟩ = some (.int .i64 a.n)) (first | with_reducible exact ⟨rX.c3, k1, k2⟩ | exact ⟨rX.c3, k1, k2⟩) (first | (go_at_call 34; refine (rflush_any1 _ _ _ _ _ _ hD.ri).mono ?_; rintro e w2 ⟨rfl, cc⟩; obtain ⟨Q1, h', u⟩ := hD.stepR cc; have fu := (ChgU.none (U := boU x pm bm pr br O1 Q) (Fr.refl none' w1).drew).trans u; replace k1 := cell_keep fu.1 k1 HA.out.1; replace k2 := cell_keep fu.1 k2 HA.out.1; replace k3 := cell_keep fu.1 k3 HA.out.1; replace k4 := cell_keep fu.1 k4 HA.out.1; replace rX := h'.row))
  replace HA : Hid (¬ boU x pm bm pr br O1 Q1 A ∧ A < w2.heap.size) := ⟨fun hk => by
    rcases fu.2 A hk with g | g
    · exact HA.out.1 g
    · have := HA.out.2; omega, Nat.lt_of_lt_of_le HA.out.2 fu.1.size⟩
  replace F := F.trans fu
  replace hB := h'
  clear fu u cc h' hD
  go_wp2_with fail
  go_ret
  exact ⟨ret_bool (by simp), O1, Q1, hB, F⟩

set_option maxHeartbeats 4000000 in
set_option maxRecDepth 100000 in
theorem does_6 (w : World) (x pm bm pr br bi ji : Nat) (O Q : Nat → Prop) (bs : List UInt8) (S : Io) (a : Aq) (_hb : a.b < 256) (h : BoAt w x pm bm pr br bi ji O Q bs bs S S) :
    Calls Try.prog 10 #[.pointer (some ⟨x, 0, none⟩), .agg #[.int .i64 6, .int .i64 a.s, .int .i64 a.n, .bool a.wr, .int .u8 (a.b : Int), .int .i64 a.q.t, .int .i64 a.q.i, .bool a.q.v, .bool a.q.l, .int .i64 a.q.r, .int .i64 a.q.f]] w fun e w' => e = .returned (.bool true) ∧ ∃ O' Q', BoAt w' x pm bm pr br bi ji O' Q' bs bs (evS S a.n) (evS S a.n) ∧ ChgU w (boU x pm bm pr br O Q) w' (boU x pm bm pr br O' Q') := by
  have F0 := (Fr.refl none' w).alloc (.cells #[.int .i64 6, .int .i64 a.s, .int .i64 a.n, .bool a.wr, .int .u8 (a.b : Int), .int .i64 a.q.t, .int .i64 a.q.i, .bool a.q.v, .bool a.q.l, .int .i64 a.q.r, .int .i64 a.q.f] 33)
  have R0 := row_alloc w #[.int .i64 6, .int .i64 a.s, .int .i64 a.n, .bool a.wr, .int .u8 (a.b : Int), .int .i64 a.q.t, .int .i64 a.q.i, .bool a.q.v, .bool a.q.l, .int .i64 a.q.r, .int .i64 a.q.f] 33
  have h0 := h.keep0 F0
  have hUl : ¬ boU x pm bm pr br O Q w.heap.size := fun e => by have := h.lt _ e; omega
  go_enter Try.func10, Try.ntmps10
  go_upto_region 23 with fail
  obtain ⟨W, hW⟩ : ∃ W, W = w.alloc (.cells #[.int .i64 6, .int .i64 a.s, .int .i64 a.n, .bool a.wr, .int .u8 (a.b : Int), .int .i64 a.q.t, .int .i64 a.q.i, .bool a.q.v, .bool a.q.l, .int .i64 a.q.r, .int .i64 a.q.f] 33) := ⟨_, rfl⟩
  obtain ⟨A, hA⟩ : ∃ A, A = w.heap.size := ⟨_, rfl⟩
  rw [← hW] at F0 R0 h0 ⊢
  rw [← hA] at R0 hUl ⊢
  have HA : Hid (¬ boU x pm bm pr br O Q A ∧ A < W.heap.size) := ⟨hUl, R0.lt⟩
  have k0 : W.cell? ⟨A, 0, none⟩ = some (.int .i64 6) := R0.cell 0
  have k1 : W.cell? ⟨A, 1, none⟩ = some (.int .i64 a.s) := R0.cell 1
  have k2 : W.cell? ⟨A, 2, none⟩ = some (.int .i64 a.n) := R0.cell 2
  have k3 : W.cell? ⟨A, 3, none⟩ = some (.bool a.wr) := R0.cell 3
  have k4 : W.cell? ⟨A, 4, none⟩ = some (.int .u8 (a.b : Int)) := R0.cell 4
  have F : ChgU w (boU x pm bm pr br O Q) W (boU x pm bm pr br O Q) := ChgU.none F0
  have hB := h0
  have rX := hB.row
  clear hW hA R0 h h0 F0 hUl
  have hD := hB.keep0 (Fr.refl none' W).drew
  go_region_held3 (fun w' => w'.cell? ⟨x, 1, none⟩ = some (.pointer (some ⟨bi, 0, none⟩)) ∧ w'.cell? ⟨A, 2, none⟩ = some (.int .i64 a.n)) (first | with_reducible exact ⟨rX.c1, k2⟩ | exact ⟨rX.c1, k2⟩) (first | (go_at_call 16; refine (ioevict_any _ _ _ _ _ hD.io).mono ?_; rintro e w1 ⟨rfl, cc⟩; obtain ⟨O1, h', u⟩ := hD.stepI cc; have fu := (ChgU.none (U := boU x pm bm pr br O Q) (Fr.refl none' W).drew).trans u; replace k1 := cell_keep fu.1 k1 HA.out.1; replace k2 := cell_keep fu.1 k2 HA.out.1; replace k3 := cell_keep fu.1 k3 HA.out.1; replace k4 := cell_keep fu.1 k4 HA.out.1; replace rX := h'.row))
  replace HA : Hid (¬ boU x pm bm pr br O1 Q A ∧ A < w1.heap.size) := ⟨fun hk => by
    rcases fu.2 A hk with g | g
    · exact HA.out.1 g
    · have := HA.out.2; omega, Nat.lt_of_lt_of_le HA.out.2 fu.1.size⟩
  replace F := F.trans fu
  replace hB := h'
  clear fu u cc h' hD
  go_wp2_with fail
  have hD := hB.keep0 (Fr.refl none' w1).drew
  go_region_held3 (fun w' => w'.cell? ⟨x, 3, none⟩ = some (.pointer (some ⟨ji, 0, none⟩)) ∧ w'.cell? ⟨A, 2, none⟩ = some (.int .i64 a.n)) (first | with_reducible exact ⟨rX.c3, k2⟩ | exact ⟨rX.c3, k2⟩) (first | (go_at_call 35; refine (revict_any _ _ _ _ _ hD.ri).mono ?_; rintro e w2 ⟨rfl, cc⟩; obtain ⟨Q1, h', u⟩ := hD.stepR cc; have fu := (ChgU.none (U := boU x pm bm pr br O1 Q) (Fr.refl none' w1).drew).trans u; replace k1 := cell_keep fu.1 k1 HA.out.1; replace k2 := cell_keep fu.1 k2 HA.out.1; replace k3 := cell_keep fu.1 k3 HA.out.1; replace k4 := cell_keep fu.1 k4 HA.out.1; replace rX := h'.row))
  replace HA : Hid (¬ boU x pm bm pr br O1 Q1 A ∧ A < w2.heap.size) := ⟨fun hk => by
    rcases fu.2 A hk with g | g
    · exact HA.out.1 g
    · have := HA.out.2; omega, Nat.lt_of_lt_of_le HA.out.2 fu.1.size⟩
  replace F := F.trans fu
  replace hB := h'
  clear fu u cc h' hD
  go_wp2_with fail
  go_ret
  exact ⟨ret_bool (by simp), O1, Q1, hB, F⟩

set_option maxHeartbeats 4000000 in
set_option maxRecDepth 100000 in
theorem does_7 (w : World) (x pm bm pr br bi ji : Nat) (O Q : Nat → Prop) (bs : List UInt8) (S : Io) (a : Aq) (_hb : a.b < 256) (h : BoAt w x pm bm pr br bi ji O Q bs bs S S) :
    Calls Try.prog 10 #[.pointer (some ⟨x, 0, none⟩), .agg #[.int .i64 7, .int .i64 a.s, .int .i64 a.n, .bool a.wr, .int .u8 (a.b : Int), .int .i64 a.q.t, .int .i64 a.q.i, .bool a.q.v, .bool a.q.l, .int .i64 a.q.r, .int .i64 a.q.f]] w fun e w' => e = .returned (.bool true) ∧ ∃ O' Q', BoAt w' x pm bm pr br bi ji O' Q' bs bs (tkS S) (tkS S) ∧ ChgU w (boU x pm bm pr br O Q) w' (boU x pm bm pr br O' Q') := by
  have F0 := (Fr.refl none' w).alloc (.cells #[.int .i64 7, .int .i64 a.s, .int .i64 a.n, .bool a.wr, .int .u8 (a.b : Int), .int .i64 a.q.t, .int .i64 a.q.i, .bool a.q.v, .bool a.q.l, .int .i64 a.q.r, .int .i64 a.q.f] 33)
  have R0 := row_alloc w #[.int .i64 7, .int .i64 a.s, .int .i64 a.n, .bool a.wr, .int .u8 (a.b : Int), .int .i64 a.q.t, .int .i64 a.q.i, .bool a.q.v, .bool a.q.l, .int .i64 a.q.r, .int .i64 a.q.f] 33
  have h0 := h.keep0 F0
  have hUl : ¬ boU x pm bm pr br O Q w.heap.size := fun e => by have := h.lt _ e; omega
  go_enter Try.func10, Try.ntmps10
  go_upto_region 26 with fail
  obtain ⟨W, hW⟩ : ∃ W, W = w.alloc (.cells #[.int .i64 7, .int .i64 a.s, .int .i64 a.n, .bool a.wr, .int .u8 (a.b : Int), .int .i64 a.q.t, .int .i64 a.q.i, .bool a.q.v, .bool a.q.l, .int .i64 a.q.r, .int .i64 a.q.f] 33) := ⟨_, rfl⟩
  obtain ⟨A, hA⟩ : ∃ A, A = w.heap.size := ⟨_, rfl⟩
  rw [← hW] at F0 R0 h0 ⊢
  rw [← hA] at R0 hUl ⊢
  have HA : Hid (¬ boU x pm bm pr br O Q A ∧ A < W.heap.size) := ⟨hUl, R0.lt⟩
  have k0 : W.cell? ⟨A, 0, none⟩ = some (.int .i64 7) := R0.cell 0
  have k1 : W.cell? ⟨A, 1, none⟩ = some (.int .i64 a.s) := R0.cell 1
  have k2 : W.cell? ⟨A, 2, none⟩ = some (.int .i64 a.n) := R0.cell 2
  have k3 : W.cell? ⟨A, 3, none⟩ = some (.bool a.wr) := R0.cell 3
  have k4 : W.cell? ⟨A, 4, none⟩ = some (.int .u8 (a.b : Int)) := R0.cell 4
  have F : ChgU w (boU x pm bm pr br O Q) W (boU x pm bm pr br O Q) := ChgU.none F0
  have hB := h0
  have rX := hB.row
  clear hW hA R0 h h0 F0 hUl k1 k2 k3 k4
  have heq := eq_rec
  obtain ⟨x0, x1, x2, x3⟩ := rX
  go_wp2_with fail
  refine (take_any _ _ _ _ hB.io).mono ?_
  rintro e w1 ⟨rfl, cc⟩
  obtain ⟨O1, h', fu⟩ := hB.stepI cc
  have FA := (Fr.refl none' w1).alloc (.cells #[.int .i64 (tkR S).s, .int .i64 (tkR S).p, .int .i64 (tkR S).k, .bool (tkR S).wr] 58)
  have RA := row_alloc w1 #[.int .i64 (tkR S).s, .int .i64 (tkR S).p, .int .i64 (tkR S).k, .bool (tkR S).wr] 58
  replace F := (F.trans fu).trans (ChgU.none FA)
  have nA : ¬ boU x pm bm pr br O1 Q w1.heap.size := fun e => by have := h'.lt _ e; omega
  replace hB := h'.keep0 FA
  obtain ⟨A1, hA1⟩ : ∃ A1, A1 = w1.heap.size := ⟨_, rfl⟩
  obtain ⟨w1a, hw1a⟩ : ∃ w1a, w1a = w1.alloc (.cells #[.int .i64 (tkR S).s, .int .i64 (tkR S).p, .int .i64 (tkR S).k, .bool (tkR S).wr] 58) := ⟨_, rfl⟩
  clear x0 x1 x2 x3 fu cc h' FA
  obtain ⟨x0, x1, x2, x3⟩ := hB.row
  go_wp2_with fail
  refine (rtake_any _ _ _ _ hB.ri).mono ?_
  rintro e w2 ⟨rfl, cc⟩
  obtain ⟨Q1, h', fu⟩ := hB.stepR cc
  have RA2 := RA.keep fu.1 nA
  have FB := (Fr.refl none' w2).alloc (.cells #[.int .i64 (tkR S).s, .int .i64 (tkR S).p, .int .i64 (tkR S).k, .bool (tkR S).wr] 58)
  have HI : Hid (ChgU w (boU x pm bm pr br O Q) (w2.alloc (.cells #[.int .i64 (tkR S).s, .int .i64 (tkR S).p, .int .i64 (tkR S).k, .bool (tkR S).wr] 58)) (boU x pm bm pr br O1 Q1) ∧ BoAt (w2.alloc (.cells #[.int .i64 (tkR S).s, .int .i64 (tkR S).p, .int .i64 (tkR S).k, .bool (tkR S).wr] 58)) x pm bm pr br bi ji O1 Q1 bs bs (tkS S) (tkS S)) := ⟨(F.trans fu).trans (ChgU.none FB), h'.keep0 FB⟩
  have RA3 := RA2.alloc (.cells #[.int .i64 (tkR S).s, .int .i64 (tkR S).p, .int .i64 (tkR S).k, .bool (tkR S).wr] 58)
  obtain ⟨y0, y1, y2, y3⟩ := row4 RA3
  clear x0 x1 x2 x3 fu cc h' FB RA2 RA3 RA hB F nA hA1 hw1a
  go_wp2_with fail
  go_ret
  exact ⟨ret_bool (by simp), O1, Q1, HI.out.2, HI.out.1⟩

set_option maxHeartbeats 4000000 in
set_option maxRecDepth 100000 in
theorem does_8 (w : World) (x pm bm pr br bi ji : Nat) (O Q : Nat → Prop) (bs : List UInt8) (S : Io) (a : Aq) (_hb : a.b < 256) (h : BoAt w x pm bm pr br bi ji O Q bs bs S S) :
    Calls Try.prog 10 #[.pointer (some ⟨x, 0, none⟩), .agg #[.int .i64 8, .int .i64 a.s, .int .i64 a.n, .bool a.wr, .int .u8 (a.b : Int), .int .i64 a.q.t, .int .i64 a.q.i, .bool a.q.v, .bool a.q.l, .int .i64 a.q.r, .int .i64 a.q.f]] w fun e w' => e = .returned (.bool true) ∧ ∃ O' Q', BoAt w' x pm bm pr br bi ji O' Q' (putQ bs a.q) (putQ bs a.q) S S ∧ ChgU w (boU x pm bm pr br O Q) w' (boU x pm bm pr br O' Q') := by
  have F0 := (Fr.refl none' w).alloc (.cells #[.int .i64 8, .int .i64 a.s, .int .i64 a.n, .bool a.wr, .int .u8 (a.b : Int), .int .i64 a.q.t, .int .i64 a.q.i, .bool a.q.v, .bool a.q.l, .int .i64 a.q.r, .int .i64 a.q.f] 33)
  have R0 := row_alloc w #[.int .i64 8, .int .i64 a.s, .int .i64 a.n, .bool a.wr, .int .u8 (a.b : Int), .int .i64 a.q.t, .int .i64 a.q.i, .bool a.q.v, .bool a.q.l, .int .i64 a.q.r, .int .i64 a.q.f] 33
  have h0 := h.keep0 F0
  have hUl : ¬ boU x pm bm pr br O Q w.heap.size := fun e => by have := h.lt _ e; omega
  go_enter Try.func10, Try.ntmps10
  go_upto_region 30 with fail
  obtain ⟨W, hW⟩ : ∃ W, W = w.alloc (.cells #[.int .i64 8, .int .i64 a.s, .int .i64 a.n, .bool a.wr, .int .u8 (a.b : Int), .int .i64 a.q.t, .int .i64 a.q.i, .bool a.q.v, .bool a.q.l, .int .i64 a.q.r, .int .i64 a.q.f] 33) := ⟨_, rfl⟩
  obtain ⟨A, hA⟩ : ∃ A, A = w.heap.size := ⟨_, rfl⟩
  rw [← hW] at F0 R0 h0 ⊢
  rw [← hA] at R0 hUl ⊢
  have HA : Hid (¬ boU x pm bm pr br O Q A ∧ A < W.heap.size) := ⟨hUl, R0.lt⟩
  have k0 : W.cell? ⟨A, 0, none⟩ = some (.int .i64 8) := R0.cell 0
  have k1 : W.cell? ⟨A, 1, none⟩ = some (.int .i64 a.s) := R0.cell 1
  have k2 : W.cell? ⟨A, 2, none⟩ = some (.int .i64 a.n) := R0.cell 2
  have k3 : W.cell? ⟨A, 3, none⟩ = some (.bool a.wr) := R0.cell 3
  have k4 : W.cell? ⟨A, 4, none⟩ = some (.int .u8 (a.b : Int)) := R0.cell 4
  have F : ChgU w (boU x pm bm pr br O Q) W (boU x pm bm pr br O Q) := ChgU.none F0
  have hB := h0
  have rX := hB.row
  clear hW hA h h0 F0 hUl k1 k2 k3 k4
  have q0 : W.cell? ⟨A, 5, none⟩ = some (.int .i64 a.q.t) := R0.cell 5
  have q1 : W.cell? ⟨A, 6, none⟩ = some (.int .i64 a.q.i) := R0.cell 6
  have q2 : W.cell? ⟨A, 7, none⟩ = some (.bool a.q.v) := R0.cell 7
  have q3 : W.cell? ⟨A, 8, none⟩ = some (.bool a.q.l) := R0.cell 8
  have q4 : W.cell? ⟨A, 9, none⟩ = some (.int .i64 a.q.r) := R0.cell 9
  have q5 : W.cell? ⟨A, 10, none⟩ = some (.int .i64 a.q.f) := R0.cell 10
  clear R0 rX
  go_wp2_with fail
  refine (ioput_at _ _ _ _ _ _ _ _ _ _ _ _ _ a.q hB).mono ?_
  rintro e w1 ⟨⟨y, rfl⟩, h', fu⟩
  have HI : Hid (ChgU w (boU x pm bm pr br O Q) w1 (boU x pm bm pr br O Q) ∧ BoAt w1 x pm bm pr br bi ji O Q (putQ bs a.q) (putQ bs a.q) S S) := ⟨F.trans fu, h'⟩
  clear q0 q1 q2 q3 q4 q5 fu h' F hB
  go_wp2_with fail
  go_ret
  exact ⟨rfl, O, Q, HI.out.2, HI.out.1⟩

set_option maxHeartbeats 4000000 in
set_option maxRecDepth 100000 in
theorem does_o (w : World) (x pm bm pr br bi ji : Nat) (O Q : Nat → Prop) (bs : List UInt8) (S : Io) (a : Aq) (d : Int) (hd : d < 1 ∨ 8 < d) (_hb : a.b < 256) (h : BoAt w x pm bm pr br bi ji O Q bs bs S S) :
    Calls Try.prog 10 #[.pointer (some ⟨x, 0, none⟩), .agg #[.int .i64 d, .int .i64 a.s, .int .i64 a.n, .bool a.wr, .int .u8 (a.b : Int), .int .i64 a.q.t, .int .i64 a.q.i, .bool a.q.v, .bool a.q.l, .int .i64 a.q.r, .int .i64 a.q.f]] w fun e w' => e = .returned (.bool true) ∧ ∃ O' Q', BoAt w' x pm bm pr br bi ji O' Q' bs bs S S ∧ ChgU w (boU x pm bm pr br O Q) w' (boU x pm bm pr br O' Q') := by
  have t1 : (d == 1) = false := by simp; omega
  have t2 : (d == 2) = false := by simp; omega
  have t3 : (d == 3) = false := by simp; omega
  have t4 : (d == 4) = false := by simp; omega
  have t5 : (d == 5) = false := by simp; omega
  have t6 : (d == 6) = false := by simp; omega
  have t7 : (d == 7) = false := by simp; omega
  have t8 : (d == 8) = false := by simp; omega
  clear hd
  have F0 := (Fr.refl none' w).alloc (.cells #[.int .i64 d, .int .i64 a.s, .int .i64 a.n, .bool a.wr, .int .u8 (a.b : Int), .int .i64 a.q.t, .int .i64 a.q.i, .bool a.q.v, .bool a.q.l, .int .i64 a.q.r, .int .i64 a.q.f] 33)
  have h0 := h.keep0 F0
  have HI : Hid (ChgU w (boU x pm bm pr br O Q) (w.alloc (.cells #[.int .i64 d, .int .i64 a.s, .int .i64 a.n, .bool a.wr, .int .u8 (a.b : Int), .int .i64 a.q.t, .int .i64 a.q.i, .bool a.q.v, .bool a.q.l, .int .i64 a.q.r, .int .i64 a.q.f] 33)) (boU x pm bm pr br O Q) ∧ BoAt (w.alloc (.cells #[.int .i64 d, .int .i64 a.s, .int .i64 a.n, .bool a.wr, .int .u8 (a.b : Int), .int .i64 a.q.t, .int .i64 a.q.i, .bool a.q.v, .bool a.q.l, .int .i64 a.q.r, .int .i64 a.q.f] 33)) x pm bm pr br bi ji O Q bs bs S S) := ⟨ChgU.none F0, h0⟩
  clear h h0 F0
  go_enter Try.func10, Try.ntmps10
  go_wp2_with fail
  go_ret
  exact ⟨rfl, O, Q, HI.out.2, HI.out.1⟩

/-- What an act leaves. -/
def actB (bs : List UInt8) (S : Io) (a : Aq) : List UInt8 := if a.d = 3 then dmaB bs 16 S a.s a.n a.wr a.b else if a.d = 8 then putQ bs a.q else bs
def actS (bs : List UInt8) (S : Io) (a : Aq) : Io :=
  if a.d = 1 then attS S a.s a.n else if a.d = 2 then detS S a.s else if a.d = 3 then dmaS bs 16 S a.s a.n a.wr else if a.d = 4 then flushS S (goS a.s) else if a.d = 5 then flushS S (goP a.s a.n) else if a.d = 6 then evS S a.n else if a.d = 7 then tkS S else S

theorem does_any (w : World) (x : Nat) (U : Nat → Prop) (bs : List UInt8) (S : Io) (a : Aq) (hb : a.b < 256) (h : IsBo w x U bs S) :
    Calls Try.prog 10 #[.pointer (some ⟨x, 0, none⟩), .agg #[.int .i64 a.d, .int .i64 a.s, .int .i64 a.n, .bool a.wr, .int .u8 (a.b : Int), .int .i64 a.q.t, .int .i64 a.q.i, .bool a.q.v, .bool a.q.l, .int .i64 a.q.r, .int .i64 a.q.f]] w fun e w' => e = .returned (.bool true) ∧ ∃ U', IsBo w' x U' (actB bs S a) (actS bs S a) ∧ ChgU w U w' U' := by
  obtain ⟨pm, bm, pr, br, bi, ji, O, Q, h, rfl⟩ := h
  have fin : ∀ {bs1 : List UInt8} {S1 : Io}, bs1 = actB bs S a → S1 = actS bs S a → ∀ e w', (e = Ending.returned (.bool true) ∧ ∃ O' Q', BoAt w' x pm bm pr br bi ji O' Q' bs1 bs1 S1 S1 ∧ ChgU w (boU x pm bm pr br O Q) w' (boU x pm bm pr br O' Q')) → e = Ending.returned (.bool true) ∧ ∃ U', IsBo w' x U' (actB bs S a) (actS bs S a) ∧ ChgU w (boU x pm bm pr br O Q) w' U' := by
    rintro bs1 S1 rfl rfl e w' ⟨h1, O', Q', h2, h3⟩
    exact ⟨h1, _, ⟨pm, bm, pr, br, bi, ji, O', Q', h2, rfl⟩, h3⟩
  by_cases h1 : a.d = 1
  · rw [h1]
    exact (does_1 w x pm bm pr br bi ji O Q bs S a hb h).mono (fin (by simp [actB, h1]) (by simp [actS, h1]))
  by_cases h2 : a.d = 2
  · rw [h2]
    exact (does_2 w x pm bm pr br bi ji O Q bs S a hb h).mono (fin (by simp [actB, h2]) (by simp [actS, h2]))
  by_cases h3 : a.d = 3
  · rw [h3]
    exact (does_3 w x pm bm pr br bi ji O Q bs S a hb h).mono (fin (by simp [actB, h3]) (by simp [actS, h3]))
  by_cases h4 : a.d = 4
  · rw [h4]
    exact (does_4 w x pm bm pr br bi ji O Q bs S a hb h).mono (fin (by simp [actB, h4]) (by simp [actS, h4]))
  by_cases h5 : a.d = 5
  · rw [h5]
    exact (does_5 w x pm bm pr br bi ji O Q bs S a hb h).mono (fin (by simp [actB, h5]) (by simp [actS, h5]))
  by_cases h6 : a.d = 6
  · rw [h6]
    exact (does_6 w x pm bm pr br bi ji O Q bs S a hb h).mono (fin (by simp [actB, h6]) (by simp [actS, h6]))
  by_cases h7 : a.d = 7
  · rw [h7]
    exact (does_7 w x pm bm pr br bi ji O Q bs S a hb h).mono (fin (by simp [actB, h7]) (by simp [actS, h7]))
  by_cases h8 : a.d = 8
  · rw [h8]
    exact (does_8 w x pm bm pr br bi ji O Q bs S a hb h).mono (fin (by simp [actB, h8]) (by simp [actS, h8]))
  exact (does_o w x pm bm pr br bi ji O Q bs S a a.d (by omega) hb h).mono (fin (by simp [actB, h3, h8]) (by simp [actS, h1, h2, h3, h4, h5, h6, h7]))

end Go.Proofs.Ythmombgogmgobaa
