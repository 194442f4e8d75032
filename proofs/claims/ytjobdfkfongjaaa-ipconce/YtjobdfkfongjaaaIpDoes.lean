/-
  viceroylaw16.does, over the translation. No statement is proved here.
-/
import Derived.Test.YtjobdfkfongjaaaIpActs
namespace Go.Proofs.Ytjobdfkfongjaaa
open Go.RowKit Go.Maps Go.WideMaps Go.Shelf

/-- The call's own three blocks. -/
def Own3 (h : Nat) : Nat → Prop := fun k => k = h ∨ k = h + 1 ∨ k = h + 1 + 1
def DoPost (w0 w : World) (b : Nat) (S : Ip) (O : Nat → Prop) (A : Ac) (e : Ending) (w' : World) : Prop := ∃ v, e = .returned (.agg (anA (doesN S A) (doesG S A) (doesE S A) (doesM S A) v)) ∧ OI w.heap.size w' v (doesL S A) ∧ Ix w0 w' b (doesS S A) O ∧ FrO w0 O w w'

/-- What every arm starts from, and how it ends. -/
theorem do_start {w0 w : World} {b : Nat} {S : Ip} {O : Nat → Prop} (h : Ix w0 w b S O) (A : Ac) :
    ∃ W : World, W = ((w.alloc (.cells (acA A) 42)).alloc (.cells #[.int .i64 0, .bool false, .int .i64 0, .int .i64 0, .int .i64 0, .int .i64 0, .int .u32 0, .int .u32 0, .int .u32 0, .int .u32 0, .slice none 0 0] 39)).alloc (.cells #[.int .i64 0, .bool false, .int .i64 0, .int .i64 0, .int .i64 0, .int .i64 0, .int .u32 0, .int .u32 0, .int .u32 0, .int .u32 0, .slice none 0 0] 39) ∧ Ix w0 W b S (fun k => O k ∨ Own3 w.heap.size k) ∧ Row W w.heap.size (acA A) 42 ∧ Row W (w.heap.size + 1) #[.int .i64 0, .bool false, .int .i64 0, .int .i64 0, .int .i64 0, .int .i64 0, .int .u32 0, .int .u32 0, .int .u32 0, .int .u32 0, .slice none 0 0] 39 ∧ Row W (w.heap.size + 1 + 1) #[.int .i64 0, .bool false, .int .i64 0, .int .i64 0, .int .i64 0, .int .i64 0, .int .u32 0, .int .u32 0, .int .u32 0, .int .u32 0, .slice none 0 0] 39 ∧ Fr none' w W := by
  have f := (((Fr.refl none' w).alloc (.cells (acA A) 42)).alloc (.cells #[.int .i64 0, .bool false, .int .i64 0, .int .i64 0, .int .i64 0, .int .i64 0, .int .u32 0, .int .u32 0, .int .u32 0, .int .u32 0, .slice none 0 0] 39)).alloc (.cells #[.int .i64 0, .bool false, .int .i64 0, .int .i64 0, .int .i64 0, .int .i64 0, .int .u32 0, .int .u32 0, .int .u32 0, .int .u32 0, .slice none 0 0] 39)
  have q0 := row_alloc w (acA A) 42
  have q1 := row_alloc1 w (.cells (acA A) 42) #[.int .i64 0, .bool false, .int .i64 0, .int .i64 0, .int .i64 0, .int .i64 0, .int .u32 0, .int .u32 0, .int .u32 0, .int .u32 0, .slice none 0 0] 39
  have q2 := row_alloc1 (w.alloc (.cells (acA A) 42)) (.cells #[.int .i64 0, .bool false, .int .i64 0, .int .i64 0, .int .i64 0, .int .i64 0, .int .u32 0, .int .u32 0, .int .u32 0, .int .u32 0, .slice none 0 0] 39) #[.int .i64 0, .bool false, .int .i64 0, .int .i64 0, .int .i64 0, .int .i64 0, .int .u32 0, .int .u32 0, .int .u32 0, .int .u32 0, .slice none 0 0] 39
  simp only [World.size_alloc] at q2
  obtain ⟨p, hp1, hp2, hp3, hp4, hp5, hp6⟩ := h
  refine ⟨_, rfl, ⟨p, hp1, hp2.keep0 f, fun k hk => ⟨(hp3 k hk).1, fun e => ?_⟩, fun k e => ?_, hp5.trans f, hp6⟩, (q0.alloc _).alloc _, q1.alloc _, q2, f⟩
  · have := hp2.lt k hk
    rcases e with e | e
    · exact (hp3 k hk).2 e
    · unfold Own3 at e; omega
  · simp only [World.size_alloc]
    rcases e with e | e
    · have := hp4 k e; omega
    · unfold Own3 at e; omega
theorem do_end {w0 w W w1 w2 : World} {b : Nat} {S : Ip} {O : Nat → Prop} (h : Ix w0 w1 b S (fun k => O k ∨ Own3 w.heap.size k)) (f : Fr none' w W) (f1 : FrO w0 (fun k => O k ∨ Own3 w.heap.size k) W w1) (f2 : Fr (Own3 w.heap.size) w1 w2) (hw : w0.heap.size ≤ w.heap.size) {v : Value} {l : List Int} (hv : OI w.heap.size w1 v l) (r1 : Row w1 (w.heap.size + 1) #[.int .i64 0, .bool false, .int .i64 0, .int .i64 0, .int .i64 0, .int .i64 0, .int .u32 0, .int .u32 0, .int .u32 0, .int .u32 0, .slice none 0 0] 39) (r2 : Row w1 (w.heap.size + 1 + 1) #[.int .i64 0, .bool false, .int .i64 0, .int .i64 0, .int .i64 0, .int .i64 0, .int .u32 0, .int .u32 0, .int .u32 0, .int .u32 0, .slice none 0 0] 39) (r0 : ∃ cs, Row w1 w.heap.size cs 42) : Ix w0 w2 b S O ∧ FrO w0 O w w2 ∧ OI w.heap.size w2 v l := by
  have h2 : Ix w0 w2 b S (fun k => O k ∨ Own3 w.heap.size k) := h.keep f2 (fun k hk => ⟨by unfold Own3 at hk; omega, Or.inr hk⟩)
  refine ⟨h2.less (fun k hk => Or.inl hk), ⟨(f2.os.trans f1.os).trans f.os, (f2.tape.trans f1.tape).trans f.tape, (f2.output.trans f1.output).trans f.output, Nat.le_trans f.size (Nat.le_trans f1.size f2.size), fun k hk hn => ?_⟩, ownsRow_at hv (fun q hq hl => f2.block q hl (fun e => ?_))⟩
  · have hk1 : k < W.heap.size := Nat.lt_of_lt_of_le hk f.size
    have hk2 : k < w1.heap.size := Nat.lt_of_lt_of_le hk1 f1.size
    refine ((f2.block k hk2 (fun e => ?_)).trans (f1.block k hk1 (fun e => ?_))).trans (f.block k hk (fun h => h))
    · unfold Own3 at e; omega
    · exact hn ⟨e.1, fun ho => e.2 (Or.inl ho)⟩
  · obtain ⟨_, cur, r⟩ := own_rowB hv hq
    obtain ⟨cs, r0⟩ := r0
    rcases e with rfl | rfl | rfl
    · exact absurd (row_ty r r0).1 (by decide)
    · exact absurd (row_ty r r1).1 (by decide)
    · exact absurd (row_ty r r2).1 (by decide)
theorem oi_shape {B : Nat} {w : World} {v : Value} {l : List Int} (h : OI B w v l) : ∃ a n c, v = .slice a n c := by
  rcases h.2 with h' | ⟨g, cap, _, h', _⟩
  · exact ⟨_, _, _, h'.1⟩
  · exact ⟨_, _, _, h'⟩
theorem ix_low {w0 w : World} {b : Nat} {S : Ip} {O : Nat → Prop} (h : Ix w0 w b S O) : w0.heap.size ≤ w.heap.size ∧ ∀ k, O k → k < w.heap.size := by
  obtain ⟨p, _, _, _, q3, q4, _⟩ := h
  exact ⟨q4.size, q3⟩

set_option maxRecDepth 100000 in
set_option maxHeartbeats 4000000 in
theorem do_1 {w0 w : World} {b : Nat} {S : Ip} {O : Nat → Prop} (h : Ix w0 w b S O) (a t x : Int) (m : Ms) (c bl : Bool) (ha : I64 a) (ht : I64 t) : Calls Try.prog 10 #[pv b, acV ⟨1, a, t, x, m, c, bl⟩] w (DoPost w0 w b S O ⟨1, a, t, x, m, c, bl⟩) := by
  obtain ⟨W, hW, B, r0, r1, r2, f⟩ := do_start h ⟨1, a, t, x, m, c, bl⟩
  have X := xsend B a t m c bl ha ht
  have lo := ix_low h
  have HR : Hid (∀ w1, FrO w0 (fun k => O k ∨ Own3 w.heap.size k) W w1 → Row w1 w.heap.size (acA ⟨1, a, t, x, m, c, bl⟩) 42 ∧ Row w1 (w.heap.size + 1) #[.int .i64 0, .bool false, .int .i64 0, .int .i64 0, .int .i64 0, .int .i64 0, .int .u32 0, .int .u32 0, .int .u32 0, .int .u32 0, .slice none 0 0] 39 ∧ Row w1 (w.heap.size + 1 + 1) #[.int .i64 0, .bool false, .int .i64 0, .int .i64 0, .int .i64 0, .int .i64 0, .int .u32 0, .int .u32 0, .int .u32 0, .int .u32 0, .slice none 0 0] 39) := fun w1 g => ⟨Row.keep r0 g (fun h => h.2 (Or.inr (Or.inl rfl))), Row.keep r1 g (fun h => h.2 (Or.inr (Or.inr (Or.inl rfl)))), Row.keep r2 g (fun h => h.2 (Or.inr (Or.inr (Or.inr rfl))))⟩
  have HF : Hid (Fr none' w W) := f
  have x1 := r0.cell 1
  have x2 := r0.cell 2
  have x3 := r0.cell 3
  have x4 := r0.cell 4
  have x5 := r0.cell 5
  have x6 := r0.cell 6
  have x7 := r0.cell 7
  have x8 := r0.cell 8
  have x9 := r0.cell 9
  have x10 := r0.cell 10
  have x11 := r0.cell 11
  have x12 := r0.cell 12
  have x0 := r0.cell 0
  dsimp only [acA] at hW x0 x1 x2 x3 x4 x5 x6 x7 x8 x9 x10 x11 x12
  unfold acV
  dsimp only [acA]
  clear r0 r1 r2 f B h ha ht
  go_enter Try.func10, Try.ntmps10
  go_wp2_with fail
  rw [← hW]
  refine X.mono ?_
  clear X hW x0 x1 x2 x3 x4 x5 x6 x7 x8 x9 x10 x11 x12
  rintro e w1 ⟨rfl, B1, f1⟩
  have hv : OI w.heap.size w1 (.slice none 0 0) [] := ⟨rfl, Or.inl ⟨rfl, rfl⟩⟩
  obtain ⟨r0, r1, r2⟩ := HR.out w1 f1
  have HE : Hid (∀ w2, Fr (Own3 w.heap.size) w1 w2 → _) := fun w2 f2 => do_end B1 HF.out f1 f2 lo.1 hv r1 r2 ⟨_, r0⟩
  have HQ : Hid (Row w1 (w.heap.size + 1) _ _) := r1
  have HQ2 : Hid (Row w1 (w.heap.size + 1 + 1) _ _) := r2
  have u0 := r2.cell 0
  have y0 := r1.cell 0
  have z0 := r1.frozen 0
  have u1 := r2.cell 1
  have y1 := r1.cell 1
  have z1 := r1.frozen 1
  have u2 := r2.cell 2
  have y2 := r1.cell 2
  have z2 := r1.frozen 2
  have u3 := r2.cell 3
  have y3 := r1.cell 3
  have z3 := r1.frozen 3
  have u4 := r2.cell 4
  have y4 := r1.cell 4
  have z4 := r1.frozen 4
  have u5 := r2.cell 5
  have y5 := r1.cell 5
  have z5 := r1.frozen 5
  have u6 := r2.cell 6
  have y6 := r1.cell 6
  have z6 := r1.frozen 6
  have u7 := r2.cell 7
  have y7 := r1.cell 7
  have z7 := r1.frozen 7
  have u8 := r2.cell 8
  have y8 := r1.cell 8
  have z8 := r1.frozen 8
  have u9 := r2.cell 9
  have y9 := r1.cell 9
  have z9 := r1.frozen 9
  have u10 := r2.cell 10
  have y10 := r1.cell 10
  have z10 := r1.frozen 10
  have q0 := r2.frozen 0
  have q2 := r2.frozen 2
  dsimp at u0 y0 u1 y1 u2 y2 u3 y3 u4 y4 u5 y5 u6 y6 u7 y7 u8 y8 u9 y9 u10 y10
  clear B1 f1 hv r0 r1 r2 HR lo
  go_wp2_with fail
  refine bodyPost_ret (ret_an rfl rfl (put11_row ((HQ.out.keep (fr_set _ (w.heap.size + 1 + 1) 0 _ (Fr.refl _ _)) (fun e => absurd e (by show ¬ w.heap.size + 1 = w.heap.size + 1 + 1; omega))).keep (fr_set _ (w.heap.size + 1 + 1) 2 _ (Fr.refl _ _)) (fun e => absurd e (by show ¬ w.heap.size + 1 = w.heap.size + 1 + 1; omega))) _ _ _ _ _ _ _ _ _ _ _) rfl) rfl ?_
  obtain ⟨e1, e2, e3⟩ := HE.out _ (put11_fr (((Fr.refl (Own3 w.heap.size) w1).setCell (p := ⟨w.heap.size + 1 + 1, 0, none⟩) (Or.inr (Or.inr (Or.inr rfl))) _).setCell (p := ⟨w.heap.size + 1 + 1, 2, none⟩) (Or.inr (Or.inr (Or.inr rfl))) _) (Or.inr (Or.inr (Or.inl rfl))) _ _ _ _ _ _ _ _ _ _ _)
  exact ⟨_, rfl, e3, e1, e2⟩

set_option maxRecDepth 100000 in
set_option maxHeartbeats 4000000 in
theorem do_2 {w0 w : World} {b : Nat} {S : Ip} {O : Nat → Prop} (h : Ix w0 w b S O) (a t x : Int) (m : Ms) (c bl : Bool) (ha : I64 a) (ht : I64 t) : Calls Try.prog 10 #[pv b, acV ⟨2, a, t, x, m, c, bl⟩] w (DoPost w0 w b S O ⟨2, a, t, x, m, c, bl⟩) := by
  obtain ⟨W, hW, B, r0, r1, r2, f⟩ := do_start h ⟨2, a, t, x, m, c, bl⟩
  have X := xrecv B a t bl ha ht
  have lo := ix_low h
  have HR : Hid (∀ w1, FrO w0 (fun k => O k ∨ Own3 w.heap.size k) W w1 → Row w1 w.heap.size (acA ⟨2, a, t, x, m, c, bl⟩) 42 ∧ Row w1 (w.heap.size + 1) #[.int .i64 0, .bool false, .int .i64 0, .int .i64 0, .int .i64 0, .int .i64 0, .int .u32 0, .int .u32 0, .int .u32 0, .int .u32 0, .slice none 0 0] 39 ∧ Row w1 (w.heap.size + 1 + 1) #[.int .i64 0, .bool false, .int .i64 0, .int .i64 0, .int .i64 0, .int .i64 0, .int .u32 0, .int .u32 0, .int .u32 0, .int .u32 0, .slice none 0 0] 39) := fun w1 g => ⟨Row.keep r0 g (fun h => h.2 (Or.inr (Or.inl rfl))), Row.keep r1 g (fun h => h.2 (Or.inr (Or.inr (Or.inl rfl)))), Row.keep r2 g (fun h => h.2 (Or.inr (Or.inr (Or.inr rfl))))⟩
  have HF : Hid (Fr none' w W) := f
  have x1 := r0.cell 1
  have x2 := r0.cell 2
  have x3 := r0.cell 3
  have x4 := r0.cell 4
  have x5 := r0.cell 5
  have x6 := r0.cell 6
  have x7 := r0.cell 7
  have x8 := r0.cell 8
  have x9 := r0.cell 9
  have x10 := r0.cell 10
  have x11 := r0.cell 11
  have x12 := r0.cell 12
  have x0 := r0.cell 0
  dsimp only [acA] at hW x0 x1 x2 x3 x4 x5 x6 x7 x8 x9 x10 x11 x12
  unfold acV
  dsimp only [acA]
  clear r0 r1 r2 f B h ha ht
  go_enter Try.func10, Try.ntmps10
  go_wp2_with fail
  rw [← hW]
  refine X.mono ?_
  clear X hW x0 x1 x2 x3 x4 x5 x6 x7 x8 x9 x10 x11 x12
  rintro e w1 ⟨rfl, B1, f1⟩
  have hv : OI w.heap.size w1 (.slice none 0 0) [] := ⟨rfl, Or.inl ⟨rfl, rfl⟩⟩
  obtain ⟨r0, r1, r2⟩ := HR.out w1 f1
  have HE : Hid (∀ w2, Fr (Own3 w.heap.size) w1 w2 → _) := fun w2 f2 => do_end B1 HF.out f1 f2 lo.1 hv r1 r2 ⟨_, r0⟩
  have HQ : Hid (Row w1 (w.heap.size + 1) _ _) := r1
  have HQ2 : Hid (Row w1 (w.heap.size + 1 + 1) _ _) := r2
  have u0 := r2.cell 0
  have y0 := r1.cell 0
  have z0 := r1.frozen 0
  have u1 := r2.cell 1
  have y1 := r1.cell 1
  have z1 := r1.frozen 1
  have u2 := r2.cell 2
  have y2 := r1.cell 2
  have z2 := r1.frozen 2
  have u3 := r2.cell 3
  have y3 := r1.cell 3
  have z3 := r1.frozen 3
  have u4 := r2.cell 4
  have y4 := r1.cell 4
  have z4 := r1.frozen 4
  have u5 := r2.cell 5
  have y5 := r1.cell 5
  have z5 := r1.frozen 5
  have u6 := r2.cell 6
  have y6 := r1.cell 6
  have z6 := r1.frozen 6
  have u7 := r2.cell 7
  have y7 := r1.cell 7
  have z7 := r1.frozen 7
  have u8 := r2.cell 8
  have y8 := r1.cell 8
  have z8 := r1.frozen 8
  have u9 := r2.cell 9
  have y9 := r1.cell 9
  have z9 := r1.frozen 9
  have u10 := r2.cell 10
  have y10 := r1.cell 10
  have z10 := r1.frozen 10
  have q0 := r2.frozen 0
  have q1 := r2.frozen 1
  have q2 := r2.frozen 2
  dsimp at u0 y0 u1 y1 u2 y2 u3 y3 u4 y4 u5 y5 u6 y6 u7 y7 u8 y8 u9 y9 u10 y10
  clear B1 f1 hv r0 r1 r2 HR lo
  go_wp2_with fail
  refine bodyPost_ret (ret_an rfl rfl (put11_row (((HQ.out.keep (fr_set _ (w.heap.size + 1 + 1) 0 _ (Fr.refl _ _)) (fun e => absurd e (by show ¬ w.heap.size + 1 = w.heap.size + 1 + 1; omega))).keep (fr_set _ (w.heap.size + 1 + 1) 1 _ (Fr.refl _ _)) (fun e => absurd e (by show ¬ w.heap.size + 1 = w.heap.size + 1 + 1; omega))).keep (fr_set _ (w.heap.size + 1 + 1) 2 _ (Fr.refl _ _)) (fun e => absurd e (by show ¬ w.heap.size + 1 = w.heap.size + 1 + 1; omega))) _ _ _ _ _ _ _ _ _ _ _) rfl) rfl ?_
  obtain ⟨e1, e2, e3⟩ := HE.out _ (put11_fr ((((Fr.refl (Own3 w.heap.size) w1).setCell (p := ⟨w.heap.size + 1 + 1, 0, none⟩) (Or.inr (Or.inr (Or.inr rfl))) _).setCell (p := ⟨w.heap.size + 1 + 1, 1, none⟩) (Or.inr (Or.inr (Or.inr rfl))) _).setCell (p := ⟨w.heap.size + 1 + 1, 2, none⟩) (Or.inr (Or.inr (Or.inr rfl))) _) (Or.inr (Or.inr (Or.inl rfl))) _ _ _ _ _ _ _ _ _ _ _)
  exact ⟨_, rfl, e3, e1, e2⟩

set_option maxRecDepth 100000 in
set_option maxHeartbeats 4000000 in
theorem do_3 {w0 w : World} {b : Nat} {S : Ip} {O : Nat → Prop} (h : Ix w0 w b S O) (a t x : Int) (m : Ms) (c bl : Bool) (_ha : I64 a) (_ht : I64 t) : Calls Try.prog 10 #[pv b, acV ⟨3, a, t, x, m, c, bl⟩] w (DoPost w0 w b S O ⟨3, a, t, x, m, c, bl⟩) := by
  obtain ⟨W, hW, B, r0, r1, r2, f⟩ := do_start h ⟨3, a, t, x, m, c, bl⟩
  have X := xreply B t m
  have lo := ix_low h
  have HR : Hid (∀ w1, FrO w0 (fun k => O k ∨ Own3 w.heap.size k) W w1 → Row w1 w.heap.size (acA ⟨3, a, t, x, m, c, bl⟩) 42 ∧ Row w1 (w.heap.size + 1) #[.int .i64 0, .bool false, .int .i64 0, .int .i64 0, .int .i64 0, .int .i64 0, .int .u32 0, .int .u32 0, .int .u32 0, .int .u32 0, .slice none 0 0] 39 ∧ Row w1 (w.heap.size + 1 + 1) #[.int .i64 0, .bool false, .int .i64 0, .int .i64 0, .int .i64 0, .int .i64 0, .int .u32 0, .int .u32 0, .int .u32 0, .int .u32 0, .slice none 0 0] 39) := fun w1 g => ⟨Row.keep r0 g (fun h => h.2 (Or.inr (Or.inl rfl))), Row.keep r1 g (fun h => h.2 (Or.inr (Or.inr (Or.inl rfl)))), Row.keep r2 g (fun h => h.2 (Or.inr (Or.inr (Or.inr rfl))))⟩
  have HF : Hid (Fr none' w W) := f
  have x1 := r0.cell 1
  have x2 := r0.cell 2
  have x3 := r0.cell 3
  have x4 := r0.cell 4
  have x5 := r0.cell 5
  have x6 := r0.cell 6
  have x7 := r0.cell 7
  have x8 := r0.cell 8
  have x9 := r0.cell 9
  have x10 := r0.cell 10
  have x11 := r0.cell 11
  have x12 := r0.cell 12
  have x0 := r0.cell 0
  dsimp only [acA] at hW x0 x1 x2 x3 x4 x5 x6 x7 x8 x9 x10 x11 x12
  unfold acV
  dsimp only [acA]
  clear r0 r1 r2 f B h _ha _ht
  go_enter Try.func10, Try.ntmps10
  go_wp2_with fail
  rw [← hW]
  refine X.mono ?_
  clear X hW x0 x1 x2 x3 x4 x5 x6 x7 x8 x9 x10 x11 x12
  rintro e w1 ⟨rfl, B1, f1⟩
  have hv : OI w.heap.size w1 (.slice none 0 0) [] := ⟨rfl, Or.inl ⟨rfl, rfl⟩⟩
  obtain ⟨r0, r1, r2⟩ := HR.out w1 f1
  have HE : Hid (∀ w2, Fr (Own3 w.heap.size) w1 w2 → _) := fun w2 f2 => do_end B1 HF.out f1 f2 lo.1 hv r1 r2 ⟨_, r0⟩
  have HQ : Hid (Row w1 (w.heap.size + 1) _ _) := r1
  have HQ2 : Hid (Row w1 (w.heap.size + 1 + 1) _ _) := r2
  have u0 := r2.cell 0
  have y0 := r1.cell 0
  have z0 := r1.frozen 0
  have u1 := r2.cell 1
  have y1 := r1.cell 1
  have z1 := r1.frozen 1
  have u2 := r2.cell 2
  have y2 := r1.cell 2
  have z2 := r1.frozen 2
  have u3 := r2.cell 3
  have y3 := r1.cell 3
  have z3 := r1.frozen 3
  have u4 := r2.cell 4
  have y4 := r1.cell 4
  have z4 := r1.frozen 4
  have u5 := r2.cell 5
  have y5 := r1.cell 5
  have z5 := r1.frozen 5
  have u6 := r2.cell 6
  have y6 := r1.cell 6
  have z6 := r1.frozen 6
  have u7 := r2.cell 7
  have y7 := r1.cell 7
  have z7 := r1.frozen 7
  have u8 := r2.cell 8
  have y8 := r1.cell 8
  have z8 := r1.frozen 8
  have u9 := r2.cell 9
  have y9 := r1.cell 9
  have z9 := r1.frozen 9
  have u10 := r2.cell 10
  have y10 := r1.cell 10
  have z10 := r1.frozen 10
  have q0 := r2.frozen 0
  have q2 := r2.frozen 2
  dsimp at u0 y0 u1 y1 u2 y2 u3 y3 u4 y4 u5 y5 u6 y6 u7 y7 u8 y8 u9 y9 u10 y10
  clear B1 f1 hv r0 r1 r2 HR lo
  go_wp2_with fail
  refine bodyPost_ret (ret_an rfl rfl (put11_row ((HQ.out.keep (fr_set _ (w.heap.size + 1 + 1) 0 _ (Fr.refl _ _)) (fun e => absurd e (by show ¬ w.heap.size + 1 = w.heap.size + 1 + 1; omega))).keep (fr_set _ (w.heap.size + 1 + 1) 2 _ (Fr.refl _ _)) (fun e => absurd e (by show ¬ w.heap.size + 1 = w.heap.size + 1 + 1; omega))) _ _ _ _ _ _ _ _ _ _ _) rfl) rfl ?_
  obtain ⟨e1, e2, e3⟩ := HE.out _ (put11_fr (((Fr.refl (Own3 w.heap.size) w1).setCell (p := ⟨w.heap.size + 1 + 1, 0, none⟩) (Or.inr (Or.inr (Or.inr rfl))) _).setCell (p := ⟨w.heap.size + 1 + 1, 2, none⟩) (Or.inr (Or.inr (Or.inr rfl))) _) (Or.inr (Or.inr (Or.inl rfl))) _ _ _ _ _ _ _ _ _ _ _)
  exact ⟨_, rfl, e3, e1, e2⟩

set_option maxRecDepth 100000 in
set_option maxHeartbeats 4000000 in
theorem do_4 {w0 w : World} {b : Nat} {S : Ip} {O : Nat → Prop} (h : Ix w0 w b S O) (a t x : Int) (m : Ms) (c bl : Bool) (_ha : I64 a) (_ht : I64 t) : Calls Try.prog 10 #[pv b, acV ⟨4, a, t, x, m, c, bl⟩] w (DoPost w0 w b S O ⟨4, a, t, x, m, c, bl⟩) := by
  obtain ⟨W, hW, B, r0, r1, r2, f⟩ := do_start h ⟨4, a, t, x, m, c, bl⟩
  have X := xforget B t
  have lo := ix_low h
  have HR : Hid (∀ w1, FrO w0 (fun k => O k ∨ Own3 w.heap.size k) W w1 → Row w1 w.heap.size (acA ⟨4, a, t, x, m, c, bl⟩) 42 ∧ Row w1 (w.heap.size + 1) #[.int .i64 0, .bool false, .int .i64 0, .int .i64 0, .int .i64 0, .int .i64 0, .int .u32 0, .int .u32 0, .int .u32 0, .int .u32 0, .slice none 0 0] 39 ∧ Row w1 (w.heap.size + 1 + 1) #[.int .i64 0, .bool false, .int .i64 0, .int .i64 0, .int .i64 0, .int .i64 0, .int .u32 0, .int .u32 0, .int .u32 0, .int .u32 0, .slice none 0 0] 39) := fun w1 g => ⟨Row.keep r0 g (fun h => h.2 (Or.inr (Or.inl rfl))), Row.keep r1 g (fun h => h.2 (Or.inr (Or.inr (Or.inl rfl)))), Row.keep r2 g (fun h => h.2 (Or.inr (Or.inr (Or.inr rfl))))⟩
  have HF : Hid (Fr none' w W) := f
  have x1 := r0.cell 1
  have x2 := r0.cell 2
  have x3 := r0.cell 3
  have x4 := r0.cell 4
  have x5 := r0.cell 5
  have x6 := r0.cell 6
  have x7 := r0.cell 7
  have x8 := r0.cell 8
  have x9 := r0.cell 9
  have x10 := r0.cell 10
  have x11 := r0.cell 11
  have x12 := r0.cell 12
  have x0 := r0.cell 0
  dsimp only [acA] at hW x0 x1 x2 x3 x4 x5 x6 x7 x8 x9 x10 x11 x12
  unfold acV
  dsimp only [acA]
  clear r0 r1 r2 f B h _ha _ht
  go_enter Try.func10, Try.ntmps10
  go_wp2_with fail
  rw [← hW]
  refine X.mono ?_
  clear X hW x0 x1 x2 x3 x4 x5 x6 x7 x8 x9 x10 x11 x12
  rintro e w1 ⟨rfl, B1, f1⟩
  have hv : OI w.heap.size w1 (.slice none 0 0) [] := ⟨rfl, Or.inl ⟨rfl, rfl⟩⟩
  obtain ⟨r0, r1, r2⟩ := HR.out w1 f1
  have HE : Hid (∀ w2, Fr (Own3 w.heap.size) w1 w2 → _) := fun w2 f2 => do_end B1 HF.out f1 f2 lo.1 hv r1 r2 ⟨_, r0⟩
  have HQ : Hid (Row w1 (w.heap.size + 1) _ _) := r1
  have HQ2 : Hid (Row w1 (w.heap.size + 1 + 1) _ _) := r2
  have u0 := r2.cell 0
  have y0 := r1.cell 0
  have z0 := r1.frozen 0
  have u1 := r2.cell 1
  have y1 := r1.cell 1
  have z1 := r1.frozen 1
  have u2 := r2.cell 2
  have y2 := r1.cell 2
  have z2 := r1.frozen 2
  have u3 := r2.cell 3
  have y3 := r1.cell 3
  have z3 := r1.frozen 3
  have u4 := r2.cell 4
  have y4 := r1.cell 4
  have z4 := r1.frozen 4
  have u5 := r2.cell 5
  have y5 := r1.cell 5
  have z5 := r1.frozen 5
  have u6 := r2.cell 6
  have y6 := r1.cell 6
  have z6 := r1.frozen 6
  have u7 := r2.cell 7
  have y7 := r1.cell 7
  have z7 := r1.frozen 7
  have u8 := r2.cell 8
  have y8 := r1.cell 8
  have z8 := r1.frozen 8
  have u9 := r2.cell 9
  have y9 := r1.cell 9
  have z9 := r1.frozen 9
  have u10 := r2.cell 10
  have y10 := r1.cell 10
  have z10 := r1.frozen 10
  have q0 := r2.frozen 0
  dsimp at u0 y0 u1 y1 u2 y2 u3 y3 u4 y4 u5 y5 u6 y6 u7 y7 u8 y8 u9 y9 u10 y10
  clear B1 f1 hv r0 r1 r2 HR lo
  go_wp2_with fail
  refine bodyPost_ret (ret_an rfl rfl (put11_row (HQ.out.keep (fr_set _ (w.heap.size + 1 + 1) 0 _ (Fr.refl _ _)) (fun e => absurd e (by show ¬ w.heap.size + 1 = w.heap.size + 1 + 1; omega))) _ _ _ _ _ _ _ _ _ _ _) rfl) rfl ?_
  obtain ⟨e1, e2, e3⟩ := HE.out _ (put11_fr ((Fr.refl (Own3 w.heap.size) w1).setCell (p := ⟨w.heap.size + 1 + 1, 0, none⟩) (Or.inr (Or.inr (Or.inr rfl))) _) (Or.inr (Or.inr (Or.inl rfl))) _ _ _ _ _ _ _ _ _ _ _)
  exact ⟨_, rfl, e3, e1, e2⟩

set_option maxRecDepth 100000 in
set_option maxHeartbeats 4000000 in
theorem do_5 {w0 w : World} {b : Nat} {S : Ip} {O : Nat → Prop} (h : Ix w0 w b S O) (a t x : Int) (m : Ms) (c bl : Bool) (_ha : I64 a) (_ht : I64 t) : Calls Try.prog 10 #[pv b, acV ⟨5, a, t, x, m, c, bl⟩] w (DoPost w0 w b S O ⟨5, a, t, x, m, c, bl⟩) := by
  obtain ⟨W, hW, B, r0, r1, r2, f⟩ := do_start h ⟨5, a, t, x, m, c, bl⟩
  have X := xsignal B a x
  have lo := ix_low h
  have HR : Hid (∀ w1, FrO w0 (fun k => O k ∨ Own3 w.heap.size k) W w1 → Row w1 w.heap.size (acA ⟨5, a, t, x, m, c, bl⟩) 42 ∧ Row w1 (w.heap.size + 1) #[.int .i64 0, .bool false, .int .i64 0, .int .i64 0, .int .i64 0, .int .i64 0, .int .u32 0, .int .u32 0, .int .u32 0, .int .u32 0, .slice none 0 0] 39 ∧ Row w1 (w.heap.size + 1 + 1) #[.int .i64 0, .bool false, .int .i64 0, .int .i64 0, .int .i64 0, .int .i64 0, .int .u32 0, .int .u32 0, .int .u32 0, .int .u32 0, .slice none 0 0] 39) := fun w1 g => ⟨Row.keep r0 g (fun h => h.2 (Or.inr (Or.inl rfl))), Row.keep r1 g (fun h => h.2 (Or.inr (Or.inr (Or.inl rfl)))), Row.keep r2 g (fun h => h.2 (Or.inr (Or.inr (Or.inr rfl))))⟩
  have HF : Hid (Fr none' w W) := f
  have x1 := r0.cell 1
  have x2 := r0.cell 2
  have x3 := r0.cell 3
  have x4 := r0.cell 4
  have x5 := r0.cell 5
  have x6 := r0.cell 6
  have x7 := r0.cell 7
  have x8 := r0.cell 8
  have x9 := r0.cell 9
  have x10 := r0.cell 10
  have x11 := r0.cell 11
  have x12 := r0.cell 12
  have x0 := r0.cell 0
  dsimp only [acA] at hW x0 x1 x2 x3 x4 x5 x6 x7 x8 x9 x10 x11 x12
  unfold acV
  dsimp only [acA]
  clear r0 r1 r2 f B h _ha _ht
  go_enter Try.func10, Try.ntmps10
  go_wp2_with fail
  rw [← hW]
  refine X.mono ?_
  clear X hW x0 x1 x2 x3 x4 x5 x6 x7 x8 x9 x10 x11 x12
  rintro e w1 ⟨rfl, B1, f1⟩
  have hv : OI w.heap.size w1 (.slice none 0 0) [] := ⟨rfl, Or.inl ⟨rfl, rfl⟩⟩
  obtain ⟨r0, r1, r2⟩ := HR.out w1 f1
  have HE : Hid (∀ w2, Fr (Own3 w.heap.size) w1 w2 → _) := fun w2 f2 => do_end B1 HF.out f1 f2 lo.1 hv r1 r2 ⟨_, r0⟩
  have HQ : Hid (Row w1 (w.heap.size + 1) _ _) := r1
  have HQ2 : Hid (Row w1 (w.heap.size + 1 + 1) _ _) := r2
  have u0 := r2.cell 0
  have y0 := r1.cell 0
  have z0 := r1.frozen 0
  have u1 := r2.cell 1
  have y1 := r1.cell 1
  have z1 := r1.frozen 1
  have u2 := r2.cell 2
  have y2 := r1.cell 2
  have z2 := r1.frozen 2
  have u3 := r2.cell 3
  have y3 := r1.cell 3
  have z3 := r1.frozen 3
  have u4 := r2.cell 4
  have y4 := r1.cell 4
  have z4 := r1.frozen 4
  have u5 := r2.cell 5
  have y5 := r1.cell 5
  have z5 := r1.frozen 5
  have u6 := r2.cell 6
  have y6 := r1.cell 6
  have z6 := r1.frozen 6
  have u7 := r2.cell 7
  have y7 := r1.cell 7
  have z7 := r1.frozen 7
  have u8 := r2.cell 8
  have y8 := r1.cell 8
  have z8 := r1.frozen 8
  have u9 := r2.cell 9
  have y9 := r1.cell 9
  have z9 := r1.frozen 9
  have u10 := r2.cell 10
  have y10 := r1.cell 10
  have z10 := r1.frozen 10
  have q0 := r2.frozen 0
  have q2 := r2.frozen 2
  dsimp at u0 y0 u1 y1 u2 y2 u3 y3 u4 y4 u5 y5 u6 y6 u7 y7 u8 y8 u9 y9 u10 y10
  clear B1 f1 hv r0 r1 r2 HR lo
  go_wp2_with fail
  refine bodyPost_ret (ret_an rfl rfl (put11_row ((HQ.out.keep (fr_set _ (w.heap.size + 1 + 1) 0 _ (Fr.refl _ _)) (fun e => absurd e (by show ¬ w.heap.size + 1 = w.heap.size + 1 + 1; omega))).keep (fr_set _ (w.heap.size + 1 + 1) 2 _ (Fr.refl _ _)) (fun e => absurd e (by show ¬ w.heap.size + 1 = w.heap.size + 1 + 1; omega))) _ _ _ _ _ _ _ _ _ _ _) rfl) rfl ?_
  obtain ⟨e1, e2, e3⟩ := HE.out _ (put11_fr (((Fr.refl (Own3 w.heap.size) w1).setCell (p := ⟨w.heap.size + 1 + 1, 0, none⟩) (Or.inr (Or.inr (Or.inr rfl))) _).setCell (p := ⟨w.heap.size + 1 + 1, 2, none⟩) (Or.inr (Or.inr (Or.inr rfl))) _) (Or.inr (Or.inr (Or.inl rfl))) _ _ _ _ _ _ _ _ _ _ _)
  exact ⟨_, rfl, e3, e1, e2⟩

set_option maxRecDepth 100000 in
set_option maxHeartbeats 4000000 in
theorem do_6 {w0 w : World} {b : Nat} {S : Ip} {O : Nat → Prop} (h : Ix w0 w b S O) (a t x : Int) (m : Ms) (c bl : Bool) (_ha : I64 a) (ht : I64 t) : Calls Try.prog 10 #[pv b, acV ⟨6, a, t, x, m, c, bl⟩] w (DoPost w0 w b S O ⟨6, a, t, x, m, c, bl⟩) := by
  obtain ⟨W, hW, B, r0, r1, r2, f⟩ := do_start h ⟨6, a, t, x, m, c, bl⟩
  have X := xwait B a t bl ht
  have lo := ix_low h
  have HR : Hid (∀ w1, FrO w0 (fun k => O k ∨ Own3 w.heap.size k) W w1 → Row w1 w.heap.size (acA ⟨6, a, t, x, m, c, bl⟩) 42 ∧ Row w1 (w.heap.size + 1) #[.int .i64 0, .bool false, .int .i64 0, .int .i64 0, .int .i64 0, .int .i64 0, .int .u32 0, .int .u32 0, .int .u32 0, .int .u32 0, .slice none 0 0] 39 ∧ Row w1 (w.heap.size + 1 + 1) #[.int .i64 0, .bool false, .int .i64 0, .int .i64 0, .int .i64 0, .int .i64 0, .int .u32 0, .int .u32 0, .int .u32 0, .int .u32 0, .slice none 0 0] 39) := fun w1 g => ⟨Row.keep r0 g (fun h => h.2 (Or.inr (Or.inl rfl))), Row.keep r1 g (fun h => h.2 (Or.inr (Or.inr (Or.inl rfl)))), Row.keep r2 g (fun h => h.2 (Or.inr (Or.inr (Or.inr rfl))))⟩
  have HF : Hid (Fr none' w W) := f
  have x1 := r0.cell 1
  have x2 := r0.cell 2
  have x3 := r0.cell 3
  have x4 := r0.cell 4
  have x5 := r0.cell 5
  have x6 := r0.cell 6
  have x7 := r0.cell 7
  have x8 := r0.cell 8
  have x9 := r0.cell 9
  have x10 := r0.cell 10
  have x11 := r0.cell 11
  have x12 := r0.cell 12
  have x0 := r0.cell 0
  dsimp only [acA] at hW x0 x1 x2 x3 x4 x5 x6 x7 x8 x9 x10 x11 x12
  unfold acV
  dsimp only [acA]
  clear r0 r1 r2 f B h _ha ht
  go_enter Try.func10, Try.ntmps10
  go_wp2_with fail
  rw [← hW]
  refine X.mono ?_
  clear X hW x0 x1 x2 x3 x4 x5 x6 x7 x8 x9 x10 x11 x12
  rintro e w1 ⟨rfl, B1, f1⟩
  have hv : OI w.heap.size w1 (.slice none 0 0) [] := ⟨rfl, Or.inl ⟨rfl, rfl⟩⟩
  obtain ⟨r0, r1, r2⟩ := HR.out w1 f1
  have HE : Hid (∀ w2, Fr (Own3 w.heap.size) w1 w2 → _) := fun w2 f2 => do_end B1 HF.out f1 f2 lo.1 hv r1 r2 ⟨_, r0⟩
  have HQ : Hid (Row w1 (w.heap.size + 1) _ _) := r1
  have HQ2 : Hid (Row w1 (w.heap.size + 1 + 1) _ _) := r2
  have u0 := r2.cell 0
  have y0 := r1.cell 0
  have z0 := r1.frozen 0
  have u1 := r2.cell 1
  have y1 := r1.cell 1
  have z1 := r1.frozen 1
  have u2 := r2.cell 2
  have y2 := r1.cell 2
  have z2 := r1.frozen 2
  have u3 := r2.cell 3
  have y3 := r1.cell 3
  have z3 := r1.frozen 3
  have u4 := r2.cell 4
  have y4 := r1.cell 4
  have z4 := r1.frozen 4
  have u5 := r2.cell 5
  have y5 := r1.cell 5
  have z5 := r1.frozen 5
  have u6 := r2.cell 6
  have y6 := r1.cell 6
  have z6 := r1.frozen 6
  have u7 := r2.cell 7
  have y7 := r1.cell 7
  have z7 := r1.frozen 7
  have u8 := r2.cell 8
  have y8 := r1.cell 8
  have z8 := r1.frozen 8
  have u9 := r2.cell 9
  have y9 := r1.cell 9
  have z9 := r1.frozen 9
  have u10 := r2.cell 10
  have y10 := r1.cell 10
  have z10 := r1.frozen 10
  have q1 := r2.frozen 1
  have q2 := r2.frozen 2
  dsimp at u0 y0 u1 y1 u2 y2 u3 y3 u4 y4 u5 y5 u6 y6 u7 y7 u8 y8 u9 y9 u10 y10
  clear B1 f1 hv r0 r1 r2 HR lo
  go_wp2_with fail
  refine bodyPost_ret (ret_an rfl rfl (put11_row ((HQ.out.keep (fr_set _ (w.heap.size + 1 + 1) 1 _ (Fr.refl _ _)) (fun e => absurd e (by show ¬ w.heap.size + 1 = w.heap.size + 1 + 1; omega))).keep (fr_set _ (w.heap.size + 1 + 1) 2 _ (Fr.refl _ _)) (fun e => absurd e (by show ¬ w.heap.size + 1 = w.heap.size + 1 + 1; omega))) _ _ _ _ _ _ _ _ _ _ _) rfl) rfl ?_
  obtain ⟨e1, e2, e3⟩ := HE.out _ (put11_fr (((Fr.refl (Own3 w.heap.size) w1).setCell (p := ⟨w.heap.size + 1 + 1, 1, none⟩) (Or.inr (Or.inr (Or.inr rfl))) _).setCell (p := ⟨w.heap.size + 1 + 1, 2, none⟩) (Or.inr (Or.inr (Or.inr rfl))) _) (Or.inr (Or.inr (Or.inl rfl))) _ _ _ _ _ _ _ _ _ _ _)
  exact ⟨_, rfl, e3, e1, e2⟩

set_option maxRecDepth 100000 in
set_option maxHeartbeats 4000000 in
theorem do_7 {w0 w : World} {b : Nat} {S : Ip} {O : Nat → Prop} (h : Ix w0 w b S O) (a t x : Int) (m : Ms) (c bl : Bool) (_ha : I64 a) (_ht : I64 t) : Calls Try.prog 10 #[pv b, acV ⟨7, a, t, x, m, c, bl⟩] w (DoPost w0 w b S O ⟨7, a, t, x, m, c, bl⟩) := by
  obtain ⟨W, hW, B, r0, r1, r2, f⟩ := do_start h ⟨7, a, t, x, m, c, bl⟩
  have X := xbind B a t
  have lo := ix_low h
  have HR : Hid (∀ w1, FrO w0 (fun k => O k ∨ Own3 w.heap.size k) W w1 → Row w1 w.heap.size (acA ⟨7, a, t, x, m, c, bl⟩) 42 ∧ Row w1 (w.heap.size + 1) #[.int .i64 0, .bool false, .int .i64 0, .int .i64 0, .int .i64 0, .int .i64 0, .int .u32 0, .int .u32 0, .int .u32 0, .int .u32 0, .slice none 0 0] 39 ∧ Row w1 (w.heap.size + 1 + 1) #[.int .i64 0, .bool false, .int .i64 0, .int .i64 0, .int .i64 0, .int .i64 0, .int .u32 0, .int .u32 0, .int .u32 0, .int .u32 0, .slice none 0 0] 39) := fun w1 g => ⟨Row.keep r0 g (fun h => h.2 (Or.inr (Or.inl rfl))), Row.keep r1 g (fun h => h.2 (Or.inr (Or.inr (Or.inl rfl)))), Row.keep r2 g (fun h => h.2 (Or.inr (Or.inr (Or.inr rfl))))⟩
  have HF : Hid (Fr none' w W) := f
  have x1 := r0.cell 1
  have x2 := r0.cell 2
  have x3 := r0.cell 3
  have x4 := r0.cell 4
  have x5 := r0.cell 5
  have x6 := r0.cell 6
  have x7 := r0.cell 7
  have x8 := r0.cell 8
  have x9 := r0.cell 9
  have x10 := r0.cell 10
  have x11 := r0.cell 11
  have x12 := r0.cell 12
  have x0 := r0.cell 0
  dsimp only [acA] at hW x0 x1 x2 x3 x4 x5 x6 x7 x8 x9 x10 x11 x12
  unfold acV
  dsimp only [acA]
  clear r0 r1 r2 f B h _ha _ht
  go_enter Try.func10, Try.ntmps10
  go_wp2_with fail
  rw [← hW]
  refine X.mono ?_
  clear X hW x0 x1 x2 x3 x4 x5 x6 x7 x8 x9 x10 x11 x12
  rintro e w1 ⟨rfl, B1, f1⟩
  have hv : OI w.heap.size w1 (.slice none 0 0) [] := ⟨rfl, Or.inl ⟨rfl, rfl⟩⟩
  obtain ⟨r0, r1, r2⟩ := HR.out w1 f1
  have HE : Hid (∀ w2, Fr (Own3 w.heap.size) w1 w2 → _) := fun w2 f2 => do_end B1 HF.out f1 f2 lo.1 hv r1 r2 ⟨_, r0⟩
  have HQ : Hid (Row w1 (w.heap.size + 1) _ _) := r1
  have HQ2 : Hid (Row w1 (w.heap.size + 1 + 1) _ _) := r2
  have u0 := r2.cell 0
  have y0 := r1.cell 0
  have z0 := r1.frozen 0
  have u1 := r2.cell 1
  have y1 := r1.cell 1
  have z1 := r1.frozen 1
  have u2 := r2.cell 2
  have y2 := r1.cell 2
  have z2 := r1.frozen 2
  have u3 := r2.cell 3
  have y3 := r1.cell 3
  have z3 := r1.frozen 3
  have u4 := r2.cell 4
  have y4 := r1.cell 4
  have z4 := r1.frozen 4
  have u5 := r2.cell 5
  have y5 := r1.cell 5
  have z5 := r1.frozen 5
  have u6 := r2.cell 6
  have y6 := r1.cell 6
  have z6 := r1.frozen 6
  have u7 := r2.cell 7
  have y7 := r1.cell 7
  have z7 := r1.frozen 7
  have u8 := r2.cell 8
  have y8 := r1.cell 8
  have z8 := r1.frozen 8
  have u9 := r2.cell 9
  have y9 := r1.cell 9
  have z9 := r1.frozen 9
  have u10 := r2.cell 10
  have y10 := r1.cell 10
  have z10 := r1.frozen 10
  have q2 := r2.frozen 2
  dsimp at u0 y0 u1 y1 u2 y2 u3 y3 u4 y4 u5 y5 u6 y6 u7 y7 u8 y8 u9 y9 u10 y10
  clear B1 f1 hv r0 r1 r2 HR lo
  go_wp2_with fail
  refine bodyPost_ret (ret_an rfl rfl (put11_row (HQ.out.keep (fr_set _ (w.heap.size + 1 + 1) 2 _ (Fr.refl _ _)) (fun e => absurd e (by show ¬ w.heap.size + 1 = w.heap.size + 1 + 1; omega))) _ _ _ _ _ _ _ _ _ _ _) rfl) rfl ?_
  obtain ⟨e1, e2, e3⟩ := HE.out _ (put11_fr ((Fr.refl (Own3 w.heap.size) w1).setCell (p := ⟨w.heap.size + 1 + 1, 2, none⟩) (Or.inr (Or.inr (Or.inr rfl))) _) (Or.inr (Or.inr (Or.inl rfl))) _ _ _ _ _ _ _ _ _ _ _)
  exact ⟨_, rfl, e3, e1, e2⟩

set_option maxRecDepth 100000 in
set_option maxHeartbeats 4000000 in
theorem do_8 {w0 w : World} {b : Nat} {S : Ip} {O : Nat → Prop} (h : Ix w0 w b S O) (a t x : Int) (m : Ms) (c bl : Bool) (_ha : I64 a) (_ht : I64 t) : Calls Try.prog 10 #[pv b, acV ⟨8, a, t, x, m, c, bl⟩] w (DoPost w0 w b S O ⟨8, a, t, x, m, c, bl⟩) := by
  obtain ⟨W, hW, B, r0, r1, r2, f⟩ := do_start h ⟨8, a, t, x, m, c, bl⟩
  have X := xunbind B t
  have lo := ix_low h
  have HR : Hid (∀ w1, FrO w0 (fun k => O k ∨ Own3 w.heap.size k) W w1 → Row w1 w.heap.size (acA ⟨8, a, t, x, m, c, bl⟩) 42 ∧ Row w1 (w.heap.size + 1) #[.int .i64 0, .bool false, .int .i64 0, .int .i64 0, .int .i64 0, .int .i64 0, .int .u32 0, .int .u32 0, .int .u32 0, .int .u32 0, .slice none 0 0] 39 ∧ Row w1 (w.heap.size + 1 + 1) #[.int .i64 0, .bool false, .int .i64 0, .int .i64 0, .int .i64 0, .int .i64 0, .int .u32 0, .int .u32 0, .int .u32 0, .int .u32 0, .slice none 0 0] 39) := fun w1 g => ⟨Row.keep r0 g (fun h => h.2 (Or.inr (Or.inl rfl))), Row.keep r1 g (fun h => h.2 (Or.inr (Or.inr (Or.inl rfl)))), Row.keep r2 g (fun h => h.2 (Or.inr (Or.inr (Or.inr rfl))))⟩
  have HF : Hid (Fr none' w W) := f
  have x1 := r0.cell 1
  have x2 := r0.cell 2
  have x3 := r0.cell 3
  have x4 := r0.cell 4
  have x5 := r0.cell 5
  have x6 := r0.cell 6
  have x7 := r0.cell 7
  have x8 := r0.cell 8
  have x9 := r0.cell 9
  have x10 := r0.cell 10
  have x11 := r0.cell 11
  have x12 := r0.cell 12
  have x0 := r0.cell 0
  dsimp only [acA] at hW x0 x1 x2 x3 x4 x5 x6 x7 x8 x9 x10 x11 x12
  unfold acV
  dsimp only [acA]
  clear r0 r1 r2 f B h _ha _ht
  go_enter Try.func10, Try.ntmps10
  go_wp2_with fail
  rw [← hW]
  refine X.mono ?_
  clear X hW x0 x1 x2 x3 x4 x5 x6 x7 x8 x9 x10 x11 x12
  rintro e w1 ⟨rfl, B1, f1⟩
  have hv : OI w.heap.size w1 (.slice none 0 0) [] := ⟨rfl, Or.inl ⟨rfl, rfl⟩⟩
  obtain ⟨r0, r1, r2⟩ := HR.out w1 f1
  have HE : Hid (∀ w2, Fr (Own3 w.heap.size) w1 w2 → _) := fun w2 f2 => do_end B1 HF.out f1 f2 lo.1 hv r1 r2 ⟨_, r0⟩
  have HQ : Hid (Row w1 (w.heap.size + 1) _ _) := r1
  have HQ2 : Hid (Row w1 (w.heap.size + 1 + 1) _ _) := r2
  have u0 := r2.cell 0
  have y0 := r1.cell 0
  have z0 := r1.frozen 0
  have u1 := r2.cell 1
  have y1 := r1.cell 1
  have z1 := r1.frozen 1
  have u2 := r2.cell 2
  have y2 := r1.cell 2
  have z2 := r1.frozen 2
  have u3 := r2.cell 3
  have y3 := r1.cell 3
  have z3 := r1.frozen 3
  have u4 := r2.cell 4
  have y4 := r1.cell 4
  have z4 := r1.frozen 4
  have u5 := r2.cell 5
  have y5 := r1.cell 5
  have z5 := r1.frozen 5
  have u6 := r2.cell 6
  have y6 := r1.cell 6
  have z6 := r1.frozen 6
  have u7 := r2.cell 7
  have y7 := r1.cell 7
  have z7 := r1.frozen 7
  have u8 := r2.cell 8
  have y8 := r1.cell 8
  have z8 := r1.frozen 8
  have u9 := r2.cell 9
  have y9 := r1.cell 9
  have z9 := r1.frozen 9
  have u10 := r2.cell 10
  have y10 := r1.cell 10
  have z10 := r1.frozen 10
  have q2 := r2.frozen 2
  dsimp at u0 y0 u1 y1 u2 y2 u3 y3 u4 y4 u5 y5 u6 y6 u7 y7 u8 y8 u9 y9 u10 y10
  clear B1 f1 hv r0 r1 r2 HR lo
  go_wp2_with fail
  refine bodyPost_ret (ret_an rfl rfl (put11_row (HQ.out.keep (fr_set _ (w.heap.size + 1 + 1) 2 _ (Fr.refl _ _)) (fun e => absurd e (by show ¬ w.heap.size + 1 = w.heap.size + 1 + 1; omega))) _ _ _ _ _ _ _ _ _ _ _) rfl) rfl ?_
  obtain ⟨e1, e2, e3⟩ := HE.out _ (put11_fr ((Fr.refl (Own3 w.heap.size) w1).setCell (p := ⟨w.heap.size + 1 + 1, 2, none⟩) (Or.inr (Or.inr (Or.inr rfl))) _) (Or.inr (Or.inr (Or.inl rfl))) _ _ _ _ _ _ _ _ _ _ _)
  exact ⟨_, rfl, e3, e1, e2⟩

set_option maxRecDepth 100000 in
set_option maxHeartbeats 4000000 in
theorem do_9 {w0 w : World} {b : Nat} {S : Ip} {O : Nat → Prop} (h : Ix w0 w b S O) (a t x : Int) (m : Ms) (c bl : Bool) (_ha : I64 a) (ht : I64 t) : Calls Try.prog 10 #[pv b, acV ⟨9, a, t, x, m, c, bl⟩] w (DoPost w0 w b S O ⟨9, a, t, x, m, c, bl⟩) := by
  obtain ⟨W, hW, B, r0, r1, r2, f⟩ := do_start h ⟨9, a, t, x, m, c, bl⟩
  have X := xcancel B t ht
  have lo := ix_low h
  have HR : Hid (∀ w1, FrO w0 (fun k => O k ∨ Own3 w.heap.size k) W w1 → Row w1 w.heap.size (acA ⟨9, a, t, x, m, c, bl⟩) 42 ∧ Row w1 (w.heap.size + 1) #[.int .i64 0, .bool false, .int .i64 0, .int .i64 0, .int .i64 0, .int .i64 0, .int .u32 0, .int .u32 0, .int .u32 0, .int .u32 0, .slice none 0 0] 39 ∧ Row w1 (w.heap.size + 1 + 1) #[.int .i64 0, .bool false, .int .i64 0, .int .i64 0, .int .i64 0, .int .i64 0, .int .u32 0, .int .u32 0, .int .u32 0, .int .u32 0, .slice none 0 0] 39) := fun w1 g => ⟨Row.keep r0 g (fun h => h.2 (Or.inr (Or.inl rfl))), Row.keep r1 g (fun h => h.2 (Or.inr (Or.inr (Or.inl rfl)))), Row.keep r2 g (fun h => h.2 (Or.inr (Or.inr (Or.inr rfl))))⟩
  have HF : Hid (Fr none' w W) := f
  have x1 := r0.cell 1
  have x2 := r0.cell 2
  have x3 := r0.cell 3
  have x4 := r0.cell 4
  have x5 := r0.cell 5
  have x6 := r0.cell 6
  have x7 := r0.cell 7
  have x8 := r0.cell 8
  have x9 := r0.cell 9
  have x10 := r0.cell 10
  have x11 := r0.cell 11
  have x12 := r0.cell 12
  have x0 := r0.cell 0
  dsimp only [acA] at hW x0 x1 x2 x3 x4 x5 x6 x7 x8 x9 x10 x11 x12
  unfold acV
  dsimp only [acA]
  clear r0 r1 r2 f B h _ha ht
  go_enter Try.func10, Try.ntmps10
  go_wp2_with fail
  rw [← hW]
  refine X.mono ?_
  clear X hW x0 x1 x2 x3 x4 x5 x6 x7 x8 x9 x10 x11 x12
  rintro e w1 ⟨rfl, B1, f1⟩
  have hv : OI w.heap.size w1 (.slice none 0 0) [] := ⟨rfl, Or.inl ⟨rfl, rfl⟩⟩
  obtain ⟨r0, r1, r2⟩ := HR.out w1 f1
  have HE : Hid (∀ w2, Fr (Own3 w.heap.size) w1 w2 → _) := fun w2 f2 => do_end B1 HF.out f1 f2 lo.1 hv r1 r2 ⟨_, r0⟩
  have HQ : Hid (Row w1 (w.heap.size + 1) _ _) := r1
  have HQ2 : Hid (Row w1 (w.heap.size + 1 + 1) _ _) := r2
  have u0 := r2.cell 0
  have y0 := r1.cell 0
  have z0 := r1.frozen 0
  have u1 := r2.cell 1
  have y1 := r1.cell 1
  have z1 := r1.frozen 1
  have u2 := r2.cell 2
  have y2 := r1.cell 2
  have z2 := r1.frozen 2
  have u3 := r2.cell 3
  have y3 := r1.cell 3
  have z3 := r1.frozen 3
  have u4 := r2.cell 4
  have y4 := r1.cell 4
  have z4 := r1.frozen 4
  have u5 := r2.cell 5
  have y5 := r1.cell 5
  have z5 := r1.frozen 5
  have u6 := r2.cell 6
  have y6 := r1.cell 6
  have z6 := r1.frozen 6
  have u7 := r2.cell 7
  have y7 := r1.cell 7
  have z7 := r1.frozen 7
  have u8 := r2.cell 8
  have y8 := r1.cell 8
  have z8 := r1.frozen 8
  have u9 := r2.cell 9
  have y9 := r1.cell 9
  have z9 := r1.frozen 9
  have u10 := r2.cell 10
  have y10 := r1.cell 10
  have z10 := r1.frozen 10
  have q1 := r2.frozen 1
  dsimp at u0 y0 u1 y1 u2 y2 u3 y3 u4 y4 u5 y5 u6 y6 u7 y7 u8 y8 u9 y9 u10 y10
  clear B1 f1 hv r0 r1 r2 HR lo
  go_wp2_with fail
  refine bodyPost_ret (ret_an rfl rfl (put11_row (HQ.out.keep (fr_set _ (w.heap.size + 1 + 1) 1 _ (Fr.refl _ _)) (fun e => absurd e (by show ¬ w.heap.size + 1 = w.heap.size + 1 + 1; omega))) _ _ _ _ _ _ _ _ _ _ _) rfl) rfl ?_
  obtain ⟨e1, e2, e3⟩ := HE.out _ (put11_fr ((Fr.refl (Own3 w.heap.size) w1).setCell (p := ⟨w.heap.size + 1 + 1, 1, none⟩) (Or.inr (Or.inr (Or.inr rfl))) _) (Or.inr (Or.inr (Or.inl rfl))) _ _ _ _ _ _ _ _ _ _ _)
  exact ⟨_, rfl, e3, e1, e2⟩

set_option maxRecDepth 100000 in
set_option maxHeartbeats 4000000 in
theorem do_10 {w0 w : World} {b : Nat} {S : Ip} {O : Nat → Prop} (h : Ix w0 w b S O) (a t x : Int) (m : Ms) (c bl : Bool) (ha : I64 a) (_ht : I64 t) : Calls Try.prog 10 #[pv b, acV ⟨10, a, t, x, m, c, bl⟩] w (DoPost w0 w b S O ⟨10, a, t, x, m, c, bl⟩) := by
  obtain ⟨W, hW, B, r0, r1, r2, f⟩ := do_start h ⟨10, a, t, x, m, c, bl⟩
  have X := xall B a ha
  have lo := ix_low h
  have HR : Hid (∀ w1, FrO w0 (fun k => O k ∨ Own3 w.heap.size k) W w1 → Row w1 w.heap.size (acA ⟨10, a, t, x, m, c, bl⟩) 42 ∧ Row w1 (w.heap.size + 1) #[.int .i64 0, .bool false, .int .i64 0, .int .i64 0, .int .i64 0, .int .i64 0, .int .u32 0, .int .u32 0, .int .u32 0, .int .u32 0, .slice none 0 0] 39 ∧ Row w1 (w.heap.size + 1 + 1) #[.int .i64 0, .bool false, .int .i64 0, .int .i64 0, .int .i64 0, .int .i64 0, .int .u32 0, .int .u32 0, .int .u32 0, .int .u32 0, .slice none 0 0] 39) := fun w1 g => ⟨Row.keep r0 g (fun h => h.2 (Or.inr (Or.inl rfl))), Row.keep r1 g (fun h => h.2 (Or.inr (Or.inr (Or.inl rfl)))), Row.keep r2 g (fun h => h.2 (Or.inr (Or.inr (Or.inr rfl))))⟩
  have HF : Hid (Fr none' w W) := f
  have x1 := r0.cell 1
  have x2 := r0.cell 2
  have x3 := r0.cell 3
  have x4 := r0.cell 4
  have x5 := r0.cell 5
  have x6 := r0.cell 6
  have x7 := r0.cell 7
  have x8 := r0.cell 8
  have x9 := r0.cell 9
  have x10 := r0.cell 10
  have x11 := r0.cell 11
  have x12 := r0.cell 12
  have x0 := r0.cell 0
  dsimp only [acA] at hW x0 x1 x2 x3 x4 x5 x6 x7 x8 x9 x10 x11 x12
  unfold acV
  dsimp only [acA]
  clear r0 r1 r2 f B h ha _ht
  go_enter Try.func10, Try.ntmps10
  go_wp2_with fail
  rw [← hW]
  refine X.mono ?_
  clear X hW x0 x1 x2 x3 x4 x5 x6 x7 x8 x9 x10 x11 x12
  rintro e w1 ⟨v, rfl, hv0, B1, f1⟩
  have hv := hv0.low HF.out.size
  obtain ⟨va, vn, vc, rfl⟩ := oi_shape hv
  clear hv0
  obtain ⟨r0, r1, r2⟩ := HR.out w1 f1
  have HE : Hid (∀ w2, Fr (Own3 w.heap.size) w1 w2 → _) := fun w2 f2 => do_end B1 HF.out f1 f2 lo.1 hv r1 r2 ⟨_, r0⟩
  have HQ : Hid (Row w1 (w.heap.size + 1) _ _) := r1
  have HQ2 : Hid (Row w1 (w.heap.size + 1 + 1) _ _) := r2
  have u0 := r2.cell 0
  have y0 := r1.cell 0
  have z0 := r1.frozen 0
  have u1 := r2.cell 1
  have y1 := r1.cell 1
  have z1 := r1.frozen 1
  have u2 := r2.cell 2
  have y2 := r1.cell 2
  have z2 := r1.frozen 2
  have u3 := r2.cell 3
  have y3 := r1.cell 3
  have z3 := r1.frozen 3
  have u4 := r2.cell 4
  have y4 := r1.cell 4
  have z4 := r1.frozen 4
  have u5 := r2.cell 5
  have y5 := r1.cell 5
  have z5 := r1.frozen 5
  have u6 := r2.cell 6
  have y6 := r1.cell 6
  have z6 := r1.frozen 6
  have u7 := r2.cell 7
  have y7 := r1.cell 7
  have z7 := r1.frozen 7
  have u8 := r2.cell 8
  have y8 := r1.cell 8
  have z8 := r1.frozen 8
  have u9 := r2.cell 9
  have y9 := r1.cell 9
  have z9 := r1.frozen 9
  have u10 := r2.cell 10
  have y10 := r1.cell 10
  have z10 := r1.frozen 10
  have q10 := r2.frozen 10
  dsimp at u0 y0 u1 y1 u2 y2 u3 y3 u4 y4 u5 y5 u6 y6 u7 y7 u8 y8 u9 y9 u10 y10
  clear B1 f1 hv r0 r1 r2 HR lo
  go_wp2_with fail
  refine bodyPost_ret (ret_an rfl rfl (put11_row (HQ.out.keep (fr_set _ (w.heap.size + 1 + 1) 10 _ (Fr.refl _ _)) (fun e => absurd e (by show ¬ w.heap.size + 1 = w.heap.size + 1 + 1; omega))) _ _ _ _ _ _ _ _ _ _ _) rfl) rfl ?_
  obtain ⟨e1, e2, e3⟩ := HE.out _ (put11_fr ((Fr.refl (Own3 w.heap.size) w1).setCell (p := ⟨w.heap.size + 1 + 1, 10, none⟩) (Or.inr (Or.inr (Or.inr rfl))) _) (Or.inr (Or.inr (Or.inl rfl))) _ _ _ _ _ _ _ _ _ _ _)
  exact ⟨_, rfl, e3, e1, e2⟩

set_option maxRecDepth 100000 in
set_option maxHeartbeats 4000000 in
theorem do_11 {w0 w : World} {b : Nat} {S : Ip} {O : Nat → Prop} (h : Ix w0 w b S O) (a t x : Int) (m : Ms) (c bl : Bool) (ha : I64 a) (_ht : I64 t) : Calls Try.prog 10 #[pv b, acV ⟨11, a, t, x, m, c, bl⟩] w (DoPost w0 w b S O ⟨11, a, t, x, m, c, bl⟩) := by
  obtain ⟨W, hW, B, r0, r1, r2, f⟩ := do_start h ⟨11, a, t, x, m, c, bl⟩
  have X := xbad B a x ha
  have lo := ix_low h
  have HR : Hid (∀ w1, FrO w0 (fun k => O k ∨ Own3 w.heap.size k) W w1 → Row w1 w.heap.size (acA ⟨11, a, t, x, m, c, bl⟩) 42 ∧ Row w1 (w.heap.size + 1) #[.int .i64 0, .bool false, .int .i64 0, .int .i64 0, .int .i64 0, .int .i64 0, .int .u32 0, .int .u32 0, .int .u32 0, .int .u32 0, .slice none 0 0] 39 ∧ Row w1 (w.heap.size + 1 + 1) #[.int .i64 0, .bool false, .int .i64 0, .int .i64 0, .int .i64 0, .int .i64 0, .int .u32 0, .int .u32 0, .int .u32 0, .int .u32 0, .slice none 0 0] 39) := fun w1 g => ⟨Row.keep r0 g (fun h => h.2 (Or.inr (Or.inl rfl))), Row.keep r1 g (fun h => h.2 (Or.inr (Or.inr (Or.inl rfl)))), Row.keep r2 g (fun h => h.2 (Or.inr (Or.inr (Or.inr rfl))))⟩
  have HF : Hid (Fr none' w W) := f
  have x1 := r0.cell 1
  have x2 := r0.cell 2
  have x3 := r0.cell 3
  have x4 := r0.cell 4
  have x5 := r0.cell 5
  have x6 := r0.cell 6
  have x7 := r0.cell 7
  have x8 := r0.cell 8
  have x9 := r0.cell 9
  have x10 := r0.cell 10
  have x11 := r0.cell 11
  have x12 := r0.cell 12
  have x0 := r0.cell 0
  dsimp only [acA] at hW x0 x1 x2 x3 x4 x5 x6 x7 x8 x9 x10 x11 x12
  unfold acV
  dsimp only [acA]
  clear r0 r1 r2 f B h ha _ht
  go_enter Try.func10, Try.ntmps10
  go_wp2_with fail
  rw [← hW]
  refine X.mono ?_
  clear X hW x0 x1 x2 x3 x4 x5 x6 x7 x8 x9 x10 x11 x12
  rintro e w1 ⟨v, rfl, hv0, B1, f1⟩
  have hv := hv0.low HF.out.size
  obtain ⟨va, vn, vc, rfl⟩ := oi_shape hv
  clear hv0
  obtain ⟨r0, r1, r2⟩ := HR.out w1 f1
  have HE : Hid (∀ w2, Fr (Own3 w.heap.size) w1 w2 → _) := fun w2 f2 => do_end B1 HF.out f1 f2 lo.1 hv r1 r2 ⟨_, r0⟩
  have HQ : Hid (Row w1 (w.heap.size + 1) _ _) := r1
  have HQ2 : Hid (Row w1 (w.heap.size + 1 + 1) _ _) := r2
  have u0 := r2.cell 0
  have y0 := r1.cell 0
  have z0 := r1.frozen 0
  have u1 := r2.cell 1
  have y1 := r1.cell 1
  have z1 := r1.frozen 1
  have u2 := r2.cell 2
  have y2 := r1.cell 2
  have z2 := r1.frozen 2
  have u3 := r2.cell 3
  have y3 := r1.cell 3
  have z3 := r1.frozen 3
  have u4 := r2.cell 4
  have y4 := r1.cell 4
  have z4 := r1.frozen 4
  have u5 := r2.cell 5
  have y5 := r1.cell 5
  have z5 := r1.frozen 5
  have u6 := r2.cell 6
  have y6 := r1.cell 6
  have z6 := r1.frozen 6
  have u7 := r2.cell 7
  have y7 := r1.cell 7
  have z7 := r1.frozen 7
  have u8 := r2.cell 8
  have y8 := r1.cell 8
  have z8 := r1.frozen 8
  have u9 := r2.cell 9
  have y9 := r1.cell 9
  have z9 := r1.frozen 9
  have u10 := r2.cell 10
  have y10 := r1.cell 10
  have z10 := r1.frozen 10
  have q10 := r2.frozen 10
  dsimp at u0 y0 u1 y1 u2 y2 u3 y3 u4 y4 u5 y5 u6 y6 u7 y7 u8 y8 u9 y9 u10 y10
  clear B1 f1 hv r0 r1 r2 HR lo
  go_wp2_with fail
  refine bodyPost_ret (ret_an rfl rfl (put11_row (HQ.out.keep (fr_set _ (w.heap.size + 1 + 1) 10 _ (Fr.refl _ _)) (fun e => absurd e (by show ¬ w.heap.size + 1 = w.heap.size + 1 + 1; omega))) _ _ _ _ _ _ _ _ _ _ _) rfl) rfl ?_
  obtain ⟨e1, e2, e3⟩ := HE.out _ (put11_fr ((Fr.refl (Own3 w.heap.size) w1).setCell (p := ⟨w.heap.size + 1 + 1, 10, none⟩) (Or.inr (Or.inr (Or.inr rfl))) _) (Or.inr (Or.inr (Or.inl rfl))) _ _ _ _ _ _ _ _ _ _ _)
  exact ⟨_, rfl, e3, e1, e2⟩

set_option maxRecDepth 100000 in
set_option maxHeartbeats 4000000 in
theorem do_12 {w0 w : World} {b : Nat} {S : Ip} {O : Nat → Prop} (h : Ix w0 w b S O) (a t x : Int) (m : Ms) (c bl : Bool) (_ha : I64 a) (ht : I64 t) : Calls Try.prog 10 #[pv b, acV ⟨12, a, t, x, m, c, bl⟩] w (DoPost w0 w b S O ⟨12, a, t, x, m, c, bl⟩) := by
  obtain ⟨W, hW, B, r0, r1, r2, f⟩ := do_start h ⟨12, a, t, x, m, c, bl⟩
  have X := xinbox B t ht
  have lo := ix_low h
  have HR : Hid (∀ w1, FrO w0 (fun k => O k ∨ Own3 w.heap.size k) W w1 → Row w1 w.heap.size (acA ⟨12, a, t, x, m, c, bl⟩) 42 ∧ Row w1 (w.heap.size + 1) #[.int .i64 0, .bool false, .int .i64 0, .int .i64 0, .int .i64 0, .int .i64 0, .int .u32 0, .int .u32 0, .int .u32 0, .int .u32 0, .slice none 0 0] 39 ∧ Row w1 (w.heap.size + 1 + 1) #[.int .i64 0, .bool false, .int .i64 0, .int .i64 0, .int .i64 0, .int .i64 0, .int .u32 0, .int .u32 0, .int .u32 0, .int .u32 0, .slice none 0 0] 39) := fun w1 g => ⟨Row.keep r0 g (fun h => h.2 (Or.inr (Or.inl rfl))), Row.keep r1 g (fun h => h.2 (Or.inr (Or.inr (Or.inl rfl)))), Row.keep r2 g (fun h => h.2 (Or.inr (Or.inr (Or.inr rfl))))⟩
  have HF : Hid (Fr none' w W) := f
  have x1 := r0.cell 1
  have x2 := r0.cell 2
  have x3 := r0.cell 3
  have x4 := r0.cell 4
  have x5 := r0.cell 5
  have x6 := r0.cell 6
  have x7 := r0.cell 7
  have x8 := r0.cell 8
  have x9 := r0.cell 9
  have x10 := r0.cell 10
  have x11 := r0.cell 11
  have x12 := r0.cell 12
  have x0 := r0.cell 0
  dsimp only [acA] at hW x0 x1 x2 x3 x4 x5 x6 x7 x8 x9 x10 x11 x12
  unfold acV
  dsimp only [acA]
  clear r0 r1 r2 f B h _ha ht
  go_enter Try.func10, Try.ntmps10
  go_wp2_with fail
  rw [← hW]
  refine X.mono ?_
  clear X hW x0 x1 x2 x3 x4 x5 x6 x7 x8 x9 x10 x11 x12
  rintro e w1 ⟨rfl, B1, f1⟩
  have hv : OI w.heap.size w1 (.slice none 0 0) [] := ⟨rfl, Or.inl ⟨rfl, rfl⟩⟩
  obtain ⟨r0, r1, r2⟩ := HR.out w1 f1
  have HE : Hid (∀ w2, Fr (Own3 w.heap.size) w1 w2 → _) := fun w2 f2 => do_end B1 HF.out f1 f2 lo.1 hv r1 r2 ⟨_, r0⟩
  have HQ : Hid (Row w1 (w.heap.size + 1) _ _) := r1
  have HQ2 : Hid (Row w1 (w.heap.size + 1 + 1) _ _) := r2
  have u0 := r2.cell 0
  have y0 := r1.cell 0
  have z0 := r1.frozen 0
  have u1 := r2.cell 1
  have y1 := r1.cell 1
  have z1 := r1.frozen 1
  have u2 := r2.cell 2
  have y2 := r1.cell 2
  have z2 := r1.frozen 2
  have u3 := r2.cell 3
  have y3 := r1.cell 3
  have z3 := r1.frozen 3
  have u4 := r2.cell 4
  have y4 := r1.cell 4
  have z4 := r1.frozen 4
  have u5 := r2.cell 5
  have y5 := r1.cell 5
  have z5 := r1.frozen 5
  have u6 := r2.cell 6
  have y6 := r1.cell 6
  have z6 := r1.frozen 6
  have u7 := r2.cell 7
  have y7 := r1.cell 7
  have z7 := r1.frozen 7
  have u8 := r2.cell 8
  have y8 := r1.cell 8
  have z8 := r1.frozen 8
  have u9 := r2.cell 9
  have y9 := r1.cell 9
  have z9 := r1.frozen 9
  have u10 := r2.cell 10
  have y10 := r1.cell 10
  have z10 := r1.frozen 10
  have q3 := r2.frozen 3
  have q4 := r2.frozen 4
  have q5 := r2.frozen 5
  have q6 := r2.frozen 6
  have q7 := r2.frozen 7
  have q8 := r2.frozen 8
  have q9 := r2.frozen 9
  have q1 := r2.frozen 1
  dsimp at u0 y0 u1 y1 u2 y2 u3 y3 u4 y4 u5 y5 u6 y6 u7 y7 u8 y8 u9 y9 u10 y10
  have hl1 := r1.lt
  have hl2 := r2.lt
  clear B1 f1 hv r0 r1 r2 HR lo
  go_wp2_with fail
  refine bodyPost_ret (ret_an rfl rfl ((put11_row ((((((((HQ.out.keep (fr_set _ (w.heap.size + 1 + 1) 3 _ (Fr.refl _ _)) (fun e => absurd e (by show ¬ w.heap.size + 1 = w.heap.size + 1 + 1; omega))).keep (fr_set _ (w.heap.size + 1 + 1) 4 _ (Fr.refl _ _)) (fun e => absurd e (by show ¬ w.heap.size + 1 = w.heap.size + 1 + 1; omega))).keep (fr_set _ (w.heap.size + 1 + 1) 5 _ (Fr.refl _ _)) (fun e => absurd e (by show ¬ w.heap.size + 1 = w.heap.size + 1 + 1; omega))).keep (fr_set _ (w.heap.size + 1 + 1) 6 _ (Fr.refl _ _)) (fun e => absurd e (by show ¬ w.heap.size + 1 = w.heap.size + 1 + 1; omega))).keep (fr_set _ (w.heap.size + 1 + 1) 7 _ (Fr.refl _ _)) (fun e => absurd e (by show ¬ w.heap.size + 1 = w.heap.size + 1 + 1; omega))).keep (fr_set _ (w.heap.size + 1 + 1) 8 _ (Fr.refl _ _)) (fun e => absurd e (by show ¬ w.heap.size + 1 = w.heap.size + 1 + 1; omega))).keep (fr_set _ (w.heap.size + 1 + 1) 9 _ (Fr.refl _ _)) (fun e => absurd e (by show ¬ w.heap.size + 1 = w.heap.size + 1 + 1; omega))).keep (fr_set _ (w.heap.size + 1 + 1) 1 _ (Fr.refl _ _)) (fun e => absurd e (by show ¬ w.heap.size + 1 = w.heap.size + 1 + 1; omega))) _ _ _ _ _ _ _ _ _ _ _).alloc _) rfl) rfl ?_
  obtain ⟨e1, e2, e3⟩ := HE.out _ ((put11_fr (((((((((Fr.refl (Own3 w.heap.size) w1).setCell (p := ⟨w.heap.size + 1 + 1, 3, none⟩) (Or.inr (Or.inr (Or.inr rfl))) _).setCell (p := ⟨w.heap.size + 1 + 1, 4, none⟩) (Or.inr (Or.inr (Or.inr rfl))) _).setCell (p := ⟨w.heap.size + 1 + 1, 5, none⟩) (Or.inr (Or.inr (Or.inr rfl))) _).setCell (p := ⟨w.heap.size + 1 + 1, 6, none⟩) (Or.inr (Or.inr (Or.inr rfl))) _).setCell (p := ⟨w.heap.size + 1 + 1, 7, none⟩) (Or.inr (Or.inr (Or.inr rfl))) _).setCell (p := ⟨w.heap.size + 1 + 1, 8, none⟩) (Or.inr (Or.inr (Or.inr rfl))) _).setCell (p := ⟨w.heap.size + 1 + 1, 9, none⟩) (Or.inr (Or.inr (Or.inr rfl))) _).setCell (p := ⟨w.heap.size + 1 + 1, 1, none⟩) (Or.inr (Or.inr (Or.inr rfl))) _) (Or.inr (Or.inr (Or.inl rfl))) _ _ _ _ _ _ _ _ _ _ _).alloc _)
  exact ⟨_, rfl, e3, e1, e2⟩

theorem none_of {A : Ac} (h : ¬ (1 ≤ A.d ∧ A.d ≤ 12)) (S : Ip) : doesS S A = S ∧ doesN S A = 0 ∧ doesG S A = false ∧ doesE S A = 0 ∧ doesM S A = M0 ∧ doesL S A = [] := by
  obtain ⟨d, a, t, x, m, c, bl⟩ := A
  have h : ¬ (1 ≤ d ∧ d ≤ 12) := h
  have n : ∀ k : Int, 1 ≤ k → k ≤ 12 → d ≠ k := fun k h1 h2 e => h (by omega)
  refine ⟨?_, ?_, ?_, ?_, ?_, ?_⟩ <;> simp only [doesS, doesN, doesG, doesE, doesM, doesL, n 1 (by omega) (by omega), n 2 (by omega) (by omega), n 3 (by omega) (by omega), n 4 (by omega) (by omega), n 5 (by omega) (by omega), n 6 (by omega) (by omega), n 7 (by omega) (by omega), n 8 (by omega) (by omega), n 9 (by omega) (by omega), n 10 (by omega) (by omega), n 11 (by omega) (by omega), n 12 (by omega) (by omega), if_false]

end Go.Proofs.Ytjobdfkfongjaaa
