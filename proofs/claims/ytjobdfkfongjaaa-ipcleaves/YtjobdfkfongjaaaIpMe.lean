/-
  viceroylaw16.means at whatever act. No statement is proved here.
-/
import Derived.Test.YtjobdfkfongjaaaIpDoesA
import Derived.Test.YtjobdfkfongjaaaIpDd
/- IpMeans -/
namespace Go.Proofs.Ytjobdfkfongjaaa
open Go.RowKit Go.Maps Go.WideMaps Go.Shelf

/-- What an act leaves and tells, by the document. -/
def meanS (D : Dc) (A : Ac) : Dc :=
  if A.d = 1 then dSenS D A.a A.t A.m A.c A.bl else if A.d = 2 then dRecS D A.a A.t A.bl else if A.d = 3 then dRepS D A.t A.m else if A.d = 4 then dForS D A.t else if A.d = 5 then dSigS D A.a A.x else if A.d = 6 then dWatS D A.a A.t A.bl
  else if A.d = 7 then dBinS D A.a A.t else if A.d = 8 then dUnbS D A.t else if A.d = 9 then dCanS D A.t else if A.d = 10 then dCalS D A.a else if A.d = 11 then dCbaS D A.a A.x else if A.d = 12 then { D with X := D.X.filter (fun y => y.1 != A.t) } else D
def meanN (D : Dc) (A : Ac) : Int := if A.d = 1 then dSenN D A.a A.t A.m else if A.d = 2 then dRecN D A.a A.t else if A.d = 3 then dRepN D A.t A.m else if A.d = 4 then witI D.C A.t else if A.d = 5 then dSigN D A.a A.x else 0
def meanG (D : Dc) (A : Ac) : Bool := if A.d = 2 then dRecG D A.a A.t else if A.d = 6 then dWatG D A.a A.t else if A.d = 9 then dCanB D A.t else if A.d = 12 then boxB D.X A.t else false
def meanE (D : Dc) (A : Ac) : Int := if A.d = 1 then dSenE D A.a A.t A.m else if A.d = 2 then dRecE D A.a A.t else if A.d = 3 then dRepE D A.t A.m else if A.d = 5 then sigE A.a A.x else if A.d = 6 then dWatE D A.a A.t else if A.d = 7 then dBinE D A.a A.t else if A.d = 8 then dUnbE D A.t else 0
def meanM (D : Dc) (A : Ac) : Ms := if A.d = 12 then boxM D.X A.t else M0
def meanL (D : Dc) (A : Ac) : List Int := if A.d = 10 then dWai D A.a else if A.d = 11 then dCbaL D A.a A.x else []
/-- What every call of the document wants. -/
structure Fit (D : Dc) : Prop where
  l : D.L.length ≤ 100000
  c : D.C.length ≤ 100000
  b : D.B.length ≤ 100000
  g : D.G.length ≤ 100000
  x : D.X.length ≤ 100000
  nd : (D.L.map (·.t)).Nodup
  w : ∀ t, 0 ≤ witI D.C t → (D.L.find? (atP (witI D.C t))).isSome = true
def MeanPost (w : World) (q : Db) (D : Dc) (A : Ac) (e : Ending) (w' : World) : Prop := ∃ v q', e = .returned (.agg (anA (meanN D A) (meanG D A) (meanE D A) (meanM D A) v)) ∧ OI w.heap.size w' v (meanL D A) ∧ ChgD w q w' q' (meanS D A)

theorem mean_start {w : World} {q : Db} {D : Dc} (h : IsD w q D) (A : Ac) :
    ∃ W : World, W = ((w.alloc (.cells (acA A) 42)).alloc (.cells #[.int .i64 0, .bool false, .int .i64 0, .int .i64 0, .int .i64 0, .int .i64 0, .int .u32 0, .int .u32 0, .int .u32 0, .int .u32 0, .slice none 0 0] 39)).alloc (.cells #[.int .i64 0, .bool false, .int .i64 0, .int .i64 0, .int .i64 0, .int .i64 0, .int .u32 0, .int .u32 0, .int .u32 0, .int .u32 0, .slice none 0 0] 39) ∧ IsD W q D ∧ Row W w.heap.size (acA A) 42 ∧ Row W (w.heap.size + 1) #[.int .i64 0, .bool false, .int .i64 0, .int .i64 0, .int .i64 0, .int .i64 0, .int .u32 0, .int .u32 0, .int .u32 0, .int .u32 0, .slice none 0 0] 39 ∧ Row W (w.heap.size + 1 + 1) #[.int .i64 0, .bool false, .int .i64 0, .int .i64 0, .int .i64 0, .int .i64 0, .int .u32 0, .int .u32 0, .int .u32 0, .int .u32 0, .slice none 0 0] 39 ∧ Fr none' w W ∧ W.heap.size = w.heap.size + 1 + 1 + 1 ∧ ∀ k, q.s k → ¬ Own3 w.heap.size k := by
  have f := (((Fr.refl none' w).alloc (.cells (acA A) 42)).alloc (.cells #[.int .i64 0, .bool false, .int .i64 0, .int .i64 0, .int .i64 0, .int .i64 0, .int .u32 0, .int .u32 0, .int .u32 0, .int .u32 0, .slice none 0 0] 39)).alloc (.cells #[.int .i64 0, .bool false, .int .i64 0, .int .i64 0, .int .i64 0, .int .i64 0, .int .u32 0, .int .u32 0, .int .u32 0, .int .u32 0, .slice none 0 0] 39)
  have q0 := row_alloc w (acA A) 42
  have q1 := row_alloc1 w (.cells (acA A) 42) #[.int .i64 0, .bool false, .int .i64 0, .int .i64 0, .int .i64 0, .int .i64 0, .int .u32 0, .int .u32 0, .int .u32 0, .int .u32 0, .slice none 0 0] 39
  have q2 := row_alloc1 (w.alloc (.cells (acA A) 42)) (.cells #[.int .i64 0, .bool false, .int .i64 0, .int .i64 0, .int .i64 0, .int .i64 0, .int .u32 0, .int .u32 0, .int .u32 0, .int .u32 0, .slice none 0 0] 39) #[.int .i64 0, .bool false, .int .i64 0, .int .i64 0, .int .i64 0, .int .i64 0, .int .u32 0, .int .u32 0, .int .u32 0, .int .u32 0, .slice none 0 0] 39
  simp only [World.size_alloc] at q2
  refine ⟨_, rfl, h.keep0 f, (q0.alloc _).alloc _, q1.alloc _, q2, f, by simp only [World.size_alloc], fun k hk e => ?_⟩
  have := h.lt k hk
  unfold Own3 at e
  omega
theorem mean_end {w W w1 w2 : World} {q q' : Db} {D D' : Dc} (h : IsD w q D) (f : Fr none' w W) (hs : W.heap.size = w.heap.size + 1 + 1 + 1) (C : ChgD W q w1 q' D') (f2 : Fr (Own3 w.heap.size) w1 w2) {v : Value} {l : List Int} (hv : OI w.heap.size w1 v l) (r1 : Row w1 (w.heap.size + 1) #[.int .i64 0, .bool false, .int .i64 0, .int .i64 0, .int .i64 0, .int .i64 0, .int .u32 0, .int .u32 0, .int .u32 0, .int .u32 0, .slice none 0 0] 39) (r2 : Row w1 (w.heap.size + 1 + 1) #[.int .i64 0, .bool false, .int .i64 0, .int .i64 0, .int .i64 0, .int .i64 0, .int .u32 0, .int .u32 0, .int .u32 0, .int .u32 0, .slice none 0 0] 39) (r0 : ∃ cs, Row w1 w.heap.size cs 42) : ChgD w q w2 q' D' ∧ OI w.heap.size w2 v l := by
  refine ⟨(ChgD.before f h C).high f2 (fun k hk => by unfold Own3 at hk; omega) (fun k hk e => ?_), ownsRow_at hv (fun q hq hl => f2.block q hl (fun e => ?_))⟩
  · rcases C.new k hk with h1 | h1
    · have := h.lt k h1
      unfold Own3 at e
      omega
    · unfold Own3 at e
      omega
  · obtain ⟨_, cur, r⟩ := own_rowB hv hq
    obtain ⟨cs, r0⟩ := r0
    rcases e with rfl | rfl | rfl
    · exact absurd (row_ty r r0).1 (by decide)
    · exact absurd (row_ty r r1).1 (by decide)
    · exact absurd (row_ty r r2).1 (by decide)

set_option maxRecDepth 100000 in
set_option maxHeartbeats 4000000 in
theorem mean_1 {w : World} {q : Db} {D : Dc} (h : IsD w q D) (ft : Fit D) (a t x : Int) (m : Ms) (c bl : Bool) : Calls Try.prog 11 #[pv q.b, acV ⟨1, a, t, x, m, c, bl⟩] w (MeanPost w q D ⟨1, a, t, x, m, c, bl⟩) := by
  obtain ⟨W, hW, B, r0, r1, r2, f, hsz, hno⟩ := mean_start h ⟨1, a, t, x, m, c, bl⟩
  have X := dsend_any W q D B ft.l ft.c ft.x a t m c bl
  have HR : Hid (∀ w1, Fr q.s W w1 → Row w1 w.heap.size (acA ⟨1, a, t, x, m, c, bl⟩) 42 ∧ Row w1 (w.heap.size + 1) #[.int .i64 0, .bool false, .int .i64 0, .int .i64 0, .int .i64 0, .int .i64 0, .int .u32 0, .int .u32 0, .int .u32 0, .int .u32 0, .slice none 0 0] 39 ∧ Row w1 (w.heap.size + 1 + 1) #[.int .i64 0, .bool false, .int .i64 0, .int .i64 0, .int .i64 0, .int .i64 0, .int .u32 0, .int .u32 0, .int .u32 0, .int .u32 0, .slice none 0 0] 39) := fun w1 g => ⟨Row.keep r0 g (fun h => hno _ h (Or.inl rfl)), Row.keep r1 g (fun h => hno _ h (Or.inr (Or.inl rfl))), Row.keep r2 g (fun h => hno _ h (Or.inr (Or.inr rfl)))⟩
  have HF : Hid (Fr none' w W ∧ IsD w q D ∧ W.heap.size = w.heap.size + 1 + 1 + 1) := ⟨f, h, hsz⟩
  have x1 := r0.cell 1
  have x2 := r0.cell 2
  have x3 := r0.cell 3
  have x4 := r0.cell 4
  have x5 := r0.cell 5
  have x6 := r0.cell 6
  have x7 := r0.cell 7
  have x8 := r0.cell 8
  have x9 := r0.cell 9
  have x10 := r0.cell 10
  have x11 := r0.cell 11
  have x12 := r0.cell 12
  have x0 := r0.cell 0
  dsimp only [acA] at hW x0 x1 x2 x3 x4 x5 x6 x7 x8 x9 x10 x11 x12
  unfold acV
  dsimp only [acA]
  clear r0 r1 r2 f B h hsz hno ft
  go_enter Try.func11, Try.ntmps11
  go_wp2_with fail
  rw [← hW]
  refine X.mono ?_
  clear X hW x0 x1 x2 x3 x4 x5 x6 x7 x8 x9 x10 x11 x12
  rintro e w1 ⟨q', rfl, C1⟩
  have hv : OI w.heap.size w1 (.slice none 0 0) [] := ⟨rfl, Or.inl ⟨rfl, rfl⟩⟩
  obtain ⟨r0, r1, r2⟩ := HR.out w1 C1.fr
  have HE : Hid (∀ w2, Fr (Own3 w.heap.size) w1 w2 → _) := fun w2 f2 => mean_end HF.out.2.1 HF.out.1 HF.out.2.2 C1 f2 hv r1 r2 ⟨_, r0⟩
  have HQ : Hid (Row w1 (w.heap.size + 1) _ _) := r1
  have u0 := r2.cell 0
  have y0 := r1.cell 0
  have z0 := r1.frozen 0
  have u1 := r2.cell 1
  have y1 := r1.cell 1
  have z1 := r1.frozen 1
  have u2 := r2.cell 2
  have y2 := r1.cell 2
  have z2 := r1.frozen 2
  have u3 := r2.cell 3
  have y3 := r1.cell 3
  have z3 := r1.frozen 3
  have u4 := r2.cell 4
  have y4 := r1.cell 4
  have z4 := r1.frozen 4
  have u5 := r2.cell 5
  have y5 := r1.cell 5
  have z5 := r1.frozen 5
  have u6 := r2.cell 6
  have y6 := r1.cell 6
  have z6 := r1.frozen 6
  have u7 := r2.cell 7
  have y7 := r1.cell 7
  have z7 := r1.frozen 7
  have u8 := r2.cell 8
  have y8 := r1.cell 8
  have z8 := r1.frozen 8
  have u9 := r2.cell 9
  have y9 := r1.cell 9
  have z9 := r1.frozen 9
  have u10 := r2.cell 10
  have y10 := r1.cell 10
  have z10 := r1.frozen 10
  have q0 := r2.frozen 0
  have q2 := r2.frozen 2
  dsimp at u0 y0 u1 y1 u2 y2 u3 y3 u4 y4 u5 y5 u6 y6 u7 y7 u8 y8 u9 y9 u10 y10
  clear C1 hv r0 r1 r2 HR
  go_wp2_with fail
  refine bodyPost_ret (ret_an rfl rfl (put11_row ((HQ.out.keep (fr_set _ (w.heap.size + 1 + 1) 0 _ (Fr.refl _ _)) (fun e => absurd e (by show ¬ w.heap.size + 1 = w.heap.size + 1 + 1; omega))).keep (fr_set _ (w.heap.size + 1 + 1) 2 _ (Fr.refl _ _)) (fun e => absurd e (by show ¬ w.heap.size + 1 = w.heap.size + 1 + 1; omega))) _ _ _ _ _ _ _ _ _ _ _) rfl) rfl ?_
  obtain ⟨e1, e2⟩ := HE.out _ (put11_fr (((Fr.refl (Own3 w.heap.size) w1).setCell (p := ⟨w.heap.size + 1 + 1, 0, none⟩) (Or.inr (Or.inr (Or.inr rfl))) _).setCell (p := ⟨w.heap.size + 1 + 1, 2, none⟩) (Or.inr (Or.inr (Or.inr rfl))) _) (Or.inr (Or.inr (Or.inl rfl))) _ _ _ _ _ _ _ _ _ _ _)
  exact ⟨_, q', rfl, e2, e1⟩

set_option maxRecDepth 100000 in
set_option maxHeartbeats 4000000 in
theorem mean_2 {w : World} {q : Db} {D : Dc} (h : IsD w q D) (ft : Fit D) (a t x : Int) (m : Ms) (c bl : Bool) : Calls Try.prog 11 #[pv q.b, acV ⟨2, a, t, x, m, c, bl⟩] w (MeanPost w q D ⟨2, a, t, x, m, c, bl⟩) := by
  obtain ⟨W, hW, B, r0, r1, r2, f, hsz, hno⟩ := mean_start h ⟨2, a, t, x, m, c, bl⟩
  have X := drecv_any W q D B ft.l ft.c ft.b ft.g ft.x a t bl (ft.w t)
  have HR : Hid (∀ w1, Fr q.s W w1 → Row w1 w.heap.size (acA ⟨2, a, t, x, m, c, bl⟩) 42 ∧ Row w1 (w.heap.size + 1) #[.int .i64 0, .bool false, .int .i64 0, .int .i64 0, .int .i64 0, .int .i64 0, .int .u32 0, .int .u32 0, .int .u32 0, .int .u32 0, .slice none 0 0] 39 ∧ Row w1 (w.heap.size + 1 + 1) #[.int .i64 0, .bool false, .int .i64 0, .int .i64 0, .int .i64 0, .int .i64 0, .int .u32 0, .int .u32 0, .int .u32 0, .int .u32 0, .slice none 0 0] 39) := fun w1 g => ⟨Row.keep r0 g (fun h => hno _ h (Or.inl rfl)), Row.keep r1 g (fun h => hno _ h (Or.inr (Or.inl rfl))), Row.keep r2 g (fun h => hno _ h (Or.inr (Or.inr rfl)))⟩
  have HF : Hid (Fr none' w W ∧ IsD w q D ∧ W.heap.size = w.heap.size + 1 + 1 + 1) := ⟨f, h, hsz⟩
  have x1 := r0.cell 1
  have x2 := r0.cell 2
  have x3 := r0.cell 3
  have x4 := r0.cell 4
  have x5 := r0.cell 5
  have x6 := r0.cell 6
  have x7 := r0.cell 7
  have x8 := r0.cell 8
  have x9 := r0.cell 9
  have x10 := r0.cell 10
  have x11 := r0.cell 11
  have x12 := r0.cell 12
  have x0 := r0.cell 0
  dsimp only [acA] at hW x0 x1 x2 x3 x4 x5 x6 x7 x8 x9 x10 x11 x12
  unfold acV
  dsimp only [acA]
  clear r0 r1 r2 f B h hsz hno ft
  go_enter Try.func11, Try.ntmps11
  go_wp2_with fail
  rw [← hW]
  refine X.mono ?_
  clear X hW x0 x1 x2 x3 x4 x5 x6 x7 x8 x9 x10 x11 x12
  rintro e w1 ⟨q', rfl, C1⟩
  have hv : OI w.heap.size w1 (.slice none 0 0) [] := ⟨rfl, Or.inl ⟨rfl, rfl⟩⟩
  obtain ⟨r0, r1, r2⟩ := HR.out w1 C1.fr
  have HE : Hid (∀ w2, Fr (Own3 w.heap.size) w1 w2 → _) := fun w2 f2 => mean_end HF.out.2.1 HF.out.1 HF.out.2.2 C1 f2 hv r1 r2 ⟨_, r0⟩
  have HQ : Hid (Row w1 (w.heap.size + 1) _ _) := r1
  have u0 := r2.cell 0
  have y0 := r1.cell 0
  have z0 := r1.frozen 0
  have u1 := r2.cell 1
  have y1 := r1.cell 1
  have z1 := r1.frozen 1
  have u2 := r2.cell 2
  have y2 := r1.cell 2
  have z2 := r1.frozen 2
  have u3 := r2.cell 3
  have y3 := r1.cell 3
  have z3 := r1.frozen 3
  have u4 := r2.cell 4
  have y4 := r1.cell 4
  have z4 := r1.frozen 4
  have u5 := r2.cell 5
  have y5 := r1.cell 5
  have z5 := r1.frozen 5
  have u6 := r2.cell 6
  have y6 := r1.cell 6
  have z6 := r1.frozen 6
  have u7 := r2.cell 7
  have y7 := r1.cell 7
  have z7 := r1.frozen 7
  have u8 := r2.cell 8
  have y8 := r1.cell 8
  have z8 := r1.frozen 8
  have u9 := r2.cell 9
  have y9 := r1.cell 9
  have z9 := r1.frozen 9
  have u10 := r2.cell 10
  have y10 := r1.cell 10
  have z10 := r1.frozen 10
  have q0 := r2.frozen 0
  have q1 := r2.frozen 1
  have q2 := r2.frozen 2
  dsimp at u0 y0 u1 y1 u2 y2 u3 y3 u4 y4 u5 y5 u6 y6 u7 y7 u8 y8 u9 y9 u10 y10
  clear C1 hv r0 r1 r2 HR
  go_wp2_with fail
  refine bodyPost_ret (ret_an rfl rfl (put11_row (((HQ.out.keep (fr_set _ (w.heap.size + 1 + 1) 0 _ (Fr.refl _ _)) (fun e => absurd e (by show ¬ w.heap.size + 1 = w.heap.size + 1 + 1; omega))).keep (fr_set _ (w.heap.size + 1 + 1) 1 _ (Fr.refl _ _)) (fun e => absurd e (by show ¬ w.heap.size + 1 = w.heap.size + 1 + 1; omega))).keep (fr_set _ (w.heap.size + 1 + 1) 2 _ (Fr.refl _ _)) (fun e => absurd e (by show ¬ w.heap.size + 1 = w.heap.size + 1 + 1; omega))) _ _ _ _ _ _ _ _ _ _ _) rfl) rfl ?_
  obtain ⟨e1, e2⟩ := HE.out _ (put11_fr ((((Fr.refl (Own3 w.heap.size) w1).setCell (p := ⟨w.heap.size + 1 + 1, 0, none⟩) (Or.inr (Or.inr (Or.inr rfl))) _).setCell (p := ⟨w.heap.size + 1 + 1, 1, none⟩) (Or.inr (Or.inr (Or.inr rfl))) _).setCell (p := ⟨w.heap.size + 1 + 1, 2, none⟩) (Or.inr (Or.inr (Or.inr rfl))) _) (Or.inr (Or.inr (Or.inl rfl))) _ _ _ _ _ _ _ _ _ _ _)
  exact ⟨_, q', rfl, e2, e1⟩

set_option maxRecDepth 100000 in
set_option maxHeartbeats 4000000 in
theorem mean_3 {w : World} {q : Db} {D : Dc} (h : IsD w q D) (ft : Fit D) (a t x : Int) (m : Ms) (c bl : Bool) : Calls Try.prog 11 #[pv q.b, acV ⟨3, a, t, x, m, c, bl⟩] w (MeanPost w q D ⟨3, a, t, x, m, c, bl⟩) := by
  obtain ⟨W, hW, B, r0, r1, r2, f, hsz, hno⟩ := mean_start h ⟨3, a, t, x, m, c, bl⟩
  have X := dreply_any W q D B ft.l ft.c ft.x t m
  have HR : Hid (∀ w1, Fr q.s W w1 → Row w1 w.heap.size (acA ⟨3, a, t, x, m, c, bl⟩) 42 ∧ Row w1 (w.heap.size + 1) #[.int .i64 0, .bool false, .int .i64 0, .int .i64 0, .int .i64 0, .int .i64 0, .int .u32 0, .int .u32 0, .int .u32 0, .int .u32 0, .slice none 0 0] 39 ∧ Row w1 (w.heap.size + 1 + 1) #[.int .i64 0, .bool false, .int .i64 0, .int .i64 0, .int .i64 0, .int .i64 0, .int .u32 0, .int .u32 0, .int .u32 0, .int .u32 0, .slice none 0 0] 39) := fun w1 g => ⟨Row.keep r0 g (fun h => hno _ h (Or.inl rfl)), Row.keep r1 g (fun h => hno _ h (Or.inr (Or.inl rfl))), Row.keep r2 g (fun h => hno _ h (Or.inr (Or.inr rfl)))⟩
  have HF : Hid (Fr none' w W ∧ IsD w q D ∧ W.heap.size = w.heap.size + 1 + 1 + 1) := ⟨f, h, hsz⟩
  have x1 := r0.cell 1
  have x2 := r0.cell 2
  have x3 := r0.cell 3
  have x4 := r0.cell 4
  have x5 := r0.cell 5
  have x6 := r0.cell 6
  have x7 := r0.cell 7
  have x8 := r0.cell 8
  have x9 := r0.cell 9
  have x10 := r0.cell 10
  have x11 := r0.cell 11
  have x12 := r0.cell 12
  have x0 := r0.cell 0
  dsimp only [acA] at hW x0 x1 x2 x3 x4 x5 x6 x7 x8 x9 x10 x11 x12
  unfold acV
  dsimp only [acA]
  clear r0 r1 r2 f B h hsz hno ft
  go_enter Try.func11, Try.ntmps11
  go_wp2_with fail
  rw [← hW]
  refine X.mono ?_
  clear X hW x0 x1 x2 x3 x4 x5 x6 x7 x8 x9 x10 x11 x12
  rintro e w1 ⟨q', rfl, C1⟩
  have hv : OI w.heap.size w1 (.slice none 0 0) [] := ⟨rfl, Or.inl ⟨rfl, rfl⟩⟩
  obtain ⟨r0, r1, r2⟩ := HR.out w1 C1.fr
  have HE : Hid (∀ w2, Fr (Own3 w.heap.size) w1 w2 → _) := fun w2 f2 => mean_end HF.out.2.1 HF.out.1 HF.out.2.2 C1 f2 hv r1 r2 ⟨_, r0⟩
  have HQ : Hid (Row w1 (w.heap.size + 1) _ _) := r1
  have u0 := r2.cell 0
  have y0 := r1.cell 0
  have z0 := r1.frozen 0
  have u1 := r2.cell 1
  have y1 := r1.cell 1
  have z1 := r1.frozen 1
  have u2 := r2.cell 2
  have y2 := r1.cell 2
  have z2 := r1.frozen 2
  have u3 := r2.cell 3
  have y3 := r1.cell 3
  have z3 := r1.frozen 3
  have u4 := r2.cell 4
  have y4 := r1.cell 4
  have z4 := r1.frozen 4
  have u5 := r2.cell 5
  have y5 := r1.cell 5
  have z5 := r1.frozen 5
  have u6 := r2.cell 6
  have y6 := r1.cell 6
  have z6 := r1.frozen 6
  have u7 := r2.cell 7
  have y7 := r1.cell 7
  have z7 := r1.frozen 7
  have u8 := r2.cell 8
  have y8 := r1.cell 8
  have z8 := r1.frozen 8
  have u9 := r2.cell 9
  have y9 := r1.cell 9
  have z9 := r1.frozen 9
  have u10 := r2.cell 10
  have y10 := r1.cell 10
  have z10 := r1.frozen 10
  have q0 := r2.frozen 0
  have q2 := r2.frozen 2
  dsimp at u0 y0 u1 y1 u2 y2 u3 y3 u4 y4 u5 y5 u6 y6 u7 y7 u8 y8 u9 y9 u10 y10
  clear C1 hv r0 r1 r2 HR
  go_wp2_with fail
  refine bodyPost_ret (ret_an rfl rfl (put11_row ((HQ.out.keep (fr_set _ (w.heap.size + 1 + 1) 0 _ (Fr.refl _ _)) (fun e => absurd e (by show ¬ w.heap.size + 1 = w.heap.size + 1 + 1; omega))).keep (fr_set _ (w.heap.size + 1 + 1) 2 _ (Fr.refl _ _)) (fun e => absurd e (by show ¬ w.heap.size + 1 = w.heap.size + 1 + 1; omega))) _ _ _ _ _ _ _ _ _ _ _) rfl) rfl ?_
  obtain ⟨e1, e2⟩ := HE.out _ (put11_fr (((Fr.refl (Own3 w.heap.size) w1).setCell (p := ⟨w.heap.size + 1 + 1, 0, none⟩) (Or.inr (Or.inr (Or.inr rfl))) _).setCell (p := ⟨w.heap.size + 1 + 1, 2, none⟩) (Or.inr (Or.inr (Or.inr rfl))) _) (Or.inr (Or.inr (Or.inl rfl))) _ _ _ _ _ _ _ _ _ _ _)
  exact ⟨_, q', rfl, e2, e1⟩

set_option maxRecDepth 100000 in
set_option maxHeartbeats 4000000 in
theorem mean_4 {w : World} {q : Db} {D : Dc} (h : IsD w q D) (ft : Fit D) (a t x : Int) (m : Ms) (c bl : Bool) : Calls Try.prog 11 #[pv q.b, acV ⟨4, a, t, x, m, c, bl⟩] w (MeanPost w q D ⟨4, a, t, x, m, c, bl⟩) := by
  obtain ⟨W, hW, B, r0, r1, r2, f, hsz, hno⟩ := mean_start h ⟨4, a, t, x, m, c, bl⟩
  have X := dforget_any W q D B ft.l ft.c t (ft.w t)
  have HR : Hid (∀ w1, Fr q.s W w1 → Row w1 w.heap.size (acA ⟨4, a, t, x, m, c, bl⟩) 42 ∧ Row w1 (w.heap.size + 1) #[.int .i64 0, .bool false, .int .i64 0, .int .i64 0, .int .i64 0, .int .i64 0, .int .u32 0, .int .u32 0, .int .u32 0, .int .u32 0, .slice none 0 0] 39 ∧ Row w1 (w.heap.size + 1 + 1) #[.int .i64 0, .bool false, .int .i64 0, .int .i64 0, .int .i64 0, .int .i64 0, .int .u32 0, .int .u32 0, .int .u32 0, .int .u32 0, .slice none 0 0] 39) := fun w1 g => ⟨Row.keep r0 g (fun h => hno _ h (Or.inl rfl)), Row.keep r1 g (fun h => hno _ h (Or.inr (Or.inl rfl))), Row.keep r2 g (fun h => hno _ h (Or.inr (Or.inr rfl)))⟩
  have HF : Hid (Fr none' w W ∧ IsD w q D ∧ W.heap.size = w.heap.size + 1 + 1 + 1) := ⟨f, h, hsz⟩
  have x1 := r0.cell 1
  have x2 := r0.cell 2
  have x3 := r0.cell 3
  have x4 := r0.cell 4
  have x5 := r0.cell 5
  have x6 := r0.cell 6
  have x7 := r0.cell 7
  have x8 := r0.cell 8
  have x9 := r0.cell 9
  have x10 := r0.cell 10
  have x11 := r0.cell 11
  have x12 := r0.cell 12
  have x0 := r0.cell 0
  dsimp only [acA] at hW x0 x1 x2 x3 x4 x5 x6 x7 x8 x9 x10 x11 x12
  unfold acV
  dsimp only [acA]
  clear r0 r1 r2 f B h hsz hno ft
  go_enter Try.func11, Try.ntmps11
  go_wp2_with fail
  rw [← hW]
  refine X.mono ?_
  clear X hW x0 x1 x2 x3 x4 x5 x6 x7 x8 x9 x10 x11 x12
  rintro e w1 ⟨q', rfl, C1⟩
  have hv : OI w.heap.size w1 (.slice none 0 0) [] := ⟨rfl, Or.inl ⟨rfl, rfl⟩⟩
  obtain ⟨r0, r1, r2⟩ := HR.out w1 C1.fr
  have HE : Hid (∀ w2, Fr (Own3 w.heap.size) w1 w2 → _) := fun w2 f2 => mean_end HF.out.2.1 HF.out.1 HF.out.2.2 C1 f2 hv r1 r2 ⟨_, r0⟩
  have HQ : Hid (Row w1 (w.heap.size + 1) _ _) := r1
  have u0 := r2.cell 0
  have y0 := r1.cell 0
  have z0 := r1.frozen 0
  have u1 := r2.cell 1
  have y1 := r1.cell 1
  have z1 := r1.frozen 1
  have u2 := r2.cell 2
  have y2 := r1.cell 2
  have z2 := r1.frozen 2
  have u3 := r2.cell 3
  have y3 := r1.cell 3
  have z3 := r1.frozen 3
  have u4 := r2.cell 4
  have y4 := r1.cell 4
  have z4 := r1.frozen 4
  have u5 := r2.cell 5
  have y5 := r1.cell 5
  have z5 := r1.frozen 5
  have u6 := r2.cell 6
  have y6 := r1.cell 6
  have z6 := r1.frozen 6
  have u7 := r2.cell 7
  have y7 := r1.cell 7
  have z7 := r1.frozen 7
  have u8 := r2.cell 8
  have y8 := r1.cell 8
  have z8 := r1.frozen 8
  have u9 := r2.cell 9
  have y9 := r1.cell 9
  have z9 := r1.frozen 9
  have u10 := r2.cell 10
  have y10 := r1.cell 10
  have z10 := r1.frozen 10
  have q0 := r2.frozen 0
  dsimp at u0 y0 u1 y1 u2 y2 u3 y3 u4 y4 u5 y5 u6 y6 u7 y7 u8 y8 u9 y9 u10 y10
  clear C1 hv r0 r1 r2 HR
  go_wp2_with fail
  refine bodyPost_ret (ret_an rfl rfl (put11_row (HQ.out.keep (fr_set _ (w.heap.size + 1 + 1) 0 _ (Fr.refl _ _)) (fun e => absurd e (by show ¬ w.heap.size + 1 = w.heap.size + 1 + 1; omega))) _ _ _ _ _ _ _ _ _ _ _) rfl) rfl ?_
  obtain ⟨e1, e2⟩ := HE.out _ (put11_fr ((Fr.refl (Own3 w.heap.size) w1).setCell (p := ⟨w.heap.size + 1 + 1, 0, none⟩) (Or.inr (Or.inr (Or.inr rfl))) _) (Or.inr (Or.inr (Or.inl rfl))) _ _ _ _ _ _ _ _ _ _ _)
  exact ⟨_, q', rfl, e2, e1⟩

set_option maxRecDepth 100000 in
set_option maxHeartbeats 4000000 in
theorem mean_5 {w : World} {q : Db} {D : Dc} (h : IsD w q D) (ft : Fit D) (a t x : Int) (m : Ms) (c bl : Bool) : Calls Try.prog 11 #[pv q.b, acV ⟨5, a, t, x, m, c, bl⟩] w (MeanPost w q D ⟨5, a, t, x, m, c, bl⟩) := by
  obtain ⟨W, hW, B, r0, r1, r2, f, hsz, hno⟩ := mean_start h ⟨5, a, t, x, m, c, bl⟩
  have X := dsignal_any W q D B ft.l ft.b ft.g ft.x a x
  have HR : Hid (∀ w1, Fr q.s W w1 → Row w1 w.heap.size (acA ⟨5, a, t, x, m, c, bl⟩) 42 ∧ Row w1 (w.heap.size + 1) #[.int .i64 0, .bool false, .int .i64 0, .int .i64 0, .int .i64 0, .int .i64 0, .int .u32 0, .int .u32 0, .int .u32 0, .int .u32 0, .slice none 0 0] 39 ∧ Row w1 (w.heap.size + 1 + 1) #[.int .i64 0, .bool false, .int .i64 0, .int .i64 0, .int .i64 0, .int .i64 0, .int .u32 0, .int .u32 0, .int .u32 0, .int .u32 0, .slice none 0 0] 39) := fun w1 g => ⟨Row.keep r0 g (fun h => hno _ h (Or.inl rfl)), Row.keep r1 g (fun h => hno _ h (Or.inr (Or.inl rfl))), Row.keep r2 g (fun h => hno _ h (Or.inr (Or.inr rfl)))⟩
  have HF : Hid (Fr none' w W ∧ IsD w q D ∧ W.heap.size = w.heap.size + 1 + 1 + 1) := ⟨f, h, hsz⟩
  have x1 := r0.cell 1
  have x2 := r0.cell 2
  have x3 := r0.cell 3
  have x4 := r0.cell 4
  have x5 := r0.cell 5
  have x6 := r0.cell 6
  have x7 := r0.cell 7
  have x8 := r0.cell 8
  have x9 := r0.cell 9
  have x10 := r0.cell 10
  have x11 := r0.cell 11
  have x12 := r0.cell 12
  have x0 := r0.cell 0
  dsimp only [acA] at hW x0 x1 x2 x3 x4 x5 x6 x7 x8 x9 x10 x11 x12
  unfold acV
  dsimp only [acA]
  clear r0 r1 r2 f B h hsz hno ft
  go_enter Try.func11, Try.ntmps11
  go_wp2_with fail
  rw [← hW]
  refine X.mono ?_
  clear X hW x0 x1 x2 x3 x4 x5 x6 x7 x8 x9 x10 x11 x12
  rintro e w1 ⟨q', rfl, C1⟩
  have hv : OI w.heap.size w1 (.slice none 0 0) [] := ⟨rfl, Or.inl ⟨rfl, rfl⟩⟩
  obtain ⟨r0, r1, r2⟩ := HR.out w1 C1.fr
  have HE : Hid (∀ w2, Fr (Own3 w.heap.size) w1 w2 → _) := fun w2 f2 => mean_end HF.out.2.1 HF.out.1 HF.out.2.2 C1 f2 hv r1 r2 ⟨_, r0⟩
  have HQ : Hid (Row w1 (w.heap.size + 1) _ _) := r1
  have u0 := r2.cell 0
  have y0 := r1.cell 0
  have z0 := r1.frozen 0
  have u1 := r2.cell 1
  have y1 := r1.cell 1
  have z1 := r1.frozen 1
  have u2 := r2.cell 2
  have y2 := r1.cell 2
  have z2 := r1.frozen 2
  have u3 := r2.cell 3
  have y3 := r1.cell 3
  have z3 := r1.frozen 3
  have u4 := r2.cell 4
  have y4 := r1.cell 4
  have z4 := r1.frozen 4
  have u5 := r2.cell 5
  have y5 := r1.cell 5
  have z5 := r1.frozen 5
  have u6 := r2.cell 6
  have y6 := r1.cell 6
  have z6 := r1.frozen 6
  have u7 := r2.cell 7
  have y7 := r1.cell 7
  have z7 := r1.frozen 7
  have u8 := r2.cell 8
  have y8 := r1.cell 8
  have z8 := r1.frozen 8
  have u9 := r2.cell 9
  have y9 := r1.cell 9
  have z9 := r1.frozen 9
  have u10 := r2.cell 10
  have y10 := r1.cell 10
  have z10 := r1.frozen 10
  have q0 := r2.frozen 0
  have q2 := r2.frozen 2
  dsimp at u0 y0 u1 y1 u2 y2 u3 y3 u4 y4 u5 y5 u6 y6 u7 y7 u8 y8 u9 y9 u10 y10
  clear C1 hv r0 r1 r2 HR
  go_wp2_with fail
  refine bodyPost_ret (ret_an rfl rfl (put11_row ((HQ.out.keep (fr_set _ (w.heap.size + 1 + 1) 0 _ (Fr.refl _ _)) (fun e => absurd e (by show ¬ w.heap.size + 1 = w.heap.size + 1 + 1; omega))).keep (fr_set _ (w.heap.size + 1 + 1) 2 _ (Fr.refl _ _)) (fun e => absurd e (by show ¬ w.heap.size + 1 = w.heap.size + 1 + 1; omega))) _ _ _ _ _ _ _ _ _ _ _) rfl) rfl ?_
  obtain ⟨e1, e2⟩ := HE.out _ (put11_fr (((Fr.refl (Own3 w.heap.size) w1).setCell (p := ⟨w.heap.size + 1 + 1, 0, none⟩) (Or.inr (Or.inr (Or.inr rfl))) _).setCell (p := ⟨w.heap.size + 1 + 1, 2, none⟩) (Or.inr (Or.inr (Or.inr rfl))) _) (Or.inr (Or.inr (Or.inl rfl))) _ _ _ _ _ _ _ _ _ _ _)
  exact ⟨_, q', rfl, e2, e1⟩

set_option maxRecDepth 100000 in
set_option maxHeartbeats 4000000 in
theorem mean_6 {w : World} {q : Db} {D : Dc} (h : IsD w q D) (ft : Fit D) (a t x : Int) (m : Ms) (c bl : Bool) : Calls Try.prog 11 #[pv q.b, acV ⟨6, a, t, x, m, c, bl⟩] w (MeanPost w q D ⟨6, a, t, x, m, c, bl⟩) := by
  obtain ⟨W, hW, B, r0, r1, r2, f, hsz, hno⟩ := mean_start h ⟨6, a, t, x, m, c, bl⟩
  have X := dwait_any W q D B ft.l ft.g ft.x a t bl
  have HR : Hid (∀ w1, Fr q.s W w1 → Row w1 w.heap.size (acA ⟨6, a, t, x, m, c, bl⟩) 42 ∧ Row w1 (w.heap.size + 1) #[.int .i64 0, .bool false, .int .i64 0, .int .i64 0, .int .i64 0, .int .i64 0, .int .u32 0, .int .u32 0, .int .u32 0, .int .u32 0, .slice none 0 0] 39 ∧ Row w1 (w.heap.size + 1 + 1) #[.int .i64 0, .bool false, .int .i64 0, .int .i64 0, .int .i64 0, .int .i64 0, .int .u32 0, .int .u32 0, .int .u32 0, .int .u32 0, .slice none 0 0] 39) := fun w1 g => ⟨Row.keep r0 g (fun h => hno _ h (Or.inl rfl)), Row.keep r1 g (fun h => hno _ h (Or.inr (Or.inl rfl))), Row.keep r2 g (fun h => hno _ h (Or.inr (Or.inr rfl)))⟩
  have HF : Hid (Fr none' w W ∧ IsD w q D ∧ W.heap.size = w.heap.size + 1 + 1 + 1) := ⟨f, h, hsz⟩
  have x1 := r0.cell 1
  have x2 := r0.cell 2
  have x3 := r0.cell 3
  have x4 := r0.cell 4
  have x5 := r0.cell 5
  have x6 := r0.cell 6
  have x7 := r0.cell 7
  have x8 := r0.cell 8
  have x9 := r0.cell 9
  have x10 := r0.cell 10
  have x11 := r0.cell 11
  have x12 := r0.cell 12
  have x0 := r0.cell 0
  dsimp only [acA] at hW x0 x1 x2 x3 x4 x5 x6 x7 x8 x9 x10 x11 x12
  unfold acV
  dsimp only [acA]
  clear r0 r1 r2 f B h hsz hno ft
  go_enter Try.func11, Try.ntmps11
  go_wp2_with fail
  rw [← hW]
  refine X.mono ?_
  clear X hW x0 x1 x2 x3 x4 x5 x6 x7 x8 x9 x10 x11 x12
  rintro e w1 ⟨q', rfl, C1⟩
  have hv : OI w.heap.size w1 (.slice none 0 0) [] := ⟨rfl, Or.inl ⟨rfl, rfl⟩⟩
  obtain ⟨r0, r1, r2⟩ := HR.out w1 C1.fr
  have HE : Hid (∀ w2, Fr (Own3 w.heap.size) w1 w2 → _) := fun w2 f2 => mean_end HF.out.2.1 HF.out.1 HF.out.2.2 C1 f2 hv r1 r2 ⟨_, r0⟩
  have HQ : Hid (Row w1 (w.heap.size + 1) _ _) := r1
  have u0 := r2.cell 0
  have y0 := r1.cell 0
  have z0 := r1.frozen 0
  have u1 := r2.cell 1
  have y1 := r1.cell 1
  have z1 := r1.frozen 1
  have u2 := r2.cell 2
  have y2 := r1.cell 2
  have z2 := r1.frozen 2
  have u3 := r2.cell 3
  have y3 := r1.cell 3
  have z3 := r1.frozen 3
  have u4 := r2.cell 4
  have y4 := r1.cell 4
  have z4 := r1.frozen 4
  have u5 := r2.cell 5
  have y5 := r1.cell 5
  have z5 := r1.frozen 5
  have u6 := r2.cell 6
  have y6 := r1.cell 6
  have z6 := r1.frozen 6
  have u7 := r2.cell 7
  have y7 := r1.cell 7
  have z7 := r1.frozen 7
  have u8 := r2.cell 8
  have y8 := r1.cell 8
  have z8 := r1.frozen 8
  have u9 := r2.cell 9
  have y9 := r1.cell 9
  have z9 := r1.frozen 9
  have u10 := r2.cell 10
  have y10 := r1.cell 10
  have z10 := r1.frozen 10
  have q1 := r2.frozen 1
  have q2 := r2.frozen 2
  dsimp at u0 y0 u1 y1 u2 y2 u3 y3 u4 y4 u5 y5 u6 y6 u7 y7 u8 y8 u9 y9 u10 y10
  clear C1 hv r0 r1 r2 HR
  go_wp2_with fail
  refine bodyPost_ret (ret_an rfl rfl (put11_row ((HQ.out.keep (fr_set _ (w.heap.size + 1 + 1) 1 _ (Fr.refl _ _)) (fun e => absurd e (by show ¬ w.heap.size + 1 = w.heap.size + 1 + 1; omega))).keep (fr_set _ (w.heap.size + 1 + 1) 2 _ (Fr.refl _ _)) (fun e => absurd e (by show ¬ w.heap.size + 1 = w.heap.size + 1 + 1; omega))) _ _ _ _ _ _ _ _ _ _ _) rfl) rfl ?_
  obtain ⟨e1, e2⟩ := HE.out _ (put11_fr (((Fr.refl (Own3 w.heap.size) w1).setCell (p := ⟨w.heap.size + 1 + 1, 1, none⟩) (Or.inr (Or.inr (Or.inr rfl))) _).setCell (p := ⟨w.heap.size + 1 + 1, 2, none⟩) (Or.inr (Or.inr (Or.inr rfl))) _) (Or.inr (Or.inr (Or.inl rfl))) _ _ _ _ _ _ _ _ _ _ _)
  exact ⟨_, q', rfl, e2, e1⟩

set_option maxRecDepth 100000 in
set_option maxHeartbeats 4000000 in
theorem mean_7 {w : World} {q : Db} {D : Dc} (h : IsD w q D) (ft : Fit D) (a t x : Int) (m : Ms) (c bl : Bool) : Calls Try.prog 11 #[pv q.b, acV ⟨7, a, t, x, m, c, bl⟩] w (MeanPost w q D ⟨7, a, t, x, m, c, bl⟩) := by
  obtain ⟨W, hW, B, r0, r1, r2, f, hsz, hno⟩ := mean_start h ⟨7, a, t, x, m, c, bl⟩
  have X := dbind_any W q D B ft.l ft.b a t
  have HR : Hid (∀ w1, Fr q.s W w1 → Row w1 w.heap.size (acA ⟨7, a, t, x, m, c, bl⟩) 42 ∧ Row w1 (w.heap.size + 1) #[.int .i64 0, .bool false, .int .i64 0, .int .i64 0, .int .i64 0, .int .i64 0, .int .u32 0, .int .u32 0, .int .u32 0, .int .u32 0, .slice none 0 0] 39 ∧ Row w1 (w.heap.size + 1 + 1) #[.int .i64 0, .bool false, .int .i64 0, .int .i64 0, .int .i64 0, .int .i64 0, .int .u32 0, .int .u32 0, .int .u32 0, .int .u32 0, .slice none 0 0] 39) := fun w1 g => ⟨Row.keep r0 g (fun h => hno _ h (Or.inl rfl)), Row.keep r1 g (fun h => hno _ h (Or.inr (Or.inl rfl))), Row.keep r2 g (fun h => hno _ h (Or.inr (Or.inr rfl)))⟩
  have HF : Hid (Fr none' w W ∧ IsD w q D ∧ W.heap.size = w.heap.size + 1 + 1 + 1) := ⟨f, h, hsz⟩
  have x1 := r0.cell 1
  have x2 := r0.cell 2
  have x3 := r0.cell 3
  have x4 := r0.cell 4
  have x5 := r0.cell 5
  have x6 := r0.cell 6
  have x7 := r0.cell 7
  have x8 := r0.cell 8
  have x9 := r0.cell 9
  have x10 := r0.cell 10
  have x11 := r0.cell 11
  have x12 := r0.cell 12
  have x0 := r0.cell 0
  dsimp only [acA] at hW x0 x1 x2 x3 x4 x5 x6 x7 x8 x9 x10 x11 x12
  unfold acV
  dsimp only [acA]
  clear r0 r1 r2 f B h hsz hno ft
  go_enter Try.func11, Try.ntmps11
  go_wp2_with fail
  rw [← hW]
  refine X.mono ?_
  clear X hW x0 x1 x2 x3 x4 x5 x6 x7 x8 x9 x10 x11 x12
  rintro e w1 ⟨q', rfl, C1⟩
  have hv : OI w.heap.size w1 (.slice none 0 0) [] := ⟨rfl, Or.inl ⟨rfl, rfl⟩⟩
  obtain ⟨r0, r1, r2⟩ := HR.out w1 C1.fr
  have HE : Hid (∀ w2, Fr (Own3 w.heap.size) w1 w2 → _) := fun w2 f2 => mean_end HF.out.2.1 HF.out.1 HF.out.2.2 C1 f2 hv r1 r2 ⟨_, r0⟩
  have HQ : Hid (Row w1 (w.heap.size + 1) _ _) := r1
  have u0 := r2.cell 0
  have y0 := r1.cell 0
  have z0 := r1.frozen 0
  have u1 := r2.cell 1
  have y1 := r1.cell 1
  have z1 := r1.frozen 1
  have u2 := r2.cell 2
  have y2 := r1.cell 2
  have z2 := r1.frozen 2
  have u3 := r2.cell 3
  have y3 := r1.cell 3
  have z3 := r1.frozen 3
  have u4 := r2.cell 4
  have y4 := r1.cell 4
  have z4 := r1.frozen 4
  have u5 := r2.cell 5
  have y5 := r1.cell 5
  have z5 := r1.frozen 5
  have u6 := r2.cell 6
  have y6 := r1.cell 6
  have z6 := r1.frozen 6
  have u7 := r2.cell 7
  have y7 := r1.cell 7
  have z7 := r1.frozen 7
  have u8 := r2.cell 8
  have y8 := r1.cell 8
  have z8 := r1.frozen 8
  have u9 := r2.cell 9
  have y9 := r1.cell 9
  have z9 := r1.frozen 9
  have u10 := r2.cell 10
  have y10 := r1.cell 10
  have z10 := r1.frozen 10
  have q2 := r2.frozen 2
  dsimp at u0 y0 u1 y1 u2 y2 u3 y3 u4 y4 u5 y5 u6 y6 u7 y7 u8 y8 u9 y9 u10 y10
  clear C1 hv r0 r1 r2 HR
  go_wp2_with fail
  refine bodyPost_ret (ret_an rfl rfl (put11_row (HQ.out.keep (fr_set _ (w.heap.size + 1 + 1) 2 _ (Fr.refl _ _)) (fun e => absurd e (by show ¬ w.heap.size + 1 = w.heap.size + 1 + 1; omega))) _ _ _ _ _ _ _ _ _ _ _) rfl) rfl ?_
  obtain ⟨e1, e2⟩ := HE.out _ (put11_fr ((Fr.refl (Own3 w.heap.size) w1).setCell (p := ⟨w.heap.size + 1 + 1, 2, none⟩) (Or.inr (Or.inr (Or.inr rfl))) _) (Or.inr (Or.inr (Or.inl rfl))) _ _ _ _ _ _ _ _ _ _ _)
  exact ⟨_, q', rfl, e2, e1⟩

set_option maxRecDepth 100000 in
set_option maxHeartbeats 4000000 in
theorem mean_8 {w : World} {q : Db} {D : Dc} (h : IsD w q D) (ft : Fit D) (a t x : Int) (m : Ms) (c bl : Bool) : Calls Try.prog 11 #[pv q.b, acV ⟨8, a, t, x, m, c, bl⟩] w (MeanPost w q D ⟨8, a, t, x, m, c, bl⟩) := by
  obtain ⟨W, hW, B, r0, r1, r2, f, hsz, hno⟩ := mean_start h ⟨8, a, t, x, m, c, bl⟩
  have X := dunbind_any W q D B ft.b t
  have HR : Hid (∀ w1, Fr q.s W w1 → Row w1 w.heap.size (acA ⟨8, a, t, x, m, c, bl⟩) 42 ∧ Row w1 (w.heap.size + 1) #[.int .i64 0, .bool false, .int .i64 0, .int .i64 0, .int .i64 0, .int .i64 0, .int .u32 0, .int .u32 0, .int .u32 0, .int .u32 0, .slice none 0 0] 39 ∧ Row w1 (w.heap.size + 1 + 1) #[.int .i64 0, .bool false, .int .i64 0, .int .i64 0, .int .i64 0, .int .i64 0, .int .u32 0, .int .u32 0, .int .u32 0, .int .u32 0, .slice none 0 0] 39) := fun w1 g => ⟨Row.keep r0 g (fun h => hno _ h (Or.inl rfl)), Row.keep r1 g (fun h => hno _ h (Or.inr (Or.inl rfl))), Row.keep r2 g (fun h => hno _ h (Or.inr (Or.inr rfl)))⟩
  have HF : Hid (Fr none' w W ∧ IsD w q D ∧ W.heap.size = w.heap.size + 1 + 1 + 1) := ⟨f, h, hsz⟩
  have x1 := r0.cell 1
  have x2 := r0.cell 2
  have x3 := r0.cell 3
  have x4 := r0.cell 4
  have x5 := r0.cell 5
  have x6 := r0.cell 6
  have x7 := r0.cell 7
  have x8 := r0.cell 8
  have x9 := r0.cell 9
  have x10 := r0.cell 10
  have x11 := r0.cell 11
  have x12 := r0.cell 12
  have x0 := r0.cell 0
  dsimp only [acA] at hW x0 x1 x2 x3 x4 x5 x6 x7 x8 x9 x10 x11 x12
  unfold acV
  dsimp only [acA]
  clear r0 r1 r2 f B h hsz hno ft
  go_enter Try.func11, Try.ntmps11
  go_wp2_with fail
  rw [← hW]
  refine X.mono ?_
  clear X hW x0 x1 x2 x3 x4 x5 x6 x7 x8 x9 x10 x11 x12
  rintro e w1 ⟨q', rfl, C1⟩
  have hv : OI w.heap.size w1 (.slice none 0 0) [] := ⟨rfl, Or.inl ⟨rfl, rfl⟩⟩
  obtain ⟨r0, r1, r2⟩ := HR.out w1 C1.fr
  have HE : Hid (∀ w2, Fr (Own3 w.heap.size) w1 w2 → _) := fun w2 f2 => mean_end HF.out.2.1 HF.out.1 HF.out.2.2 C1 f2 hv r1 r2 ⟨_, r0⟩
  have HQ : Hid (Row w1 (w.heap.size + 1) _ _) := r1
  have u0 := r2.cell 0
  have y0 := r1.cell 0
  have z0 := r1.frozen 0
  have u1 := r2.cell 1
  have y1 := r1.cell 1
  have z1 := r1.frozen 1
  have u2 := r2.cell 2
  have y2 := r1.cell 2
  have z2 := r1.frozen 2
  have u3 := r2.cell 3
  have y3 := r1.cell 3
  have z3 := r1.frozen 3
  have u4 := r2.cell 4
  have y4 := r1.cell 4
  have z4 := r1.frozen 4
  have u5 := r2.cell 5
  have y5 := r1.cell 5
  have z5 := r1.frozen 5
  have u6 := r2.cell 6
  have y6 := r1.cell 6
  have z6 := r1.frozen 6
  have u7 := r2.cell 7
  have y7 := r1.cell 7
  have z7 := r1.frozen 7
  have u8 := r2.cell 8
  have y8 := r1.cell 8
  have z8 := r1.frozen 8
  have u9 := r2.cell 9
  have y9 := r1.cell 9
  have z9 := r1.frozen 9
  have u10 := r2.cell 10
  have y10 := r1.cell 10
  have z10 := r1.frozen 10
  have q2 := r2.frozen 2
  dsimp at u0 y0 u1 y1 u2 y2 u3 y3 u4 y4 u5 y5 u6 y6 u7 y7 u8 y8 u9 y9 u10 y10
  clear C1 hv r0 r1 r2 HR
  go_wp2_with fail
  refine bodyPost_ret (ret_an rfl rfl (put11_row (HQ.out.keep (fr_set _ (w.heap.size + 1 + 1) 2 _ (Fr.refl _ _)) (fun e => absurd e (by show ¬ w.heap.size + 1 = w.heap.size + 1 + 1; omega))) _ _ _ _ _ _ _ _ _ _ _) rfl) rfl ?_
  obtain ⟨e1, e2⟩ := HE.out _ (put11_fr ((Fr.refl (Own3 w.heap.size) w1).setCell (p := ⟨w.heap.size + 1 + 1, 2, none⟩) (Or.inr (Or.inr (Or.inr rfl))) _) (Or.inr (Or.inr (Or.inl rfl))) _ _ _ _ _ _ _ _ _ _ _)
  exact ⟨_, q', rfl, e2, e1⟩

set_option maxRecDepth 100000 in
set_option maxHeartbeats 4000000 in
theorem mean_9 {w : World} {q : Db} {D : Dc} (h : IsD w q D) (ft : Fit D) (a t x : Int) (m : Ms) (c bl : Bool) : Calls Try.prog 11 #[pv q.b, acV ⟨9, a, t, x, m, c, bl⟩] w (MeanPost w q D ⟨9, a, t, x, m, c, bl⟩) := by
  obtain ⟨W, hW, B, r0, r1, r2, f, hsz, hno⟩ := mean_start h ⟨9, a, t, x, m, c, bl⟩
  have X := dcancel_any W q D B ft.l ft.c t
  have HR : Hid (∀ w1, Fr q.s W w1 → Row w1 w.heap.size (acA ⟨9, a, t, x, m, c, bl⟩) 42 ∧ Row w1 (w.heap.size + 1) #[.int .i64 0, .bool false, .int .i64 0, .int .i64 0, .int .i64 0, .int .i64 0, .int .u32 0, .int .u32 0, .int .u32 0, .int .u32 0, .slice none 0 0] 39 ∧ Row w1 (w.heap.size + 1 + 1) #[.int .i64 0, .bool false, .int .i64 0, .int .i64 0, .int .i64 0, .int .i64 0, .int .u32 0, .int .u32 0, .int .u32 0, .int .u32 0, .slice none 0 0] 39) := fun w1 g => ⟨Row.keep r0 g (fun h => hno _ h (Or.inl rfl)), Row.keep r1 g (fun h => hno _ h (Or.inr (Or.inl rfl))), Row.keep r2 g (fun h => hno _ h (Or.inr (Or.inr rfl)))⟩
  have HF : Hid (Fr none' w W ∧ IsD w q D ∧ W.heap.size = w.heap.size + 1 + 1 + 1) := ⟨f, h, hsz⟩
  have x1 := r0.cell 1
  have x2 := r0.cell 2
  have x3 := r0.cell 3
  have x4 := r0.cell 4
  have x5 := r0.cell 5
  have x6 := r0.cell 6
  have x7 := r0.cell 7
  have x8 := r0.cell 8
  have x9 := r0.cell 9
  have x10 := r0.cell 10
  have x11 := r0.cell 11
  have x12 := r0.cell 12
  have x0 := r0.cell 0
  dsimp only [acA] at hW x0 x1 x2 x3 x4 x5 x6 x7 x8 x9 x10 x11 x12
  unfold acV
  dsimp only [acA]
  clear r0 r1 r2 f B h hsz hno ft
  go_enter Try.func11, Try.ntmps11
  go_wp2_with fail
  rw [← hW]
  refine X.mono ?_
  clear X hW x0 x1 x2 x3 x4 x5 x6 x7 x8 x9 x10 x11 x12
  rintro e w1 ⟨q', rfl, C1⟩
  have hv : OI w.heap.size w1 (.slice none 0 0) [] := ⟨rfl, Or.inl ⟨rfl, rfl⟩⟩
  obtain ⟨r0, r1, r2⟩ := HR.out w1 C1.fr
  have HE : Hid (∀ w2, Fr (Own3 w.heap.size) w1 w2 → _) := fun w2 f2 => mean_end HF.out.2.1 HF.out.1 HF.out.2.2 C1 f2 hv r1 r2 ⟨_, r0⟩
  have HQ : Hid (Row w1 (w.heap.size + 1) _ _) := r1
  have u0 := r2.cell 0
  have y0 := r1.cell 0
  have z0 := r1.frozen 0
  have u1 := r2.cell 1
  have y1 := r1.cell 1
  have z1 := r1.frozen 1
  have u2 := r2.cell 2
  have y2 := r1.cell 2
  have z2 := r1.frozen 2
  have u3 := r2.cell 3
  have y3 := r1.cell 3
  have z3 := r1.frozen 3
  have u4 := r2.cell 4
  have y4 := r1.cell 4
  have z4 := r1.frozen 4
  have u5 := r2.cell 5
  have y5 := r1.cell 5
  have z5 := r1.frozen 5
  have u6 := r2.cell 6
  have y6 := r1.cell 6
  have z6 := r1.frozen 6
  have u7 := r2.cell 7
  have y7 := r1.cell 7
  have z7 := r1.frozen 7
  have u8 := r2.cell 8
  have y8 := r1.cell 8
  have z8 := r1.frozen 8
  have u9 := r2.cell 9
  have y9 := r1.cell 9
  have z9 := r1.frozen 9
  have u10 := r2.cell 10
  have y10 := r1.cell 10
  have z10 := r1.frozen 10
  have q1 := r2.frozen 1
  dsimp at u0 y0 u1 y1 u2 y2 u3 y3 u4 y4 u5 y5 u6 y6 u7 y7 u8 y8 u9 y9 u10 y10
  clear C1 hv r0 r1 r2 HR
  go_wp2_with fail
  refine bodyPost_ret (ret_an rfl rfl (put11_row (HQ.out.keep (fr_set _ (w.heap.size + 1 + 1) 1 _ (Fr.refl _ _)) (fun e => absurd e (by show ¬ w.heap.size + 1 = w.heap.size + 1 + 1; omega))) _ _ _ _ _ _ _ _ _ _ _) rfl) rfl ?_
  obtain ⟨e1, e2⟩ := HE.out _ (put11_fr ((Fr.refl (Own3 w.heap.size) w1).setCell (p := ⟨w.heap.size + 1 + 1, 1, none⟩) (Or.inr (Or.inr (Or.inr rfl))) _) (Or.inr (Or.inr (Or.inl rfl))) _ _ _ _ _ _ _ _ _ _ _)
  exact ⟨_, q', rfl, e2, e1⟩

set_option maxRecDepth 100000 in
set_option maxHeartbeats 4000000 in
theorem mean_10 {w : World} {q : Db} {D : Dc} (h : IsD w q D) (ft : Fit D) (a t x : Int) (m : Ms) (c bl : Bool) : Calls Try.prog 11 #[pv q.b, acV ⟨10, a, t, x, m, c, bl⟩] w (MeanPost w q D ⟨10, a, t, x, m, c, bl⟩) := by
  obtain ⟨W, hW, B, r0, r1, r2, f, hsz, hno⟩ := mean_start h ⟨10, a, t, x, m, c, bl⟩
  have X := dcall_any W q D B ft.l a
  have HR : Hid (∀ w1, Fr q.s W w1 → Row w1 w.heap.size (acA ⟨10, a, t, x, m, c, bl⟩) 42 ∧ Row w1 (w.heap.size + 1) #[.int .i64 0, .bool false, .int .i64 0, .int .i64 0, .int .i64 0, .int .i64 0, .int .u32 0, .int .u32 0, .int .u32 0, .int .u32 0, .slice none 0 0] 39 ∧ Row w1 (w.heap.size + 1 + 1) #[.int .i64 0, .bool false, .int .i64 0, .int .i64 0, .int .i64 0, .int .i64 0, .int .u32 0, .int .u32 0, .int .u32 0, .int .u32 0, .slice none 0 0] 39) := fun w1 g => ⟨Row.keep r0 g (fun h => hno _ h (Or.inl rfl)), Row.keep r1 g (fun h => hno _ h (Or.inr (Or.inl rfl))), Row.keep r2 g (fun h => hno _ h (Or.inr (Or.inr rfl)))⟩
  have HF : Hid (Fr none' w W ∧ IsD w q D ∧ W.heap.size = w.heap.size + 1 + 1 + 1) := ⟨f, h, hsz⟩
  have x1 := r0.cell 1
  have x2 := r0.cell 2
  have x3 := r0.cell 3
  have x4 := r0.cell 4
  have x5 := r0.cell 5
  have x6 := r0.cell 6
  have x7 := r0.cell 7
  have x8 := r0.cell 8
  have x9 := r0.cell 9
  have x10 := r0.cell 10
  have x11 := r0.cell 11
  have x12 := r0.cell 12
  have x0 := r0.cell 0
  dsimp only [acA] at hW x0 x1 x2 x3 x4 x5 x6 x7 x8 x9 x10 x11 x12
  unfold acV
  dsimp only [acA]
  clear r0 r1 r2 f B h hsz hno ft
  go_enter Try.func11, Try.ntmps11
  go_wp2_with fail
  rw [← hW]
  refine X.mono ?_
  clear X hW x0 x1 x2 x3 x4 x5 x6 x7 x8 x9 x10 x11 x12
  rintro e w1 ⟨va, vn, vc, q', rfl, C1, hv0⟩
  have hv := hv0.low HF.out.1.size
  clear hv0
  obtain ⟨r0, r1, r2⟩ := HR.out w1 C1.fr
  have HE : Hid (∀ w2, Fr (Own3 w.heap.size) w1 w2 → _) := fun w2 f2 => mean_end HF.out.2.1 HF.out.1 HF.out.2.2 C1 f2 hv r1 r2 ⟨_, r0⟩
  have HQ : Hid (Row w1 (w.heap.size + 1) _ _) := r1
  have u0 := r2.cell 0
  have y0 := r1.cell 0
  have z0 := r1.frozen 0
  have u1 := r2.cell 1
  have y1 := r1.cell 1
  have z1 := r1.frozen 1
  have u2 := r2.cell 2
  have y2 := r1.cell 2
  have z2 := r1.frozen 2
  have u3 := r2.cell 3
  have y3 := r1.cell 3
  have z3 := r1.frozen 3
  have u4 := r2.cell 4
  have y4 := r1.cell 4
  have z4 := r1.frozen 4
  have u5 := r2.cell 5
  have y5 := r1.cell 5
  have z5 := r1.frozen 5
  have u6 := r2.cell 6
  have y6 := r1.cell 6
  have z6 := r1.frozen 6
  have u7 := r2.cell 7
  have y7 := r1.cell 7
  have z7 := r1.frozen 7
  have u8 := r2.cell 8
  have y8 := r1.cell 8
  have z8 := r1.frozen 8
  have u9 := r2.cell 9
  have y9 := r1.cell 9
  have z9 := r1.frozen 9
  have u10 := r2.cell 10
  have y10 := r1.cell 10
  have z10 := r1.frozen 10
  have q10 := r2.frozen 10
  dsimp at u0 y0 u1 y1 u2 y2 u3 y3 u4 y4 u5 y5 u6 y6 u7 y7 u8 y8 u9 y9 u10 y10
  clear C1 hv r0 r1 r2 HR
  go_wp2_with fail
  refine bodyPost_ret (ret_an rfl rfl (put11_row (HQ.out.keep (fr_set _ (w.heap.size + 1 + 1) 10 _ (Fr.refl _ _)) (fun e => absurd e (by show ¬ w.heap.size + 1 = w.heap.size + 1 + 1; omega))) _ _ _ _ _ _ _ _ _ _ _) rfl) rfl ?_
  obtain ⟨e1, e2⟩ := HE.out _ (put11_fr ((Fr.refl (Own3 w.heap.size) w1).setCell (p := ⟨w.heap.size + 1 + 1, 10, none⟩) (Or.inr (Or.inr (Or.inr rfl))) _) (Or.inr (Or.inr (Or.inl rfl))) _ _ _ _ _ _ _ _ _ _ _)
  exact ⟨_, q', rfl, e2, e1⟩

set_option maxRecDepth 100000 in
set_option maxHeartbeats 4000000 in
theorem mean_11 {w : World} {q : Db} {D : Dc} (h : IsD w q D) (ft : Fit D) (a t x : Int) (m : Ms) (c bl : Bool) : Calls Try.prog 11 #[pv q.b, acV ⟨11, a, t, x, m, c, bl⟩] w (MeanPost w q D ⟨11, a, t, x, m, c, bl⟩) := by
  obtain ⟨W, hW, B, r0, r1, r2, f, hsz, hno⟩ := mean_start h ⟨11, a, t, x, m, c, bl⟩
  have X := dcba_any W q D B ft.l ft.nd a x
  have HR : Hid (∀ w1, Fr q.s W w1 → Row w1 w.heap.size (acA ⟨11, a, t, x, m, c, bl⟩) 42 ∧ Row w1 (w.heap.size + 1) #[.int .i64 0, .bool false, .int .i64 0, .int .i64 0, .int .i64 0, .int .i64 0, .int .u32 0, .int .u32 0, .int .u32 0, .int .u32 0, .slice none 0 0] 39 ∧ Row w1 (w.heap.size + 1 + 1) #[.int .i64 0, .bool false, .int .i64 0, .int .i64 0, .int .i64 0, .int .i64 0, .int .u32 0, .int .u32 0, .int .u32 0, .int .u32 0, .slice none 0 0] 39) := fun w1 g => ⟨Row.keep r0 g (fun h => hno _ h (Or.inl rfl)), Row.keep r1 g (fun h => hno _ h (Or.inr (Or.inl rfl))), Row.keep r2 g (fun h => hno _ h (Or.inr (Or.inr rfl)))⟩
  have HF : Hid (Fr none' w W ∧ IsD w q D ∧ W.heap.size = w.heap.size + 1 + 1 + 1) := ⟨f, h, hsz⟩
  have x1 := r0.cell 1
  have x2 := r0.cell 2
  have x3 := r0.cell 3
  have x4 := r0.cell 4
  have x5 := r0.cell 5
  have x6 := r0.cell 6
  have x7 := r0.cell 7
  have x8 := r0.cell 8
  have x9 := r0.cell 9
  have x10 := r0.cell 10
  have x11 := r0.cell 11
  have x12 := r0.cell 12
  have x0 := r0.cell 0
  dsimp only [acA] at hW x0 x1 x2 x3 x4 x5 x6 x7 x8 x9 x10 x11 x12
  unfold acV
  dsimp only [acA]
  clear r0 r1 r2 f B h hsz hno ft
  go_enter Try.func11, Try.ntmps11
  go_wp2_with fail
  rw [← hW]
  refine X.mono ?_
  clear X hW x0 x1 x2 x3 x4 x5 x6 x7 x8 x9 x10 x11 x12
  rintro e w1 ⟨va, vn, vc, q', rfl, C1, hv0⟩
  have hv := hv0.low HF.out.1.size
  clear hv0
  obtain ⟨r0, r1, r2⟩ := HR.out w1 C1.fr
  have HE : Hid (∀ w2, Fr (Own3 w.heap.size) w1 w2 → _) := fun w2 f2 => mean_end HF.out.2.1 HF.out.1 HF.out.2.2 C1 f2 hv r1 r2 ⟨_, r0⟩
  have HQ : Hid (Row w1 (w.heap.size + 1) _ _) := r1
  have u0 := r2.cell 0
  have y0 := r1.cell 0
  have z0 := r1.frozen 0
  have u1 := r2.cell 1
  have y1 := r1.cell 1
  have z1 := r1.frozen 1
  have u2 := r2.cell 2
  have y2 := r1.cell 2
  have z2 := r1.frozen 2
  have u3 := r2.cell 3
  have y3 := r1.cell 3
  have z3 := r1.frozen 3
  have u4 := r2.cell 4
  have y4 := r1.cell 4
  have z4 := r1.frozen 4
  have u5 := r2.cell 5
  have y5 := r1.cell 5
  have z5 := r1.frozen 5
  have u6 := r2.cell 6
  have y6 := r1.cell 6
  have z6 := r1.frozen 6
  have u7 := r2.cell 7
  have y7 := r1.cell 7
  have z7 := r1.frozen 7
  have u8 := r2.cell 8
  have y8 := r1.cell 8
  have z8 := r1.frozen 8
  have u9 := r2.cell 9
  have y9 := r1.cell 9
  have z9 := r1.frozen 9
  have u10 := r2.cell 10
  have y10 := r1.cell 10
  have z10 := r1.frozen 10
  have q10 := r2.frozen 10
  dsimp at u0 y0 u1 y1 u2 y2 u3 y3 u4 y4 u5 y5 u6 y6 u7 y7 u8 y8 u9 y9 u10 y10
  clear C1 hv r0 r1 r2 HR
  go_wp2_with fail
  refine bodyPost_ret (ret_an rfl rfl (put11_row (HQ.out.keep (fr_set _ (w.heap.size + 1 + 1) 10 _ (Fr.refl _ _)) (fun e => absurd e (by show ¬ w.heap.size + 1 = w.heap.size + 1 + 1; omega))) _ _ _ _ _ _ _ _ _ _ _) rfl) rfl ?_
  obtain ⟨e1, e2⟩ := HE.out _ (put11_fr ((Fr.refl (Own3 w.heap.size) w1).setCell (p := ⟨w.heap.size + 1 + 1, 10, none⟩) (Or.inr (Or.inr (Or.inr rfl))) _) (Or.inr (Or.inr (Or.inl rfl))) _ _ _ _ _ _ _ _ _ _ _)
  exact ⟨_, q', rfl, e2, e1⟩

set_option maxRecDepth 100000 in
set_option maxHeartbeats 4000000 in
theorem mean_12 {w : World} {q : Db} {D : Dc} (h : IsD w q D) (ft : Fit D) (a t x : Int) (m : Ms) (c bl : Bool) : Calls Try.prog 11 #[pv q.b, acV ⟨12, a, t, x, m, c, bl⟩] w (MeanPost w q D ⟨12, a, t, x, m, c, bl⟩) := by
  obtain ⟨W, hW, B, r0, r1, r2, f, hsz, hno⟩ := mean_start h ⟨12, a, t, x, m, c, bl⟩
  have X := dinbox_any W q D B ft.x t
  have HR : Hid (∀ w1, Fr q.s W w1 → Row w1 w.heap.size (acA ⟨12, a, t, x, m, c, bl⟩) 42 ∧ Row w1 (w.heap.size + 1) #[.int .i64 0, .bool false, .int .i64 0, .int .i64 0, .int .i64 0, .int .i64 0, .int .u32 0, .int .u32 0, .int .u32 0, .int .u32 0, .slice none 0 0] 39 ∧ Row w1 (w.heap.size + 1 + 1) #[.int .i64 0, .bool false, .int .i64 0, .int .i64 0, .int .i64 0, .int .i64 0, .int .u32 0, .int .u32 0, .int .u32 0, .int .u32 0, .slice none 0 0] 39) := fun w1 g => ⟨Row.keep r0 g (fun h => hno _ h (Or.inl rfl)), Row.keep r1 g (fun h => hno _ h (Or.inr (Or.inl rfl))), Row.keep r2 g (fun h => hno _ h (Or.inr (Or.inr rfl)))⟩
  have HF : Hid (Fr none' w W ∧ IsD w q D ∧ W.heap.size = w.heap.size + 1 + 1 + 1) := ⟨f, h, hsz⟩
  have x1 := r0.cell 1
  have x2 := r0.cell 2
  have x3 := r0.cell 3
  have x4 := r0.cell 4
  have x5 := r0.cell 5
  have x6 := r0.cell 6
  have x7 := r0.cell 7
  have x8 := r0.cell 8
  have x9 := r0.cell 9
  have x10 := r0.cell 10
  have x11 := r0.cell 11
  have x12 := r0.cell 12
  have x0 := r0.cell 0
  dsimp only [acA] at hW x0 x1 x2 x3 x4 x5 x6 x7 x8 x9 x10 x11 x12
  unfold acV
  dsimp only [acA]
  clear r0 r1 r2 f B h hsz hno ft
  go_enter Try.func11, Try.ntmps11
  go_wp2_with fail
  rw [← hW]
  refine X.mono ?_
  clear X hW x0 x1 x2 x3 x4 x5 x6 x7 x8 x9 x10 x11 x12
  rintro e w1 ⟨q', rfl, C1⟩
  have hv : OI w.heap.size w1 (.slice none 0 0) [] := ⟨rfl, Or.inl ⟨rfl, rfl⟩⟩
  obtain ⟨r0, r1, r2⟩ := HR.out w1 C1.fr
  have HE : Hid (∀ w2, Fr (Own3 w.heap.size) w1 w2 → _) := fun w2 f2 => mean_end HF.out.2.1 HF.out.1 HF.out.2.2 C1 f2 hv r1 r2 ⟨_, r0⟩
  have HQ : Hid (Row w1 (w.heap.size + 1) _ _) := r1
  have u0 := r2.cell 0
  have y0 := r1.cell 0
  have z0 := r1.frozen 0
  have u1 := r2.cell 1
  have y1 := r1.cell 1
  have z1 := r1.frozen 1
  have u2 := r2.cell 2
  have y2 := r1.cell 2
  have z2 := r1.frozen 2
  have u3 := r2.cell 3
  have y3 := r1.cell 3
  have z3 := r1.frozen 3
  have u4 := r2.cell 4
  have y4 := r1.cell 4
  have z4 := r1.frozen 4
  have u5 := r2.cell 5
  have y5 := r1.cell 5
  have z5 := r1.frozen 5
  have u6 := r2.cell 6
  have y6 := r1.cell 6
  have z6 := r1.frozen 6
  have u7 := r2.cell 7
  have y7 := r1.cell 7
  have z7 := r1.frozen 7
  have u8 := r2.cell 8
  have y8 := r1.cell 8
  have z8 := r1.frozen 8
  have u9 := r2.cell 9
  have y9 := r1.cell 9
  have z9 := r1.frozen 9
  have u10 := r2.cell 10
  have y10 := r1.cell 10
  have z10 := r1.frozen 10
  have q3 := r2.frozen 3
  have q4 := r2.frozen 4
  have q5 := r2.frozen 5
  have q6 := r2.frozen 6
  have q7 := r2.frozen 7
  have q8 := r2.frozen 8
  have q9 := r2.frozen 9
  have q1 := r2.frozen 1
  dsimp at u0 y0 u1 y1 u2 y2 u3 y3 u4 y4 u5 y5 u6 y6 u7 y7 u8 y8 u9 y9 u10 y10
  have hl1 := r1.lt
  have hl2 := r2.lt
  clear C1 hv r0 r1 r2 HR
  go_wp2_with fail
  refine bodyPost_ret (ret_an rfl rfl ((put11_row ((((((((HQ.out.keep (fr_set _ (w.heap.size + 1 + 1) 3 _ (Fr.refl _ _)) (fun e => absurd e (by show ¬ w.heap.size + 1 = w.heap.size + 1 + 1; omega))).keep (fr_set _ (w.heap.size + 1 + 1) 4 _ (Fr.refl _ _)) (fun e => absurd e (by show ¬ w.heap.size + 1 = w.heap.size + 1 + 1; omega))).keep (fr_set _ (w.heap.size + 1 + 1) 5 _ (Fr.refl _ _)) (fun e => absurd e (by show ¬ w.heap.size + 1 = w.heap.size + 1 + 1; omega))).keep (fr_set _ (w.heap.size + 1 + 1) 6 _ (Fr.refl _ _)) (fun e => absurd e (by show ¬ w.heap.size + 1 = w.heap.size + 1 + 1; omega))).keep (fr_set _ (w.heap.size + 1 + 1) 7 _ (Fr.refl _ _)) (fun e => absurd e (by show ¬ w.heap.size + 1 = w.heap.size + 1 + 1; omega))).keep (fr_set _ (w.heap.size + 1 + 1) 8 _ (Fr.refl _ _)) (fun e => absurd e (by show ¬ w.heap.size + 1 = w.heap.size + 1 + 1; omega))).keep (fr_set _ (w.heap.size + 1 + 1) 9 _ (Fr.refl _ _)) (fun e => absurd e (by show ¬ w.heap.size + 1 = w.heap.size + 1 + 1; omega))).keep (fr_set _ (w.heap.size + 1 + 1) 1 _ (Fr.refl _ _)) (fun e => absurd e (by show ¬ w.heap.size + 1 = w.heap.size + 1 + 1; omega))) _ _ _ _ _ _ _ _ _ _ _).alloc _) rfl) rfl ?_
  obtain ⟨e1, e2⟩ := HE.out _ ((put11_fr (((((((((Fr.refl (Own3 w.heap.size) w1).setCell (p := ⟨w.heap.size + 1 + 1, 3, none⟩) (Or.inr (Or.inr (Or.inr rfl))) _).setCell (p := ⟨w.heap.size + 1 + 1, 4, none⟩) (Or.inr (Or.inr (Or.inr rfl))) _).setCell (p := ⟨w.heap.size + 1 + 1, 5, none⟩) (Or.inr (Or.inr (Or.inr rfl))) _).setCell (p := ⟨w.heap.size + 1 + 1, 6, none⟩) (Or.inr (Or.inr (Or.inr rfl))) _).setCell (p := ⟨w.heap.size + 1 + 1, 7, none⟩) (Or.inr (Or.inr (Or.inr rfl))) _).setCell (p := ⟨w.heap.size + 1 + 1, 8, none⟩) (Or.inr (Or.inr (Or.inr rfl))) _).setCell (p := ⟨w.heap.size + 1 + 1, 9, none⟩) (Or.inr (Or.inr (Or.inr rfl))) _).setCell (p := ⟨w.heap.size + 1 + 1, 1, none⟩) (Or.inr (Or.inr (Or.inr rfl))) _) (Or.inr (Or.inr (Or.inl rfl))) _ _ _ _ _ _ _ _ _ _ _).alloc _)
  exact ⟨_, q', rfl, e2, e1⟩

end Go.Proofs.Ytjobdfkfongjaaa

/- IpMeansA -/
namespace Go.Proofs.Ytjobdfkfongjaaa
open Go.RowKit Go.Maps Go.WideMaps Go.Shelf

theorem mnone_of {A : Ac} (h : ¬ (1 ≤ A.d ∧ A.d ≤ 12)) (D : Dc) : meanS D A = D ∧ meanN D A = 0 ∧ meanG D A = false ∧ meanE D A = 0 ∧ meanM D A = M0 ∧ meanL D A = [] := by
  obtain ⟨d, a, t, x, m, c, bl⟩ := A
  have h : ¬ (1 ≤ d ∧ d ≤ 12) := h
  have n : ∀ k : Int, 1 ≤ k → k ≤ 12 → d ≠ k := fun k h1 h2 e => h (by omega)
  refine ⟨?_, ?_, ?_, ?_, ?_, ?_⟩ <;> simp only [meanS, meanN, meanG, meanE, meanM, meanL, n 1 (by omega) (by omega), n 2 (by omega) (by omega), n 3 (by omega) (by omega), n 4 (by omega) (by omega), n 5 (by omega) (by omega), n 6 (by omega) (by omega), n 7 (by omega) (by omega), n 8 (by omega) (by omega), n 9 (by omega) (by omega), n 10 (by omega) (by omega), n 11 (by omega) (by omega), n 12 (by omega) (by omega), if_false]

set_option maxRecDepth 100000 in
set_option maxHeartbeats 4000000 in
theorem mean_0 {w : World} {q : Db} {D : Dc} (h : IsD w q D) (A : Ac) (hA : ¬ (1 ≤ A.d ∧ A.d ≤ 12)) : Calls Try.prog 11 #[pv q.b, acV A] w (MeanPost w q D A) := by
  obtain ⟨W, hW, B, r0, r1, r2, f, hsz, hno⟩ := mean_start h A
  obtain ⟨n1, n2, n3, n4, n5, n6⟩ := mnone_of hA D
  have HN : Hid (meanS D A = D ∧ meanN D A = 0 ∧ meanG D A = false ∧ meanE D A = 0 ∧ meanM D A = M0 ∧ meanL D A = []) := ⟨n1, n2, n3, n4, n5, n6⟩
  have hv : OI w.heap.size W (.slice none 0 0) [] := ⟨rfl, Or.inl ⟨rfl, rfl⟩⟩
  have HE : Hid (∀ w2, Fr (Own3 w.heap.size) W w2 → _) := fun w2 f2 => mean_end h f hsz (ChgD.same B (Fr.refl _ _)) f2 hv r1 r2 ⟨_, r0⟩
  have HQ : Hid (Row W (w.heap.size + 1) _ _) := r1
  have x0 := r0.cell 0
  have u0 := r2.cell 0
  have y0 := r1.cell 0
  have z0 := r1.frozen 0
  have u1 := r2.cell 1
  have y1 := r1.cell 1
  have z1 := r1.frozen 1
  have u2 := r2.cell 2
  have y2 := r1.cell 2
  have z2 := r1.frozen 2
  have u3 := r2.cell 3
  have y3 := r1.cell 3
  have z3 := r1.frozen 3
  have u4 := r2.cell 4
  have y4 := r1.cell 4
  have z4 := r1.frozen 4
  have u5 := r2.cell 5
  have y5 := r1.cell 5
  have z5 := r1.frozen 5
  have u6 := r2.cell 6
  have y6 := r1.cell 6
  have z6 := r1.frozen 6
  have u7 := r2.cell 7
  have y7 := r1.cell 7
  have z7 := r1.frozen 7
  have u8 := r2.cell 8
  have y8 := r1.cell 8
  have z8 := r1.frozen 8
  have u9 := r2.cell 9
  have y9 := r1.cell 9
  have z9 := r1.frozen 9
  have u10 := r2.cell 10
  have y10 := r1.cell 10
  have z10 := r1.frozen 10
  have g1 : (A.d == 1) = false := by have : A.d ≠ 1 := (fun e => hA (by omega)); simpa using this
  have g2 : (A.d == 2) = false := by have : A.d ≠ 2 := (fun e => hA (by omega)); simpa using this
  have g3 : (A.d == 3) = false := by have : A.d ≠ 3 := (fun e => hA (by omega)); simpa using this
  have g4 : (A.d == 4) = false := by have : A.d ≠ 4 := (fun e => hA (by omega)); simpa using this
  have g5 : (A.d == 5) = false := by have : A.d ≠ 5 := (fun e => hA (by omega)); simpa using this
  have g6 : (A.d == 6) = false := by have : A.d ≠ 6 := (fun e => hA (by omega)); simpa using this
  have g7 : (A.d == 7) = false := by have : A.d ≠ 7 := (fun e => hA (by omega)); simpa using this
  have g8 : (A.d == 8) = false := by have : A.d ≠ 8 := (fun e => hA (by omega)); simpa using this
  have g9 : (A.d == 9) = false := by have : A.d ≠ 9 := (fun e => hA (by omega)); simpa using this
  have g10 : (A.d == 10) = false := by have : A.d ≠ 10 := (fun e => hA (by omega)); simpa using this
  have g11 : (A.d == 11) = false := by have : A.d ≠ 11 := (fun e => hA (by omega)); simpa using this
  have g12 : (A.d == 12) = false := by have : A.d ≠ 12 := (fun e => hA (by omega)); simpa using this
  dsimp only [acA] at hW x0
  unfold acV
  dsimp only [acA]
  dsimp at u0 y0 u1 y1 u2 y2 u3 y3 u4 y4 u5 y5 u6 y6 u7 y7 u8 y8 u9 y9 u10 y10
  clear r0 r1 r2 f B h hA n1 n2 n3 n4 n5 n6 hsz hno hv
  go_enter Try.func11, Try.ntmps11
  go_wp2_with fail
  rw [← hW]
  refine bodyPost_ret (ret_an rfl rfl HQ.out rfl) rfl ?_
  obtain ⟨e1, e2⟩ := HE.out W (Fr.refl _ W)
  obtain ⟨n1, n2, n3, n4, n5, n6⟩ := HN.out
  refine ⟨.slice none 0 0, q, ?_, ?_, ?_⟩
  · rw [n2, n3, n4, n5]
    rfl
  · rw [n6]
    exact e2
  · rw [n1]
    exact e1

theorem means_any {w : World} {q : Db} {D : Dc} (h : IsD w q D) (ft : Fit D) (A : Ac) : Calls Try.prog 11 #[pv q.b, acV A] w (MeanPost w q D A) := by
  by_cases hA : 1 ≤ A.d ∧ A.d ≤ 12
  · obtain ⟨d, a, t, x, m, c, bl⟩ := A
    have hA : 1 ≤ d ∧ d ≤ 12 := hA
    have : d = 1 ∨ d = 2 ∨ d = 3 ∨ d = 4 ∨ d = 5 ∨ d = 6 ∨ d = 7 ∨ d = 8 ∨ d = 9 ∨ d = 10 ∨ d = 11 ∨ d = 12 := by omega
    rcases this with rfl | rfl | rfl | rfl | rfl | rfl | rfl | rfl | rfl | rfl | rfl | rfl
    · exact mean_1 h ft a t x m c bl
    · exact mean_2 h ft a t x m c bl
    · exact mean_3 h ft a t x m c bl
    · exact mean_4 h ft a t x m c bl
    · exact mean_5 h ft a t x m c bl
    · exact mean_6 h ft a t x m c bl
    · exact mean_7 h ft a t x m c bl
    · exact mean_8 h ft a t x m c bl
    · exact mean_9 h ft a t x m c bl
    · exact mean_10 h ft a t x m c bl
    · exact mean_11 h ft a t x m c bl
    · exact mean_12 h ft a t x m c bl
  · exact mean_0 h A hA

end Go.Proofs.Ytjobdfkfongjaaa

