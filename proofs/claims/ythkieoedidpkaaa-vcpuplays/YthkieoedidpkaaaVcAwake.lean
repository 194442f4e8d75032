/-
  The contract of viceroylaw18.awake over the translation. No statement is proved here.
-/
import Derived.Test.YthkieoedidpkaaaVcPr
namespace Go.Proofs.Ythkieoedidpkaaa
open Go.RowKit Go.Maps Go.WideMaps

def bkA : Nat → Int := fun k => if k = 0 then 1 else if k = 1 then 2 else 0
def AS0 : Vp := ⟨[], -1, 2⟩
def AS1 : Vp := addS AS0 3
def AS2 : Vp := addS AS1 4
def AS3 : Vp := entS AS2 3
def AS4 : Vp := setS AS3 bkA
def AS5 : Vp := entS AS4 4
def AS6 : Vp := wriS AS5 3 1 9
def AS7 : Vp := entS AS6 3
def AS8 : Vp := binS AS7 3 7
def AS9 : Vp := binS AS8 4 7
def AS10 : Vp := wriS AS9 3 3 2
def AS11 : Vp := tckS AS10 
def AS12 : Vp := tckS AS11 
set_option maxRecDepth 100000 in
set_option maxHeartbeats 4000000 in
theorem awake_any (w : World) : Calls Try.prog 5 #[] w fun e w' => e = .returned (.bool true) ∧ Fr none' w w' := by
  go_enter Try.func5, Try.ntmps5
  go_wp2_with fail
  refine (xnew w 2 (by decide)).mono ?_
  rintro e w1 ⟨p, rfl, P⟩
  replace P : Vx w w1 p AS0 none' := P
  go_wp2_with fail
  refine (xadd P 3).mono ?_
  rintro e w2 ⟨p2, rfl, eb, Q, f⟩
  rw [show addE AS0 3 = 0 by decide +kernel]
  rw [← eb]
  clear eb
  replace P : Vx w w2 p2 AS1 none' := Q
  clear Q f
  go_wp2_with fail
  refine (xadd P 4).mono ?_
  rintro e w3 ⟨p3, rfl, eb, Q, f⟩
  rw [show addE AS1 4 = 0 by decide +kernel]
  rw [← eb]
  clear eb
  replace P : Vx w w3 p3 AS2 none' := Q
  clear Q f
  go_wp2_with fail
  refine (xenter P 3 (i64_of (by omega) (by omega))).mono ?_
  rintro e w4 ⟨rfl, Q, f⟩
  rw [show entE AS2 3 = 0 by decide +kernel]
  replace P : Vx w w4 _ AS3 none' := Q
  clear Q f
  go_wp2_with fail
  refine (xset P bkA).mono ?_
  rintro e w5 ⟨rfl, Q, f⟩
  rw [show setE AS3 = 0 by decide +kernel]
  replace P : Vx w w5 _ AS4 none' := Q
  clear Q f
  go_wp2_with fail
  refine (xenter P 4 (i64_of (by omega) (by omega))).mono ?_
  rintro e w6 ⟨rfl, Q, f⟩
  rw [show entE AS4 4 = 0 by decide +kernel]
  replace P : Vx w w6 _ AS5 none' := Q
  clear Q f
  go_wp2_with fail
  refine (xbank P).mono ?_
  rintro e w7 ⟨rfl, f⟩
  rw [show r8 (bkF AS5) = #[.int .u32 0, .int .u32 0, .int .u32 0, .int .u32 0, .int .u32 0, .int .u32 0, .int .u32 4, .int .u32 0] by rfl]
  replace P := P.keep0 f
  clear f
  have f := (Fr.refl none' w7).alloc (.cells #[.int .u32 0, .int .u32 0, .int .u32 0, .int .u32 0, .int .u32 0, .int .u32 0, .int .u32 4, .int .u32 0] 33)
  have r1 := row_alloc w7 #[.int .u32 0, .int .u32 0, .int .u32 0, .int .u32 0, .int .u32 0, .int .u32 0, .int .u32 4, .int .u32 0] 33
  replace P : Vx w (w7.alloc (.cells #[.int .u32 0, .int .u32 0, .int .u32 0, .int .u32 0, .int .u32 0, .int .u32 0, .int .u32 4, .int .u32 0] 33)) _ AS5 (at' w7.heap.size) := P.more f (fun k hk => ⟨Or.inr (Nat.le_of_eq hk.symm), by rw [show k = _ from hk]; exact r1.lt⟩)
  clear f
  go_wp2_with fail
  generalize (w7.alloc (.cells #[.int .u32 0, .int .u32 0, .int .u32 0, .int .u32 0, .int .u32 0, .int .u32 0, .int .u32 4, .int .u32 0] 33)) = v1 at *
  generalize w7.heap.size = g1 at *
  refine (xread P 3 1 (i64_of (by omega) (by omega))).mono ?_
  rintro e w8 ⟨rfl, rfl⟩
  rw [show reaW AS5 3 1 = 2 by decide +kernel, show reaE AS5 3 1 = 0 by decide +kernel]
  go_wp2_with fail
  refine (xwrite P 3 1 9 (i64_of (by omega) (by omega))).mono ?_
  rintro e w9 ⟨rfl, Q, f⟩
  rw [show wriE AS5 3 1 = 0 by decide +kernel]
  replace P : Vx w w9 _ AS6 (at' g1) := Q
  replace r1 := r1.keep f (fun h => h.2 rfl)
  clear Q f
  go_wp2_with fail
  refine (xenter P 3 (i64_of (by omega) (by omega))).mono ?_
  rintro e w10 ⟨rfl, Q, f⟩
  rw [show entE AS6 3 = 0 by decide +kernel]
  replace P : Vx w w10 _ AS7 (at' g1) := Q
  replace r1 := r1.keep f (fun h => h.2 rfl)
  clear Q f
  go_wp2_with fail
  refine (xbank P).mono ?_
  rintro e w11 ⟨rfl, f⟩
  rw [show r8 (bkF AS7) = #[.int .u32 1, .int .u32 9, .int .u32 0, .int .u32 0, .int .u32 0, .int .u32 0, .int .u32 3, .int .u32 0] by rfl]
  replace r1 := r1.keep f (fun h => h)
  replace P := P.keep0 f
  clear f
  have f := (Fr.refl none' w11).alloc (.cells #[.int .u32 1, .int .u32 9, .int .u32 0, .int .u32 0, .int .u32 0, .int .u32 0, .int .u32 3, .int .u32 0] 33)
  have r2 := row_alloc w11 #[.int .u32 1, .int .u32 9, .int .u32 0, .int .u32 0, .int .u32 0, .int .u32 0, .int .u32 3, .int .u32 0] 33
  replace r1 := r1.keep f (fun h => h)
  replace P : Vx w (w11.alloc (.cells #[.int .u32 1, .int .u32 9, .int .u32 0, .int .u32 0, .int .u32 0, .int .u32 0, .int .u32 3, .int .u32 0] 33)) _ AS7 (fun k => k = g1 ∨ k = w11.heap.size) := P.more f (fun k hk => (by rcases hk with rfl | rfl; exact ⟨Or.inl rfl, Nat.lt_of_lt_of_le (P.lo _ rfl) f.size⟩; exact ⟨Or.inr (Nat.le_refl _), r2.lt⟩))
  clear f
  go_wp2_with fail
  generalize (w11.alloc (.cells #[.int .u32 1, .int .u32 9, .int .u32 0, .int .u32 0, .int .u32 0, .int .u32 0, .int .u32 3, .int .u32 0] 33)) = v2 at *
  generalize w11.heap.size = g2 at *
  refine (xbind P 3 7 (i64_of (by omega) (by omega))).mono ?_
  rintro e w12 ⟨rfl, Q, f⟩
  rw [show binE AS7 3 7 = 0 by decide +kernel]
  replace P : Vx w w12 _ AS8 (fun k => k = g1 ∨ k = g2) := Q
  replace r1 := r1.keep f (fun h => h.2 (Or.inl rfl))
  replace r2 := r2.keep f (fun h => h.2 (Or.inr rfl))
  clear Q f
  go_wp2_with fail
  refine (xbind P 4 7 (i64_of (by omega) (by omega))).mono ?_
  rintro e w13 ⟨rfl, Q, f⟩
  rw [show binE AS8 4 7 = 180 by decide +kernel]
  replace P : Vx w w13 _ AS9 (fun k => k = g1 ∨ k = g2) := Q
  replace r1 := r1.keep f (fun h => h.2 (Or.inl rfl))
  replace r2 := r2.keep f (fun h => h.2 (Or.inr rfl))
  clear Q f
  go_wp2_with fail
  refine (xwrite P 3 3 2 (i64_of (by omega) (by omega))).mono ?_
  rintro e w14 ⟨rfl, Q, f⟩
  rw [show wriE AS9 3 3 = 0 by decide +kernel]
  replace P : Vx w w14 _ AS10 (fun k => k = g1 ∨ k = g2) := Q
  replace r1 := r1.keep f (fun h => h.2 (Or.inl rfl))
  replace r2 := r2.keep f (fun h => h.2 (Or.inr rfl))
  clear Q f
  go_wp2_with fail
  refine (xtick P).mono ?_
  rintro e w15 ⟨rfl, Q, f⟩
  rw [show tckB AS10 = false by decide +kernel]
  replace P : Vx w w15 _ AS11 (fun k => k = g1 ∨ k = g2) := Q
  replace r1 := r1.keep f (fun h => h.2 (Or.inl rfl))
  replace r2 := r2.keep f (fun h => h.2 (Or.inr rfl))
  clear Q f
  go_wp2_with fail
  refine (xtick P).mono ?_
  rintro e w16 ⟨rfl, Q, f⟩
  rw [show tckB AS11 = true by decide +kernel]
  replace P : Vx w w16 _ AS12 (fun k => k = g1 ∨ k = g2) := Q
  replace r1 := r1.keep f (fun h => h.2 (Or.inl rfl))
  replace r2 := r2.keep f (fun h => h.2 (Or.inr rfl))
  clear Q f
  go_wp2_with fail
  refine (newV_bad _ 0 (by decide)).mono ?_
  rintro e w' ⟨rfl, rfl⟩
  have a0 := r1.cell 0
  have a1 := r1.cell 1
  have a2 := r1.cell 2
  have a3 := r1.cell 3
  have a4 := r1.cell 4
  have a5 := r1.cell 5
  have a6 := r1.cell 6
  have a7 := r1.cell 7
  have b0 := r2.cell 0
  have b1 := r2.cell 1
  have b2 := r2.cell 2
  have b3 := r2.cell 3
  have b4 := r2.cell 4
  have b5 := r2.cell 5
  have b6 := r2.cell 6
  have b7 := r2.cell 7
  dsimp at a0 a1 a2 a3 a4 a5 a6 a7 b0 b1 b2 b3 b4 b5 b6 b7
  have q1 : ∀ w, (Op.equalIn 10000 33 (.agg #[.int .u32 0, .int .u32 0, .int .u32 0, .int .u32 0, .int .u32 0, .int .u32 0, .int .u32 4, .int .u32 0]) (.agg #[.int .u32 0, .int .u32 0, .int .u32 0, .int .u32 0, .int .u32 0, .int .u32 0, .int .u32 4, .int .u32 0])).run Try.prog w = .ok true w := fun w => (eq8_in (zsy 4) (zsy 4) w).trans (by rw [eq8B_same])
  have q2 : ∀ w, (Op.equalIn 10000 33 (.agg #[.int .u32 1, .int .u32 9, .int .u32 0, .int .u32 0, .int .u32 0, .int .u32 0, .int .u32 3, .int .u32 0]) (.agg #[.int .u32 1, .int .u32 9, .int .u32 0, .int .u32 0, .int .u32 0, .int .u32 0, .int .u32 3, .int .u32 0])).run Try.prog w = .ok true w := fun w => (eq8_in (fun k => if k = 0 then 1 else if k = 1 then 9 else if k = 6 then 3 else 0) (fun k => if k = 0 then 1 else if k = 1 then 9 else if k = 6 then 3 else 0) w).trans (by rw [eq8B_same])
  have HP : Hid _ := P.fr
  clear P r1 r2
  go_wp2_with fail
  go_ret
  exact ⟨rfl, HP.out⟩

end Go.Proofs.Ythkieoedidpkaaa
