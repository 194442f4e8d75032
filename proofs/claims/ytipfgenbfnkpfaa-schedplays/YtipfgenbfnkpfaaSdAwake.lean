/-
  The contract of viceroylaw15.awake over the translation. No statement is proved here.
-/
import Derived.Test.YtipfgenbfnkpfaaSdPr
namespace Go.Proofs.Ytipfgenbfnkpfaa
open Go.RowKit Go.Maps Go.WideMaps

theorem tni_nil (w : World) : TnI w (.slice none 0 0) [] := Or.inl ⟨rfl, rfl⟩
theorem tni_two {w : World} {g : Nat} {a b c d : Int} (r : Row w g #[.int .i64 a, .int .i64 b, .int .i64 c, .int .i64 d] 33) : TnI w (.slice (some ⟨g, 0, none⟩) 2 2) [⟨a, b⟩, ⟨c, d⟩] := by
  refine Or.inr ⟨⟨g, 0, none⟩, 2, rfl, fun k x hk => ?_⟩
  match k, hk with
  | 0, hk => cases hk; exact ⟨g, 0, rfl, r.cell 0, r.cell 1⟩
  | 1, hk => cases hk; exact ⟨g, 0, rfl, r.cell 2, r.cell 3⟩
  | k + 2, hk => simp at hk

def tw2 : List Tn := [⟨0, 2⟩, ⟨1, 3⟩]
def AS0 : Sd := newSd []
def AS1 : Sd := addS AS0 1 5 0
def AS2 : Sd := addS AS1 2 5 0
def AS3 : Sd := addS AS2 3 9 0
def AS4 : Sd := wakS AS3 1
def AS5 : Sd := wakS AS4 2
def AS6 : Sd := setS AS5 
def AS7 : Sd := yieS AS6 
def AS8 : Sd := setS AS7 
def AS9 : Sd := wakS AS8 3
def AS10 : Sd := setS AS9 
def AT0 : Sd := newSd tw2
def AT1 : Sd := addS AT0 1 5 0
def AT2 : Sd := addS AT1 4 5 1
def AT3 : Sd := wakS AT2 1
def AT4 : Sd := wakS AT3 4
def AT5 : Sd := setS AT4 
def AT6 : Sd := ticS AT5 
def AT7 : Sd := ticS AT6 
def AT8 : Sd := setS AT7 

set_option maxRecDepth 100000 in
set_option maxHeartbeats 4000000 in
theorem awake_any (w : World) : Calls Try.prog 9 #[] w fun e w' => e = .returned (.bool true) ∧ Fr none' w w' := by
  go_enter Try.func9, Try.ntmps9
  go_wp2_with fail
  refine (xnew w _ [] (tni_nil w) rfl).mono ?_
  rintro e w1 ⟨bs, rfl, P⟩
  have r1 := row_alloc w1 #[.int .i64 0, .int .i64 2, .int .i64 1, .int .i64 3] 33
  have f1 := (Fr.refl none' w1).alloc (.cells #[.int .i64 0, .int .i64 2, .int .i64 1, .int .i64 3] 33)
  have N2 := xnew _ _ tw2 (tni_two r1) rfl
  replace P := P.keep0 f1
  have s1 : w.heap.size ≤ (w1.alloc (.cells #[.int .i64 0, .int .i64 2, .int .i64 1, .int .i64 3] 33)).heap.size := P.old.size
  clear r1 f1
  go_wp2_with fail
  refine N2.mono ?_
  clear N2
  generalize w1.alloc (.cells #[.int .i64 0, .int .i64 2, .int .i64 1, .int .i64 3] 33) = wa at *
  rintro e w2 ⟨bt, rfl, T⟩
  obtain ⟨pt, rfl, t1, t2, _, t4, t5⟩ := T
  have P1 : Sx w w2 bs AS0 (pt.s (newSd tw2)) := P.more t4 (fun k hk => ⟨Or.inr (t2 k hk).1, t1.lt k hk⟩)
  have F : Fr (fun k => w.heap.size ≤ k ∧ ¬ pt.s (newSd tw2) k) w2 w2 := Fr.refl _ _
  have HT : Hid (IsS w2 pt (newSd tw2) ∧ (∀ k, pt.s (newSd tw2) k → w.heap.size ≤ k) ∧ Ok (newSd tw2)) := ⟨t1, fun k hk => Nat.le_trans s1 (t2 k hk).1, t5⟩
  clear P t1 t2 t4 t5 s1
  replace P := P1
  clear P1
  go_wp2_with fail
  refine (xadd P 1 5 0 (i64_of (by omega) (by omega))).mono ?_
  rintro e w3 ⟨rfl, Q, f⟩
  replace P : Sx w w3 _ AS1 _ := Q
  replace F := F.trans f
  clear Q f
  go_wp2_with fail
  refine (xadd P 2 5 0 (i64_of (by omega) (by omega))).mono ?_
  rintro e w4 ⟨rfl, Q, f⟩
  replace P : Sx w w4 _ AS2 _ := Q
  replace F := F.trans f
  clear Q f
  go_wp2_with fail
  refine (xadd P 3 9 0 (i64_of (by omega) (by omega))).mono ?_
  rintro e w5 ⟨rfl, Q, f⟩
  replace P : Sx w w5 _ AS3 _ := Q
  replace F := F.trans f
  clear Q f
  go_wp2_with fail
  refine (xwake P 1 (i64_of (by omega) (by omega))).mono ?_
  rintro e w6 ⟨rfl, Q, f⟩
  replace P : Sx w w6 _ AS4 _ := Q
  replace F := F.trans f
  clear Q f
  go_wp2_with fail
  refine (xwake P 2 (i64_of (by omega) (by omega))).mono ?_
  rintro e w7 ⟨rfl, Q, f⟩
  replace P : Sx w w7 _ AS5 _ := Q
  replace F := F.trans f
  clear Q f
  go_wp2_with fail
  refine (xsettle P).mono ?_
  rintro e w8 ⟨v, rfl, Q, f⟩
  replace P : Sx w w8 _ AS6 _ := Q
  replace F := F.trans f
  clear Q f
  go_wp2_with fail
  refine (xcur P).mono ?_
  rintro e w9 ⟨rfl, rfl⟩
  rw [show AS6.c = 1 by decide +kernel]
  go_wp2_with fail
  refine (xyield P).mono ?_
  rintro e w10 ⟨rfl, Q, f⟩
  replace P : Sx w w10 _ AS7 _ := Q
  replace F := F.trans f
  clear Q f
  go_wp2_with fail
  refine (xsettle P).mono ?_
  rintro e w11 ⟨v, rfl, Q, f⟩
  replace P : Sx w w11 _ AS8 _ := Q
  replace F := F.trans f
  clear Q f
  go_wp2_with fail
  refine (xcur P).mono ?_
  rintro e w12 ⟨rfl, rfl⟩
  rw [show AS8.c = 2 by decide +kernel]
  go_wp2_with fail
  refine (xwake P 3 (i64_of (by omega) (by omega))).mono ?_
  rintro e w13 ⟨rfl, Q, f⟩
  replace P : Sx w w13 _ AS9 _ := Q
  replace F := F.trans f
  clear Q f
  go_wp2_with fail
  refine (xsettle P).mono ?_
  rintro e w14 ⟨v, rfl, Q, f⟩
  replace P : Sx w w14 _ AS10 _ := Q
  replace F := F.trans f
  clear Q f
  go_wp2_with fail
  refine (xcur P).mono ?_
  rintro e w15 ⟨rfl, rfl⟩
  rw [show AS10.c = 3 by decide +kernel]
  obtain ⟨t1, t2, t5⟩ := HT.out
  have T : Sx w w15 pt.b AT0 (fun _ => False) := ⟨pt, rfl, t1.keep F (fun k hk h => h.2 hk), fun k hk => ⟨t2 k hk, fun h => h⟩, fun _ h => h.elim, P.old, t5⟩
  clear t1 t2 t5 HT F P
  generalize pt.b = bt at *
  go_wp2_with fail
  refine (xadd T 1 5 0 (i64_of (by omega) (by omega))).mono ?_
  rintro e w16 ⟨rfl, Q, f⟩
  replace T : Sx w w16 _ AT1 _ := Q
  clear Q f
  go_wp2_with fail
  refine (xadd T 4 5 1 (i64_of (by omega) (by omega))).mono ?_
  rintro e w17 ⟨rfl, Q, f⟩
  replace T : Sx w w17 _ AT2 _ := Q
  clear Q f
  go_wp2_with fail
  refine (xwake T 1 (i64_of (by omega) (by omega))).mono ?_
  rintro e w18 ⟨rfl, Q, f⟩
  replace T : Sx w w18 _ AT3 _ := Q
  clear Q f
  go_wp2_with fail
  refine (xwake T 4 (i64_of (by omega) (by omega))).mono ?_
  rintro e w19 ⟨rfl, Q, f⟩
  replace T : Sx w w19 _ AT4 _ := Q
  clear Q f
  go_wp2_with fail
  refine (xsettle T).mono ?_
  rintro e w20 ⟨v, rfl, Q, f⟩
  replace T : Sx w w20 _ AT5 _ := Q
  clear Q f
  go_wp2_with fail
  refine (xtick T).mono ?_
  rintro e w21 ⟨v, rfl, Q, f⟩
  replace T : Sx w w21 _ AT6 _ := Q
  clear Q f
  go_wp2_with fail
  refine (xtick T).mono ?_
  rintro e w22 ⟨v, rfl, Q, f⟩
  replace T : Sx w w22 _ AT7 _ := Q
  clear Q f
  go_wp2_with fail
  refine (xsettle T).mono ?_
  rintro e w23 ⟨v, rfl, Q, f⟩
  replace T : Sx w w23 _ AT8 _ := Q
  clear Q f
  go_wp2_with fail
  refine (xcur T).mono ?_
  rintro e w24 ⟨rfl, rfl⟩
  rw [show AT8.c = 4 by decide +kernel]
  go_wp2_with fail
  refine (xthr T 1 (i64_of (by omega) (by omega))).mono ?_
  rintro e w25 ⟨rfl, f⟩
  rw [show thrC AT8 1 = ⟨1, 5, 0, 2, true⟩ by rfl, show thrE AT8 1 = 0 by rfl]
  have r9 := row_alloc w25 (tkA ⟨1, 5, 0, 2, true⟩) 40
  have c3 := r9.cell 3
  dsimp [tkA] at c3
  have F9 := (T.old.trans f).alloc (.cells (tkA ⟨1, 5, 0, 2, true⟩) 40)
  dsimp only [tkA] at F9
  clear r9 T f
  go_wp2_with fail
  go_ret
  exact ⟨rfl, F9⟩

end Go.Proofs.Ytipfgenbfnkpfaa
