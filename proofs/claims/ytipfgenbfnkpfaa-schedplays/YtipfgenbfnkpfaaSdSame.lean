/-
  viceroylaw15.ints and viceroylaw15.same over the translation: both schedulers stand alike. No statement is proved here.
-/
import Derived.Test.YtipfgenbfnkpfaaSdBoth
namespace Go.Proofs.Ytipfgenbfnkpfaa
open Go.RowKit Go.Maps Go.WideMaps

theorem neq_tk (x : Tk) (w : World) : (binOp .neq 40 (.agg #[.int .i64 x.i, .int .i64 x.p, .int .i64 x.d, .int .i64 x.s, .bool x.a]) (.agg #[.int .i64 x.i, .int .i64 x.p, .int .i64 x.d, .int .i64 x.s, .bool x.a])).run Try.prog w = .ok (.bool false) w := by
  obtain ⟨a1, a2, a3, a4, a5⟩ := x
  simp [go_sem]

set_option maxRecDepth 100000 in
set_option maxHeartbeats 2000000 in
theorem ints_any {w0 w1 : World} (w : World) (v u : Value) (l : List Int) (hv : NmS w0 w v l) (hu : NmS w1 w u l) (hl : l.length ≤ 5000) :
    Calls Try.prog 41 #[v, u] w fun e w' => e = .returned (.bool true) ∧ Fr none' w w' := by
  obtain ⟨av, cv, rfl, hx⟩ := hv
  obtain ⟨au, cu, rfl, hy⟩ := hu
  have HX : Hid (∀ (j : Nat) (x : Int), l[j]? = some x → (∃ g, av = some ⟨g, 0, none⟩ ∧ w.cell? ⟨g, j, none⟩ = some (.int .i64 x)) ∧ ∃ g, au = some ⟨g, 0, none⟩ ∧ w.cell? ⟨g, j, none⟩ = some (.int .i64 x)) := fun j x hj => by
    obtain ⟨g, e, _, c⟩ := hx j x hj
    obtain ⟨g', e', _, c'⟩ := hy j x hj
    exact ⟨⟨g, e, c⟩, g', e', c'⟩
  have HG : Hid (∀ j, j < l.length → ∃ y, l[j]? = some y) := fun j h => ⟨_, List.getElem?_eq_getElem h⟩
  clear hx hy
  generalize l.length = N at *
  go_enter Try.func41, Try.ntmps41
  go_wp2_with fail
  go_loopw [5] (fun i wr => ∃ j : Nat, j ≤ N ∧ i = .int .i64 (j : Int) ∧ Hid (Fr none' w wr)) (fun i _ => N - (intOf i).toNat)
  case atStart => exact ⟨0, by omega, rfl, Fr.refl _ _⟩
  case round =>
    obtain ⟨j, hj, rfl, HF⟩ := hrel
    by_cases hjN : j < N
    · have ij : 0 ≤ (j : Int) ∧ (j : Int) < (N : Int) := by omega
      obtain ⟨y, hy⟩ := HG.out j hjN
      obtain ⟨⟨g, rfl, c⟩, g', rfl, c'⟩ := HX.out j y hy
      replace c := cell_keep HF.out c (fun h => h)
      replace c' := cell_keep HF.out c' (fun h => h)
      have HF2 : Hid (∀ n, Fr none' w (wr.drewN n)) := fun n => HF.out.trans (fr_drewN wr n)
      have sy : (y != y) = false := by simp
      clear hy HF
      go_wp2_with fail
      go_quiet (fail)
      go_wp2_with fail
      go_roundw
      case rel => exact ⟨j + 1, by omega, by go_num, HF2.out _⟩
      case measure => simp [intOf]; omega
    · have ij : ¬ (j : Int) < (N : Int) := by omega
      go_wp2_with fail
      go_ret
      exact ⟨rfl, HF.out⟩

section
variable {w0 w w' : World} {b r : Nat} {S : Sd} {Q : List Int} {O : Nat → Prop}
theorem Bo.isd (h : Bo w0 w b r S Q O) : ∃ q, q.b = r ∧ IsD w q S Q := by obtain ⟨p, q, _, e, _, h, _⟩ := h; exact ⟨q, e, h⟩
theorem Bo.len (h : Bo w0 w b r S Q O) : Q.length ≤ 5000 := by have := h.rl.len h.ok.q; omega
theorem brcur (h : Bo w0 w b r S Q O) : w.cell? ⟨r, 5, none⟩ = some (.int .i64 S.c) := by obtain ⟨q, rfl, d⟩ := h.isd; exact d.cells.2.2.2.2.2
theorem brpe (h : Bo w0 w b r S Q O) : Calls Try.prog 38 #[.pointer (some ⟨r, 0, none⟩)] w fun e w' => e = .returned (.int .i64 (pe S)) ∧ ∃ n, w' = w.drewN n := by obtain ⟨q, rfl, d⟩ := h.isd; exact rdom_any w q S Q d h.ok.t.tn
theorem brthr (h : Bo w0 w b r S Q O) (k : Int) : Calls Try.prog 39 #[.pointer (some ⟨r, 0, none⟩), .int .i64 k] w fun e w' => e = .returned (.tuple #[tkV (thrC S k), .int .i64 (thrE S k)]) ∧ Fr none' w w' := by obtain ⟨q, rfl, d⟩ := h.isd; exact rthread_any w q S Q d k
theorem brrea (h : Bo w0 w b r S Q O) (d p : Int) : Calls Try.prog 40 #[.pointer (some ⟨r, 0, none⟩), .int .i64 d, .int .i64 p] w fun e w' => ∃ v', e = .returned v' ∧ Fr none' w w' ∧ NmS w w' v' (reaL S d p) := by
  obtain ⟨q, rfl, dd⟩ := h.isd
  have e := rea_same h.ok.q h.rl d p
  have := rready_any w q S Q dd h.len h.rl.al d p
  rw [e]
  exact this
end

/-- Both lists of a queue are one. -/
theorem bo_ints {w0 w wa wb : World} {b r : Nat} {S : Sd} {Q : List Int} {O : Nat → Prop} (h : Bo w0 w b r S Q O) (d p : Int) (v u : Value) (hv : NmS w wa v (reaL S d p)) (f : Fr none' wa wb) (hu : NmS wa wb u (reaL S d p)) :
    Calls Try.prog 41 #[v, u] wb fun e w' => e = .returned (.bool true) ∧ Fr none' wb w' := ints_any wb v u _ (hv.keep f) hu (Nat.le_trans (reaL_len h.ok d p) (by omega))

set_option maxRecDepth 100000 in
set_option maxHeartbeats 8000000 in
theorem same_any {w0 w : World} {b r : Nat} {S : Sd} {Q : List Int} (h : Bo w0 w b r S Q (fun _ => False)) (x : Ac) (hx : OkA x) : Calls Try.prog 13 #[.pointer (some ⟨b, 0, none⟩), .pointer (some ⟨r, 0, none⟩), acV x] w fun e w' => e = .returned (.bool true) ∧ Fr none' w w' := by
  have fa := (Fr.refl none' w).alloc (.cells (acC x) 36)
  have ra := row_alloc w (acC x) 36
  have B := h.keep0 fa
  have HA : Hid (Fr none' w (w.alloc (.cells (acC x) 36))) := fa
  have HR : Hid (Row (w.alloc (.cells (acC x) 36)) w.heap.size (acC x) 36) := ra
  have HI64 : Hid (I64 x.i) := hx.2.1
  unfold acV acC at *
  clear fa ra h hx
  have X := xcur B.sx
  have HB : Hid _ := B
  clear B
  go_enter Try.func13, Try.ntmps13
  go_wp2_with fail
  refine X.mono ?_
  clear X
  rintro e wz ⟨rfl, rfl⟩
  have B : Bo w0 (w.alloc (.cells #[.int .i64 x.op, .int .i64 x.i, .int .i64 x.n, .int .i64 x.m] 36)) b r S Q (fun _ => False) := HB.out
  clear HB
  generalize w.alloc (.cells #[.int .i64 x.op, .int .i64 x.i, .int .i64 x.n, .int .i64 x.m] 36) = w1 at *
  generalize w.heap.size = gx at *
  have X := xpe B.sx
  go_wp2_with fail
  refine X.mono ?_
  clear X
  rintro e w2 ⟨rfl, nd, rfl⟩
  replace B := B.keep0 (fr_drewN w1 nd)
  have HA2 : Hid (Fr none' w (w1.drewN nd)) := HA.out.trans (fr_drewN w1 nd)
  have HR2 : Hid (Row (w1.drewN nd) gx #[.int .i64 x.op, .int .i64 x.i, .int .i64 x.n, .int .i64 x.m] 36) := HR.out.keep (fr_drewN w1 nd) (fun h => h)
  clear HA HR
  generalize w1.drewN nd = w2 at *
  have c5 := brcur B
  have X := brpe B
  have sc : (S.c != S.c) = false := by simp
  go_wp2_with fail
  refine X.mono ?_
  clear X c5
  rintro e w3 ⟨rfl, nd, rfl⟩
  replace B := B.keep0 (fr_drewN w2 nd)
  have HA : Hid (Fr none' w (w2.drewN nd)) := HA2.out.trans (fr_drewN w2 nd)
  have HR : Hid (Row (w2.drewN nd) gx #[.int .i64 x.op, .int .i64 x.i, .int .i64 x.n, .int .i64 x.m] 36) := HR2.out.keep (fr_drewN w2 nd) (fun h => h)
  clear HA2 HR2
  generalize w2.drewN nd = w3 at *
  have HB : Hid (Bo w0 w3 b r S Q (fun _ => False)) := B
  clear B
  go_wp2_with fail
  go_loopw [9] (fun i wr => ∃ k : Nat, k ≤ 9 ∧ i = .int .i64 (k : Int) ∧ Hid (Fr none' w3 wr)) (fun i _ => 9 - (intOf i).toNat)
  case atStart => exact ⟨0, by omega, rfl, Fr.refl _ _⟩
  case round =>
    obtain ⟨k, hk, rfl, HF⟩ := hrel
    by_cases hk9 : k < 9
    · have u0 : decide ((k : Int) ≤ 8) = true := decide_eq_true (by omega)
      have ik : (k : Int) ≤ 8 := by omega
      have B := HB.out.keep0 HF.out
      have c1 := (HR.out.keep HF.out (fun h => h)).cell 1
      dsimp at c1
      obtain ⟨ii, hii⟩ : ∃ ii : Int, ii = if k = 8 then x.i else (k : Int) := ⟨_, rfl⟩
      have hi64 : I64 ii := by
        rw [hii]
        split
        · exact HI64.out
        · exact i64_of (by omega) (by omega)
      have XT := xthr B.sx ii hi64
      have HK : Hid (∀ w', Fr none' wr w' → Fr none' w3 w') := fun w' f => HF.out.trans f
      have HQ : Hid (Bo w0 wr b r S Q (fun _ => False)) := B
      clear B HF
      by_cases h8 : k = 8
      · rw [if_pos h8] at hii
        subst hii
        have t8 : ((k : Int) == 8) = true := by simp; omega
        clear h8 hi64
        go_wp2_with fail
        refine XT.mono ?_
        clear XT c1
        rintro e wt ⟨rfl, ft⟩
        have r1 := row_alloc wt (tkA (thrC S x.i)) 40
        have f1 := ft.alloc (.cells (tkA (thrC S x.i)) 40)
        have X := brthr (HQ.out.keep0 f1) x.i
        have HF1 : Hid (Fr none' wr (wt.alloc (.cells (tkA (thrC S x.i)) 40))) := f1
        have HR1 : Hid (Row (wt.alloc (.cells (tkA (thrC S x.i)) 40)) wt.heap.size (tkA (thrC S x.i)) 40) := r1
        dsimp only [tkV, tkA] at *
        clear r1 f1 ft
        generalize hte : thrE S x.i = te at *
        generalize htt : thrC S x.i = tt at *
        clear hte htt
        go_wp2_with fail
        generalize wt.alloc (.cells #[.int .i64 tt.i, .int .i64 tt.p, .int .i64 tt.d, .int .i64 tt.s, .bool tt.a] 40) = wt1 at *
        generalize wt.heap.size = ga at *
        refine X.mono ?_
        clear X
        rintro e wu ⟨rfl, fu⟩
        have r2 := row_alloc wu #[.int .i64 tt.i, .int .i64 tt.p, .int .i64 tt.d, .int .i64 tt.s, .bool tt.a] 40
        have f2 := fu.alloc (.cells #[.int .i64 tt.i, .int .i64 tt.p, .int .i64 tt.d, .int .i64 tt.s, .bool tt.a] 40)
        have q1 := r2.cell 1
        have q2 := r2.cell 2
        dsimp at q1 q2
        have HR2 : Hid (Row (wu.alloc (.cells #[.int .i64 tt.i, .int .i64 tt.p, .int .i64 tt.d, .int .i64 tt.s, .bool tt.a] 40)) wu.heap.size #[.int .i64 tt.i, .int .i64 tt.p, .int .i64 tt.d, .int .i64 tt.s, .bool tt.a] 40) := r2
        have HR1' : Hid (Row (wu.alloc (.cells #[.int .i64 tt.i, .int .i64 tt.p, .int .i64 tt.d, .int .i64 tt.s, .bool tt.a] 40)) ga #[.int .i64 tt.i, .int .i64 tt.p, .int .i64 tt.d, .int .i64 tt.s, .bool tt.a] 40) := HR1.out.keep f2 (fun h => h)
        have HF2 : Hid (Fr none' wr (wu.alloc (.cells #[.int .i64 tt.i, .int .i64 tt.p, .int .i64 tt.d, .int .i64 tt.s, .bool tt.a] 40))) := HF1.out.trans f2
        have X := xrea (HQ.out.keep0 HF2.out).sx tt.d tt.p
        clear r2 f2 fu HR1 HF1
        go_wp2_with fail
        generalize wu.alloc (.cells #[.int .i64 tt.i, .int .i64 tt.p, .int .i64 tt.d, .int .i64 tt.s, .bool tt.a] 40) = wu1 at *
        generalize wu.heap.size = gb at *
        refine X.mono ?_
        clear X
        rintro e wv ⟨v, rfl, fv, HV⟩
        have q1' := cell_keep fv q1 (fun h => h)
        have q2' := cell_keep fv q2 (fun h => h)
        have HF3 : Hid (Fr none' wr wv) := HF2.out.trans fv
        have X := brrea (HQ.out.keep0 HF3.out) tt.d tt.p
        have HVV : Hid _ := HV
        clear q1 q2 HV
        go_wp2_with fail
        refine X.mono ?_
        clear X
        rintro e ww ⟨u, rfl, fw, HU⟩
        have X := bo_ints (HQ.out.keep0 HF2.out) tt.d tt.p v u HVV.out fw HU
        have HR1 : Hid (Row ww ga #[.int .i64 tt.i, .int .i64 tt.p, .int .i64 tt.d, .int .i64 tt.s, .bool tt.a] 40) := HR1'.out.keep (fv.trans fw) (fun h => h)
        have HR3 : Hid (Row ww gb #[.int .i64 tt.i, .int .i64 tt.p, .int .i64 tt.d, .int .i64 tt.s, .bool tt.a] 40) := HR2.out.keep (fv.trans fw) (fun h => h)
        have HF4 : Hid (Fr none' wr ww) := HF3.out.trans fw
        clear HVV HU q1' q2' HR2 HR1' HF2 HF3 fv fw
        go_wp2_with fail
        refine X.mono ?_
        clear X
        rintro e wy ⟨rfl, fy⟩
        have ra := HR1.out.keep fy (fun h => h)
        have rb := HR3.out.keep fy (fun h => h)
        have a0 := ra.cell 0
        have a1 := ra.cell 1
        have a2 := ra.cell 2
        have a3 := ra.cell 3
        have a4 := ra.cell 4
        have b0 := rb.cell 0
        have b1 := rb.cell 1
        have b2 := rb.cell 2
        have b3 := rb.cell 3
        have b4 := rb.cell 4
        dsimp at a0 a1 a2 a3 a4 b0 b1 b2 b3 b4
        have NE := neq_tk tt
        have te2 : (te != te) = false := by simp
        have HZ : Hid (Fr none' w3 wy) := HK.out _ (HF4.out.trans fy)
        clear ra rb fy HR1 HR3 HF4 HQ HK
        obtain ⟨x1, x2, x3, x4, x5⟩ := tt
        dsimp only at *
        go_wp2_with fail
        go_roundw
        case rel => exact ⟨k + 1, by omega, by go_num, HZ⟩
        case measure => simp [intOf]; omega
      · rw [if_neg h8] at hii
        subst hii
        have t8 : ((k : Int) == 8) = false := by simp; omega
        clear h8 hi64
        go_wp2_with fail
        refine XT.mono ?_
        clear XT c1
        rintro e wt ⟨rfl, ft⟩
        have r1 := row_alloc wt (tkA (thrC S (k : Int))) 40
        have f1 := ft.alloc (.cells (tkA (thrC S (k : Int))) 40)
        have X := brthr (HQ.out.keep0 f1) (k : Int)
        have HF1 : Hid (Fr none' wr (wt.alloc (.cells (tkA (thrC S (k : Int))) 40))) := f1
        have HR1 : Hid (Row (wt.alloc (.cells (tkA (thrC S (k : Int))) 40)) wt.heap.size (tkA (thrC S (k : Int))) 40) := r1
        dsimp only [tkV, tkA] at *
        clear r1 f1 ft
        generalize hte : thrE S (k : Int) = te at *
        generalize htt : thrC S (k : Int) = tt at *
        clear hte htt
        go_wp2_with fail
        generalize wt.alloc (.cells #[.int .i64 tt.i, .int .i64 tt.p, .int .i64 tt.d, .int .i64 tt.s, .bool tt.a] 40) = wt1 at *
        generalize wt.heap.size = ga at *
        refine X.mono ?_
        clear X
        rintro e wu ⟨rfl, fu⟩
        have r2 := row_alloc wu #[.int .i64 tt.i, .int .i64 tt.p, .int .i64 tt.d, .int .i64 tt.s, .bool tt.a] 40
        have f2 := fu.alloc (.cells #[.int .i64 tt.i, .int .i64 tt.p, .int .i64 tt.d, .int .i64 tt.s, .bool tt.a] 40)
        have q1 := r2.cell 1
        have q2 := r2.cell 2
        dsimp at q1 q2
        have HR2 : Hid (Row (wu.alloc (.cells #[.int .i64 tt.i, .int .i64 tt.p, .int .i64 tt.d, .int .i64 tt.s, .bool tt.a] 40)) wu.heap.size #[.int .i64 tt.i, .int .i64 tt.p, .int .i64 tt.d, .int .i64 tt.s, .bool tt.a] 40) := r2
        have HR1' : Hid (Row (wu.alloc (.cells #[.int .i64 tt.i, .int .i64 tt.p, .int .i64 tt.d, .int .i64 tt.s, .bool tt.a] 40)) ga #[.int .i64 tt.i, .int .i64 tt.p, .int .i64 tt.d, .int .i64 tt.s, .bool tt.a] 40) := HR1.out.keep f2 (fun h => h)
        have HF2 : Hid (Fr none' wr (wu.alloc (.cells #[.int .i64 tt.i, .int .i64 tt.p, .int .i64 tt.d, .int .i64 tt.s, .bool tt.a] 40))) := HF1.out.trans f2
        have X := xrea (HQ.out.keep0 HF2.out).sx tt.d tt.p
        clear r2 f2 fu HR1 HF1
        go_wp2_with fail
        generalize wu.alloc (.cells #[.int .i64 tt.i, .int .i64 tt.p, .int .i64 tt.d, .int .i64 tt.s, .bool tt.a] 40) = wu1 at *
        generalize wu.heap.size = gb at *
        refine X.mono ?_
        clear X
        rintro e wv ⟨v, rfl, fv, HV⟩
        have q1' := cell_keep fv q1 (fun h => h)
        have q2' := cell_keep fv q2 (fun h => h)
        have HF3 : Hid (Fr none' wr wv) := HF2.out.trans fv
        have X := brrea (HQ.out.keep0 HF3.out) tt.d tt.p
        have HVV : Hid _ := HV
        clear q1 q2 HV
        go_wp2_with fail
        refine X.mono ?_
        clear X
        rintro e ww ⟨u, rfl, fw, HU⟩
        have X := bo_ints (HQ.out.keep0 HF2.out) tt.d tt.p v u HVV.out fw HU
        have HR1 : Hid (Row ww ga #[.int .i64 tt.i, .int .i64 tt.p, .int .i64 tt.d, .int .i64 tt.s, .bool tt.a] 40) := HR1'.out.keep (fv.trans fw) (fun h => h)
        have HR3 : Hid (Row ww gb #[.int .i64 tt.i, .int .i64 tt.p, .int .i64 tt.d, .int .i64 tt.s, .bool tt.a] 40) := HR2.out.keep (fv.trans fw) (fun h => h)
        have HF4 : Hid (Fr none' wr ww) := HF3.out.trans fw
        clear HVV HU q1' q2' HR2 HR1' HF2 HF3 fv fw
        go_wp2_with fail
        refine X.mono ?_
        clear X
        rintro e wy ⟨rfl, fy⟩
        have ra := HR1.out.keep fy (fun h => h)
        have rb := HR3.out.keep fy (fun h => h)
        have a0 := ra.cell 0
        have a1 := ra.cell 1
        have a2 := ra.cell 2
        have a3 := ra.cell 3
        have a4 := ra.cell 4
        have b0 := rb.cell 0
        have b1 := rb.cell 1
        have b2 := rb.cell 2
        have b3 := rb.cell 3
        have b4 := rb.cell 4
        dsimp at a0 a1 a2 a3 a4 b0 b1 b2 b3 b4
        have NE := neq_tk tt
        have te2 : (te != te) = false := by simp
        have HZ : Hid (Fr none' w3 wy) := HK.out _ (HF4.out.trans fy)
        clear ra rb fy HR1 HR3 HF4 HQ HK
        obtain ⟨x1, x2, x3, x4, x5⟩ := tt
        dsimp only at *
        go_wp2_with fail
        go_roundw
        case rel => exact ⟨k + 1, by omega, by go_num, HZ⟩
        case measure => simp [intOf]; omega
    · have u0 : decide ((k : Int) ≤ 8) = false := decide_eq_false (by omega)
      have ik : ¬ (k : Int) ≤ 8 := by omega
      have B := HB.out.keep0 HF.out
      have r1 := HR.out.keep HF.out (fun h => h)
      have c2 := r1.cell 2
      have c3 := r1.cell 3
      dsimp at c2 c3
      have X := xrea B.sx x.m x.n
      have HQ : Hid (Bo w0 wr b r S Q (fun _ => False)) := B
      have HK : Hid (Fr none' w wr) := HA.out.trans HF.out
      clear B HF HR HB HA r1
      go_wp2_with fail
      refine X.mono ?_
      clear X
      rintro e wv ⟨v, rfl, fv, HV⟩
      have c2' := cell_keep fv c2 (fun h => h)
      have c3' := cell_keep fv c3 (fun h => h)
      have X := brrea (HQ.out.keep0 fv) x.m x.n
      have HVV : Hid _ := HV
      clear c2 c3 HV
      go_wp2_with fail
      refine X.mono ?_
      clear X
      rintro e ww ⟨u, rfl, fw, HU⟩
      have X := bo_ints HQ.out x.m x.n v u HVV.out fw HU
      have HZ : Hid (Fr none' w ww) := (HK.out.trans fv).trans fw
      clear HVV HU c2' c3' fv fw HK HQ
      go_wp2_with fail
      refine X.mono ?_
      clear X
      rintro e wy ⟨rfl, fy⟩
      go_wp2_with fail
      go_ret
      exact ⟨rfl, HZ.out.trans fy⟩

end Go.Proofs.Ytipfgenbfnkpfaa
