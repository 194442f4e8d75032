/-
  The law UntypedRooms walked. No statement is proved here.
-/
import Derived.Test.YtcmhndkbcfpbbaaUtNew
import Derived.Deep.CutBlock
import Derived.Deep.CutRange
namespace Go.Proofs.Ytcmhndkbcfpbbaa
open Go.RowKit

set_option maxRecDepth 100000 in
set_option maxHeartbeats 4000000 in
theorem lrooms_any (a0 : Option Addr) (len cap : Nat) (x : Ac) (w : World) (hl : len ≤ 9223372036854775807) (hA : ∃ A, Acs w a0 len A) (hx : OkA x) : Calls Try.prog 8 #[.slice a0 len cap, acV x] w fun e w' => e = .returned (.bool true) ∧ Below w.heap.size w w' := by
  obtain ⟨A, hA⟩ := hA
  have HA : Hid (Acs w a0 len A) := hA
  have r0 := row_alloc w (acC x) 41
  have f0 := (Fr.refl none' w).alloc (.cells (acC x) 41)
  have hxf := hx.2.1
  clear hx hA
  unfold acV acC at *
  go_enter Try.func8, Try.ntmps8
  go_wp2_with fail
  refine (awake_any _).mono ?_
  rintro e w1 ⟨rfl, f1⟩
  replace r0 := r0.keep f1 (fun h => h)
  have HF : Hid (Fr none' w w1) := f0.trans f1
  have HX : Hid (Row w1 w.heap.size (acC x) 41) := r0
  clear f0 f1 r0
  go_wp2_with fail
  refine (pnew w1).mono ?_
  rintro e w2 ⟨bp, rfl, P⟩
  go_wp2_with fail
  refine (new_nat 32 w2 (by omega) (by omega)).mono ?_
  rintro e w3 ⟨rfl, f3, m3⟩
  go_wp2_with fail
  refine (rnew_nat 32 _ (by omega) (by omega)).mono ?_
  rintro e w5 ⟨rfl, f5, m5⟩
  simp only [World.size_alloc] at m5
  have HB : Hid (∃ L bs, BoAt w1 w5 bp w3.heap.size (w2.heap.size + 1) w2.heap.size (w3.heap.size + 1 + 1) (w3.heap.size + 1) L L bs bs) := ⟨_, _, bo_new P f3 m3 f5 m5⟩
  clear P f3 m3 f5 m5
  simp only [World.size_alloc]
  generalize w3.heap.size + 1 + 1 = pr at *
  generalize w3.heap.size + 1 = br at *
  generalize w3.heap.size = bq at *
  generalize w2.heap.size + 1 = pm at *
  generalize w2.heap.size = bm at *
  go_upto_block 0 with fail
  go_cut [12] from 43 to 61 (fun i wc => Hid (∃ L bs, BoAt w1 wc bp bq pm bm pr br L L bs bs))
  case first =>
      go_wp2_with fail
      go_loopw [12] (fun i wr => ∃ k : Nat, k ≤ len ∧ k ≤ 60 ∧ i = .int .i64 (k : Int) ∧ Hid (∃ L bs, BoAt w1 wr bp bq pm bm pr br L L bs bs)) (fun i _ => 60 - (intOf i).toNat)
      case atStart => exact ⟨0, by omega, by omega, rfl, HB⟩
      case round =>
        obtain ⟨k, hk1, hk2, rfl, HI⟩ := hrel
        clear HB
        obtain ⟨L, bs, B⟩ := HI.out
        by_cases hlt : k < len
        · by_cases hlt2 : k < 60
          · obtain ⟨g, o, rfl, ak, ok⟩ := (HA.out.keep (HF.out.trans B.fr)) k hlt
            have i1 : 0 ≤ (k : Int) ∧ (k : Int) < (len : Int) := by omega
            have uk1 : decide ((k : Int) < (len : Int)) = true := decide_eq_true (by omega)
            have uk2 : decide ((k : Int) < 60) = true := decide_eq_true (by omega)
            have c0 : wr.cell? ⟨g, o + k * 10, none⟩ = some (.int .i64 (A k).op) := ak 0 (by omega)
            have c1 : wr.cell? ⟨g, o + k * 10 + 1, none⟩ = some (.int .i64 (A k).f) := ak 1 (by omega)
            have c2 : wr.cell? ⟨g, o + k * 10 + 2, none⟩ = some (.int .i64 (A k).x.f) := ak 2 (by omega)
            have c3 : wr.cell? ⟨g, o + k * 10 + 3, none⟩ = some (.int .i64 (A k).x.n) := ak 3 (by omega)
            have c4 : wr.cell? ⟨g, o + k * 10 + 4, none⟩ = some (.int .i64 (A k).x.m) := ak 4 (by omega)
            have c5 : wr.cell? ⟨g, o + k * 10 + 5, none⟩ = some (.bool (A k).x.d) := ak 5 (by omega)
            have c6 : wr.cell? ⟨g, o + k * 10 + 6, none⟩ = some (.int .i64 (A k).k) := ak 6 (by omega)
            have c7 : wr.cell? ⟨g, o + k * 10 + 7, none⟩ = some (.int .i64 (A k).n) := ak 7 (by omega)
            have c8 : wr.cell? ⟨g, o + k * 10 + 8, none⟩ = some (.int .i64 (A k).c) := ak 8 (by omega)
            have c9 : wr.cell? ⟨g, o + k * 10 + 9, none⟩ = some (.int .i64 (A k).u) := ak 9 (by omega)
            have D := does_any w1 wr bp bq pm bm pr br L bs B (A k) ok
            unfold acV acC at D
            clear ak ok B HI
            go_wp2_with fail
            refine D.mono ?_
            rintro e wa ⟨rfl, L', bs', B'⟩
            clear D c0 c1 c2 c3 c4 c5 c6 c7 c8 c9
            have HS : Hid (∃ L bs, BoAt w1 wa bp bq pm bm pr br L L bs bs) := ⟨_, _, B'⟩
            clear B'
            go_wp2_with fail
            go_roundw
            case rel => exact ⟨k + 1, by omega, by omega, by go_num, HS⟩
            case measure => simp [intOf]; omega
          · have uk1 : decide ((k : Int) < (len : Int)) = true := decide_eq_true (by omega)
            have uk2 : decide ((k : Int) < 60) = false := decide_eq_false (by omega)
            clear B
            go_wp2_with fail
            go_meet
            case rel => exact HI
        · have uk1 : decide ((k : Int) < (len : Int)) = false := decide_eq_false (by omega)
          clear B
          go_wp2_with fail
          go_meet
          case rel => exact HI
  case rest =>
    obtain ⟨L, bs, B⟩ := hcut.out
    clear hcut HB HA
    have heq := neq_reg
    have HC : Hid (∀ w', Fr none' w1 w' → Row w' w.heap.size (acC x) 41) := fun w' f => HX.out.keep f (fun h => h)
    have pur := rooms_pure B.good x.f x.k x.n x.c
    have P : Po w1 wc bp L (fun _ => False) := by
      obtain ⟨p, q, e, _, a1, _, _, a4, _⟩ := B.ex
      exact ⟨p, e, a1, fun k hk => ⟨a4 k hk, fun h => h⟩, fun _ h => h.elim, B.fr⟩
    clear B
    obtain ⟨c0, c1, c2, c3, c4, c5, c6, c7, c8, c9⟩ := ac_cells (HC.out wc P.old)
    go_wp2_with fail
    refine (pget P x.f hxf).mono ?_
    rintro e v1 ⟨rfl, g1⟩
    replace P := (P.keep0 g1).more (O' := fun k => k = v1.heap.size) ((Fr.refl none' v1).alloc (.cells (rgA (getC L x.f)) 39)) (by rintro k rfl; exact ⟨Or.inr (Nat.le_refl _), by simp⟩)
    have ra : RgR (v1.alloc (.cells (rgA (getC L x.f)) 39)) v1.heap.size (getC L x.f) := row_alloc v1 (rgA (getC L x.f)) 39
    clear g1
    clear c0 c1 c2 c3 c4 c5 c6 c7 c8 c9
    obtain ⟨c0, c1, c2, c3, c4, c5, c6, c7, c8, c9⟩ := ac_cells (HC.out _ P.old)
    generalize hGa : getC L x.f = Ga at *
    dsimp only [rgA] at *
    go_wp2_with fail
    generalize v1.alloc (.cells #[.int .i64 Ga.f, .int .i64 Ga.n, .int .i64 Ga.m, .bool Ga.d] 39) = v2 at *
    generalize v1.heap.size = ga at *
    refine (proom P x.f x.k x.n x.c hxf).mono ?_
    rintro e v3 ⟨rfl, g3⟩
    replace P := P.keep0 g3
    replace ra := ra.keep g3 (fun h => h)
    clear g3
    clear c0 c1 c2 c3 c4 c5 c6 c7 c8 c9
    obtain ⟨c0, c1, c2, c3, c4, c5, c6, c7, c8, c9⟩ := ac_cells (HC.out _ P.old)
    go_wp2_with fail
    refine (proom P x.f x.k x.n x.c hxf).mono ?_
    rintro e v4 ⟨rfl, g4⟩
    replace P := P.keep0 g4
    replace ra := ra.keep g4 (fun h => h)
    clear g4
    clear c0 c1 c2 c3 c4 c5 c6 c7 c8 c9
    obtain ⟨c0, c1, c2, c3, c4, c5, c6, c7, c8, c9⟩ := ac_cells (HC.out _ P.old)
    go_wp2_with fail
    refine (pget P x.f hxf).mono ?_
    rintro e v5 ⟨rfl, g5⟩
    rw [hGa]
    have g6 := (Fr.refl none' v5).alloc (.cells #[.int .i64 Ga.f, .int .i64 Ga.n, .int .i64 Ga.m, .bool Ga.d] 39)
    replace P := P.keep0 g5
    have hga := P.lt ga rfl
    replace P := P.more (O' := fun k => k = ga ∨ k = v5.heap.size) g6 (by
      rintro k (rfl | rfl)
      · exact ⟨Or.inl rfl, by simp; omega⟩
      · exact ⟨Or.inr (Nat.le_refl _), by simp⟩)
    replace ra := (ra.keep g5 (fun h => h)).keep g6 (fun h => h)
    have rb : RgR (v5.alloc (.cells #[.int .i64 Ga.f, .int .i64 Ga.n, .int .i64 Ga.m, .bool Ga.d] 39)) v5.heap.size Ga := row_alloc v5 (rgA Ga) 39
    clear g5 g6 hga
    clear c0 c1 c2 c3 c4 c5 c6 c7 c8 c9
    obtain ⟨c0, c1, c2, c3, c4, c5, c6, c7, c8, c9⟩ := ac_cells (HC.out _ P.old)
    go_wp2_with fail
    generalize v5.alloc (.cells #[.int .i64 Ga.f, .int .i64 Ga.n, .int .i64 Ga.m, .bool Ga.d] 39) = v6 at *
    generalize v5.heap.size = gb at *
    refine (pcarve P x.f x.k x.n x.c hxf).mono ?_
    rintro e v7 ⟨rfl, Q, g7⟩
    replace ra := ra.keep g7 (fun h => h.2 (Or.inl rfl))
    replace rb := rb.keep g7 (fun h => h.2 (Or.inr rfl))
    replace P := Q
    clear Q g7
    clear c0 c1 c2 c3 c4 c5 c6 c7 c8 c9
    obtain ⟨c0, c1, c2, c3, c4, c5, c6, c7, c8, c9⟩ := ac_cells (HC.out _ P.old)
    go_wp2_with fail
    refine (pget P x.f hxf).mono ?_
    rintro e v8 ⟨rfl, g8⟩
    generalize hGc : getC (carS L x.f x.k x.n x.c) x.f = Gc at *
    have g9 := g8.alloc (.cells (rgA Gc) 39)
    have HE : Hid (Below w.heap.size w (v8.alloc (.cells (rgA Gc) 39))) := ((HF.out.trans P.old).trans g9).below (Nat.le_refl _) (fun _ h => h.elim)
    obtain ⟨a1, a2, a3, a4⟩ := (ra.keep g9 (fun h => h)).cells
    obtain ⟨b1, b2, b3, b4⟩ := (rb.keep g9 (fun h => h)).cells
    obtain ⟨d1, d2, d3, d4⟩ := RgR.cells (row_alloc v8 (rgA Gc) 39)
    have es := eqG_self Ga
    generalize getE (carS L x.f x.k x.n x.c) x.f = E9 at *
    generalize getE L x.f = E at *
    generalize rooE L x.f x.k x.n x.c = R at *
    generalize rooV L x.f x.k x.n x.c = V at *
    dsimp only [rgA] at *
    clear c0 c1 c2 c3 c4 c5 c6 c7 c8 c9 P ra rb g8 g9 hGa hGc
    have nes : (!eqG Ga Ga) = false := by rw [es]; rfl
    rcases pur with ⟨rfl, rfl, rfl⟩ | ⟨rfl, rfl, p1, p2, p3⟩ | ⟨rfl, p1, rfl⟩
    · go_wp2_with fail
      go_ret
      exact ⟨by first | rfl | simp, HE.out⟩
    · have t3 : decide (Ga.m < Gc.m) = true := decide_eq_true p3
      have t1 : (Gc.f == Ga.f) = true := by simpa using p1
      have t2 : (Gc.n == Ga.n) = true := by simpa using p2
      clear p1 p2 p3
      go_wp2_with fail
      go_ret
      exact ⟨by first | rfl | simp, HE.out⟩
    · have t1 : (R == 0) = false := by simpa using p1
      go_wp2_with fail
      go_ret
      exact ⟨by first | rfl | simp [t1] | simp, HE.out⟩

end Go.Proofs.Ytcmhndkbcfpbbaa
