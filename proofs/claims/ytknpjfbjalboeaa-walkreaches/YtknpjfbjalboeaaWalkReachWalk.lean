/-
  The law WalkReaches walked: whatever came in, it answers true and turns nothing old. No statement is proved here.
-/
import Derived.Test.YtknpjfbjalboeaaWalkSta
namespace Go.Proofs.Ytknpjfbjalboeaa
open Go.RowKit

set_option maxHeartbeats 16000000 in
set_option maxRecDepth 100000 in
theorem reaches_fr (w : World) (a0 : Option Addr) (len cap : Nat) (P : Nat → Pt) (hl : len ≤ 9223372036854775807) (hP : Puts w a0 len P) (a2 : Option Addr) (len2 cap2 : Nat) (A : Nat → Aq) (hl2 : len2 ≤ 9223372036854775807) (hA : Asks w a2 len2 A) :
    Calls Try.prog 3 #[.slice a0 len cap, .slice a2 len2 cap2] w fun e w' => e = .returned (.bool true) ∧ Fr none' w w' := by
  have hne := neq_fault
  have hnl := neq_line
  have f1 := Fr.refl none' w
  have HA : Hid (Asks w a2 len2 A) := hA
  clear hA
  go_enter Try.func3, Try.ntmps3
  go_wp2_with fail
  refine (awake_any _).mono ?_
  rintro e v1 ⟨rfl, g1⟩
  replace hP := hP.keep g1
  replace f1 := f1.trans g1
  clear g1
  go_wp2_with fail
  refine (laid_any _ _ _ _ P hl hP).mono ?_
  rintro e vl ⟨pm, bm, pr, br, rfl, gl, TW⟩
  obtain ⟨bs0, hbs⟩ : ∃ bs, laidB P (min len 200) = bs := ⟨_, rfl⟩
  rw [hbs] at TW
  have hlo := TW.lo
  have hlt := TW.lt
  have fs := f1.size
  have TW0 : Twin vl w.heap.size pm bm pr br 16 bs0 := ⟨TW.ram, TW.ref, TW.d1, TW.d2, TW.d3, by omega⟩
  clear hbs hP hl TW
  replace f1 := f1.trans gl
  clear gl
  go_wp2_with fail
  refine (tnew_any _).mono ?_
  rintro e vt ⟨bt, rfl, hbt, gt, hT⟩
  replace TW0 := TW0.keep gt (fun h => h) (fun h => h) (fun h => h) (fun h => h)
  have hlt2 := TW0.lt
  have hbl := hT.lt
  replace f1 := f1.trans gt
  have L : Hid (Far w.heap.size pm bm pr br bt vt.heap.size) := ⟨by omega, by omega, by omega, by omega, by omega, by omega, by omega, by omega, by omega, by omega, by omega, by omega, by omega, by omega, by omega⟩
  have S0 : Sta w (vt.alloc (.cells (Array.replicate 42 (.int .i64 0)) 36)) pm bm pr br bt vt.heap.size bs0 (fun _ => zl) 0 0 := ⟨f1.alloc _, TW0.keep ((Fr.refl none' vt).alloc _) (fun h => h) (fun h => h) (fun h => h) (fun h => h), hT.alloc _, buf_zero _ _⟩
  clear gt hlo hlt hlt2 fs hbt hbl f1 TW0 hT
  go_wp2_with fail
  obtain ⟨bu, hbu⟩ : ∃ bu, vt.heap.size = bu := ⟨_, rfl⟩
  rw [hbu] at L S0 ⊢
  clear hbu
  go_loopw [10] (fun i wr => ∃ (k : Nat) (T : Nat → Ln) (fo mi : Int) (bs : List UInt8), k ≤ len2 ∧ k ≤ 100 ∧ i = .int .i64 k ∧ Sta w wr pm bm pr br bt bu bs T fo mi ∧ Hid (GoodT T) ∧ Hid (Uniq T) ∧ 0 ≤ fo ∧ 0 ≤ mi ∧ fo + mi ≤ k) (fun i _ => 100 - (intOf i).toNat)
  case atStart => exact ⟨0, fun _ => zl, 0, 0, bs0, by omega, by omega, rfl, S0, good_zero, uniq_zero, by omega, by omega, by omega⟩
  case round =>
    clear S0
    obtain ⟨k, T, fo, mi, bs, hk, hk2, rfl, S, HG, HU, hfo, hmi, hfm⟩ := hrel
    by_cases hlt : k < len2
    · by_cases hlt2 : k < 100
      · obtain ⟨b, o, rfl, ak0⟩ := HA.out k hlt
        obtain ⟨q, hq⟩ : ∃ q, A k = q := ⟨_, rfl⟩
        rw [hq] at ak0
        clear hq
        obtain ⟨v, a, f, s, pg, wt, ix, ev, pa, pl, pc, P1⟩ := q
        have hplb : pl ≤ 9223372036854775807 := ak0.plb
        have HP1 : Hid (Puts w pa pl P1) := ak0.puts
        have ak := ak0.keep S.fr
        clear ak0
        obtain ⟨c0, c1, c2, c3, c4, c5, c6, c7, c8⟩ : wr.cell? ⟨b, o + k * 9, none⟩ = some (.int .i64 v) ∧ wr.cell? ⟨b, o + k * 9 + 1, none⟩ = some (.int .i64 a) ∧ wr.cell? ⟨b, o + k * 9 + 2, none⟩ = some (.int .i64 f) ∧ wr.cell? ⟨b, o + k * 9 + 3, none⟩ = some (.int .i64 s) ∧ wr.cell? ⟨b, o + k * 9 + 4, none⟩ = some (.int .i64 pg) ∧ wr.cell? ⟨b, o + k * 9 + 5, none⟩ = some (.int .i64 wt) ∧ wr.cell? ⟨b, o + k * 9 + 6, none⟩ = some (.int .i64 ix) ∧ wr.cell? ⟨b, o + k * 9 + 7, none⟩ = some (.int .i64 ev) ∧ wr.cell? ⟨b, o + k * 9 + 8, none⟩ = some (.slice pa pl pc) := ⟨ak.c0, ak.c1, ak.c2, ak.c3, ak.c4, ak.c5, ak.c6, ak.c7, ak.c8⟩
        clear ak
        have i1 : 0 ≤ (k : Int) ∧ (k : Int) < (len2 : Int) := by omega
        have uk1 : decide ((k : Int) < (len2 : Int)) = true := decide_eq_true (by omega)
        have uk2 : decide ((k : Int) < 100) = true := decide_eq_true (by omega)
        have rx12 := row_alloc wr #[.int .i64 v, .int .i64 a, .int .i64 f, .int .i64 s, .int .i64 pg, .int .i64 wt, .int .i64 ix, .int .i64 ev, .slice pa pl pc] 40
        have HX : Hid (wr.heap.size ≠ bt ∧ wr.heap.size ≠ bu) := by have a1 := S.tl.lt; have a2 := S.tr.lt; exact (show wr.heap.size ≠ bt ∧ wr.heap.size ≠ bu from ⟨by omega, by omega⟩)
        have HY : Hid (wr.heap.size ≠ bm ∧ wr.heap.size ≠ br ∧ w.heap.size ≤ wr.heap.size) := by have a1 := S.tw.lt; have a2 := S.fr.size; exact (show wr.heap.size ≠ bm ∧ wr.heap.size ≠ br ∧ w.heap.size ≤ wr.heap.size from ⟨by omega, by omega, by omega⟩)
        replace S := S.keep0 ((Fr.refl none' wr).alloc (.cells #[.int .i64 v, .int .i64 a, .int .i64 f, .int .i64 s, .int .i64 pg, .int .i64 wt, .int .i64 ix, .int .i64 ev, .slice pa pl pc] 40))
        go_wp2_with fail
        clear c0 c1 c2 c3 c4 c5 c6 c7 c8 i1
        obtain ⟨X, hX⟩ : ∃ X, wr.heap.size = X := ⟨_, rfl⟩
        rw [hX] at rx12 HX HY ⊢
        clear hX
        obtain ⟨wy, hwy⟩ : ∃ wy, wy = wr := ⟨wr, rfl⟩
        clear hwy
        go_loopw [12] (fun i wr => ∃ (j : Nat) (bs : List UInt8), j ≤ pl ∧ j ≤ 5 ∧ i = .int .i64 j ∧ Sta w wr pm bm pr br bt bu bs T fo mi ∧ Row wr X #[.int .i64 v, .int .i64 a, .int .i64 f, .int .i64 s, .int .i64 pg, .int .i64 wt, .int .i64 ix, .int .i64 ev, .slice pa pl pc] 40) (fun i _ => 5 - (intOf i).toNat)
        case atStart => exact ⟨0, bs, by omega, by omega, rfl, S, rx12⟩
        case round =>
          clear S rx12
          obtain ⟨j, bs, hj, hj5, rfl, S, rx12⟩ := hrel
          by_cases hjl : j < pl
          · by_cases hj6 : j < 5
            · obtain ⟨b1, o1, rfl, pk0⟩ := HP1.out j hjl
              have hb1 : b1 < w.heap.size := cell_lt pk0.c0
              have pk := pk0.keep S.fr (fun h => h)
              clear pk0
              have j1 : 0 ≤ (j : Int) ∧ (j : Int) < (pl : Int) := by omega
              have uj1 : decide ((j : Int) < (pl : Int)) = true := decide_eq_true (by omega)
              have uj2 : decide ((j : Int) < 5) = true := decide_eq_true (by omega)
              have ll := L.out
              have hy := HY.out
              have x8 := rx12.cell 8
              go_wp2_with fail
              clear x8
              have dm := S.tw.ram.drew
              go_region_held3 (fun w' => w'.cell? ⟨X, 8, none⟩ = some (.slice (some ⟨b1, o1, none⟩) pl pc) ∧ w'.cell? ⟨b1, o1 + j * 8, none⟩ = some (.int .i64 (P1 j).t) ∧ w'.cell? ⟨b1, o1 + j * 8 + 1, none⟩ = some (.int .i64 (P1 j).i) ∧ w'.cell? ⟨b1, o1 + j * 8 + 2, none⟩ = some (.bool (P1 j).v) ∧ w'.cell? ⟨b1, o1 + j * 8 + 3, none⟩ = some (.bool (P1 j).l) ∧ w'.cell? ⟨b1, o1 + j * 8 + 4, none⟩ = some (.int .i64 (P1 j).r) ∧ w'.cell? ⟨b1, o1 + j * 8 + 5, none⟩ = some (.int .i64 (P1 j).f)) (first | with_reducible exact ⟨rx12.cell 8, pk.c0, pk.c1, pk.c2, pk.c3, pk.c4, pk.c5⟩ | exact ⟨rx12.cell 8, pk.c0, pk.c1, pk.c2, pk.c3, pk.c4, pk.c5⟩) (first | (go_at_call 8; refine (put_any _ _ _ _ _ _ _ _ _ _ _ dm).mono ?_; rintro e w1 ⟨rfl, f1, q1⟩; replace f1 := f1.undrew; replace pk := pk.keep f1 (show _ ≠ _ by have := ll.l2; omega); replace rx12 := rx12.keep f1 hy.1))
              clear dm
              have q0 := S.tw.ref.keep f1 S.tw.d2 (fun e => S.tw.d3 e.symm)
              go_wp2_with fail
              have dr := q0.drew
              go_region_held3 (fun w' => w'.cell? ⟨X, 8, none⟩ = some (.slice (some ⟨b1, o1, none⟩) pl pc) ∧ w'.cell? ⟨b1, o1 + j * 8, none⟩ = some (.int .i64 (P1 j).t) ∧ w'.cell? ⟨b1, o1 + j * 8 + 1, none⟩ = some (.int .i64 (P1 j).i) ∧ w'.cell? ⟨b1, o1 + j * 8 + 2, none⟩ = some (.bool (P1 j).v) ∧ w'.cell? ⟨b1, o1 + j * 8 + 3, none⟩ = some (.bool (P1 j).l) ∧ w'.cell? ⟨b1, o1 + j * 8 + 4, none⟩ = some (.int .i64 (P1 j).r) ∧ w'.cell? ⟨b1, o1 + j * 8 + 5, none⟩ = some (.int .i64 (P1 j).f)) (first | with_reducible exact ⟨rx12.cell 8, pk.c0, pk.c1, pk.c2, pk.c3, pk.c4, pk.c5⟩ | exact ⟨rx12.cell 8, pk.c0, pk.c1, pk.c2, pk.c3, pk.c4, pk.c5⟩) (first | (go_at_call 9; refine (rput_any _ _ _ _ _ _ _ _ _ _ _ dr).mono ?_; rintro e w2 ⟨rfl, f2, q2⟩; replace f2 := f2.undrew; replace pk := pk.keep f2 (show _ ≠ _ by have := ll.l4; omega); replace rx12 := rx12.keep f2 hy.2.1))
              clear dr
              replace S := S.puts ll f1 q1 f2 q2
              clear f1 q1 f2 q2 q0 pk
              go_wp2_with fail
              go_roundw
              case rel => exact ⟨j + 1, _, by omega, by omega, by go_num, S, rx12⟩
              case measure => simp [intOf]; omega
            · obtain rfl : j = 5 := by omega
              have x8 := rx12.cell 8
              have u1 : decide ((5 : Int) < (pl : Int)) = true := decide_eq_true (by omega)
              have x7 := rx12.cell 7
              go_wp2_with fail
              refine (evict_any _ _ _ _ _ S.tl ev).mono ?_
              rintro e v1 ⟨rfl, g1, q1⟩
              have ll := L.out
              have hx : X ≠ bt ∧ X ≠ bu := HX.out
              replace rx12 := rx12.keep g1 hx.1
              have q0 := S.tr.keep g1 (fun e => ll.tu e.symm)
              clear x7
              have x7 := rx12.cell 7
              go_wp2_with fail
              refine (revict_any _ _ _ _ _ q0 ev).mono ?_
              rintro e v2 ⟨rfl, g2, q2⟩
              replace rx12 := rx12.keep g2 hx.2
              replace S := S.bufs ll g1 q1 g2 q2
              replace HG : Hid (GoodT (evT T ev)) := good_ev HG.out ev
              replace HU : Hid (Uniq (evT T ev)) := uniq_ev HU.out ev
              obtain ⟨T1, hT1⟩ : ∃ T1, evT T ev = T1 := ⟨_, rfl⟩
              rw [hT1] at S HG HU
              clear x7 g1 q1 g2 q2 q0 hT1
              have x0 := rx12.cell 0
              have x1 := rx12.cell 1
              have x2 := rx12.cell 2
              have x3 := rx12.cell 3
              have x4 := rx12.cell 4
              have x5 := rx12.cell 5
              have x6 := rx12.cell 6
              go_wp2_with fail
              refine (reach_any _ _ _ _ _ _ _ _ _ _ _ _ _ _ _ _ S.tw.ram S.tl (by omega) (by omega) ll.t1 ll.t2).mono ?_
              rintro e v3 ⟨rfl, g1, q1⟩
              have R2 := fun wq (qq : IsRef wq pr br 16 bs) (tt : IsTref wq bu T1 fo mi) => rreach_any wq pr br 16 bs bu T1 fo mi v a f s pg wt ix qq tt HG.out HU.out (by omega) (by omega) ll.u3 ll.u4
              have HG2 : Hid (GoodT (reachT bs 16 T1 v a f s pg wt ix)) := good_reach HG.out _ _ _ _ _ _ _ _ _
              have HU2 : Hid (Uniq (reachT bs 16 T1 v a f s pg wt ix)) := uniq_reach HU.out _ _ _ _ _ _ _ _ _
              have MB : Hid (0 ≤ moreF (idx T1 v a pg 8) ∧ 0 ≤ moreM (idx T1 v a pg 8) ∧ moreF (idx T1 v a pg 8) + moreM (idx T1 v a pg 8) = 1) := more_bounds _
              obtain ⟨T2, hT2⟩ : ∃ T2, reachT bs 16 T1 v a f s pg wt ix = T2 := ⟨_, rfl⟩
              obtain ⟨rf, hrf⟩ : ∃ rf, reachF bs 16 T1 v a f s pg wt = rf := ⟨_, rfl⟩
              obtain ⟨rx, hrx⟩ : ∃ rx, reachX bs 16 T1 v a f s pg wt = rx := ⟨_, rfl⟩
              obtain ⟨mF, hmF⟩ : ∃ mF, moreF (idx T1 v a pg 8) = mF := ⟨_, rfl⟩
              obtain ⟨mM, hmM⟩ : ∃ mM, moreM (idx T1 v a pg 8) = mM := ⟨_, rfl⟩
              rw [hT2] at q1 HG2 HU2
              rw [hmF, hmM] at q1 MB
              simp only [hT2, hrf, hrx, hmF, hmM] at R2
              rw [hrf, hrx]
              have q0 := (S.tr.keep g1 (fun e => ll.tu e.symm)).alloc (.cells #[.int .i64 rx.k, .int .i64 rx.s, .int .i64 rx.l, .bool rx.wk, .int .i64 rx.p] 51)
              have m0 := (S.tw.ref.keep g1 ll.t3 ll.t4).alloc (.cells #[.int .i64 rx.k, .int .i64 rx.s, .int .i64 rx.l, .bool rx.wk, .int .i64 rx.p] 51)
              replace rx12 := (rx12.keep g1 hx.1).alloc (.cells #[.int .i64 rx.k, .int .i64 rx.s, .int .i64 rx.l, .bool rx.wk, .int .i64 rx.p] 51)
              replace q1 := q1.alloc (.cells #[.int .i64 rx.k, .int .i64 rx.s, .int .i64 rx.l, .bool rx.wk, .int .i64 rx.p] 51)
              have r14 := row_alloc v3 #[.int .i64 rx.k, .int .i64 rx.s, .int .i64 rx.l, .bool rx.wk, .int .i64 rx.p] 51
              have h14 : Hid (v3.heap.size ≠ bu) := by have := q0.lt; have a9 := (S.tr.keep g1 (fun e => ll.tu e.symm)).lt; show v3.heap.size ≠ bu; omega
              replace g1 := g1.alloc (.cells #[.int .i64 rx.k, .int .i64 rx.s, .int .i64 rx.l, .bool rx.wk, .int .i64 rx.p] 51)
              clear x0 x1 x2 x3 x4 x5 x6 hT2 hrf hrx hmF hmM
              have x0 := rx12.cell 0
              have x1 := rx12.cell 1
              have x2 := rx12.cell 2
              have x3 := rx12.cell 3
              have x4 := rx12.cell 4
              have x5 := rx12.cell 5
              have x6 := rx12.cell 6
              go_wp2_with fail
              refine (R2 _ m0 q0).mono ?_
              rintro e v4 ⟨rfl, g2, q2⟩
              replace S := S.bufs ll g1 q1 g2 q2
              replace r14 := r14.keep g2 h14.out
              clear x0 x1 x2 x3 x4 x5 x6 g1 q1 g2 q2 q0 m0 rx12 R2 HG HU h14
              replace r14 := r14.alloc (.cells #[.int .i64 rx.k, .int .i64 rx.s, .int .i64 rx.l, .bool rx.wk, .int .i64 rx.p] 51)
              have r16 := row_alloc v4 #[.int .i64 rx.k, .int .i64 rx.s, .int .i64 rx.l, .bool rx.wk, .int .i64 rx.p] 51
              replace S := S.keep0 ((Fr.refl none' v4).alloc (.cells #[.int .i64 rx.k, .int .i64 rx.s, .int .i64 rx.l, .bool rx.wk, .int .i64 rx.p] 51))
              go_wp2_with fail
              refine (lines_any _ _ _ _ _ S.tl).mono ?_
              rintro e v5 ⟨g, rfl, hg, g1, l1⟩
              replace r14 := r14.keep g1 (fun h => h)
              replace r16 := r16.keep g1 (fun h => h)
              replace S := S.keep0 g1
              clear g1 hg
              obtain ⟨y0, y1, y2, y3, y4⟩ := cells5 r14
              obtain ⟨z0, z1, z2, z3, z4⟩ := cells5 r16
              have q1 : (rf != rf) = false := by simp
              go_wp2_with fail
              clear y0 y1 y2 y3 y4 z0 z1 z2 z3 z4 r14 r16
              obtain ⟨wz, hwz⟩ : ∃ wz, wz = wr := ⟨wr, rfl⟩
              clear hwz
              go_loopw [18] (fun i wr => ∃ m : Nat, m ≤ 8 ∧ i = .int .i64 m ∧ Sta w wr pm bm pr br bt bu bs T2 (fo + mF) (mi + mM) ∧ LineRow wr g 8 8 T2) (fun i _ => 8 - (intOf i).toNat)
              case atStart => exact ⟨0, by omega, rfl, S, l1⟩
              case round =>
                clear S l1
                obtain ⟨m, hm, rfl, S, l1⟩ := hrel
                by_cases hm8 : m < 8
                · obtain ⟨c0, c1, c2, c3, c4⟩ := l1.cells m hm8
                  obtain ⟨d0, d1, d2, d3, d4⟩ := S.tr.cells m hm8
                  have i1 : 0 ≤ (m : Int) ∧ (m : Int) < 8 := by omega
                  have i2 : decide ((m : Int) < 8) = true := decide_eq_true (by omega)
                  go_wp2_with fail
                  go_quiet (fail)
                  replace l1 := l1.keep (fr_drewN wr nq) (fun h => h)
                  replace S := S.keep0 (fr_drewN wr nq)
                  clear c0 c1 c2 c3 c4 d0 d1 d2 d3 d4
                  go_wp2_with fail
                  go_roundw
                  case rel => exact ⟨m + 1, by omega, by go_num, S, l1⟩
                  case measure => simp [intOf]; omega
                · obtain rfl : m = 8 := by omega
                  have mb := MB.out
                  go_wp2_with fail
                  go_roundw
                  case rel => exact ⟨k + 1, T2, fo + mF, mi + mM, bs, by omega, by omega, by go_num, S, HG2, HU2, by omega, by omega, by omega⟩
                  case measure => simp [intOf]; omega
          · obtain rfl : j = pl := by omega
            have x8 := rx12.cell 8
            have u1 : decide ((j : Int) < (j : Int)) = false := decide_eq_false (by omega)
            have x7 := rx12.cell 7
            go_wp2_with fail
            refine (evict_any _ _ _ _ _ S.tl ev).mono ?_
            rintro e v1 ⟨rfl, g1, q1⟩
            have ll := L.out
            have hx : X ≠ bt ∧ X ≠ bu := HX.out
            replace rx12 := rx12.keep g1 hx.1
            have q0 := S.tr.keep g1 (fun e => ll.tu e.symm)
            clear x7
            have x7 := rx12.cell 7
            go_wp2_with fail
            refine (revict_any _ _ _ _ _ q0 ev).mono ?_
            rintro e v2 ⟨rfl, g2, q2⟩
            replace rx12 := rx12.keep g2 hx.2
            replace S := S.bufs ll g1 q1 g2 q2
            replace HG : Hid (GoodT (evT T ev)) := good_ev HG.out ev
            replace HU : Hid (Uniq (evT T ev)) := uniq_ev HU.out ev
            obtain ⟨T1, hT1⟩ : ∃ T1, evT T ev = T1 := ⟨_, rfl⟩
            rw [hT1] at S HG HU
            clear x7 g1 q1 g2 q2 q0 hT1
            have x0 := rx12.cell 0
            have x1 := rx12.cell 1
            have x2 := rx12.cell 2
            have x3 := rx12.cell 3
            have x4 := rx12.cell 4
            have x5 := rx12.cell 5
            have x6 := rx12.cell 6
            go_wp2_with fail
            refine (reach_any _ _ _ _ _ _ _ _ _ _ _ _ _ _ _ _ S.tw.ram S.tl (by omega) (by omega) ll.t1 ll.t2).mono ?_
            rintro e v3 ⟨rfl, g1, q1⟩
            have R2 := fun wq (qq : IsRef wq pr br 16 bs) (tt : IsTref wq bu T1 fo mi) => rreach_any wq pr br 16 bs bu T1 fo mi v a f s pg wt ix qq tt HG.out HU.out (by omega) (by omega) ll.u3 ll.u4
            have HG2 : Hid (GoodT (reachT bs 16 T1 v a f s pg wt ix)) := good_reach HG.out _ _ _ _ _ _ _ _ _
            have HU2 : Hid (Uniq (reachT bs 16 T1 v a f s pg wt ix)) := uniq_reach HU.out _ _ _ _ _ _ _ _ _
            have MB : Hid (0 ≤ moreF (idx T1 v a pg 8) ∧ 0 ≤ moreM (idx T1 v a pg 8) ∧ moreF (idx T1 v a pg 8) + moreM (idx T1 v a pg 8) = 1) := more_bounds _
            obtain ⟨T2, hT2⟩ : ∃ T2, reachT bs 16 T1 v a f s pg wt ix = T2 := ⟨_, rfl⟩
            obtain ⟨rf, hrf⟩ : ∃ rf, reachF bs 16 T1 v a f s pg wt = rf := ⟨_, rfl⟩
            obtain ⟨rx, hrx⟩ : ∃ rx, reachX bs 16 T1 v a f s pg wt = rx := ⟨_, rfl⟩
            obtain ⟨mF, hmF⟩ : ∃ mF, moreF (idx T1 v a pg 8) = mF := ⟨_, rfl⟩
            obtain ⟨mM, hmM⟩ : ∃ mM, moreM (idx T1 v a pg 8) = mM := ⟨_, rfl⟩
            rw [hT2] at q1 HG2 HU2
            rw [hmF, hmM] at q1 MB
            simp only [hT2, hrf, hrx, hmF, hmM] at R2
            rw [hrf, hrx]
            have q0 := (S.tr.keep g1 (fun e => ll.tu e.symm)).alloc (.cells #[.int .i64 rx.k, .int .i64 rx.s, .int .i64 rx.l, .bool rx.wk, .int .i64 rx.p] 51)
            have m0 := (S.tw.ref.keep g1 ll.t3 ll.t4).alloc (.cells #[.int .i64 rx.k, .int .i64 rx.s, .int .i64 rx.l, .bool rx.wk, .int .i64 rx.p] 51)
            replace rx12 := (rx12.keep g1 hx.1).alloc (.cells #[.int .i64 rx.k, .int .i64 rx.s, .int .i64 rx.l, .bool rx.wk, .int .i64 rx.p] 51)
            replace q1 := q1.alloc (.cells #[.int .i64 rx.k, .int .i64 rx.s, .int .i64 rx.l, .bool rx.wk, .int .i64 rx.p] 51)
            have r14 := row_alloc v3 #[.int .i64 rx.k, .int .i64 rx.s, .int .i64 rx.l, .bool rx.wk, .int .i64 rx.p] 51
            have h14 : Hid (v3.heap.size ≠ bu) := by have := q0.lt; have a9 := (S.tr.keep g1 (fun e => ll.tu e.symm)).lt; show v3.heap.size ≠ bu; omega
            replace g1 := g1.alloc (.cells #[.int .i64 rx.k, .int .i64 rx.s, .int .i64 rx.l, .bool rx.wk, .int .i64 rx.p] 51)
            clear x0 x1 x2 x3 x4 x5 x6 hT2 hrf hrx hmF hmM
            have x0 := rx12.cell 0
            have x1 := rx12.cell 1
            have x2 := rx12.cell 2
            have x3 := rx12.cell 3
            have x4 := rx12.cell 4
            have x5 := rx12.cell 5
            have x6 := rx12.cell 6
            go_wp2_with fail
            refine (R2 _ m0 q0).mono ?_
            rintro e v4 ⟨rfl, g2, q2⟩
            replace S := S.bufs ll g1 q1 g2 q2
            replace r14 := r14.keep g2 h14.out
            clear x0 x1 x2 x3 x4 x5 x6 g1 q1 g2 q2 q0 m0 rx12 R2 HG HU h14
            replace r14 := r14.alloc (.cells #[.int .i64 rx.k, .int .i64 rx.s, .int .i64 rx.l, .bool rx.wk, .int .i64 rx.p] 51)
            have r16 := row_alloc v4 #[.int .i64 rx.k, .int .i64 rx.s, .int .i64 rx.l, .bool rx.wk, .int .i64 rx.p] 51
            replace S := S.keep0 ((Fr.refl none' v4).alloc (.cells #[.int .i64 rx.k, .int .i64 rx.s, .int .i64 rx.l, .bool rx.wk, .int .i64 rx.p] 51))
            go_wp2_with fail
            refine (lines_any _ _ _ _ _ S.tl).mono ?_
            rintro e v5 ⟨g, rfl, hg, g1, l1⟩
            replace r14 := r14.keep g1 (fun h => h)
            replace r16 := r16.keep g1 (fun h => h)
            replace S := S.keep0 g1
            clear g1 hg
            obtain ⟨y0, y1, y2, y3, y4⟩ := cells5 r14
            obtain ⟨z0, z1, z2, z3, z4⟩ := cells5 r16
            have q1 : (rf != rf) = false := by simp
            go_wp2_with fail
            clear y0 y1 y2 y3 y4 z0 z1 z2 z3 z4 r14 r16
            obtain ⟨wz, hwz⟩ : ∃ wz, wz = wr := ⟨wr, rfl⟩
            clear hwz
            go_loopw [18] (fun i wr => ∃ m : Nat, m ≤ 8 ∧ i = .int .i64 m ∧ Sta w wr pm bm pr br bt bu bs T2 (fo + mF) (mi + mM) ∧ LineRow wr g 8 8 T2) (fun i _ => 8 - (intOf i).toNat)
            case atStart => exact ⟨0, by omega, rfl, S, l1⟩
            case round =>
              clear S l1
              obtain ⟨m, hm, rfl, S, l1⟩ := hrel
              by_cases hm8 : m < 8
              · obtain ⟨c0, c1, c2, c3, c4⟩ := l1.cells m hm8
                obtain ⟨d0, d1, d2, d3, d4⟩ := S.tr.cells m hm8
                have i1 : 0 ≤ (m : Int) ∧ (m : Int) < 8 := by omega
                have i2 : decide ((m : Int) < 8) = true := decide_eq_true (by omega)
                go_wp2_with fail
                go_quiet (fail)
                replace l1 := l1.keep (fr_drewN wr nq) (fun h => h)
                replace S := S.keep0 (fr_drewN wr nq)
                clear c0 c1 c2 c3 c4 d0 d1 d2 d3 d4
                go_wp2_with fail
                go_roundw
                case rel => exact ⟨m + 1, by omega, by go_num, S, l1⟩
                case measure => simp [intOf]; omega
              · obtain rfl : m = 8 := by omega
                have mb := MB.out
                go_wp2_with fail
                go_roundw
                case rel => exact ⟨k + 1, T2, fo + mF, mi + mM, bs, by omega, by omega, by go_num, S, HG2, HU2, by omega, by omega, by omega⟩
                case measure => simp [intOf]; omega
      · obtain rfl : k = 100 := by omega
        go_wp2_with fail
        go_ret
        exact ⟨rfl, S.fr⟩
    · obtain rfl : k = len2 := by omega
      go_wp2_with fail
      go_ret
      exact ⟨rfl, S.fr⟩

theorem reaches_any (w : World) (a0 : Option Addr) (len cap : Nat) (P : Nat → Pt) (hl : len ≤ 9223372036854775807) (hP : Puts w a0 len P) (a2 : Option Addr) (len2 cap2 : Nat) (A : Nat → Aq) (hl2 : len2 ≤ 9223372036854775807) (hA : Asks w a2 len2 A) :
    Calls Try.prog 3 #[.slice a0 len cap, .slice a2 len2 cap2] w fun e w' => e = .returned (.bool true) ∧ Below w.heap.size w w' :=
  (reaches_fr w a0 len cap P hl hP a2 len2 cap2 A hl2 hA).mono fun _ _ ⟨he, hf⟩ => ⟨he, hf.below (Nat.le_refl _) (fun _ h => h.elim)⟩

end Go.Proofs.Ytknpjfbjalboeaa
