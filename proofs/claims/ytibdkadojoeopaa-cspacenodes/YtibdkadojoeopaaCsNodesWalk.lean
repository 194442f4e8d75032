/-
  The walk of the law CspaceNodes over the translation: it answers true. No statement is proved here.
-/
import Derived.Test.YtibdkadojoeopaaCsAwakeB
import Derived.Test.YtibdkadojoeopaaCsNodeP
import Derived.Test.YtibdkadojoeopaaCsOpen
namespace Go.Proofs.Ytibdkadojoeopaa
open Go.RowKit Go.Maps Go.WideMaps

set_option maxRecDepth 100000 in
set_option maxHeartbeats 8000000 in
theorem nodes_any (a0 : Option Addr) (len cap : Nat) (id rx ix : Int) (kk o r b x g n : Int) (d : Bool) (w : World) (hl : len ≤ 9223372036854775807) (hA : ∃ A, Acs w a0 len A) (hid : I64 id) (hr : I64 r) :
    Calls Try.prog 8 #[.slice a0 len cap, .int .i64 id, .int .i64 rx, .int .i64 ix, .agg #[.int .i64 kk, .int .i64 o, .int .i64 r, .int .i64 b, .int .i64 x, .int .i64 g, .int .i64 n, .bool d]] w fun e w' => e = .returned (.bool true) ∧ Below w.heap.size w w' := by
  obtain ⟨A, hA⟩ := hA
  have fB := ((Fr.refl none' w).alloc (.cells #[.int .i64 kk, .int .i64 o, .int .i64 r, .int .i64 b, .int .i64 x, .int .i64 g, .int .i64 n, .bool d] 34))
  have rB := row_alloc w #[.int .i64 kk, .int .i64 o, .int .i64 r, .int .i64 b, .int .i64 x, .int .i64 g, .int .i64 n, .bool d] 34
  replace hA := hA.keep fB
  go_enter Try.func8, Try.ntmps8
  go_wp2_with fail
  generalize (w.alloc (.cells #[.int .i64 kk, .int .i64 o, .int .i64 r, .int .i64 b, .int .i64 x, .int .i64 g, .int .i64 n, .bool d] 34)) = v0 at *
  have HA : Hid (Acs v0 a0 len A) := hA
  have HF : Hid (Fr none' w v0) := fB
  have HrB : Hid (Row v0 (w.heap.size) #[.int .i64 kk, .int .i64 o, .int .i64 r, .int .i64 b, .int .i64 x, .int .i64 g, .int .i64 n, .bool d] 34) := rB
  clear hA fB rB
  refine (awake_any _).mono ?_
  rintro e w1 ⟨rfl, f0⟩
  go_wp2_with fail
  refine (new_any w1).mono ?_
  rintro e w2 ⟨p, rfl, h2, f1, n2⟩
  replace n2 : ∀ k, p.s [] k → v0.heap.size ≤ k := fun k hk => Nat.le_trans f0.size (n2 k hk)
  replace f0 := f0.trans f1
  have NB := newB_start f0 h2 n2
  clear h2 n2 f1 f0
  go_wp2_with fail
  obtain ⟨q, hq⟩ : ∃ q : Qb, q = ⟨w2.heap.size, .slice none 0 0, fun _ => 0⟩ := ⟨_, rfl⟩
  have hqb : w2.heap.size = q.b := by rw [hq]
  rw [← hq] at NB
  have HNB : Hid (NewB v0 (w2.alloc (.cells #[.slice none 0 0] 29)) p q []) := NB
  rw [hqb]
  clear NB hq
  generalize (w2.alloc (.cells #[.slice none 0 0] 29)) = v2 at *
  clear hqb
  go_loopw [14] (fun i wr => ∃ (k : Nat) (p' : Pb) (q' : Qb) (L : List Nd), k ≤ len ∧ k ≤ 60 ∧ i = .int .i64 k ∧ p'.b = p.b ∧ q'.b = q.b ∧ Hid (NewB v0 wr p' q' L)) (fun i _ => 60 - (intOf i).toNat)
  case atStart => exact ⟨0, p, q, [], by omega, by omega, rfl, rfl, rfl, HNB.out⟩
  case round =>
    clear HNB
    obtain ⟨k, p', q', L, hk, hk2, rfl, ep, eq, hB⟩ := hrel
    by_cases hlt : k < len ∧ k < 60
    · obtain ⟨b, o, rfl, ak, ok⟩ := (HA.out.keep hB.out.fr) k hlt.1
      have i1 : 0 ≤ (k : Int) ∧ (k : Int) < (len : Int) := by omega
      have uk1 : decide ((k : Int) < (len : Int)) = true := decide_eq_true (by omega)
      have uk2 : decide ((k : Int) < 60) = true := decide_eq_true (by omega)
      have c0 : wr.cell? ⟨b, o + k * 15, none⟩ = some (.int .i64 (A k).op) := ak 0 (by omega)
      have c1 : wr.cell? ⟨b, o + k * 15 + 1, none⟩ = some (.int .i64 (A k).id) := ak 1 (by omega)
      have c2 : wr.cell? ⟨b, o + k * 15 + 2, none⟩ = some (.int .i64 (A k).rx) := ak 2 (by omega)
      have c3 : wr.cell? ⟨b, o + k * 15 + 3, none⟩ = some (.int .i64 (A k).at'.n) := ak 3 (by omega)
      have c4 : wr.cell? ⟨b, o + k * 15 + 4, none⟩ = some (.int .i64 (A k).at'.i) := ak 4 (by omega)
      have c5 : wr.cell? ⟨b, o + k * 15 + 5, none⟩ = some (.int .i64 (A k).c.k) := ak 5 (by omega)
      have c6 : wr.cell? ⟨b, o + k * 15 + 6, none⟩ = some (.int .i64 (A k).c.o) := ak 6 (by omega)
      have c7 : wr.cell? ⟨b, o + k * 15 + 7, none⟩ = some (.int .i64 (A k).c.r) := ak 7 (by omega)
      have c8 : wr.cell? ⟨b, o + k * 15 + 8, none⟩ = some (.int .i64 (A k).c.b) := ak 8 (by omega)
      have c9 : wr.cell? ⟨b, o + k * 15 + 9, none⟩ = some (.int .i64 (A k).c.x) := ak 9 (by omega)
      have c10 : wr.cell? ⟨b, o + k * 15 + 10, none⟩ = some (.int .i64 (A k).c.g) := ak 10 (by omega)
      have c11 : wr.cell? ⟨b, o + k * 15 + 11, none⟩ = some (.int .i64 (A k).c.n) := ak 11 (by omega)
      have c12 : wr.cell? ⟨b, o + k * 15 + 12, none⟩ = some (.bool (A k).c.d) := ak 12 (by omega)
      have c13 : wr.cell? ⟨b, o + k * 15 + 13, none⟩ = some (.int .u32 ((A k).x : Int)) := ak 13 (by omega)
      have c14 : wr.cell? ⟨b, o + k * 15 + 14, none⟩ = some (.int .i64 (A k).dp) := ak 14 (by omega)
      have hD := does_any wr p' q' L hB.out.bo (A k) ok
      rw [ep, eq] at hD
      clear ok ak
      go_wp2_with fail
      refine hD.mono ?_
      rintro e w3 ⟨rfl, cg⟩
      obtain ⟨p3, q3, e3, e3', B3⟩ := hB.out.step cg
      have E3 : Hid (p3.b = p.b ∧ q3.b = q.b ∧ NewB v0 w3 p3 q3 (stepS L (A k))) := ⟨e3.trans ep, e3'.trans eq, B3⟩
      clear c0 c1 c2 c3 c4 c5 c6 c7 c8 c9 c10 c11 c12 c13 c14 hD cg hB ep eq e3 e3' B3
      go_wp2_with fail
      go_roundw
      case rel => exact ⟨k + 1, p3, q3, _, by omega, by omega, by go_num, E3.out.1, E3.out.2.1, E3.out.2.2⟩
      case measure => simp [intOf]; omega
    · have hc : (decide ((k : Int) < (len : Int)) = false ∧ decide (k < len) = false) ∨ (decide ((k : Int) < (len : Int)) = true ∧ decide ((k : Int) < 60) = false ∧ decide (k < len) = true ∧ decide (k < 60) = false ∧ decide ((60 : Int) < (len : Int)) = true ∧ k = 60) := by
        by_cases h1 : k < len
        · exact Or.inr ⟨decide_eq_true (by omega), decide_eq_false (by omega), decide_eq_true (by omega), decide_eq_false (by omega), decide_eq_true (by omega), by omega⟩
        · exact Or.inl ⟨decide_eq_false (by omega), decide_eq_false (by omega)⟩
      have HE : Hid (p'.b = p.b ∧ q'.b = q.b) := ⟨ep, eq⟩
      clear hlt HA ep eq
      rcases hc with ⟨uk1, uk3⟩ | ⟨uk1, uk2, uk3, uk4, uk5, rfl⟩
      all_goals
        have NQ : NewQ v0 wr p' L := ⟨hB.out.bo.pr, hB.out.fr, fun k hk => hB.out.hi k (Or.inl hk)⟩
        have hA1 := add_any wr p' L NQ.pr id rx
        rw [HE.out.1] at hA1
        clear hB
        by_cases hE : addE L id rx = 0
        · obtain ⟨_, hr1, hr2⟩ := add_fnd hE
          obtain ⟨m, rfl⟩ := Int.eq_ofNat_of_zero_le (show 0 ≤ rx by omega)
          obtain ⟨HG, hG1, HPa, HPb⟩ := nodes_pure (ix := ix) (c := (K.mk kk o r b x g n d)) hE
          rw [hE] at hA1
          generalize addS L id (m : Int) = La at *
          obtain ⟨N, hN⟩ : ∃ N : Nat, N = 2 ^ m := ⟨_, rfl⟩
          have hm4 : m ≤ 4 := by omega
          have hN1 : N ≤ 16 := by rw [hN]; exact Nat.pow_le_pow_right (n := 2) (by omega) hm4
          rw [← hN] at HG hG1
          have HHG : Hid (∀ j : Nat, j < N → getE La ⟨id, j⟩ = 0 ∧ getC La ⟨id, j⟩ = K0) := HG
          have HHA : Hid _ := HPa
          have HHB : Hid _ := HPb
          have HH1 : Hid _ := hG1
          have hs4 : (2 : Int) ^ m = (N : Int) := by rw [hN]; exact (Int.natCast_pow 2 m).symm
          have hs1 : IntKind.i64.wrap ((2 : Int) ^ m) = (N : Int) := by rw [hs4]; exact (wrap_small hN1).1
          have hs2 : wrap64 ((2 : Int) ^ m) = (N : Int) := by rw [hs4]; exact (wrap_small hN1).2
          have hs3 : wrap64 ((2 : Int) ^ min m 64) = (N : Int) := by rw [Nat.min_eq_left (Nat.le_trans hm4 (by decide)), hs4]; exact (wrap_small hN1).2
          have hs5 : IntKind.i64.wrap (N : Int) = (N : Int) := (wrap_small hN1).1
          have hs6 : wrap64 (N : Int) = (N : Int) := (wrap_small hN1).2
          clear HG HPa HPb hG1 hN hE
          go_wp2_with fail
          refine hA1.mono ?_
          rintro e w3 ⟨rfl, cg⟩
          obtain ⟨p3, e3, N3⟩ := NQ.step cg
          have E3 : Hid (p3.b = p.b) := e3.trans HE.out.1
          have HN3 : Hid (NewQ v0 w3 p3 La) := N3
          clear hA1 cg NQ e3 N3
          go_wp2_with fail
          go_loopw [16] (fun i wr => ∃ k : Nat, k ≤ N ∧ i = .int .i64 k ∧ Hid (Fr none' w3 wr)) (fun i _ => N - (intOf i).toNat)
          case atStart => exact ⟨0, by omega, rfl, Fr.refl _ _⟩
          case round =>
            obtain ⟨k2, hk3, rfl, hf⟩ := hrel
            by_cases hlt2 : k2 < N
            · have uk : decide ((k2 : Int) < (N : Int)) = true := decide_eq_true (by omega)
              have hG := get_any _ p3 La (HN3.out.keep0 hf.out).pr ⟨id, k2⟩ hid
              rw [E3.out, (HHG.out k2 hlt2).1, (HHG.out k2 hlt2).2] at hG
              replace hG : Calls Try.prog 20 #[.pointer (some ⟨p.b, 0, none⟩), .agg #[.int .i64 id, .int .i64 (k2 : Int)]] _ fun e w' => e = .returned (.tuple #[.agg #[.int .i64 0, .int .i64 0, .int .i64 0, .int .i64 0, .int .i64 0, .int .i64 0, .int .i64 0, .bool false], .int .i64 0]) ∧ Fr none' _ w' := hG
              have hq := fun w => neq_cap 0 0 0 0 0 0 0 0 0 0 0 0 0 0 false false w
              rw [eqK_self] at hq
              simp only [Bool.not_true] at hq
              go_wp2_with fail
              refine hG.mono ?_
              rintro e w4 ⟨rfl, f4⟩
              have HG4 : Hid (Fr none' w3 (w4.alloc (.cells #[.int .i64 0, .int .i64 0, .int .i64 0, .int .i64 0, .int .i64 0, .int .i64 0, .int .i64 0, .bool false] 34))) := hf.out.trans (f4.alloc _)
              have r17 := row_alloc w4 #[.int .i64 0, .int .i64 0, .int .i64 0, .int .i64 0, .int .i64 0, .int .i64 0, .int .i64 0, .bool false] 34
              obtain ⟨k0, k1, k2', k3, k4, k5, k6, k7⟩ := cbox_cells r17
              clear f4 r17 hG
              go_wp2_with fail
              go_roundw
              case rel => exact ⟨k2 + 1, by omega, by go_num, HG4.out⟩
              case measure => simp [intOf]; omega
            · obtain rfl : k2 = N := by omega
              have uk : decide ((k2 : Int) < (k2 : Int)) = false := decide_eq_false (by omega)
              have hG := get_any _ p3 La (HN3.out.keep0 hf.out).pr ⟨id, k2⟩ hid
              rw [E3.out, HH1.out] at hG
              generalize getC La ⟨id, k2⟩ = C at *
              obtain ⟨Ck, Co, Cr, Cb, Cx, Cg, Cn, Cd⟩ := C
              replace hG : Calls Try.prog 20 #[.pointer (some ⟨p.b, 0, none⟩), .agg #[.int .i64 id, .int .i64 (k2 : Int)]] _ fun e w' => e = .returned (.tuple #[.agg #[.int .i64 Ck, .int .i64 Co, .int .i64 Cr, .int .i64 Cb, .int .i64 Cx, .int .i64 Cg, .int .i64 Cn, .bool Cd], .int .i64 1]) ∧ Fr none' _ w' := hG
              go_wp2_with fail
              refine hG.mono ?_
              rintro e w4 ⟨rfl, f4⟩
              have N4 := HN3.out.keep0 (hf.out.trans (f4.alloc (.cells #[.int .i64 Ck, .int .i64 Co, .int .i64 Cr, .int .i64 Cb, .int .i64 Cx, .int .i64 Cg, .int .i64 Cn, .bool Cd] 34)))
              have rC := HrB.out.keep N4.fr (fun h => h)
              obtain ⟨k0, k1, k2', k3, k4, k5, k6, k7⟩ := cbox_cells rC
              have hP := put_any _ p3 La N4.pr ⟨id, ix⟩ hid (K.mk kk o r b x g n d) hr
              rw [E3.out] at hP
              clear hG f4 hf rC
              by_cases hfull : putE La ⟨id, ix⟩ (K.mk kk o r b x g n d) = 0 ∧ kk ≠ 0
              · obtain ⟨h1, h2, h3, h4, h5⟩ := HHA.out hfull.1 hfull.2
                have t2 : (kk != 0) = true := by simpa using hfull.2
                rw [hfull.1] at hP
                generalize putS La ⟨id, ix⟩ (K.mk kk o r b x g n d) = Lp at *
                clear HHA HHB hfull
                replace hP : Calls Try.prog 19 #[.pointer (some ⟨p.b, 0, none⟩), .agg #[.int .i64 id, .int .i64 ix], .agg #[.int .i64 kk, .int .i64 o, .int .i64 r, .int .i64 b, .int .i64 x, .int .i64 g, .int .i64 n, .bool d]] _ fun e w' => e = .returned (.int .i64 0) ∧ Chg _ p3 La w' Lp := hP
                go_wp2_with fail
                refine hP.mono ?_
                rintro e w5 ⟨rfl, cg⟩
                obtain ⟨p5, e5, N5⟩ := N4.step cg
                replace e5 := e5.trans E3.out
                clear k0 k1 k2' k3 k4 k5 k6 k7 hP cg N4
                have rC := HrB.out.keep N5.fr (fun h => h)
                obtain ⟨k0, k1, k2', k3, k4, k5, k6, k7⟩ := cbox_cells rC
                have hD := drop_any w5 p5 Lp N5.pr id hid
                rw [e5, h1, h2] at hD
                clear rC
                go_wp2_with fail
                refine hD.mono ?_
                rintro e w6 ⟨rfl, cg⟩
                obtain ⟨p6, e6, N6⟩ := N5.step cg
                replace e6 := e6.trans e5
                clear k0 k1 k2' k3 k4 k5 k6 k7 hD cg N5 e5
                have hP := put_any w6 p6 Lp N6.pr ⟨id, ix⟩ hid K0 (by unfold I64; decide)
                rw [e6, h3] at hP
                generalize putS Lp ⟨id, ix⟩ K0 = Lq at *
                replace hP : Calls Try.prog 19 #[.pointer (some ⟨p.b, 0, none⟩), .agg #[.int .i64 id, .int .i64 ix], .agg #[.int .i64 0, .int .i64 0, .int .i64 0, .int .i64 0, .int .i64 0, .int .i64 0, .int .i64 0, .bool false]] w6 fun e w' => e = .returned (.int .i64 0) ∧ Chg w6 p6 Lp w' Lq := hP
                go_wp2_with fail
                refine hP.mono ?_
                rintro e w7 ⟨rfl, cg⟩
                obtain ⟨p7, e7, N7⟩ := N6.step cg
                replace e7 := e7.trans e6
                clear hP cg N6 e6
                have hD := drop_any w7 p7 Lq N7.pr id hid
                rw [e7, h4] at hD
                generalize drS Lq id = Lr at *
                go_wp2_with fail
                refine hD.mono ?_
                rintro e w8 ⟨rfl, cg⟩
                obtain ⟨p8, e8, N8⟩ := N7.step cg
                replace e8 := e8.trans e7
                clear hD cg N7 e7
                have hR := radix_any w8 p8 Lr N8.pr id hid
                rw [e8, h5] at hR
                have HF8 : Hid (Fr none' w w8) := HF.out.trans N8.fr
                clear N8 e8
                go_wp2_with fail
                refine hR.mono ?_
                rintro e w9 ⟨rfl, rfl⟩
                clear hR
                go_wp2_with fail
                go_ret
                exact ⟨rfl, HF8.out.below (Nat.le_refl _) (fun _ h => h.elim)⟩
              · obtain ⟨h1, h2⟩ := HHB.out (by
                  by_cases h0 : putE La ⟨id, ix⟩ (K.mk kk o r b x g n d) = 0
                  · exact Or.inr (Decidable.byContradiction fun h => hfull ⟨h0, h⟩)
                  · exact Or.inl h0)
                have hcs : ((putE La ⟨id, ix⟩ (K.mk kk o r b x g n d) == 0) = false) ∨ ((putE La ⟨id, ix⟩ (K.mk kk o r b x g n d) == 0) = true ∧ (kk != 0) = false) := by
                  by_cases h0 : putE La ⟨id, ix⟩ (K.mk kk o r b x g n d) = 0
                  · exact Or.inr ⟨by simpa using h0, by simpa using (Decidable.byContradiction fun h => hfull ⟨h0, h⟩ : kk = 0)⟩
                  · exact Or.inl (by simpa using h0)
                clear HHA HHB hfull
                generalize putS La ⟨id, ix⟩ (K.mk kk o r b x g n d) = Lp at *
                generalize putE La ⟨id, ix⟩ (K.mk kk o r b x g n d) = E2 at *
                replace hP : Calls Try.prog 19 #[.pointer (some ⟨p.b, 0, none⟩), .agg #[.int .i64 id, .int .i64 ix], .agg #[.int .i64 kk, .int .i64 o, .int .i64 r, .int .i64 b, .int .i64 x, .int .i64 g, .int .i64 n, .bool d]] _ fun e w' => e = .returned (.int .i64 E2) ∧ Chg _ p3 La w' Lp := hP
                go_wp2_with fail
                refine hP.mono ?_
                rintro e w5 ⟨rfl, cg⟩
                obtain ⟨p5, e5, N5⟩ := N4.step cg
                replace e5 := e5.trans E3.out
                clear k0 k1 k2' k3 k4 k5 k6 k7 hP cg N4
                have rC := HrB.out.keep N5.fr (fun h => h)
                obtain ⟨k0, k1, k2', k3, k4, k5, k6, k7⟩ := cbox_cells rC
                have hD := drop_any w5 p5 Lp N5.pr id hid
                rw [e5, h1] at hD
                generalize drS Lp id = Lr at *
                clear rC
                rcases hcs with t3 | ⟨t3, t4⟩
                all_goals
                  go_wp2_with fail
                  refine hD.mono ?_
                  rintro e w6 ⟨rfl, cg⟩
                  obtain ⟨p6, e6, N6⟩ := N5.step cg
                  replace e6 := e6.trans e5
                  clear k0 k1 k2' k3 k4 k5 k6 k7 hD cg N5 e5
                  have hR := radix_any w6 p6 Lr N6.pr id hid
                  rw [e6, h2] at hR
                  have HF8 : Hid (Fr none' w w6) := HF.out.trans N6.fr
                  clear N6 e6
                  go_wp2_with fail
                  refine hR.mono ?_
                  rintro e w9 ⟨rfl, rfl⟩
                  clear hR
                  go_wp2_with fail
                  go_ret
                  exact ⟨rfl, HF8.out.below (Nat.le_refl _) (fun _ h => h.elim)⟩
        · have t1 : (addE L id rx != 0) = true := by simpa using hE
          clear hE
          generalize addE L id rx = E1 at *
          generalize addS L id rx = La at *
          go_wp2_with fail
          refine hA1.mono ?_
          rintro e w3 ⟨rfl, cg⟩
          obtain ⟨p3, e3, N3⟩ := NQ.step cg
          have HF3 : Hid (Fr none' w w3) := HF.out.trans N3.fr
          clear hA1 cg NQ N3 e3
          go_wp2_with fail
          go_ret
          exact ⟨rfl, HF3.out.below (Nat.le_refl _) (fun _ h => h.elim)⟩

end Go.Proofs.Ytibdkadojoeopaa
