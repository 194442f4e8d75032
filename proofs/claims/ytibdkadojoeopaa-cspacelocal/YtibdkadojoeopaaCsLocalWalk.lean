/-
  The walk of the law CspaceLocal over the translation: it answers true. No statement is proved here.
-/
import Derived.Test.YtibdkadojoeopaaCsAwakeB
import Derived.Test.YtibdkadojoeopaaCsWay
import Derived.Test.YtibdkadojoeopaaCsOpen
namespace Go.Proofs.Ytibdkadojoeopaa
open Go.RowKit Go.Maps Go.WideMaps

set_option maxRecDepth 100000 in
set_option maxHeartbeats 8000000 in
theorem local_any (a0 : Option Addr) (len cap : Nat) (kk o r b x g n : Int) (d : Bool) (X : Nat) (dp : Int) (on oi : Int) (ck co cr cb cx cg cn : Int) (cd : Bool) (w : World) (hl : len ≤ 9223372036854775807) (hA : ∃ A, Acs w a0 len A) (hr : I64 r) (hX : X < 4294967296) (hdp : I64 dp) (hn : I64 on) (hr2 : I64 cr) :
    Calls Try.prog 4 #[.slice a0 len cap, .agg #[.int .i64 kk, .int .i64 o, .int .i64 r, .int .i64 b, .int .i64 x, .int .i64 g, .int .i64 n, .bool d], .int .u32 (X : Int), .int .i64 dp, .agg #[.int .i64 on, .int .i64 oi], .agg #[.int .i64 ck, .int .i64 co, .int .i64 cr, .int .i64 cb, .int .i64 cx, .int .i64 cg, .int .i64 cn, .bool cd]] w fun e w' => e = .returned (.bool true) ∧ Below w.heap.size w w' := by
  obtain ⟨A, hA⟩ := hA
  have fB := ((((Fr.refl none' w).alloc (.cells #[.int .i64 kk, .int .i64 o, .int .i64 r, .int .i64 b, .int .i64 x, .int .i64 g, .int .i64 n, .bool d] 34)).alloc (.cells #[.int .i64 on, .int .i64 oi] 32)).alloc (.cells #[.int .i64 ck, .int .i64 co, .int .i64 cr, .int .i64 cb, .int .i64 cx, .int .i64 cg, .int .i64 cn, .bool cd] 34))
  have rB := ((row_alloc w #[.int .i64 kk, .int .i64 o, .int .i64 r, .int .i64 b, .int .i64 x, .int .i64 g, .int .i64 n, .bool d] 34).alloc (.cells #[.int .i64 on, .int .i64 oi] 32)).alloc (.cells #[.int .i64 ck, .int .i64 co, .int .i64 cr, .int .i64 cb, .int .i64 cx, .int .i64 cg, .int .i64 cn, .bool cd] 34)
  have rA := (row_alloc1 w (.cells #[.int .i64 kk, .int .i64 o, .int .i64 r, .int .i64 b, .int .i64 x, .int .i64 g, .int .i64 n, .bool d] 34) #[.int .i64 on, .int .i64 oi] 32).alloc (.cells #[.int .i64 ck, .int .i64 co, .int .i64 cr, .int .i64 cb, .int .i64 cx, .int .i64 cg, .int .i64 cn, .bool cd] 34)
  have rC := row_alloc2 w (.cells #[.int .i64 kk, .int .i64 o, .int .i64 r, .int .i64 b, .int .i64 x, .int .i64 g, .int .i64 n, .bool d] 34) (.cells #[.int .i64 on, .int .i64 oi] 32) #[.int .i64 ck, .int .i64 co, .int .i64 cr, .int .i64 cb, .int .i64 cx, .int .i64 cg, .int .i64 cn, .bool cd] 34
  replace hA := hA.keep fB
  go_enter Try.func4, Try.ntmps4
  go_wp2_with fail
  generalize (((w.alloc (.cells #[.int .i64 kk, .int .i64 o, .int .i64 r, .int .i64 b, .int .i64 x, .int .i64 g, .int .i64 n, .bool d] 34)).alloc (.cells #[.int .i64 on, .int .i64 oi] 32)).alloc (.cells #[.int .i64 ck, .int .i64 co, .int .i64 cr, .int .i64 cb, .int .i64 cx, .int .i64 cg, .int .i64 cn, .bool cd] 34)) = v0 at *
  have HA : Hid (Acs v0 a0 len A) := hA
  have HF : Hid (Fr none' w v0) := fB
  have HrB : Hid (Row v0 (w.heap.size) #[.int .i64 kk, .int .i64 o, .int .i64 r, .int .i64 b, .int .i64 x, .int .i64 g, .int .i64 n, .bool d] 34) := rB
  have HrA : Hid (Row v0 (w.heap.size + 1) #[.int .i64 on, .int .i64 oi] 32) := rA
  have HrC : Hid (Row v0 (w.heap.size + 1 + 1) #[.int .i64 ck, .int .i64 co, .int .i64 cr, .int .i64 cb, .int .i64 cx, .int .i64 cg, .int .i64 cn, .bool cd] 34) := rC
  clear hA fB rB rA rC
  refine (awake_any _).mono ?_
  rintro e w1 ⟨rfl, f0⟩
  go_wp2_with fail
  refine (new_any w1).mono ?_
  rintro e w2 ⟨p, rfl, h2, f1, n2⟩
  replace n2 : ∀ k, p.s [] k → v0.heap.size ≤ k := fun k hk => Nat.le_trans f0.size (n2 k hk)
  replace f0 := f0.trans f1
  have NB := newB_start f0 h2 n2
  clear h2 n2 f1 f0
  go_wp2_with fail
  obtain ⟨q, hq⟩ : ∃ q : Qb, q = ⟨w2.heap.size, .slice none 0 0, fun _ => 0⟩ := ⟨_, rfl⟩
  have hqb : w2.heap.size = q.b := by rw [hq]
  rw [← hq] at NB
  have HNB : Hid (NewB v0 (w2.alloc (.cells #[.slice none 0 0] 29)) p q []) := NB
  rw [hqb]
  clear NB hq
  generalize (w2.alloc (.cells #[.slice none 0 0] 29)) = v2 at *
  clear hqb
  go_loopw [16] (fun i wr => ∃ (k : Nat) (p' : Pb) (q' : Qb) (L : List Nd), k ≤ len ∧ k ≤ 100 ∧ i = .int .i64 k ∧ p'.b = p.b ∧ q'.b = q.b ∧ Hid (NewB v0 wr p' q' L)) (fun i _ => 100 - (intOf i).toNat)
  case atStart => exact ⟨0, p, q, [], by omega, by omega, rfl, rfl, rfl, HNB.out⟩
  case round =>
    clear HNB
    obtain ⟨k, p', q', L, hk, hk2, rfl, ep, eq, hB⟩ := hrel
    by_cases hlt : k < len ∧ k < 100
    · obtain ⟨b, o, rfl, ak, ok⟩ := (HA.out.keep hB.out.fr) k hlt.1
      have i1 : 0 ≤ (k : Int) ∧ (k : Int) < (len : Int) := by omega
      have uk1 : decide ((k : Int) < (len : Int)) = true := decide_eq_true (by omega)
      have uk2 : decide ((k : Int) < 100) = true := decide_eq_true (by omega)
      have c0 : wr.cell? ⟨b, o + k * 15, none⟩ = some (.int .i64 (A k).op) := ak 0 (by omega)
      have c1 : wr.cell? ⟨b, o + k * 15 + 1, none⟩ = some (.int .i64 (A k).id) := ak 1 (by omega)
      have c2 : wr.cell? ⟨b, o + k * 15 + 2, none⟩ = some (.int .i64 (A k).rx) := ak 2 (by omega)
      have c3 : wr.cell? ⟨b, o + k * 15 + 3, none⟩ = some (.int .i64 (A k).at'.n) := ak 3 (by omega)
      have c4 : wr.cell? ⟨b, o + k * 15 + 4, none⟩ = some (.int .i64 (A k).at'.i) := ak 4 (by omega)
      have c5 : wr.cell? ⟨b, o + k * 15 + 5, none⟩ = some (.int .i64 (A k).c.k) := ak 5 (by omega)
      have c6 : wr.cell? ⟨b, o + k * 15 + 6, none⟩ = some (.int .i64 (A k).c.o) := ak 6 (by omega)
      have c7 : wr.cell? ⟨b, o + k * 15 + 7, none⟩ = some (.int .i64 (A k).c.r) := ak 7 (by omega)
      have c8 : wr.cell? ⟨b, o + k * 15 + 8, none⟩ = some (.int .i64 (A k).c.b) := ak 8 (by omega)
      have c9 : wr.cell? ⟨b, o + k * 15 + 9, none⟩ = some (.int .i64 (A k).c.x) := ak 9 (by omega)
      have c10 : wr.cell? ⟨b, o + k * 15 + 10, none⟩ = some (.int .i64 (A k).c.g) := ak 10 (by omega)
      have c11 : wr.cell? ⟨b, o + k * 15 + 11, none⟩ = some (.int .i64 (A k).c.n) := ak 11 (by omega)
      have c12 : wr.cell? ⟨b, o + k * 15 + 12, none⟩ = some (.bool (A k).c.d) := ak 12 (by omega)
      have c13 : wr.cell? ⟨b, o + k * 15 + 13, none⟩ = some (.int .u32 ((A k).x : Int)) := ak 13 (by omega)
      have c14 : wr.cell? ⟨b, o + k * 15 + 14, none⟩ = some (.int .i64 (A k).dp) := ak 14 (by omega)
      have hD := does_any wr p' q' L hB.out.bo (A k) ok
      rw [ep, eq] at hD
      clear ok ak
      go_wp2_with fail
      refine hD.mono ?_
      rintro e w3 ⟨rfl, cg⟩
      obtain ⟨p3, q3, e3, e3', B3⟩ := hB.out.step cg
      have E3 : Hid (p3.b = p.b ∧ q3.b = q.b ∧ NewB v0 w3 p3 q3 (stepS L (A k))) := ⟨e3.trans ep, e3'.trans eq, B3⟩
      clear c0 c1 c2 c3 c4 c5 c6 c7 c8 c9 c10 c11 c12 c13 c14 hD cg hB ep eq e3 e3' B3
      go_wp2_with fail
      go_roundw
      case rel => exact ⟨k + 1, p3, q3, _, by omega, by omega, by go_num, E3.out.1, E3.out.2.1, E3.out.2.2⟩
      case measure => simp [intOf]; omega
    · have hc : (decide ((k : Int) < (len : Int)) = false ∧ decide (k < len) = false) ∨ (decide ((k : Int) < (len : Int)) = true ∧ decide ((k : Int) < 100) = false ∧ decide (k < len) = true ∧ decide (k < 100) = false ∧ decide ((100 : Int) < (len : Int)) = true ∧ k = 100) := by
        by_cases h1 : k < len
        · exact Or.inr ⟨decide_eq_true (by omega), decide_eq_false (by omega), decide_eq_true (by omega), decide_eq_false (by omega), decide_eq_true (by omega), by omega⟩
        · exact Or.inl ⟨decide_eq_false (by omega), decide_eq_false (by omega)⟩
      have HE : Hid (p'.b = p.b ∧ q'.b = q.b) := ⟨ep, eq⟩
      clear hlt HA ep eq
      rcases hc with ⟨uk1, uk3⟩ | ⟨uk1, uk2, uk3, uk4, uk5, rfl⟩
      all_goals
        have hR := resolve_any wr p' L hB.out.bo.pr (K.mk kk o r b x g n d) hr X hX dp
        rw [HE.out.1] at hR
        have rB := HrB.out.keep hB.out.fr (fun h => h)
        obtain ⟨k0, k1, k2, k3, k4, k5, k6, k7⟩ := cbox_cells rB
        have HP : Hid (∀ W : List Rf, (1 ≤ dp → dp ≤ 16 → ∀ a, a ∈ wayF L (K.mk kk o r b x g n d) X dp.toNat dp.toNat → a ∈ W) → (⟨on, oi⟩ : Rf) ∉ W → resR (putS L ⟨on, oi⟩ (K.mk ck co cr cb cx cg cn cd)) (K.mk kk o r b x g n d) X dp = resR L (K.mk kk o r b x g n d) X dp) := fun W h1 h2 => local_pure hB.out.bo.pr.good (fun h3 h4 h5 => h2 (h1 h3 h4 _ h5))
        have HLt : Hid (∀ k, boU p' q' L L k → k < wr.heap.size) := hB.out.bo.lt
        generalize resR L (K.mk kk o r b x g n d) X dp = R at *
        obtain ⟨⟨Rn, Ri⟩, Rl, Re⟩ := R
        replace hR : Calls Try.prog 17 #[.pointer (some ⟨p.b, 0, none⟩), .agg #[.int .i64 kk, .int .i64 o, .int .i64 r, .int .i64 b, .int .i64 x, .int .i64 g, .int .i64 n, .bool d], .int .u32 (X : Int), .int .i64 dp] wr fun e w' => e = .returned (.tuple #[.agg #[.int .i64 Rn, .int .i64 Ri], .int .i64 Rl, .int .i64 Re]) ∧ Fr none' wr w' := hR
        go_wp2_with fail
        refine hR.mono ?_
        rintro e w3 ⟨rfl, f3⟩
        clear k0 k1 k2 k3 k4 k5 k6 k7 hR
        have HW3 : Hid (wr.heap.size ≤ w3.heap.size) := f3.size
        have f4 := f3.alloc (.cells #[.int .i64 Rn, .int .i64 Ri] 32)
        have r17 := row_alloc w3 #[.int .i64 Rn, .int .i64 Ri] 32
        have B4 := hB.out.keep0 f4
        replace rB := rB.keep f4 (fun h => h)
        obtain ⟨k0, k1, k2, k3, k4, k5, k6, k7⟩ := cbox_cells rB
        have hW := way_any _ q' L B4.bo.rf kk o r b x g n d X hX dp hdp
        rw [HE.out.2] at hW
        clear hB f3 f4
        go_wp2_with fail
        refine hW.mono ?_
        rintro e w5 ⟨v5, W, rfl, s5, hW17, hmem, f5⟩
        replace B4 := B4.keep0 f5
        replace r17 := r17.keep f5 (fun h => h)
        clear k0 k1 k2 k3 k4 k5 k6 k7 hW rB f5
        obtain ⟨a5, cap5, rfl, hcc⟩ := s5.cells
        have HX : Hid (∀ j, j < W.length → ∃ (y : Rf) (g : Nat), W[j]? = some y ∧ a5 = some ⟨g, 0, none⟩ ∧ ∀ w', Fr none' w5 w' → w'.cell? ⟨g, j * 2, none⟩ = some (.int .i64 y.n) ∧ w'.cell? ⟨g, j * 2 + 1, none⟩ = some (.int .i64 y.i)) := fun j hj => by
          obtain ⟨y, hy⟩ : ∃ y, W[j]? = some y := ⟨W[j], List.getElem?_eq_getElem hj⟩
          obtain ⟨g, e2, g0, g1⟩ := hcc j y hy
          exact ⟨y, g, hy, e2, fun w' f => ⟨cell_keep f g0 (fun h => h), cell_keep f g1 (fun h => h)⟩⟩
        have HPW : Hid ((∀ j, j < W.length → W[j]? ≠ some ⟨on, oi⟩) → resR (putS L ⟨on, oi⟩ (K.mk ck co cr cb cx cg cn cd)) (K.mk kk o r b x g n d) X dp = ⟨⟨Rn, Ri⟩, Rl, Re⟩) := fun h => HP.out W hmem (fun hm => by
          obtain ⟨j, hj, e⟩ := List.mem_iff_getElem.mp hm
          exact h j hj (by rw [List.getElem?_eq_getElem hj, e]))
        have HR17 : Hid (Row w5 w3.heap.size #[.int .i64 Rn, .int .i64 Ri] 32) := r17
        have HNB : Hid (NewB v0 w5 p' q' L) := B4
        obtain ⟨N, hN⟩ : ∃ N, N = W.length := ⟨_, rfl⟩
        rw [← hN] at HX HPW hW17 ⊢
        clear hmem HP s5 hcc r17 B4 hN
        go_wp2_with fail
        go_loopw [21] (fun i wr => ∃ k : Nat, k ≤ N ∧ i = .int .i64 k ∧ Hid (Fr none' w5 wr) ∧ Hid (∀ j, j < k → W[j]? ≠ some ⟨on, oi⟩)) (fun i _ => N - (intOf i).toNat)
        case atStart => exact ⟨0, by omega, rfl, Fr.refl _ _, fun j h => absurd h (by omega)⟩
        case round =>
          obtain ⟨k2, hk3, rfl, hf, hno⟩ := hrel
          have rA := HrA.out.keep (HNB.out.fr.trans hf.out) (fun h => h)
          obtain ⟨d0, d1, _, _⟩ := pair_cells rA
          by_cases hlt2 : k2 < N
          · obtain ⟨y, gb, hy, rfl, hcl⟩ := HX.out k2 hlt2
            obtain ⟨c0, c1⟩ := hcl _ hf.out
            have i1 : 0 ≤ (k2 : Int) ∧ (k2 : Int) < (N : Int) := by omega
            have uk : decide ((k2 : Int) < (N : Int)) = true := decide_eq_true (by omega)
            obtain ⟨yn, yi⟩ := y
            have hq := fun w => eq_ref yn yi on oi w
            have HFX := hf.out
            have HFX : Hid (Fr none' w5 _) := HFX.drew
            have HEnd : Hid (Fr none' w _) := HF.out.trans (HNB.out.fr.trans HFX.out)
            cases hQ : eqR ⟨yn, yi⟩ ⟨on, oi⟩ with
            | true =>
              rw [hQ] at hq
              clear hcl rA HX hy
              go_wp2_with fail
              go_region
              all_goals
                go_wp2_with fail
                go_ret
                exact ⟨rfl, HEnd.out.below (Nat.le_refl _) (fun _ h => h.elim)⟩
            | false =>
              rw [hQ] at hq
              have HN2 : Hid (∀ j, j < k2 + 1 → W[j]? ≠ some ⟨on, oi⟩) := fun j hj e => by
                by_cases h : j = k2
                · rw [h, hy] at e
                  injection e with e
                  rw [e, eqR_self] at hQ
                  cases hQ
                · exact hno.out j (by omega) e
              clear hcl rA HX hy hQ
              go_wp2_with fail
              go_region
              all_goals
                go_wp2_with fail
                go_roundw
                case rel => exact ⟨k2 + 1, by omega, by go_num, HFX.out, HN2.out⟩
                case measure => simp [intOf]; omega
          · obtain rfl : k2 = N := by omega
            have uk : decide ((k2 : Int) < (k2 : Int)) = false := decide_eq_false (by omega)
            have he := HPW.out hno.out
            have NB := HNB.out.keep0 hf.out
            have r17 := HR17.out.keep hf.out (fun h => h)
            have rB := HrB.out.keep NB.fr (fun h => h)
            have rC := HrC.out.keep NB.fr (fun h => h)
            obtain ⟨k0, k1, k2', k3, k4, k5, k6, k7⟩ := cbox_cells rC
            have hP := put_any _ p' L NB.bo.pr ⟨on, oi⟩ hn (K.mk ck co cr cb cx cg cn cd) hr2
            rw [HE.out.1] at hP
            generalize putE L ⟨on, oi⟩ (K.mk ck co cr cb cx cg cn cd) = E at *
            generalize putS L ⟨on, oi⟩ (K.mk ck co cr cb cx cg cn cd) = L' at *
            have HL0 : Hid (w.heap.size < v0.heap.size) := HrB.out.lt
            replace hP : Calls Try.prog 19 #[.pointer (some ⟨p.b, 0, none⟩), .agg #[.int .i64 on, .int .i64 oi], .agg #[.int .i64 ck, .int .i64 co, .int .i64 cr, .int .i64 cb, .int .i64 cx, .int .i64 cg, .int .i64 cn, .bool cd]] _ fun e w' => e = .returned (.int .i64 E) ∧ Chg _ p' L w' L' := hP
            clear rC HX HPW hno hf
            go_wp2_with fail
            refine hP.mono ?_
            rintro e w6 ⟨rfl, cg⟩
            obtain ⟨p6, e6, B6, f6, _⟩ := NB.bo.stepP cg
            have F6 : Fr none' v0 w6 := fr_two NB.fr f6 (fun k hk => Or.inr (NB.hi k hk))
            replace rB := rB.keep f6 (fun hu => by have := NB.hi _ hu; have := HL0.out; omega)
            replace r17 := r17.keep f6 (fun hu => by have := HLt.out _ hu; have := HW3.out; omega)
            clear k0 k1 k2' k3 k4 k5 k6 k7 hP cg d0 d1 rA NB
            obtain ⟨k0, k1, k2', k3, k4, k5, k6, k7⟩ := cbox_cells rB
            have hR := resolve_any w6 p6 L' B6.pr (K.mk kk o r b x g n d) hr X hX dp
            rw [e6.trans HE.out.1, he] at hR
            replace hR : Calls Try.prog 17 #[.pointer (some ⟨p.b, 0, none⟩), .agg #[.int .i64 kk, .int .i64 o, .int .i64 r, .int .i64 b, .int .i64 x, .int .i64 g, .int .i64 n, .bool d], .int .u32 (X : Int), .int .i64 dp] w6 fun e w' => e = .returned (.tuple #[.agg #[.int .i64 Rn, .int .i64 Ri], .int .i64 Rl, .int .i64 Re]) ∧ Fr none' w6 w' := hR
            clear B6 f6 e6 he rB
            go_wp2_with fail
            refine hR.mono ?_
            rintro e w8 ⟨rfl, f8⟩
            have f9 := f8.alloc (.cells #[.int .i64 Rn, .int .i64 Ri] 32)
            have r22 := row_alloc w8 #[.int .i64 Rn, .int .i64 Ri] 32
            replace r17 := r17.keep f9 (fun h => h)
            have HEnd : Hid (Fr none' w (w8.alloc (.cells #[.int .i64 Rn, .int .i64 Ri] 32))) := HF.out.trans (F6.trans f9)
            obtain ⟨s0, s1, _, _⟩ := pair_cells r17
            obtain ⟨b0, b1, _, _⟩ := pair_cells r22
            have q1 := fun w => eq_ref Rn Ri Rn Ri w
            rw [show eqR ⟨Rn, Ri⟩ ⟨Rn, Ri⟩ = true by simp [eqR]] at q1
            clear k0 k1 k2' k3 k4 k5 k6 k7 hR f8 f9 r17 r22 F6
            go_wp2_with fail
            go_ret
            exact ⟨rfl, HEnd.out.below (Nat.le_refl _) (fun _ h => h.elim)⟩

end Go.Proofs.Ytibdkadojoeopaa
