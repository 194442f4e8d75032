/-
  The walk of the law CspaceHolds over the translation: it answers true. No statement is proved here.
-/
import Derived.Test.YtibdkadojoeopaaCsAwakeB
import Derived.Test.YtibdkadojoeopaaCsHoldP
import Derived.Test.YtibdkadojoeopaaCsOpen
namespace Go.Proofs.Ytibdkadojoeopaa
open Go.RowKit Go.Maps Go.WideMaps

set_option maxRecDepth 100000 in
set_option maxHeartbeats 8000000 in
theorem holds_any (a0 : Option Addr) (len cap : Nat) (an ai : Int) (kk o r b x g n : Int) (d : Bool) (w : World) (hl : len ≤ 9223372036854775807) (hA : ∃ A, Acs w a0 len A) (hn : I64 an) (hr : I64 r) :
    Calls Try.prog 7 #[.slice a0 len cap, .agg #[.int .i64 an, .int .i64 ai], .agg #[.int .i64 kk, .int .i64 o, .int .i64 r, .int .i64 b, .int .i64 x, .int .i64 g, .int .i64 n, .bool d]] w fun e w' => e = .returned (.bool true) ∧ Below w.heap.size w w' := by
  obtain ⟨A, hA⟩ := hA
  have fB := (((Fr.refl none' w).alloc (.cells #[.int .i64 an, .int .i64 ai] 32)).alloc (.cells #[.int .i64 kk, .int .i64 o, .int .i64 r, .int .i64 b, .int .i64 x, .int .i64 g, .int .i64 n, .bool d] 34))
  have rA := (row_alloc w #[.int .i64 an, .int .i64 ai] 32).alloc (.cells #[.int .i64 kk, .int .i64 o, .int .i64 r, .int .i64 b, .int .i64 x, .int .i64 g, .int .i64 n, .bool d] 34)
  have rB := row_alloc1 w (.cells #[.int .i64 an, .int .i64 ai] 32) #[.int .i64 kk, .int .i64 o, .int .i64 r, .int .i64 b, .int .i64 x, .int .i64 g, .int .i64 n, .bool d] 34
  replace hA := hA.keep fB
  go_enter Try.func7, Try.ntmps7
  go_wp2_with fail
  generalize ((w.alloc (.cells #[.int .i64 an, .int .i64 ai] 32)).alloc (.cells #[.int .i64 kk, .int .i64 o, .int .i64 r, .int .i64 b, .int .i64 x, .int .i64 g, .int .i64 n, .bool d] 34)) = v0 at *
  have HA : Hid (Acs v0 a0 len A) := hA
  have HF : Hid (Fr none' w v0) := fB
  have HrA : Hid (Row v0 (w.heap.size) #[.int .i64 an, .int .i64 ai] 32) := rA
  have HrB : Hid (Row v0 (w.heap.size + 1) #[.int .i64 kk, .int .i64 o, .int .i64 r, .int .i64 b, .int .i64 x, .int .i64 g, .int .i64 n, .bool d] 34) := rB
  clear hA fB rA rB
  refine (awake_any _).mono ?_
  rintro e w1 ⟨rfl, f0⟩
  go_wp2_with fail
  refine (new_any w1).mono ?_
  rintro e w2 ⟨p, rfl, h2, f1, n2⟩
  replace n2 : ∀ k, p.s [] k → v0.heap.size ≤ k := fun k hk => Nat.le_trans f0.size (n2 k hk)
  replace f0 := f0.trans f1
  have NB := newB_start f0 h2 n2
  clear h2 n2 f1 f0
  go_wp2_with fail
  obtain ⟨q, hq⟩ : ∃ q : Qb, q = ⟨w2.heap.size, .slice none 0 0, fun _ => 0⟩ := ⟨_, rfl⟩
  have hqb : w2.heap.size = q.b := by rw [hq]
  rw [← hq] at NB
  have HNB : Hid (NewB v0 (w2.alloc (.cells #[.slice none 0 0] 29)) p q []) := NB
  rw [hqb]
  clear NB hq
  generalize (w2.alloc (.cells #[.slice none 0 0] 29)) = v2 at *
  clear hqb
  go_loopw [10] (fun i wr => ∃ (k : Nat) (p' : Pb) (q' : Qb) (L : List Nd), k ≤ len ∧ k ≤ 100 ∧ i = .int .i64 k ∧ p'.b = p.b ∧ q'.b = q.b ∧ Hid (NewB v0 wr p' q' L)) (fun i _ => 100 - (intOf i).toNat)
  case atStart => exact ⟨0, p, q, [], by omega, by omega, rfl, rfl, rfl, HNB.out⟩
  case round =>
    clear HNB
    obtain ⟨k, p', q', L, hk, hk2, rfl, ep, eq, hB⟩ := hrel
    by_cases hlt : k < len ∧ k < 100
    · obtain ⟨b, o, rfl, ak, ok⟩ := (HA.out.keep hB.out.fr) k hlt.1
      have i1 : 0 ≤ (k : Int) ∧ (k : Int) < (len : Int) := by omega
      have uk1 : decide ((k : Int) < (len : Int)) = true := decide_eq_true (by omega)
      have uk2 : decide ((k : Int) < 100) = true := decide_eq_true (by omega)
      have c0 : wr.cell? ⟨b, o + k * 15, none⟩ = some (.int .i64 (A k).op) := ak 0 (by omega)
      have c1 : wr.cell? ⟨b, o + k * 15 + 1, none⟩ = some (.int .i64 (A k).id) := ak 1 (by omega)
      have c2 : wr.cell? ⟨b, o + k * 15 + 2, none⟩ = some (.int .i64 (A k).rx) := ak 2 (by omega)
      have c3 : wr.cell? ⟨b, o + k * 15 + 3, none⟩ = some (.int .i64 (A k).at'.n) := ak 3 (by omega)
      have c4 : wr.cell? ⟨b, o + k * 15 + 4, none⟩ = some (.int .i64 (A k).at'.i) := ak 4 (by omega)
      have c5 : wr.cell? ⟨b, o + k * 15 + 5, none⟩ = some (.int .i64 (A k).c.k) := ak 5 (by omega)
      have c6 : wr.cell? ⟨b, o + k * 15 + 6, none⟩ = some (.int .i64 (A k).c.o) := ak 6 (by omega)
      have c7 : wr.cell? ⟨b, o + k * 15 + 7, none⟩ = some (.int .i64 (A k).c.r) := ak 7 (by omega)
      have c8 : wr.cell? ⟨b, o + k * 15 + 8, none⟩ = some (.int .i64 (A k).c.b) := ak 8 (by omega)
      have c9 : wr.cell? ⟨b, o + k * 15 + 9, none⟩ = some (.int .i64 (A k).c.x) := ak 9 (by omega)
      have c10 : wr.cell? ⟨b, o + k * 15 + 10, none⟩ = some (.int .i64 (A k).c.g) := ak 10 (by omega)
      have c11 : wr.cell? ⟨b, o + k * 15 + 11, none⟩ = some (.int .i64 (A k).c.n) := ak 11 (by omega)
      have c12 : wr.cell? ⟨b, o + k * 15 + 12, none⟩ = some (.bool (A k).c.d) := ak 12 (by omega)
      have c13 : wr.cell? ⟨b, o + k * 15 + 13, none⟩ = some (.int .u32 ((A k).x : Int)) := ak 13 (by omega)
      have c14 : wr.cell? ⟨b, o + k * 15 + 14, none⟩ = some (.int .i64 (A k).dp) := ak 14 (by omega)
      have hD := does_any wr p' q' L hB.out.bo (A k) ok
      rw [ep, eq] at hD
      clear ok ak
      go_wp2_with fail
      refine hD.mono ?_
      rintro e w3 ⟨rfl, cg⟩
      obtain ⟨p3, q3, e3, e3', B3⟩ := hB.out.step cg
      have E3 : Hid (p3.b = p.b ∧ q3.b = q.b ∧ NewB v0 w3 p3 q3 (stepS L (A k))) := ⟨e3.trans ep, e3'.trans eq, B3⟩
      clear c0 c1 c2 c3 c4 c5 c6 c7 c8 c9 c10 c11 c12 c13 c14 hD cg hB ep eq e3 e3' B3
      go_wp2_with fail
      go_roundw
      case rel => exact ⟨k + 1, p3, q3, _, by omega, by omega, by go_num, E3.out.1, E3.out.2.1, E3.out.2.2⟩
      case measure => simp [intOf]; omega
    · have hc : (decide ((k : Int) < (len : Int)) = false ∧ decide (k < len) = false) ∨ (decide ((k : Int) < (len : Int)) = true ∧ decide ((k : Int) < 100) = false ∧ decide (k < len) = true ∧ decide (k < 100) = false ∧ decide ((100 : Int) < (len : Int)) = true ∧ k = 100) := by
        by_cases h1 : k < len
        · exact Or.inr ⟨decide_eq_true (by omega), decide_eq_false (by omega), decide_eq_true (by omega), decide_eq_false (by omega), decide_eq_true (by omega), by omega⟩
        · exact Or.inl ⟨decide_eq_false (by omega), decide_eq_false (by omega)⟩
      have HE : Hid (p'.b = p.b ∧ q'.b = q.b) := ⟨ep, eq⟩
      clear hlt HA ep eq
      rcases hc with ⟨uk1, uk3⟩ | ⟨uk1, uk2, uk3, uk4, uk5, rfl⟩
      all_goals
        have hF := full_any wr p' L hB.out.bo.pr
        rw [HE.out.1] at hF
        have HLt : Hid (∀ k, boU p' q' L L k → k < wr.heap.size) := hB.out.bo.lt
        go_wp2_with fail
        refine hF.mono ?_
        rintro e w3 ⟨v3, rfl, s3, f3⟩
        have B3 := hB.out.keep0 f3
        have HGd : Hid (GoodL L) := hB.out.bo.pr.good
        clear hF hB f3
        have rA := HrA.out.keep B3.fr (fun h => h)
        have rB := HrB.out.keep B3.fr (fun h => h)
        have HRA : Hid (Row w3 w.heap.size #[.int .i64 an, .int .i64 ai] 32 ∧ Row w3 (w.heap.size + 1) #[.int .i64 kk, .int .i64 o, .int .i64 r, .int .i64 b, .int .i64 x, .int .i64 g, .int .i64 n, .bool d] 34) := ⟨rA, rB⟩
        have HNU : Hid (∀ k, k < v0.heap.size → ¬ boU p' q' L L k) := fun k hk hu => by have := B3.hi k hu; omega
        have HL0 : Hid (w.heap.size < v0.heap.size ∧ w.heap.size + 1 < v0.heap.size) := ⟨HrA.out.lt, HrB.out.lt⟩
        obtain ⟨c0, c1, _, _⟩ := pair_cells rA
        obtain ⟨k0, k1, k2, k3, k4, k5, k6, k7⟩ := cbox_cells rB
        have hP := put_any w3 p' L B3.bo.pr ⟨an, ai⟩ hn (K.mk kk o r b x g n d) hr
        rw [HE.out.1] at hP
        obtain ⟨hl1, hl2, hl3⟩ := len_ful_put HGd.out ⟨an, ai⟩ (K.mk kk o r b x g n d)
        have HgE : Hid (∀ y, getE (putS L ⟨an, ai⟩ (K.mk kk o r b x g n d)) y = getE L y) := getE_put L ⟨an, ai⟩ (K.mk kk o r b x g n d)
        have HgC : Hid (∀ y, y ≠ ⟨an, ai⟩ ∨ putE L ⟨an, ai⟩ (K.mk kk o r b x g n d) ≠ 0 → getC (putS L ⟨an, ai⟩ (K.mk kk o r b x g n d)) y = getC L y) := getC_put_other L ⟨an, ai⟩ (K.mk kk o r b x g n d)
        have HgS : Hid (putE L ⟨an, ai⟩ (K.mk kk o r b x g n d) = 0 → getE L ⟨an, ai⟩ = 0 ∧ getC (putS L ⟨an, ai⟩ (K.mk kk o r b x g n d)) ⟨an, ai⟩ = (K.mk kk o r b x g n d)) := fun h => ⟨(putE_zero h).1, getC_put_same L ⟨an, ai⟩ (K.mk kk o r b x g n d) h⟩
        have HLn := len_full HGd.out
        have HLn2 := len_full (good_put HGd.out ⟨an, ai⟩ (K.mk kk o r b x g n d))
        generalize putE L ⟨an, ai⟩ (K.mk kk o r b x g n d) = E at *
        generalize putS L ⟨an, ai⟩ (K.mk kk o r b x g n d) = L' at *
        replace hP : Calls Try.prog 19 #[.pointer (some ⟨p.b, 0, none⟩), .agg #[.int .i64 an, .int .i64 ai], .agg #[.int .i64 kk, .int .i64 o, .int .i64 r, .int .i64 b, .int .i64 x, .int .i64 g, .int .i64 n, .bool d]] w3 fun e w' => e = .returned (.int .i64 E) ∧ Chg w3 p' L w' L' := hP
        go_wp2_with fail
        refine hP.mono ?_
        rintro e w4 ⟨rfl, cg⟩
        obtain ⟨p4, e4, B4, f4, _⟩ := B3.bo.stepP cg
        have HF4 : Hid (Fr none' v0 w4) := fr_two B3.fr f4 (fun k hk => Or.inr (B3.hi k hk))
        replace s3 := s3.keep f4 (fun k hk hu => by have := HLt.out k hu; omega)
        have HRA4 : Hid (Row w4 w.heap.size #[.int .i64 an, .int .i64 ai] 32 ∧ Row w4 (w.heap.size + 1) #[.int .i64 kk, .int .i64 o, .int .i64 r, .int .i64 b, .int .i64 x, .int .i64 g, .int .i64 n, .bool d] 34) := ⟨HRA.out.1.keep f4 (HNU.out _ HL0.out.1), HRA.out.2.keep f4 (HNU.out _ HL0.out.2)⟩
        have E4 : Hid (p4.b = p.b) := e4.trans HE.out.1
        clear hP cg B3 rA rB c0 c1 k0 k1 k2 k3 k4 k5 k6 k7 f4 e4
        have hF := full_any w4 p4 _ B4.pr
        rw [E4.out] at hF
        go_wp2_with fail
        refine hF.mono ?_
        rintro e w5 ⟨v5, rfl, s5, f5⟩
        replace B4 := B4.keep0 f5
        replace s3 := s3.keep0 f5
        obtain ⟨rA, rB⟩ := HRA4.out
        replace rA := rA.keep f5 (fun h => h)
        replace rB := rB.keep f5 (fun h => h)
        have HF5 : Hid (Fr none' v0 w5) := HF4.out.trans f5
        clear hF f5
        obtain ⟨a5, cap5, rfl, _⟩ := s5.cells
        obtain ⟨a3, cap3, rfl, _⟩ := s3.cells
        clear s5
        obtain ⟨c0, c1, _, _⟩ := pair_cells rA
        have hG := get_any w5 p4 _ B4.pr ⟨an, ai⟩ hn
        rw [E4.out, HgE.out] at hG
        generalize getE L ⟨an, ai⟩ = F at *
        generalize hC4 : getC L' ⟨an, ai⟩ = C4 at *
        obtain ⟨Ck, Co, Cr, Cb, Cx, Cg, Cn, Cd⟩ := C4
        replace hG : Calls Try.prog 20 #[.pointer (some ⟨p.b, 0, none⟩), .agg #[.int .i64 an, .int .i64 ai]] w5 fun e w' => e = .returned (.tuple #[.agg #[.int .i64 Ck, .int .i64 Co, .int .i64 Cr, .int .i64 Cb, .int .i64 Cx, .int .i64 Cg, .int .i64 Cn, .bool Cd], .int .i64 F]) ∧ Fr none' w5 w' := hG
        go_wp2_with fail
        refine hG.mono ?_
        rintro e w6 ⟨rfl, f6⟩
        have f7 := f6.alloc (.cells #[.int .i64 Ck, .int .i64 Co, .int .i64 Cr, .int .i64 Cb, .int .i64 Cx, .int .i64 Cg, .int .i64 Cn, .bool Cd] 34)
        have r14 := row_alloc w6 (cbox Ck Co Cr Cb Cx Cg Cn Cd) 34
        unfold cbox at r14
        replace B4 := B4.keep0 f7
        replace s3 := s3.keep0 f7
        replace rA := rA.keep f7 (fun h => h)
        replace rB := rB.keep f7 (fun h => h)
        have HF7 : Hid (Fr none' v0 (w6.alloc (.cells #[.int .i64 Ck, .int .i64 Co, .int .i64 Cr, .int .i64 Cb, .int .i64 Cx, .int .i64 Cg, .int .i64 Cn, .bool Cd] 34))) := HF5.out.trans f7
        clear hG f6 f7 c0 c1
        obtain ⟨k0, k1, k2, k3, k4, k5, k6, k7⟩ := cbox_cells rB
        obtain ⟨y0, y1, y2, y3, y4, y5, y6, y7⟩ := cbox_cells r14
        have HR7 : Hid (Row (w6.alloc (.cells #[.int .i64 Ck, .int .i64 Co, .int .i64 Cr, .int .i64 Cb, .int .i64 Cx, .int .i64 Cg, .int .i64 Cn, .bool Cd] 34)) w.heap.size #[.int .i64 an, .int .i64 ai] 32) := rA
        have HB4 : Hid (BoAt (w6.alloc (.cells #[.int .i64 Ck, .int .i64 Co, .int .i64 Cr, .int .i64 Cb, .int .i64 Cx, .int .i64 Cg, .int .i64 Cn, .bool Cd] 34)) p4 q' L' L) := B4
        obtain ⟨N, hN⟩ : ∃ N, N = (fulL L).length := ⟨_, rfl⟩
        obtain ⟨N', hN'⟩ : ∃ N', N' = (fulL L').length := ⟨_, rfl⟩
        rw [← hN] at hl1 hl2 hl3 HLn ⊢
        rw [← hN'] at hl1 hl2 hl3 HLn2 ⊢
        have HX : Hid (∀ j, j < N → ∃ (y : Rf) (g : Nat), (fulL L)[j]? = some y ∧ getE L y = 0 ∧ I64 y.n ∧ a3 = some ⟨g, 0, none⟩ ∧ ∀ w', Fr none' (w6.alloc (.cells #[.int .i64 Ck, .int .i64 Co, .int .i64 Cr, .int .i64 Cb, .int .i64 Cx, .int .i64 Cg, .int .i64 Cn, .bool Cd] 34)) w' → w'.cell? ⟨g, j * 2, none⟩ = some (.int .i64 y.n) ∧ w'.cell? ⟨g, j * 2 + 1, none⟩ = some (.int .i64 y.i)) := fun j hj => by
          obtain ⟨a', cap', e', hc⟩ := s3.cells
          obtain ⟨y, hy⟩ : ∃ y, (fulL L)[j]? = some y := ⟨(fulL L)[j], List.getElem?_eq_getElem (by omega)⟩
          obtain ⟨g, e2, g0, g1⟩ := hc j y hy
          injection e' with e'
          obtain ⟨h1, h2⟩ := ful_slot HGd.out (List.mem_of_getElem? hy)
          exact ⟨y, g, hy, h1, h2, e'.trans e2, fun w' f => ⟨cell_keep f g0 (fun h => h), cell_keep f g1 (fun h => h)⟩⟩
        clear s3 rA rB r14 B4 hN hN' HRA HRA4 HF4 HF5 HNU HLt
        have HNN : Hid (N' ≤ N + 1 ∧ N ≤ N' + 1 ∧ (E ≠ 0 → N' = N)) := ⟨hl1, hl2, hl3⟩
        clear hl1 hl2 hl3
        have hK : (E = 0 ∧ (E == 0) = true ∧ F = 0 ∧ Ck = kk ∧ Co = o ∧ Cr = r ∧ Cb = b ∧ Cx = x ∧ Cg = g ∧ Cn = n ∧ Cd = d) ∨ (E ≠ 0 ∧ (E == 0) = false) := by
          by_cases h : E = 0
          · obtain ⟨h1, h2⟩ := HgS.out h
            injection h2
            exact Or.inl ⟨h, by simpa using h, h1, by assumption, by assumption, by assumption, by assumption, by assumption, by assumption, by assumption, by assumption⟩
          · exact Or.inr ⟨h, by simpa using h⟩
        have hq := fun w => neq_cap kk o r b x g n kk o r b x g n d d w
        rw [eqK_self] at hq
        rcases hK with ⟨hE0, t1, rfl, rfl, rfl, rfl, rfl, rfl, rfl, rfl, rfl⟩ | ⟨hE0, t1⟩
        all_goals
          go_wp2_with fail
          clear k0 k1 k2 k3 k4 k5 k6 k7 y0 y1 y2 y3 y4 y5 y6 y7 hq
          generalize (w6.alloc (.cells #[.int .i64 Ck, .int .i64 Co, .int .i64 Cr, .int .i64 Cb, .int .i64 Cx, .int .i64 Cg, .int .i64 Cn, .bool Cd] 34)) = v7 at *
          go_loopw [16] (fun i wr => ∃ k : Nat, k ≤ N ∧ i = .int .i64 k ∧ Hid (Fr none' v7 wr)) (fun i _ => N - (intOf i).toNat)
          case atStart => exact ⟨0, by omega, rfl, Fr.refl _ _⟩
          case round =>
            rename_i wq _
            obtain ⟨k2, hk3, rfl, hf⟩ := hrel
            by_cases hlt2 : k2 < N
            · obtain ⟨y, gb, hy, hE1, hI, rfl, hcl⟩ := HX.out k2 hlt2
              obtain ⟨c0, c1⟩ := hcl _ hf.out
              have HCL : Hid (∀ w', Fr none' v7 w' → w'.cell? ⟨gb, k2 * 2, none⟩ = some (.int .i64 y.n) ∧ w'.cell? ⟨gb, k2 * 2 + 1, none⟩ = some (.int .i64 y.i)) := hcl
              have i1 : 0 ≤ (k2 : Int) ∧ (k2 : Int) < (N : Int) := by omega
              have uk : decide ((k2 : Int) < (N : Int)) = true := decide_eq_true (by omega)
              have hG := get_any _ p4 L' (HB4.out.keep0 hf.out).pr y hI
              rw [E4.out, HgE.out, hE1] at hG
              have hR := fun w' (f : Fr none' v7 w') => rget_any w' q' L (HB4.out.keep0 f).rf y
              rw [HE.out.2, hE1] at hR
              have HD := HgC.out y
              generalize getC L' y = D1 at *
              generalize getC L y = D2 at *
              obtain ⟨yn, yi⟩ := y
              have hq2 := fun w => neq_ref yn yi an ai w
              have h3 : ((eqR ⟨yn, yi⟩ ⟨an, ai⟩ = true ∧ (E != 0) = false) ∨ (eqR ⟨yn, yi⟩ ⟨an, ai⟩ = true ∧ (E != 0) = true ∧ D1 = D2)) ∨ (eqR ⟨yn, yi⟩ ⟨an, ai⟩ = false ∧ D1 = D2) := by
                cases h : eqR ⟨yn, yi⟩ ⟨an, ai⟩ with
                | true =>
                  by_cases h0 : E = 0
                  · exact Or.inl (Or.inl ⟨rfl, by simpa using h0⟩)
                  · exact Or.inl (Or.inr ⟨rfl, by simpa using h0, HD (Or.inr h0)⟩)
                | false => exact Or.inr ⟨rfl, HD (Or.inl (fun e => by rw [e, eqR_self] at h; cases h))⟩
              obtain ⟨Dk, Do, Dr, Db, Dx, Dg, Dn, Dd⟩ := D1
              obtain ⟨Gk, Go, Gr, Gb, Gx, Gg, Gn, Gd⟩ := D2
              replace hG : Calls Try.prog 20 #[.pointer (some ⟨p.b, 0, none⟩), .agg #[.int .i64 yn, .int .i64 yi]] _ fun e w' => e = .returned (.tuple #[.agg #[.int .i64 Dk, .int .i64 Do, .int .i64 Dr, .int .i64 Db, .int .i64 Dx, .int .i64 Dg, .int .i64 Dn, .bool Dd], .int .i64 0]) ∧ Fr none' _ w' := hG
              have HR : Hid (∀ w', Fr none' v7 w' → Calls Try.prog 22 #[.pointer (some ⟨q.b, 0, none⟩), .agg #[.int .i64 yn, .int .i64 yi]] w' fun e w2 => e = .returned (.tuple #[.agg #[.int .i64 Gk, .int .i64 Go, .int .i64 Gr, .int .i64 Gb, .int .i64 Gx, .int .i64 Gg, .int .i64 Gn, .bool Gd], .int .i64 0]) ∧ Fr none' w' w2) := hR
              clear hR HD hcl HX hE1 hy
              generalize eqR ⟨yn, yi⟩ ⟨an, ai⟩ = Q at *
              have hq := fun w => neq_cap Dk Do Dr Db Dx Dg Dn Dk Do Dr Db Dx Dg Dn Dd Dd w
              rw [eqK_self] at hq
              rcases h3 with (⟨rfl, t3⟩ | ⟨rfl, t3, t4⟩) | ⟨rfl, t4⟩
              all_goals try cases t4
              all_goals simp only [Bool.not_true, Bool.not_false] at hq2
              all_goals
                go_wp2_with fail
                refine hG.mono ?_
                rintro e w8 ⟨rfl, f8⟩
                have g9 := hf.out.trans (f8.alloc (.cells #[.int .i64 Dk, .int .i64 Do, .int .i64 Dr, .int .i64 Db, .int .i64 Dx, .int .i64 Dg, .int .i64 Dn, .bool Dd] 34))
                have r17 := row_alloc w8 #[.int .i64 Dk, .int .i64 Do, .int .i64 Dr, .int .i64 Db, .int .i64 Dx, .int .i64 Dg, .int .i64 Dn, .bool Dd] 34
                obtain ⟨c0, c1⟩ := HCL.out _ g9
                have hR := HR.out _ g9
                go_wp2_with fail
                refine hR.mono ?_
                rintro e w10 ⟨rfl, f10⟩
                clear c0 c1 hR
                first
                  | (have f11 := f10.alloc (.cells #[.int .i64 Gk, .int .i64 Go, .int .i64 Gr, .int .i64 Gb, .int .i64 Gx, .int .i64 Gg, .int .i64 Gn, .bool Gd] 34); have r19 := row_alloc w10 #[.int .i64 Gk, .int .i64 Go, .int .i64 Gr, .int .i64 Gb, .int .i64 Gx, .int .i64 Gg, .int .i64 Gn, .bool Gd] 34)
                  | (have f11 := f10.alloc (.cells #[.int .i64 Dk, .int .i64 Do, .int .i64 Dr, .int .i64 Db, .int .i64 Dx, .int .i64 Dg, .int .i64 Dn, .bool Dd] 34); have r19 := row_alloc w10 #[.int .i64 Dk, .int .i64 Do, .int .i64 Dr, .int .i64 Db, .int .i64 Dx, .int .i64 Dg, .int .i64 Dn, .bool Dd] 34)
                replace r17 := r17.keep f11 (fun h => h)
                have g11 := g9.trans f11
                have rA := HR7.out.keep g11 (fun h => h)
                obtain ⟨c0, c1⟩ := HCL.out _ g11
                obtain ⟨d0, d1, _, _⟩ := pair_cells rA
                obtain ⟨k0, k1, k2', k3, k4, k5, k6, k7⟩ := cbox_cells r17
                obtain ⟨y0, y1, y2, y3, y4, y5, y6, y7⟩ := cbox_cells r19
                have HG11 : Hid (Fr none' v7 _) := g11
                clear f10 f11 r17 r19 rA g9 g11
                go_wp2_with fail
                go_quiet (fail)
                clear c0 c1 d0 d1 k0 k1 k2' k3 k4 k5 k6 k7 y0 y1 y2 y3 y4 y5 y6 y7 hq hq2 hG
                go_wp2_with fail
                go_roundw
                case rel => exact ⟨k2 + 1, by omega, by go_num, HG11.out.trans (fr_drewN _ _)⟩
                case measure => simp [intOf]; omega
            · obtain rfl : k2 = N := by omega
              have uk : decide ((k2 : Int) < (k2 : Int)) = false := decide_eq_false (by omega)
              obtain ⟨n1, n2, n3⟩ := HNN.out
              have hw : IntKind.i64.wrap ((N' : Int) - (k2 : Int)) = (N' : Int) - (k2 : Int) := by rw [IntKind.wrap_i64]; omega
              have hw2 : wrap64 ((N' : Int) - (k2 : Int)) = (N' : Int) - (k2 : Int) := by unfold wrap64; omega
              have t5 : decide (-1 ≤ (N' : Int) - (k2 : Int)) = true := decide_eq_true (by omega)
              have t6 : decide ((N' : Int) - (k2 : Int) ≤ 1) = true := decide_eq_true (by omega)
              have t8 : E ≠ 0 → ((N' : Int) - (k2 : Int) == 0) = true := fun h => by have := n3 h; simp; omega
              have HFX : Hid (Fr none' w _) := HF.out.trans (HF7.out.trans hf.out)
              clear HNN n1 n2 n3 HX
              first
                | (have t9 := t8 hE0; clear t8; go_wp2_with fail; go_ret; exact ⟨rfl, HFX.out.below (Nat.le_refl _) (fun _ h => h.elim)⟩)
                | (clear t8; go_wp2_with fail; go_ret; exact ⟨rfl, HFX.out.below (Nat.le_refl _) (fun _ h => h.elim)⟩)

end Go.Proofs.Ytibdkadojoeopaa
