/-
  The walk of the law CspaceGuards over the translation: it answers true. No statement is proved here.
-/
import Derived.Test.YtibdkadojoeopaaCsAwakeB
import Derived.Test.YtibdkadojoeopaaCsOpen
namespace Go.Proofs.Ytibdkadojoeopaa
open Go.RowKit Go.Maps Go.WideMaps

theorem guards_pure {L : List Nd} {kk o r b x g n : Int} {d : Bool} {X : Nat} {dp G : Int} (h : (resR L (K.mk kk o r b x g n d) X dp).e = 0) (hr : rightC (K.mk kk o r b x G n d) = true) (hg : G ≠ g) : (resR L (K.mk kk o r b x G n d) X dp).e = 122 := by
  unfold resR at h ⊢
  split at h
  · rename_i hk
    obtain ⟨h1, h2⟩ := Bool.and_eq_true_iff.mp hk
    rw [if_pos (by rw [hr]; simpa using h1)]
    split at h
    · rename_i hd
      rw [if_pos hd]
      have hE : stepE L (K.mk kk o r b x g n d) X dp.toNat = 0 := by
        by_cases hE : stepE L (K.mk kk o r b x g n d) X dp.toNat = 0
        · exact hE
        · rw [resF_bad rfl hE] at h; exact absurd h hE
      obtain ⟨e1, e2, _⟩ := stepE_zero hE
      have e3 : stepE L (K.mk kk o r b x G n d) X dp.toNat = 122 := by
        unfold stepE
        dsimp only at e1 e2 ⊢
        rw [if_neg (by omega), if_pos (by rw [e2]; exact fun e => hg e.symm)]
      rw [resF_bad e3 (by decide)]
      rfl
    · cases h
  · cases h

set_option maxRecDepth 100000 in
set_option maxHeartbeats 8000000 in
theorem guards_any (a0 : Option Addr) (len cap : Nat) (kk o r b x g n : Int) (d : Bool) (X : Nat) (dp G : Int) (w : World) (hl : len ≤ 9223372036854775807) (hA : ∃ A, Acs w a0 len A) (hr : I64 r) (hX : X < 4294967296) :
    Calls Try.prog 6 #[.slice a0 len cap, .agg #[.int .i64 kk, .int .i64 o, .int .i64 r, .int .i64 b, .int .i64 x, .int .i64 g, .int .i64 n, .bool d], .int .u32 (X : Int), .int .i64 dp, .int .i64 G] w fun e w' => e = .returned (.bool true) ∧ Below w.heap.size w w' := by
  obtain ⟨A, hA⟩ := hA
  have fB := ((Fr.refl none' w).alloc (.cells #[.int .i64 kk, .int .i64 o, .int .i64 r, .int .i64 b, .int .i64 x, .int .i64 g, .int .i64 n, .bool d] 34))
  have rB := row_alloc w #[.int .i64 kk, .int .i64 o, .int .i64 r, .int .i64 b, .int .i64 x, .int .i64 g, .int .i64 n, .bool d] 34
  replace hA := hA.keep fB
  go_enter Try.func6, Try.ntmps6
  go_wp2_with fail
  generalize (w.alloc (.cells #[.int .i64 kk, .int .i64 o, .int .i64 r, .int .i64 b, .int .i64 x, .int .i64 g, .int .i64 n, .bool d] 34)) = v0 at *
  have HA : Hid (Acs v0 a0 len A) := hA
  have HF : Hid (Fr none' w v0) := fB
  have HrB : Hid (Row v0 w.heap.size #[.int .i64 kk, .int .i64 o, .int .i64 r, .int .i64 b, .int .i64 x, .int .i64 g, .int .i64 n, .bool d] 34) := rB
  clear hA fB rB
  refine (awake_any _).mono ?_
  rintro e w1 ⟨rfl, f0⟩
  go_wp2_with fail
  refine (new_any w1).mono ?_
  rintro e w2 ⟨p, rfl, h2, f1, n2⟩
  replace n2 : ∀ k, p.s [] k → v0.heap.size ≤ k := fun k hk => Nat.le_trans f0.size (n2 k hk)
  replace f0 := f0.trans f1
  have NB := newB_start f0 h2 n2
  clear h2 n2 f1 f0
  go_wp2_with fail
  obtain ⟨q, hq⟩ : ∃ q : Qb, q = ⟨w2.heap.size, .slice none 0 0, fun _ => 0⟩ := ⟨_, rfl⟩
  have hqb : w2.heap.size = q.b := by rw [hq]
  rw [← hq] at NB
  have HNB : Hid (NewB v0 (w2.alloc (.cells #[.slice none 0 0] 29)) p q []) := NB
  rw [hqb]
  clear NB hq
  generalize (w2.alloc (.cells #[.slice none 0 0] 29)) = v2 at *
  clear hqb
  go_loopw [14] (fun i wr => ∃ (k : Nat) (p' : Pb) (q' : Qb) (L : List Nd), k ≤ len ∧ k ≤ 100 ∧ i = .int .i64 k ∧ p'.b = p.b ∧ q'.b = q.b ∧ Hid (NewB v0 wr p' q' L)) (fun i _ => 100 - (intOf i).toNat)
  case atStart => exact ⟨0, p, q, [], by omega, by omega, rfl, rfl, rfl, HNB.out⟩
  case round =>
    clear HNB
    obtain ⟨k, p', q', L, hk, hk2, rfl, ep, eq, hB⟩ := hrel
    by_cases hlt : k < len ∧ k < 100
    · obtain ⟨b, o, rfl, ak, ok⟩ := (HA.out.keep hB.out.fr) k hlt.1
      have i1 : 0 ≤ (k : Int) ∧ (k : Int) < (len : Int) := by omega
      have uk1 : decide ((k : Int) < (len : Int)) = true := decide_eq_true (by omega)
      have uk2 : decide ((k : Int) < 100) = true := decide_eq_true (by omega)
      have c0 : wr.cell? ⟨b, o + k * 15, none⟩ = some (.int .i64 (A k).op) := ak 0 (by omega)
      have c1 : wr.cell? ⟨b, o + k * 15 + 1, none⟩ = some (.int .i64 (A k).id) := ak 1 (by omega)
      have c2 : wr.cell? ⟨b, o + k * 15 + 2, none⟩ = some (.int .i64 (A k).rx) := ak 2 (by omega)
      have c3 : wr.cell? ⟨b, o + k * 15 + 3, none⟩ = some (.int .i64 (A k).at'.n) := ak 3 (by omega)
      have c4 : wr.cell? ⟨b, o + k * 15 + 4, none⟩ = some (.int .i64 (A k).at'.i) := ak 4 (by omega)
      have c5 : wr.cell? ⟨b, o + k * 15 + 5, none⟩ = some (.int .i64 (A k).c.k) := ak 5 (by omega)
      have c6 : wr.cell? ⟨b, o + k * 15 + 6, none⟩ = some (.int .i64 (A k).c.o) := ak 6 (by omega)
      have c7 : wr.cell? ⟨b, o + k * 15 + 7, none⟩ = some (.int .i64 (A k).c.r) := ak 7 (by omega)
      have c8 : wr.cell? ⟨b, o + k * 15 + 8, none⟩ = some (.int .i64 (A k).c.b) := ak 8 (by omega)
      have c9 : wr.cell? ⟨b, o + k * 15 + 9, none⟩ = some (.int .i64 (A k).c.x) := ak 9 (by omega)
      have c10 : wr.cell? ⟨b, o + k * 15 + 10, none⟩ = some (.int .i64 (A k).c.g) := ak 10 (by omega)
      have c11 : wr.cell? ⟨b, o + k * 15 + 11, none⟩ = some (.int .i64 (A k).c.n) := ak 11 (by omega)
      have c12 : wr.cell? ⟨b, o + k * 15 + 12, none⟩ = some (.bool (A k).c.d) := ak 12 (by omega)
      have c13 : wr.cell? ⟨b, o + k * 15 + 13, none⟩ = some (.int .u32 ((A k).x : Int)) := ak 13 (by omega)
      have c14 : wr.cell? ⟨b, o + k * 15 + 14, none⟩ = some (.int .i64 (A k).dp) := ak 14 (by omega)
      have hD := does_any wr p' q' L hB.out.bo (A k) ok
      rw [ep, eq] at hD
      clear ok ak
      go_wp2_with fail
      refine hD.mono ?_
      rintro e w3 ⟨rfl, cg⟩
      obtain ⟨p3, q3, e3, e3', B3⟩ := hB.out.step cg
      have E3 : Hid (p3.b = p.b ∧ q3.b = q.b ∧ NewB v0 w3 p3 q3 (stepS L (A k))) := ⟨e3.trans ep, e3'.trans eq, B3⟩
      clear c0 c1 c2 c3 c4 c5 c6 c7 c8 c9 c10 c11 c12 c13 c14 hD cg hB ep eq e3 e3' B3
      go_wp2_with fail
      go_roundw
      case rel => exact ⟨k + 1, p3, q3, _, by omega, by omega, by go_num, E3.out.1, E3.out.2.1, E3.out.2.2⟩
      case measure => simp [intOf]; omega
    · have hc : (decide ((k : Int) < (len : Int)) = false ∧ decide (k < len) = false) ∨ (decide ((k : Int) < (len : Int)) = true ∧ decide ((k : Int) < 100) = false ∧ decide (k < len) = true ∧ decide (k < 100) = false ∧ decide ((100 : Int) < (len : Int)) = true ∧ k = 100) := by
        by_cases h1 : k < len
        · exact Or.inr ⟨decide_eq_true (by omega), decide_eq_false (by omega), decide_eq_true (by omega), decide_eq_false (by omega), decide_eq_true (by omega), by omega⟩
        · exact Or.inl ⟨decide_eq_false (by omega), decide_eq_false (by omega)⟩
      have HE : Hid (p'.b = p.b ∧ q'.b = q.b) := ⟨ep, eq⟩
      clear hlt HA ep eq
      rcases hc with ⟨uk1, uk3⟩ | ⟨uk1, uk2, uk3, uk4, uk5, rfl⟩
      all_goals
        have hR := resolve_any wr p' L hB.out.bo.pr (K.mk kk o r b x g n d) hr X hX dp
        rw [HE.out.1] at hR
        have rB := HrB.out.keep hB.out.fr (fun h => h)
        obtain ⟨k0, k1, k2, k3, k4, k5, k6, k7⟩ := cbox_cells rB
        have HP : Hid ((resR L (K.mk kk o r b x g n d) X dp).e = 0 → rightC (K.mk kk o r b x G n d) = true → G ≠ g → (resR L (K.mk kk o r b x G n d) X dp).e = 122) := fun h1 h2 h3 => guards_pure h1 h2 h3
        generalize resR L (K.mk kk o r b x g n d) X dp = R at *
        obtain ⟨⟨Rn, Ri⟩, Rl, Re⟩ := R
        replace hR : Calls Try.prog 17 #[.pointer (some ⟨p.b, 0, none⟩), .agg #[.int .i64 kk, .int .i64 o, .int .i64 r, .int .i64 b, .int .i64 x, .int .i64 g, .int .i64 n, .bool d], .int .u32 (X : Int), .int .i64 dp] wr fun e w' => e = .returned (.tuple #[.agg #[.int .i64 Rn, .int .i64 Ri], .int .i64 Rl, .int .i64 Re]) ∧ Fr none' wr w' := hR
        go_wp2_with fail
        refine hR.mono ?_
        rintro e w3 ⟨rfl, f3⟩
        clear k0 k1 k2 k3 k4 k5 k6 k7 hR
        have f4 := (f3.alloc (.cells #[.int .i64 Rn, .int .i64 Ri] 32)).alloc (.cells (cbox kk o r b x G n d) 34)
        have rC := row_alloc1 w3 (.cells #[.int .i64 Rn, .int .i64 Ri] 32) (cbox kk o r b x G n d) 34
        have B4 := hB.out.keep0 f4
        replace rB := rB.keep f4 (fun h => h)
        have RR := fun w => rright_any kk o r b x G n d w
        have rB3 := (HrB.out.keep (hB.out.fr.trans (f3.alloc (.cells #[.int .i64 Rn, .int .i64 Ri] 32))) (fun h => h))
        obtain ⟨j0, j1, j2, j3, j4, j5, j6, j7⟩ := cbox_cells rB3
        unfold cbox at rC f4 B4 rB
        clear rB3
        go_wp2_with fail
        clear j0 j1 j2 j3 j4 j5 j6 j7
        refine (RR _).mono ?_
        rintro e w5 ⟨rfl, f5⟩
        replace B4 := B4.keep0 f5
        replace rB := rB.keep f5 (fun h => h)
        replace rC := rC.keep f5 (fun h => h)
        clear f4 f5 f3 RR
        obtain ⟨k0, k1, k2, k3, k4, k5, k6, k7⟩ := cbox_cells rB
        obtain ⟨j0, j1, j2, j3, j4, j5, j6, j7⟩ := cbox_cells rC
        have hX2 := resolve_any w5 p' L B4.bo.pr (K.mk kk o r b x G n d) hr X hX dp
        rw [HE.out.1] at hX2
        have HB4 : Hid (NewB v0 w5 p' q' L) := B4
        clear B4 hB
        by_cases hE : Re = 0
        · have t1 : (Re != 0) = false := by simpa using hE
          cases hRt : rightC (K.mk kk o r b x G n d) with
          | false =>
            go_wp2_with fail
            go_ret
            exact ⟨rfl, (HF.out.trans HB4.out.fr).below (Nat.le_refl _) (fun _ h => h.elim)⟩
          | true =>
            by_cases hG : G = g
            · have t2 : (G == g) = true := by simpa using hG
              clear hG
              go_wp2_with fail
              go_ret
              exact ⟨rfl, (HF.out.trans HB4.out.fr).below (Nat.le_refl _) (fun _ h => h.elim)⟩
            · have t2 : (G == g) = false := by simpa using hG
              have e9 := HP.out hE hRt hG
              rw [e9] at hX2
              generalize resR L (K.mk kk o r b x G n d) X dp = R2 at *
              obtain ⟨⟨Qn, Qi⟩, Ql, Qe⟩ := R2
              replace hX2 : Calls Try.prog 17 #[.pointer (some ⟨p.b, 0, none⟩), .agg #[.int .i64 kk, .int .i64 o, .int .i64 r, .int .i64 b, .int .i64 x, .int .i64 G, .int .i64 n, .bool d], .int .u32 (X : Int), .int .i64 dp] w5 fun e w' => e = .returned (.tuple #[.agg #[.int .i64 Qn, .int .i64 Qi], .int .i64 Ql, .int .i64 122]) ∧ Fr none' w5 w' := hX2
              clear e9 hG HP hE
              go_wp2_with fail
              refine hX2.mono ?_
              rintro e w6 ⟨rfl, f6⟩
              have HF6 : Hid (Fr none' w (w6.alloc (.cells #[.int .i64 Qn, .int .i64 Qi] 32))) := (HF.out.trans HB4.out.fr).trans (f6.alloc _)
              clear f6 hX2 k0 k1 k2 k3 k4 k5 k6 k7 j0 j1 j2 j3 j4 j5 j6 j7
              go_wp2_with fail
              go_ret
              exact ⟨rfl, HF6.out.below (Nat.le_refl _) (fun _ h => h.elim)⟩
        · have t1 : (Re != 0) = true := by simpa using hE
          go_wp2_with fail
          go_ret
          exact ⟨rfl, (HF.out.trans HB4.out.fr).below (Nat.le_refl _) (fun _ h => h.elim)⟩

end Go.Proofs.Ytibdkadojoeopaa
