/-
  The walk of the law CspacePlays over the translation: it answers true. No statement is proved here.
-/
import Derived.Test.YtibdkadojoeopaaCsAwakeB
import Derived.Test.YtibdkadojoeopaaCsOpen
namespace Go.Proofs.Ytibdkadojoeopaa
open Go.RowKit Go.Maps Go.WideMaps

set_option maxRecDepth 100000 in
set_option maxHeartbeats 4000000 in
theorem plays_any (a0 : Option Addr) (len cap : Nat) (w : World) (hl : len ≤ 9223372036854775807) (hA : ∃ A, Acs w a0 len A) :
    Calls Try.prog 3 #[.slice a0 len cap] w fun e w' => e = .returned (.bool true) ∧ Below w.heap.size w w' := by
  obtain ⟨A, hA⟩ := hA
  have HA : Hid (Acs w a0 len A) := hA
  clear hA
  have f0 := Fr.refl none' w
  go_enter Try.func3, Try.ntmps3
  go_wp2_with fail
  refine (awake_any _).mono ?_
  rintro e w1 ⟨rfl, f1⟩
  replace f0 := f0.trans f1
  clear f1
  go_wp2_with fail
  refine (new_any w1).mono ?_
  rintro e w2 ⟨p, rfl, h2, f1, n2⟩
  replace n2 : ∀ k, p.s [] k → w.heap.size ≤ k := fun k hk => Nat.le_trans f0.size (n2 k hk)
  replace f0 := f0.trans f1
  clear f1
  have NB := newB_start f0 h2 n2
  have f1 := (Fr.refl none' w2).alloc (.cells #[.slice none 0 0] 29)
  clear h2 n2 f1 f0
  go_wp2_with fail
  obtain ⟨q, hq⟩ : ∃ q : Qb, q = ⟨w2.heap.size, .slice none 0 0, fun _ => 0⟩ := ⟨_, rfl⟩
  have hqb : w2.heap.size = q.b := by rw [hq]
  rw [← hq] at NB
  have HNB : Hid (NewB w (w2.alloc (.cells #[.slice none 0 0] 29)) p q []) := NB
  rw [hqb]
  clear NB hq
  generalize (w2.alloc (.cells #[.slice none 0 0] 29)) = v2 at *
  clear hqb
  go_loopw [6] (fun i wr => ∃ (k : Nat) (p' : Pb) (q' : Qb) (L : List Nd), k ≤ len ∧ k ≤ 150 ∧ i = .int .i64 k ∧ p'.b = p.b ∧ q'.b = q.b ∧ Hid (NewB w wr p' q' L)) (fun i _ => 150 - (intOf i).toNat)
  case atStart => exact ⟨0, p, q, [], by omega, by omega, rfl, rfl, rfl, HNB.out⟩
  case round =>
    clear HNB
    obtain ⟨k, p', q', L, hk, hk2, rfl, ep, eq, hB⟩ := hrel
    by_cases hlt : k < len
    · by_cases hlt2 : k < 150
      · obtain ⟨b, o, rfl, ak, ok⟩ := (HA.out.keep hB.out.fr) k hlt
        have i1 : 0 ≤ (k : Int) ∧ (k : Int) < (len : Int) := by omega
        have uk1 : decide ((k : Int) < (len : Int)) = true := decide_eq_true (by omega)
        have uk2 : decide ((k : Int) < 150) = true := decide_eq_true (by omega)
        have c0 : wr.cell? ⟨b, o + k * 15, none⟩ = some (.int .i64 (A k).op) := ak 0 (by omega)
        have c1 : wr.cell? ⟨b, o + k * 15 + 1, none⟩ = some (.int .i64 (A k).id) := ak 1 (by omega)
        have c2 : wr.cell? ⟨b, o + k * 15 + 2, none⟩ = some (.int .i64 (A k).rx) := ak 2 (by omega)
        have c3 : wr.cell? ⟨b, o + k * 15 + 3, none⟩ = some (.int .i64 (A k).at'.n) := ak 3 (by omega)
        have c4 : wr.cell? ⟨b, o + k * 15 + 4, none⟩ = some (.int .i64 (A k).at'.i) := ak 4 (by omega)
        have c5 : wr.cell? ⟨b, o + k * 15 + 5, none⟩ = some (.int .i64 (A k).c.k) := ak 5 (by omega)
        have c6 : wr.cell? ⟨b, o + k * 15 + 6, none⟩ = some (.int .i64 (A k).c.o) := ak 6 (by omega)
        have c7 : wr.cell? ⟨b, o + k * 15 + 7, none⟩ = some (.int .i64 (A k).c.r) := ak 7 (by omega)
        have c8 : wr.cell? ⟨b, o + k * 15 + 8, none⟩ = some (.int .i64 (A k).c.b) := ak 8 (by omega)
        have c9 : wr.cell? ⟨b, o + k * 15 + 9, none⟩ = some (.int .i64 (A k).c.x) := ak 9 (by omega)
        have c10 : wr.cell? ⟨b, o + k * 15 + 10, none⟩ = some (.int .i64 (A k).c.g) := ak 10 (by omega)
        have c11 : wr.cell? ⟨b, o + k * 15 + 11, none⟩ = some (.int .i64 (A k).c.n) := ak 11 (by omega)
        have c12 : wr.cell? ⟨b, o + k * 15 + 12, none⟩ = some (.bool (A k).c.d) := ak 12 (by omega)
        have c13 : wr.cell? ⟨b, o + k * 15 + 13, none⟩ = some (.int .u32 ((A k).x : Int)) := ak 13 (by omega)
        have c14 : wr.cell? ⟨b, o + k * 15 + 14, none⟩ = some (.int .i64 (A k).dp) := ak 14 (by omega)
        have hD := does_any wr p' q' L hB.out.bo (A k) ok
        rw [ep, eq] at hD
        have HO : Hid (OkA (A k)) := ok
        clear ok ak
        go_wp2_with fail
        refine hD.mono ?_
        rintro e w3 ⟨rfl, cg⟩
        obtain ⟨p3, q3, e3, e3', B3⟩ := hB.out.step cg
        have E3 : Hid (p3.b = p.b ∧ q3.b = q.b) := ⟨e3.trans ep, e3'.trans eq⟩
        clear c0 c1 c2 c3 c4 c5 c6 c7 c8 c9 c10 c11 c12 c13 c14 hD cg hB ep eq e3 e3'
        have hF := full_any w3 p3 _ B3.bo.pr
        rw [E3.out.1] at hF
        go_wp2_with fail
        refine hF.mono ?_
        rintro e w4 ⟨v4, rfl, s4, f4⟩
        replace B3 := B3.keep0 f4
        clear hF f4
        have hG := rfull_any w4 q3 _ B3.bo.rf
        rw [E3.out.2] at hG
        go_wp2_with fail
        refine hG.mono ?_
        rintro e w5 ⟨v5, rfl, s5, f5⟩
        replace B3 := B3.keep0 f5
        replace s4 := s4.keep0 f5
        clear hG f5
        have hR := refs_any w5 _ _ v4 v5 _ s4 s5 (by have := len_full B3.good; omega)
        go_wp2_with fail
        refine hR.mono ?_
        rintro e w6 ⟨rfl, f6⟩
        replace B3 := B3.keep0 f6
        clear hR f6 s4 s5
        have hX := radix_any w6 p3 _ B3.bo.pr (A k).id HO.out.id
        have hY := rradix_any w6 q3 _ B3.bo.rf (A k).id
        rw [E3.out.1] at hX
        rw [E3.out.2] at hY
        have tt : (radS (stepS L (A k)) (A k).id != radS (stepS L (A k)) (A k).id) = false := by simp
        have HB3 : Hid (NewB w w6 p3 q3 (stepS L (A k))) := B3
        have c1 : w6.cell? ⟨b, o + k * 15 + 1, none⟩ = some (.int .i64 (A k).id) := by
          obtain ⟨b', o', e, ak, _⟩ := (HA.out.keep B3.fr) k hlt
          cases e
          exact ak 1 (by omega)
        clear B3
        generalize radS (stepS L (A k)) (A k).id = z at *
        go_wp2_with (first | (go_at_call 15; refine hX.mono ?_; rintro e w7 ⟨rfl, rfl⟩) | (go_at_call 16; refine hY.mono ?_; rintro e w7 ⟨rfl, rfl⟩))
        go_roundw
        case rel => exact ⟨k + 1, p3, q3, _, by omega, by omega, by go_num, E3.out.1, E3.out.2, HB3.out⟩
        case measure => simp [intOf]; omega
      · obtain rfl : k = 150 := by omega
        have uk1 : decide (((150 : Nat) : Int) < (len : Int)) = true := decide_eq_true (by omega)
        go_wp2_with fail
        go_ret
        exact ⟨rfl, hB.out.fr.below (Nat.le_refl _) (fun _ h => h.elim)⟩
    · obtain rfl : k = len := by omega
      go_wp2_with fail
      go_ret
      exact ⟨rfl, hB.out.fr.below (Nat.le_refl _) (fun _ h => h.elim)⟩

end Go.Proofs.Ytibdkadojoeopaa
