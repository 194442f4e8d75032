/-
  Contracts of the document's at, Find, Evict over the translation, of a buffer whose entries are empty or right. No statement is proved here.
-/
import Derived.Test.YtgnoakidjnilpaaGreatTlbMem
namespace Go.Proofs.YtgnoakidjnilpaaGreat
open Go.RowKit

set_option maxHeartbeats 4000000 in
theorem rat_any (w : World) (b : Nat) (T : Nat → Ln) (fo mi v a p : Int) (h : IsTref w b T fo mi) (hG : GoodT T) :
    Calls Tryz.prog 161 #[.pointer (some ⟨b, 0, none⟩), .int .i64 v, .int .i64 a, .int .i64 p] w fun e w' =>
      e = .returned (.int .i64 (idx T v a p 8)) ∧ Fr none' w w' := by
  go_enter Tryz.func161, Tryz.ntmps161
  go_wp2_with fail
  go_loopw [9] (fun i wr => ∃ k : Nat, k ≤ 8 ∧ i = .int .i64 k ∧ Fr none' w wr ∧ IsTref wr b T fo mi ∧ Hid (∀ j, j < k → hit v a p (T j) = false)) (fun i _ => 8 - (intOf i).toNat)
  case atStart => exact ⟨0, by omega, rfl, Fr.refl _ _, h, fun j hj => by omega⟩
  case round =>
    clear h
    obtain ⟨k, hk, rfl, fk, h, HK⟩ := hrel
    by_cases hlt : k < 8
    · obtain ⟨c0, c1, c2, c3, c4⟩ := h.cells k hlt
      have he := good_emp hG hlt
      have i1 : 0 ≤ (k : Int) ∧ (k : Int) < 8 := by omega
      cases t0 : ((T k).v != 0) with
      | false =>
        have hz : ((T k).v == 0) = true := by simpa using t0
        have hh : hit v a p (T k) = false := by simp [hit, he, hz]
        clear hz he
        go_wp2_with fail
        go_roundw
        case rel => exact ⟨k + 1, by omega, by go_num, fk, h, fun j hj => by
          rcases Nat.lt_or_ge j k with h' | h'
          · exact HK.out j h'
          · obtain rfl : j = k := by omega
            exact hh⟩
        case measure => simp [intOf]; omega
      | true =>
      have he' : emp (T k) = false := by rw [he]; simpa using t0
      clear he
      cases t1 : ((T k).v == v) with
      | false =>
        have hh : hit v a p (T k) = false := by simp [hit, key, t1]
        go_wp2_with fail
        go_roundw
        case rel => exact ⟨k + 1, by omega, by go_num, fk, h, fun j hj => by
          rcases Nat.lt_or_ge j k with h' | h'
          · exact HK.out j h'
          · obtain rfl : j = k := by omega
            exact hh⟩
        case measure => simp [intOf]; omega
      | true =>
      cases t2 : ((T k).a == a) with
      | false =>
        have hh : hit v a p (T k) = false := by simp [hit, key, t2]
        go_wp2_with fail
        go_roundw
        case rel => exact ⟨k + 1, by omega, by go_num, fk, h, fun j hj => by
          rcases Nat.lt_or_ge j k with h' | h'
          · exact HK.out j h'
          · obtain rfl : j = k := by omega
            exact hh⟩
        case measure => simp [intOf]; omega
      | true =>
      cases t3 : ((T k).p == p) with
      | false =>
        have hh : hit v a p (T k) = false := by simp [hit, key, t3]
        go_wp2_with fail
        go_roundw
        case rel => exact ⟨k + 1, by omega, by go_num, fk, h, fun j hj => by
          rcases Nat.lt_or_ge j k with h' | h'
          · exact HK.out j h'
          · obtain rfl : j = k := by omega
            exact hh⟩
        case measure => simp [intOf]; omega
      | true =>
        have hh : hit v a p (T k) = true := by simp [hit, key, he', t1, t2, t3]
        have hidx : idx T v a p 8 = k := idx_at HK.out hh 8 hlt
        go_wp2_with fail
        go_ret
        exact ⟨by rw [hidx]; rfl, fk⟩
    · obtain rfl : k = 8 := by omega
      have hidx : idx T v a p 8 = -1 := idx_none HK.out
      go_wp2_with fail
      go_ret
      exact ⟨by rw [hidx]; rfl, fk⟩

set_option maxHeartbeats 2000000 in
theorem rfind_any (w : World) (b : Nat) (T : Nat → Ln) (fo mi v a p : Int) (h : IsTref w b T fo mi) (hG : GoodT T) (hfo : 0 ≤ fo ∧ fo < 1000000) (hmi : 0 ≤ mi ∧ mi < 1000000) :
    Calls Tryz.prog 146 #[.pointer (some ⟨b, 0, none⟩), .int .i64 v, .int .i64 a, .int .i64 p] w fun e w' =>
      e = .returned (.tuple #[.int .i64 (ansF T (idx T v a p 8)), .int .i64 (ansR T (idx T v a p 8)), .bool (ansB (idx T v a p 8))]) ∧ Fr (at' b) w w' ∧ IsTref w' b T (fo + moreF (idx T v a p 8)) (mi + moreM (idx T v a p 8)) := by
  rcases idx_cases T v a p 8 with ⟨hidx, _⟩ | ⟨k, hk, hidx, _, _⟩
  · go_enter Tryz.func146, Tryz.ntmps146
    go_wp2_with fail
    refine (rat_any _ _ _ _ _ _ _ _ h hG).mono ?_
    rintro e w1 ⟨rfl, f1⟩
    replace h := h.keep f1 (fun h => h)
    replace f1 := f1.mono (T := at' b) (fun _ _ h => h.elim)
    have cf := h.cfo
    have gf := h.frozen 40
    have cm := h.cmi
    have gm := h.frozen 41
    rw [hidx]
    go_wp2_with fail
    go_ret3
    rw [hidx]
    refine ⟨rfl, f1.setCell (p := ⟨b, 41, none⟩) (Or.inr rfl) _, ?_⟩
    simpa [moreF, moreM] using h.setMi (mi + 1)
  · have i1 : 0 ≤ (k : Int) ∧ (k : Int) < 8 := by omega
    have e0 : decide ((k : Int) < 0) = false := decide_eq_false (by omega)
    go_enter Tryz.func146, Tryz.ntmps146
    go_wp2_with fail
    refine (rat_any _ _ _ _ _ _ _ _ h hG).mono ?_
    rintro e w1 ⟨rfl, f1⟩
    replace h := h.keep f1 (fun h => h)
    replace f1 := f1.mono (T := at' b) (fun _ _ h => h.elim)
    have cf := h.cfo
    have gf := h.frozen 40
    have cm := h.cmi
    have gm := h.frozen 41
    have hT2 := h.setFo (fo + 1)
    obtain ⟨c0, c1, c2, c3, c4⟩ := hT2.cells k hk
    rw [hidx]
    go_wp2_with fail
    go_quiet (fail)
    go_wp2_with fail
    go_ret3
    rw [hidx]
    refine ⟨rfl, (f1.setCell (p := ⟨b, 40, none⟩) (Or.inr rfl) _).trans ((fr_drewN _ _).mono (fun _ _ h => h.elim)), ?_⟩
    simp only [moreF, moreM, e0, cond_false, Int.add_zero]
    exact hT2.keep (fr_drewN _ _) (fun h => h)

set_option maxHeartbeats 400000 in
theorem revict_in (w : World) (b : Nat) (T : Nat → Ln) (fo mi : Int) (h : IsTref w b T fo mi) (k : Nat) (hk : k < 8) :
    Calls Tryz.prog 16 #[.pointer (some ⟨b, 0, none⟩), .int .i64 (k : Int)] w fun e w' => e = .returned (.int .i64 0) ∧ Fr (at' b) w w' ∧ IsTref w' b (upd T k zl) fo mi := by
  have t1 : decide ((k : Int) < 0) = false := decide_eq_false (by omega)
  have t2 : decide ((8 : Int) ≤ k) = false := decide_eq_false (by omega)
  obtain ⟨c0, c1, c2, c3, c4⟩ := h.cells k hk
  have g0 := h.frozen (k * 5)
  have g1 := h.frozen (k * 5 + 1)
  have g2 := h.frozen (k * 5 + 2)
  have g3 := h.frozen (k * 5 + 3)
  have g4 := h.frozen (k * 5 + 4)
  have i1 : 0 ≤ (k : Int) ∧ (k : Int) < 8 := by omega
  go_enter Tryz.func16, Tryz.ntmps16
  go_wp2_with fail
  go_ret
  exact ⟨rfl, set5_fr (l := zl) (Fr.refl _ _) (Or.inr rfl), h.setLine hk zl⟩

set_option maxHeartbeats 400000 in
theorem revict_out (w : World) (p : Value) (i : Int) (hi : inB i 0 7 = false) :
    Calls Tryz.prog 16 #[p, .int .i64 i] w fun e w' => e = .returned (.int .i64 1) ∧ w' = w := by
  have hi' : ¬ (0 ≤ i ∧ i ≤ 7) := fun h => by rw [inB_iff.mpr h] at hi; exact absurd hi (by decide)
  by_cases h0 : i < 0
  · have t1 : decide (i < 0) = true := by simpa using h0
    clear hi hi' h0
    go_enter Tryz.func16, Tryz.ntmps16
    go_wp2_with fail
    go_ret
    exact ⟨rfl, rfl⟩
  · have t1 : decide (i < 0) = false := by simpa using h0
    have t2 : decide (8 ≤ i) = true := by simp; omega
    clear hi hi' h0
    go_enter Tryz.func16, Tryz.ntmps16
    go_wp2_with fail
    go_ret
    exact ⟨rfl, rfl⟩

end Go.Proofs.YtgnoakidjnilpaaGreat
