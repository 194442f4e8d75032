/-
  The contract of package tlb's forget over the translation, whatever the test that it is handed. No statement is proved here.
-/
import Derived.Test.YtgnoakidjnilpaaGreatTlbMem
namespace Go.Proofs.YtgnoakidjnilpaaGreat
open Go.RowKit

/-- What is asked of a test: in every world that differs in the buffer alone it answers g, and turns nothing. -/
def Tests (fn : Nat) (caps : Array Value) (g : Ln → Bool) (b : Nat) (w : World) : Prop :=
  (∀ (args : Array Value) (w1 : World), (callFunc fn args).run Tryz.prog w1 = .ok (.enter fn args) w1) ∧
  ∀ (w1 : World) (l : Ln), Fr (at' b) w w1 → Calls Tryz.prog fn (#[.agg #[.int .i64 l.v, .int .i64 l.a, .int .i64 l.p, .int .i64 l.f, .int .i64 l.r]] ++ caps) w1 fun e w2 => e = .returned (.bool (g l)) ∧ Fr none' w1 w2

set_option maxHeartbeats 2000000 in
theorem forget_any (w : World) (b : Nat) (T : Nat → Ln) (fo mi : Int) (h : IsTlb w b T fo mi) (fn : Nat) (caps : Array Value) (g : Ln → Bool) (hg : Tests fn caps g b w) :
    Calls Tryz.prog 64 #[.pointer (some ⟨b, 0, none⟩), .func (.func fn) #[] caps] w fun e w' =>
      e = .returned (.int .i64 (cnt g T 8)) ∧ Fr (at' b) w w' ∧ IsTlb w' b (wipe g T) fo mi := by
  have hen := hg.1
  obtain ⟨A, hA, hl, hc⟩ := h.arr
  go_enter Tryz.func64, Tryz.ntmps64
  go_wp2_with (refine wpList_load_part rfl 102 _ rfl b rfl A _ hc Tryz.underlying102 rfl (by rw [hA]; exact size_arr) ?_)
  go_loopw [5, 12] (fun n i wr => ∃ k : Nat, k ≤ 8 ∧ i = .int .i64 k ∧ n = .int .i64 (cnt g T k) ∧ Fr (at' b) w wr ∧ IsTlb wr b (part' g T k) fo mi) (fun _ i _ => 8 - (intOf i).toNat)
  case atStart => exact ⟨0, by omega, rfl, rfl, Fr.refl _ _, by rw [part_zero]; exact h⟩
  case round =>
    clear hc
    obtain ⟨k, hk, rfl, rfl, fk, hT⟩ := hrel
    by_cases hlt : k < 8
    · have hix := index_line hA hl k hlt
      have rb := row_alloc wr #[.int .i64 (T k).v, .int .i64 (T k).a, .int .i64 (T k).p, .int .i64 (T k).f, .int .i64 (T k).r] 101
      have hT1 := hT.alloc (.cells #[.int .i64 (T k).v, .int .i64 (T k).a, .int .i64 (T k).p, .int .i64 (T k).f, .int .i64 (T k).r] 101)
      have f1 := fk.alloc (.cells #[.int .i64 (T k).v, .int .i64 (T k).a, .int .i64 (T k).p, .int .i64 (T k).f, .int .i64 (T k).r] 101)
      clear hT fk
      go_wp2_with fail
      refine (empty_any (T k) _).mono ?_
      rintro e w1 ⟨rfl, f2⟩
      replace rb := rb.keep f2 (fun h => h)
      replace hT1 := hT1.keep f2 (fun h => h)
      replace f1 := f1.trans (f2.mono (fun _ _ h => h.elim))
      clear f2
      cases he : emp (T k) with
      | true =>
        have hgo : goes g (T k) = false := by simp [goes, he]
        go_wp2_with fail
        go_roundw
        case rel => exact ⟨k + 1, by omega, by go_num, by simp [cnt, hgo], f1, by rw [part_stays hgo]; exact hT1⟩
        case measure => simp [intOf]; omega
      | false =>
        obtain ⟨d0, d1, d2, d3, d4⟩ := row5 rb
        go_wp2_with fail
        refine (hg.2 _ (T k) f1).mono ?_
        rintro e w2 ⟨rfl, f2⟩
        replace hT1 := hT1.keep f2 (fun h => h)
        replace f1 := f1.trans (f2.mono (fun _ _ h => h.elim))
        clear f2 d0 d1 d2 d3 d4 rb
        cases hh : g (T k) with
        | false =>
          have hgo : goes g (T k) = false := by simp [goes, hh]
          go_wp2_with fail
          go_roundw
          case rel => exact ⟨k + 1, by omega, by go_num, by simp [cnt, hgo], f1, by rw [part_stays hgo]; exact hT1⟩
          case measure => simp [intOf]; omega
        | true =>
          have hgo : goes g (T k) = true := by simp [goes, he, hh]
          obtain ⟨c0, c1, c2, c3, c4⟩ := hT1.cells k hlt
          have g0 := hT1.frozen (k * 5)
          have g1 := hT1.frozen (k * 5 + 1)
          have g2 := hT1.frozen (k * 5 + 2)
          have g3 := hT1.frozen (k * 5 + 3)
          have g4 := hT1.frozen (k * 5 + 4)
          have i1 : 0 ≤ (k : Int) ∧ (k : Int) < 8 := by omega
          have hcb := cnt_bounds g T k
          have hcc : cnt g T (k + 1) = cnt g T k + 1 := by simp [cnt, hgo]
          go_wp2_with fail
          go_roundw
          case rel => exact ⟨k + 1, by omega, by go_num, by rw [hcc], set5_fr (l := zl) f1 (Or.inr rfl), by rw [part_goes hgo]; exact hT1.setLine hlt zl⟩
          case measure => simp [intOf]; omega
    · obtain rfl : k = 8 := by omega
      go_wp2_with fail
      go_ret
      exact ⟨rfl, fk, hT.congr (part_all g T)⟩

end Go.Proofs.YtgnoakidjnilpaaGreat
