/-
  Contracts of package tlb's New, Counts, Evict, Find over the translation, said of what the entries hold. No statement is proved here.
-/
import Derived.Test.YtgnoakidjnilpaaGreatTlbRow
import Derived.Deep.RegionWith
namespace Go.Proofs.YtgnoakidjnilpaaGreat
open Go.RowKit

/-- A buffer of the program. -/
abbrev IsTlb := IsBuf 137
/-- A buffer of the document. -/
abbrev IsTref := IsBuf 104

theorem buf_zero (t : TypeId) (w : World) : IsBuf t (w.alloc (.cells (Array.replicate 42 (.int .i64 0)) t)) w.heap.size (fun _ => zl) 0 0 := by
  refine ⟨_, row_alloc _ _ _, by simp, fun j hj => ?_, by simp, by simp⟩
  have h0 : j * 5 < 42 := by omega
  have h1 : j * 5 + 1 < 42 := by omega
  have h2 : j * 5 + 2 < 42 := by omega
  have h3 : j * 5 + 3 < 42 := by omega
  have h4 : j * 5 + 4 < 42 := by omega
  simp only [Array.getElem?_replicate, h0, h1, h2, h3, h4, if_true]
  exact ⟨rfl, rfl, rfl, rfl, rfl⟩

set_option maxHeartbeats 1000000 in
theorem tnew_any (w : World) : Calls Tryz.prog 31 #[] w fun e w' => ∃ b, e = .returned (.pointer (some ⟨b, 0, none⟩)) ∧ w.heap.size ≤ b ∧ Fr none' w w' ∧ IsTlb w' b (fun _ => zl) 0 0 := by
  go_enter Tryz.func31, Tryz.ntmps31
  go_wp2
  go_ret
  exact ⟨_, rfl, Nat.le_refl _, (Fr.refl _ _).alloc _, buf_zero _ _⟩

set_option maxHeartbeats 400000 in
theorem evict_in (w : World) (b : Nat) (T : Nat → Ln) (fo mi : Int) (h : IsTlb w b T fo mi) (k : Nat) (hk : k < 8) :
    Calls Tryz.prog 15 #[.pointer (some ⟨b, 0, none⟩), .int .i64 (k : Int)] w fun e w' => e = .returned (.int .i64 0) ∧ Fr (at' b) w w' ∧ IsTlb w' b (upd T k zl) fo mi := by
  have hb : inB (k : Int) 0 7 = true := inB_iff.mpr (by omega)
  obtain ⟨c0, c1, c2, c3, c4⟩ := h.cells k hk
  have g0 := h.frozen (k * 5)
  have g1 := h.frozen (k * 5 + 1)
  have g2 := h.frozen (k * 5 + 2)
  have g3 := h.frozen (k * 5 + 3)
  have g4 := h.frozen (k * 5 + 4)
  have i1 : 0 ≤ (k : Int) ∧ (k : Int) < 8 := by omega
  go_enter Tryz.func15, Tryz.ntmps15
  go_wp2_with fail
  refine (has_any _ _).mono ?_
  rintro e w1 ⟨rfl, rfl⟩
  rw [hb]
  go_wp2_with fail
  go_ret
  exact ⟨rfl, set5_fr (l := zl) (Fr.refl _ _) (Or.inr rfl), h.setLine hk zl⟩

set_option maxHeartbeats 400000 in
theorem evict_out (w : World) (p : Value) (i : Int) (hi : inB i 0 7 = false) :
    Calls Tryz.prog 15 #[p, .int .i64 i] w fun e w' => e = .returned (.int .i64 1) ∧ w' = w := by
  go_enter Tryz.func15, Tryz.ntmps15
  go_wp2_with fail
  refine (has_any _ _).mono ?_
  rintro e w1 ⟨rfl, rfl⟩
  rw [hi]
  go_wp2_with fail
  go_ret
  exact ⟨rfl, rfl⟩

set_option maxHeartbeats 2000000 in
theorem find_any (w : World) (b : Nat) (T : Nat → Ln) (fo mi v a p : Int) (h : IsTlb w b T fo mi) (hfo : 0 ≤ fo ∧ fo < 1000000) (hmi : 0 ≤ mi ∧ mi < 1000000) :
    Calls Tryz.prog 178 #[.pointer (some ⟨b, 0, none⟩), .int .i64 v, .int .i64 a, .int .i64 p] w fun e w' =>
      e = .returned (.tuple #[.int .i64 (ansF T (idx T v a p 8)), .int .i64 (ansR T (idx T v a p 8)), .bool (ansB (idx T v a p 8))]) ∧ Fr (at' b) w w' ∧ IsTlb w' b T (fo + moreF (idx T v a p 8)) (mi + moreM (idx T v a p 8)) := by
  obtain ⟨A, hA, hl, hc⟩ := h.arr
  have hB : b ≠ w.heap.size := by have := h.lt; omega
  have h0 := h.alloc (.cells #[.int .i64 v, .int .i64 a, .int .i64 p, .int .i64 0, .int .i64 0] 101)
  have f0 := (Fr.refl (at' b) w).alloc (.cells #[.int .i64 v, .int .i64 a, .int .i64 p, .int .i64 0, .int .i64 0] 101)
  have r0 := row_alloc w #[.int .i64 v, .int .i64 a, .int .i64 p, .int .i64 0, .int .i64 0] 101
  have hc0 : ∀ j v', A[j]? = some v' → (w.alloc (.cells #[.int .i64 v, .int .i64 a, .int .i64 p, .int .i64 0, .int .i64 0] 101)).cell? ⟨b, j, none⟩ = some v' := fun j v' hv => cell_keep ((Fr.refl none' w).alloc _) (hc j v' hv) (fun h => h)
  clear hc
  have heq := eq_line
  go_enter Tryz.func178, Tryz.ntmps178
  go_wp2_with (refine wpList_load_part rfl 102 _ rfl b rfl A _ hc0 Tryz.underlying102 rfl (by rw [hA]; exact size_arr) ?_)
  go_loopw [22] (fun i wr => ∃ k : Nat, k ≤ 8 ∧ i = .int .i64 k ∧ Fr none' w wr ∧ Row wr w.heap.size #[.int .i64 v, .int .i64 a, .int .i64 p, .int .i64 0, .int .i64 0] 101 ∧ IsTlb wr b T fo mi ∧ Hid (∀ j, j < k → hit v a p (T j) = false)) (fun i _ => 8 - (intOf i).toNat)
  case atStart => exact ⟨0, by omega, rfl, (Fr.refl none' w).alloc _, r0, h0, fun j hj => by omega⟩
  case round =>
    clear h0 f0 r0 hc0
    obtain ⟨k, hk, rfl, fk, rk, hT, HK⟩ := hrel
    by_cases hlt : k < 8
    · have hix := index_line hA hl k hlt
      have rk1 := rk.alloc (.cells #[.int .i64 (T k).v, .int .i64 (T k).a, .int .i64 (T k).p, .int .i64 (T k).f, .int .i64 (T k).r] 101)
      have rb := row_alloc wr #[.int .i64 (T k).v, .int .i64 (T k).a, .int .i64 (T k).p, .int .i64 (T k).f, .int .i64 (T k).r] 101
      have hT1 := hT.alloc (.cells #[.int .i64 (T k).v, .int .i64 (T k).a, .int .i64 (T k).p, .int .i64 (T k).f, .int .i64 (T k).r] 101)
      have f1 := fk.alloc (.cells #[.int .i64 (T k).v, .int .i64 (T k).a, .int .i64 (T k).p, .int .i64 (T k).f, .int .i64 (T k).r] 101)
      have hbk : b ≠ wr.heap.size := by have := hT.lt; omega
      clear rk hT fk
      cases he : emp (T k) with
      | true =>
        go_wp2_with fail
        go_region_with (go_at_call 119; refine (empty_any (T k) _).mono ?_; rintro e w1 ⟨rfl, f2⟩; rw [he]; (replace f2 := f2.undrew))
        all_goals (go_wp2_with fail)
        all_goals go_roundw
        all_goals first
          | exact ⟨k + 1, by omega, by go_num, f1.trans f2, rk1.keep f2 (fun h => h), hT1.keep f2 (fun h => h), fun j hj => by
              rcases Nat.lt_or_ge j k with h' | h'
              · exact HK.out j h'
              · obtain rfl : j = k := by omega
                simp [hit, he]⟩
          | (simp [intOf]; omega)
      | false =>
        cases hh : key (T k) ⟨v, a, p, 0, 0⟩ with
        | true =>
          have hit1 : hit v a p (T k) = true := by simp [hit, he, hh]
          have hidx : idx T v a p 8 = k := idx_at HK.out hit1 8 hlt
          have t1 : ((T k).v == v && ((T k).a == a && (T k).p == p)) = true := hh
          have hadd : (fo + 1).bmod 18446744073709551616 = fo + 1 := by rw [Int.bmod_def]; omega
          go_wp2_with fail
          go_region_with (first
            | (go_at_call 119; refine (empty_any (T k) _).mono ?_; rintro e w1 ⟨rfl, f2⟩; rw [he]; (replace f2 := f2.undrew); (replace f1 := f1.trans f2); (replace rk1 := rk1.keep f2 (fun h => h)); (replace rb := rb.keep f2 (fun h => h)); (replace hT1 := hT1.keep f2 (fun h => h)); clear f2; obtain ⟨c0, c1, c2, c3, c4⟩ := row5 rk1; obtain ⟨d0, d1, d2, d3, d4⟩ := row5 rb)
            | (go_at_call 188; refine (about_any (T k) _).mono ?_; rintro e w2 ⟨rfl, f2⟩; (replace f1 := f1.trans f2); (replace rk1 := rk1.keep f2 (fun h => h)); (replace rb := rb.keep f2 (fun h => h)); (replace hT1 := hT1.keep f2 (fun h => h)); clear f2 c0 c1 c2 c3 c4 d0 d1 d2 d3 d4; obtain ⟨c0, c1, c2, c3, c4⟩ := row5 rk1; obtain ⟨d0, d1, d2, d3, d4⟩ := row5 rb))
          all_goals have cf := hT1.cfo
          all_goals have gf := hT1.frozen 40
          all_goals have rc := rb.setCell_other (p := ⟨b, 40, none⟩) hbk (.int .i64 (fo + 1))
          all_goals have hT2 := hT1.setFo (fo + 1)
          all_goals have f3 := (f1.mono (T := at' b) (fun _ _ h => h.elim)).setCell (p := ⟨b, 40, none⟩) (Or.inr rfl) (.int .i64 (fo + 1))
          all_goals obtain ⟨x0, x1, x2, x3, x4⟩ := row5 rc
          all_goals clear c0 c1 c2 c3 c4 d0 d1 d2 d3 d4
          all_goals (go_wp2_with fail)
          all_goals (go_quiet (fail))
          all_goals (go_wp2_with fail)
          all_goals go_ret3
          all_goals rw [hidx]
          all_goals refine ⟨?_, f3.trans ((fr_drewN _ _).mono (fun _ _ h => h.elim)), ?_⟩
          all_goals first
            | rfl
            | (have e0 : ¬ (k : Int) < 0 := by omega
               simp only [moreF, moreM, decide_eq_false e0, cond_false, Int.add_zero]
               exact hT2.keep (fr_drewN _ _) (fun h => h))
        | false =>
          have hit1 : hit v a p (T k) = false := by simp [hit, hh]
          have t1 : ((T k).v == v && ((T k).a == a && (T k).p == p)) = false := hh
          go_wp2_with fail
          go_region_with (first
            | (go_at_call 119; refine (empty_any (T k) _).mono ?_; rintro e w1 ⟨rfl, f2⟩; rw [he]; (replace f2 := f2.undrew); (replace f1 := f1.trans f2); (replace rk1 := rk1.keep f2 (fun h => h)); (replace rb := rb.keep f2 (fun h => h)); (replace hT1 := hT1.keep f2 (fun h => h)); clear f2; obtain ⟨c0, c1, c2, c3, c4⟩ := row5 rk1; obtain ⟨d0, d1, d2, d3, d4⟩ := row5 rb)
            | (go_at_call 188; refine (about_any (T k) _).mono ?_; rintro e w2 ⟨rfl, f2⟩; (replace f1 := f1.trans f2); (replace rk1 := rk1.keep f2 (fun h => h)); (replace rb := rb.keep f2 (fun h => h)); (replace hT1 := hT1.keep f2 (fun h => h)); clear f2 c0 c1 c2 c3 c4 d0 d1 d2 d3 d4; obtain ⟨c0, c1, c2, c3, c4⟩ := row5 rk1; obtain ⟨d0, d1, d2, d3, d4⟩ := row5 rb))
          all_goals (go_wp2_with fail)
          all_goals go_roundw
          all_goals first
            | exact ⟨k + 1, by omega, by go_num, f1, rk1, hT1, fun j hj => by
                rcases Nat.lt_or_ge j k with h' | h'
                · exact HK.out j h'
                · obtain rfl : j = k := by omega
                  exact hit1⟩
            | (simp [intOf]; omega)
    · obtain rfl : k = 8 := by omega
      have hidx : idx T v a p 8 = -1 := idx_none HK.out
      have cm := hT.cmi
      have gm := hT.frozen 41
      go_wp2_with fail
      go_ret3
      rw [hidx]
      refine ⟨rfl, (fk.mono (T := at' b) (fun _ _ h => h.elim)).setCell (p := ⟨b, 41, none⟩) (Or.inr rfl) _, ?_⟩
      simpa [moreF, moreM] using hT.setMi (mi + 1)

end Go.Proofs.YtgnoakidjnilpaaGreat
