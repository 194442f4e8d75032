/-
  Contracts of package vgic's register, All and Lrs over the translation, and of the law's own 'lists'. No statement is proved here.
-/
import Derived.Test.YthkieoedidpkaaaVgNext
import Derived.Test.YthkieoedidpkaaaVgOwn
namespace Go.Proofs.Ythkieoedidpkaaa
open Go.RowKit Go.Sort

theorem size_lr : (Try.prog.info? 66).map (·.size) = some 5 := by kernel_rfl

/-- A register that is answered through a cell. -/
theorem ret_lr {fn : Func} {p : Tmp} {tmps : Array Value} {g : Nat} {cs : Array Value} {w : World} (h : fn.results = #[.cell p 66]) (hp : tmps.getD p undef = .pointer (some ⟨g, 0, none⟩)) (hr : Row w g cs 66) (hs : cs.size = 5) :
    (results fn tmps).run Try.prog w = .ok (.agg cs) w :=
  results_cell_row h tmps w g _ cs (0, 0) _ hp hr Try.underlying66 rfl (by rw [hs]; exact size_lr)

theorem row_set5 {w : World} {g : Nat} {c0 c1 c2 c3 c4 : Value} {t : TypeId} (h : Row w g #[c0, c1, c2, c3, c4] t) (v0 v1 v2 v3 v4 : Value) :
    Row (((((w.setCell ⟨g, 0, none⟩ v0).setCell ⟨g, 1, none⟩ v1).setCell ⟨g, 2, none⟩ v2).setCell ⟨g, 3, none⟩ v3).setCell ⟨g, 4, none⟩ v4) g #[v0, v1, v2, v3, v4] t := by
  simpa using ((((h.setCell 0 v0).setCell 1 v1).setCell 2 v2).setCell 3 v3).setCell 4 v4

set_option maxRecDepth 100000 in
set_option maxHeartbeats 2000000 in
theorem register_any (w : World) (B : Bk) (S : Vg) (h : IsVg w B S) (k : Nat) (hk : k < 64) :
    Calls Try.prog 56 #[.pointer (some ⟨B.b, 0, none⟩), .int .i64 (k : Int)] w fun e w' => e = .returned (.agg (encL (reg S k)).toArray) ∧ Fr none' w w' := by
  have f0 := (Fr.refl none' w).alloc (.cells #[.int .i64 0, .int .i64 0, .bool false, .bool false, .bool false] 66)
  have h0 := h.keep0 f0
  obtain ⟨c0, c1, c2, c3⟩ := h0.cells
  cases hp : S.pe k with
  | none =>
    have hL := h0.pe.look_none hk hp
    have f1 := (Fr.refl none' (w.alloc (.cells #[.int .i64 0, .int .i64 0, .bool false, .bool false, .bool false] 66))).alloc (.cells #[.int .i64 0, .bool false] 81)
    have h1 := h0.keep0 f1
    obtain ⟨d0, d1, d2, d3⟩ := h1.cells
    cases ha : S.ac k with
    | none =>
      have hL' := h1.ac.look_none hk ha
      have hreg : reg S k = ⟨k, 0, false, false, false⟩ := by unfold reg; rw [ha]; rw [hp]
      rw [hreg]
      have r2 := ((row_alloc w #[.int .i64 (k : Int), .int .i64 0, .bool false, .bool false, .bool false] 66).alloc (.cells #[.int .i64 0, .bool false] 81)).alloc (.cells #[.int .i64 0, .bool false] 81)
      have f2 := (((Fr.refl none' w).alloc (.cells #[.int .i64 (k : Int), .int .i64 0, .bool false, .bool false, .bool false] 66)).alloc (.cells #[.int .i64 0, .bool false] 81)).alloc (.cells #[.int .i64 0, .bool false] 81)
      have HR : Hid (Row (((w.alloc (.cells #[.int .i64 (k : Int), .int .i64 0, .bool false, .bool false, .bool false] 66)).alloc (.cells #[.int .i64 0, .bool false] 81)).alloc (.cells #[.int .i64 0, .bool false] 81)) w.heap.size #[.int .i64 (k : Int), .int .i64 0, .bool false, .bool false, .bool false] 66 ∧ Fr none' w (((w.alloc (.cells #[.int .i64 (k : Int), .int .i64 0, .bool false, .bool false, .bool false] 66)).alloc (.cells #[.int .i64 0, .bool false] 81)).alloc (.cells #[.int .i64 0, .bool false] 81))) := ⟨r2, f2⟩
      clear r2 f2 h h0 h1 f0 f1 hp ha
      go_enter Try.func56, Try.ntmps56
      go_wp2_with fail
      refine bodyPost_ret (ret_lr rfl rfl HR.out.1 rfl) rfl ?_
      exact ⟨rfl, HR.out.2⟩
    | some x =>
      obtain ⟨q, m⟩ := x
      have hL' := h1.ac.look_some hk ha
      have hreg : reg S k = ⟨k, q, m, false, true⟩ := by unfold reg; rw [ha]; rw [hp]; rfl
      rw [hreg]
      have r2 := ((row_alloc w #[.int .i64 (k : Int), .int .i64 q, .bool m, .bool false, .bool true] 66).alloc (.cells #[.int .i64 q, .bool m] 81)).alloc (.cells #[.int .i64 q, .bool m] 81)
      have f2 := (((Fr.refl none' w).alloc (.cells #[.int .i64 (k : Int), .int .i64 q, .bool m, .bool false, .bool true] 66)).alloc (.cells #[.int .i64 q, .bool m] 81)).alloc (.cells #[.int .i64 q, .bool m] 81)
      have HR : Hid (Row (((w.alloc (.cells #[.int .i64 (k : Int), .int .i64 q, .bool m, .bool false, .bool true] 66)).alloc (.cells #[.int .i64 q, .bool m] 81)).alloc (.cells #[.int .i64 q, .bool m] 81)) w.heap.size #[.int .i64 (k : Int), .int .i64 q, .bool m, .bool false, .bool true] 66 ∧ Fr none' w (((w.alloc (.cells #[.int .i64 (k : Int), .int .i64 q, .bool m, .bool false, .bool true] 66)).alloc (.cells #[.int .i64 q, .bool m] 81)).alloc (.cells #[.int .i64 q, .bool m] 81))) := ⟨r2, f2⟩
      clear r2 f2 h h0 h1 f0 f1 hp ha
      go_enter Try.func56, Try.ntmps56
      go_wp2_with fail
      refine bodyPost_ret (ret_lr rfl rfl HR.out.1 rfl) rfl ?_
      exact ⟨rfl, HR.out.2⟩
  | some y =>
    obtain ⟨p, l⟩ := y
    have hL := h0.pe.look_some hk hp
    have f1 := (Fr.refl none' (w.alloc (.cells #[.int .i64 0, .int .i64 0, .bool false, .bool false, .bool false] 66))).alloc (.cells #[.int .i64 p, .bool l] 81)
    have h1 := h0.keep0 f1
    obtain ⟨d0, d1, d2, d3⟩ := h1.cells
    cases ha : S.ac k with
    | none =>
      have hL' := h1.ac.look_none hk ha
      have hreg : reg S k = ⟨k, p, l, true, false⟩ := by unfold reg; rw [ha]; rw [hp]
      rw [hreg]
      have r2 := ((row_alloc w #[.int .i64 (k : Int), .int .i64 p, .bool l, .bool true, .bool false] 66).alloc (.cells #[.int .i64 p, .bool l] 81)).alloc (.cells #[.int .i64 0, .bool false] 81)
      have f2 := (((Fr.refl none' w).alloc (.cells #[.int .i64 (k : Int), .int .i64 p, .bool l, .bool true, .bool false] 66)).alloc (.cells #[.int .i64 p, .bool l] 81)).alloc (.cells #[.int .i64 0, .bool false] 81)
      have HR : Hid (Row (((w.alloc (.cells #[.int .i64 (k : Int), .int .i64 p, .bool l, .bool true, .bool false] 66)).alloc (.cells #[.int .i64 p, .bool l] 81)).alloc (.cells #[.int .i64 0, .bool false] 81)) w.heap.size #[.int .i64 (k : Int), .int .i64 p, .bool l, .bool true, .bool false] 66 ∧ Fr none' w (((w.alloc (.cells #[.int .i64 (k : Int), .int .i64 p, .bool l, .bool true, .bool false] 66)).alloc (.cells #[.int .i64 p, .bool l] 81)).alloc (.cells #[.int .i64 0, .bool false] 81))) := ⟨r2, f2⟩
      clear r2 f2 h h0 h1 f0 f1 hp ha
      go_enter Try.func56, Try.ntmps56
      go_wp2_with fail
      refine bodyPost_ret (ret_lr rfl rfl HR.out.1 rfl) rfl ?_
      exact ⟨rfl, HR.out.2⟩
    | some x =>
      obtain ⟨q, m⟩ := x
      have hL' := h1.ac.look_some hk ha
      have hreg : reg S k = ⟨k, q, m, true, true⟩ := by unfold reg; rw [ha]; rw [hp]; rfl
      rw [hreg]
      have r2 := ((row_alloc w #[.int .i64 (k : Int), .int .i64 q, .bool m, .bool true, .bool true] 66).alloc (.cells #[.int .i64 q, .bool m] 81)).alloc (.cells #[.int .i64 q, .bool m] 81)
      have f2 := (((Fr.refl none' w).alloc (.cells #[.int .i64 (k : Int), .int .i64 q, .bool m, .bool true, .bool true] 66)).alloc (.cells #[.int .i64 q, .bool m] 81)).alloc (.cells #[.int .i64 q, .bool m] 81)
      have HR : Hid (Row (((w.alloc (.cells #[.int .i64 (k : Int), .int .i64 q, .bool m, .bool true, .bool true] 66)).alloc (.cells #[.int .i64 q, .bool m] 81)).alloc (.cells #[.int .i64 q, .bool m] 81)) w.heap.size #[.int .i64 (k : Int), .int .i64 q, .bool m, .bool true, .bool true] 66 ∧ Fr none' w (((w.alloc (.cells #[.int .i64 (k : Int), .int .i64 q, .bool m, .bool true, .bool true] 66)).alloc (.cells #[.int .i64 q, .bool m] 81)).alloc (.cells #[.int .i64 q, .bool m] 81))) := ⟨r2, f2⟩
      clear r2 f2 h h0 h1 f0 f1 hp ha
      go_enter Try.func56, Try.ntmps56
      go_wp2_with fail
      refine bodyPost_ret (ret_lr rfl rfl HR.out.1 rfl) rfl ?_
      exact ⟨rfl, HR.out.2⟩

set_option maxRecDepth 100000 in
set_option maxHeartbeats 4000000 in
theorem all_any (w : World) (B : Bk) (S : Vg) (h : IsVg w B S) :
    Calls Try.prog 44 #[.pointer (some ⟨B.b, 0, none⟩)] w fun e w' => ∃ v, e = .returned v ∧ LrS w' w.heap.size v (allL S) ∧ Fr none' w w' := by
  have HB0 : Hid (∀ q, B.s q → q < w.heap.size) := fun q hq => h.lt q hq
  go_enter Try.func44, Try.ntmps44
  go_wp2_with fail
  go_loopw [3, 6] (fun v i wr => ∃ k : Nat, k ≤ 64 ∧ i = .int .i64 k ∧ OwnK 66 5 wr w.heap.size v (baseL S k).length (flatV (baseL S k)) ∧ Fr none' w wr ∧ IsVg wr B S) (fun _ i _ => 64 - (intOf i).toNat)
  case atStart => exact ⟨0, by omega, rfl, ownk_nil _ _ _ _, Fr.refl _ _, h⟩
  case round =>
    clear h
    obtain ⟨k, hk, rfl, hO, fk, hT⟩ := hrel
    by_cases hlt : k < 64
    · have hreg := register_any wr B S hT k hlt
      have hpe := reg_pe S k
      have hac := reg_ac S k
      have HL : Hid ((baseL S (k + 1) = baseL S k ++ (if here S k then [reg S k] else [])) ∧ here S k = ((reg S k).pe || (reg S k).ac)) := ⟨rfl, by rw [hpe, hac]; rfl⟩
      have HN : Hid ((baseL S k).length < 1000) := by have := len_base S k; show _ < _; omega
      clear hpe hac
      obtain ⟨x, hx⟩ : ∃ x, x = reg S k := ⟨_, rfl⟩
      rw [← hx] at hreg HL
      obtain ⟨xi, xp, xl, xe, xa⟩ := x
      replace hreg : Calls Try.prog 56 #[.pointer (some ⟨B.b, 0, none⟩), .int .i64 (k : Int)] wr fun e w' => e = .returned (.agg #[.int .i64 xi, .int .i64 xp, .bool xl, .bool xe, .bool xa]) ∧ Fr none' wr w' := hreg
      go_wp2_with fail
      refine hreg.mono ?_
      rintro e w1 ⟨rfl, f1⟩
      clear hreg hx
      have f2 := f1.alloc (.cells #[.int .i64 xi, .int .i64 xp, .bool xl, .bool xe, .bool xa] 66)
      have r2 := row_alloc w1 #[.int .i64 xi, .int .i64 xp, .bool xl, .bool xe, .bool xa] 66
      cases hh : (xe || xa) with
      | false =>
        obtain ⟨rfl, rfl⟩ : xe = false ∧ xa = false := by simpa using hh
        have HB : Hid (baseL S (k + 1) = baseL S k) := by show _ = _; rw [HL.out.1, HL.out.2]; simp
        go_wp2_with fail
        go_roundw
        case rel => exact ⟨k + 1, by omega, by go_num, by rw [HB.out]; exact hO.keep0 f2, fk.trans f2, hT.keep0 f2⟩
        case measure => simp [intOf]; omega
      | true =>
        have hcs : xe = true ∨ (xe = false ∧ xa = true) := by cases xe <;> cases xa <;> simp at hh ⊢
        clear hh
        rcases hcs with rfl | ⟨rfl, rfl⟩
        · have HB : Hid (baseL S (k + 1) = baseL S k ++ [⟨xi, xp, xl, true, xa⟩]) := by show _ = _; rw [HL.out.1, HL.out.2]; simp
          have f3 := f2.alloc (.cells #[.int .i64 xi, .int .i64 xp, .bool xl, .bool true, .bool xa] 66)
          have r3 := row_two w1 (.cells #[.int .i64 xi, .int .i64 xp, .bool xl, .bool true, .bool xa] 66) #[.int .i64 xi, .int .i64 xp, .bool xl, .bool true, .bool xa] 66
          have o3 := hO.keep0 f3
          obtain ⟨v', w4, hrun, f4, o4⟩ := append_lr _ w.heap.size (w1.heap.size + 1) u3 (baseL S k) ⟨xi, xp, xl, true, xa⟩ (Nat.le_trans fk.size f3.size) o3 HN.out r3
          have F4 := Fr.ownK (fk.trans f3) f4 o3
          have T4 : IsVg w4 B S := (hT.keep0 f3).keep f4 (fun q hq e => by have := o3.high q e; have := HB0.out q hq; omega)
          clear f4 o3 hO fk f1 f2 f3 hT r3
          go_wp2_with (first | (at_builtin; refine wpList_append_runK rfl _ _ 63 rfl _ _ rfl rfl _ _ hrun ?_))
          go_roundw
          case rel => exact ⟨k + 1, by omega, by go_num, by rw [HB.out]; exact o4, F4, T4⟩
          case measure => simp [intOf]; omega
        · have HB : Hid (baseL S (k + 1) = baseL S k ++ [⟨xi, xp, xl, false, true⟩]) := by show _ = _; rw [HL.out.1, HL.out.2]; simp
          have f3 := f2.alloc (.cells #[.int .i64 xi, .int .i64 xp, .bool xl, .bool false, .bool true] 66)
          have r3 := row_two w1 (.cells #[.int .i64 xi, .int .i64 xp, .bool xl, .bool false, .bool true] 66) #[.int .i64 xi, .int .i64 xp, .bool xl, .bool false, .bool true] 66
          have o3 := hO.keep0 f3
          obtain ⟨v', w4, hrun, f4, o4⟩ := append_lr _ w.heap.size (w1.heap.size + 1) u3 (baseL S k) ⟨xi, xp, xl, false, true⟩ (Nat.le_trans fk.size f3.size) o3 HN.out r3
          have F4 := Fr.ownK (fk.trans f3) f4 o3
          have T4 : IsVg w4 B S := (hT.keep0 f3).keep f4 (fun q hq e => by have := o3.high q e; have := HB0.out q hq; omega)
          clear f4 o3 hO fk f1 f2 f3 hT r3
          go_wp2_with (first | (at_builtin; refine wpList_append_runK rfl _ _ 63 rfl _ _ rfl rfl _ _ hrun ?_))
          go_roundw
          case rel => exact ⟨k + 1, by omega, by go_num, by rw [HB.out]; exact o4, F4, T4⟩
          case measure => simp [intOf]; omega
    · obtain rfl : k = 64 := by omega
      have hg := hT.good
      have hl64 := len_base S 64
      by_cases hn : (baseL S 64).length = 0
      · obtain rfl := hO.2 hn
        have he : allL S = [] := by
          have hb : baseL S 64 = [] := List.length_eq_zero_iff.mp hn
          rw [← all_of_sorted hg (l := []) (by rw [hb]) List.Pairwise.nil]
        have HE : Hid (allL S = []) := he
        clear hO hn he hl64 hg
        go_wp2_with fail
        refine (sort_none _ _ _ _).mono ?_
        rintro e w1 ⟨rfl, rfl⟩
        go_wp2_with fail
        go_ret
        exact ⟨_, rfl, Or.inl ⟨HE.out, rfl⟩, fk⟩
      · obtain ⟨g, cap, cur, rfl, hb, hr, hc, hm, hcs, hx⟩ := hO.row hn
        have hd : ∀ i, i < (baseL S 64).toArray.size → RecAt cur i (baseL S 64).toArray[i]! := fun i hi => rec_of hx i _ (by
          simp only [List.size_toArray] at hi
          simp [hi])
        have hs := sort_any (cap := cap) hr (baseL S 64).toArray hd (by simp only [List.size_toArray]; omega) (by simpa using hl64)
        simp only [List.size_toArray] at hs
        have HC : Hid ((baseL S 64).length ≤ cap ∧ cap ≤ maxLen ∧ Good S) := ⟨hc, hm, hg⟩
        clear hO hn hl64 hg hr hc hm hcs hx hd
        go_wp2_with fail
        refine hs.mono ?_
        rintro e w1 ⟨rfl, d', cs', p1, p2, p3, f1, r1, _, q1⟩
        clear hs
        have e1 : d'.toList = allL S := all_of_sorted HC.out.2.2 p2 p3
        have e2 : (allL S).length = (baseL S 64).length := by rw [← e1]; simpa using p1
        have HR : Hid (LrS w1 w.heap.size (.slice (some ⟨g, 0, none⟩) ((baseL S 64).length : Nat) cap) (allL S)) := Or.inr ⟨g, cap, cs', by rw [e2], hb, by rw [e2]; exact HC.out.1, HC.out.2.1, r1, fun i x hi => by
          rw [← e1] at hi
          have hlt : i < d'.size := by
            rcases Nat.lt_or_ge i d'.size with h' | h'
            · exact h'
            · rw [List.getElem?_eq_none (by simpa using h')] at hi; cases hi
          have := q1 i hlt
          rwa [show d'[i]! = x from by
            rw [List.getElem?_eq_getElem (by simpa using hlt)] at hi
            simp only [Option.some.injEq] at hi
            rw [← hi]
            simp [hlt]] at this⟩
        have F1 := fk.newer f1 hb
        clear e1 e2 p1 p2 p3 q1 r1 f1 fk
        go_wp2_with fail
        go_ret
        exact ⟨_, rfl, HR.out, F1⟩

end Go.Proofs.Ythkieoedidpkaaa
