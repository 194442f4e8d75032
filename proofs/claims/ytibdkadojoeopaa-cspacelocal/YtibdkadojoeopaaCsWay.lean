/-
  The contract of the document's Way over the translation. No statement is proved here.
-/
import Derived.Test.YtibdkadojoeopaaCsLocalP
import Derived.Test.YtibdkadojoeopaaCsRefL
import Derived.Test.YtibdkadojoeopaaCsOpen
namespace Go.Proofs.Ytibdkadojoeopaa
open Go.RowKit Go.Maps Go.WideMaps

syntax "way_fr" : tactic
macro_rules | `(tactic| way_fr) => `(tactic| (repeat' first | assumption | refine Fr.drew ?_ | refine Fr.alloc ?_ _ | refine Fr.setCell ?_ (Or.inl (by first | exact Nat.le_refl _ | assumption | (simp; done) | (simp; omega) | omega)) _))

theorem RfuI.ret {w wr : World} {q : Qb} {L : List Nd} {v : Value} {acc : List Rf} (h : RfuI w wr q L v acc) : RfS wr w.heap.size v acc := by
  have hO := h.ow
  by_cases hn : acc.length = 0
  · obtain rfl := hO.2 hn
    exact Or.inl ⟨List.length_eq_zero_iff.mp hn, rfl⟩
  · obtain ⟨g, cap', cur, rfl, hb, hr, hc, hm, hcs, hx⟩ := hO.row hn
    exact Or.inr ⟨g, cap', cur, rfl, hb, hc, hm, hr, fun i x hi => rec_of hx i x hi⟩

theorem div_min (X s : Nat) (hX : X < 4294967296) : X / 2 ^ min s 32 = X / 2 ^ s := by
  by_cases h : s ≤ 32
  · rw [Nat.min_eq_left h]
  · have e1 : 4294967296 ≤ 2 ^ s := Nat.le_trans (by decide : 4294967296 ≤ 2 ^ 32) (Nat.pow_le_pow_right (n := 2) (by omega) (by omega))
    rw [Nat.min_eq_right (by omega), Nat.div_eq_of_lt (Nat.lt_of_lt_of_le hX (by decide)), Nat.div_eq_of_lt (Nat.lt_of_lt_of_le hX e1)]

theorem shr_facts (X s : Nat) (hX : X < 4294967296) : ∃ X' : Nat, X' = X / 2 ^ s ∧ X' < 4294967296 ∧ (X : Int) / 2 ^ s = (X' : Int) ∧ (X : Int) / 2 ^ min s 32 = (X' : Int) := by
  have e : ∀ k : Nat, (X : Int) / 2 ^ k = ((X / 2 ^ k : Nat) : Int) := fun k => by rw [Int.natCast_ediv, Int.natCast_pow]; rfl
  exact ⟨_, rfl, Nat.lt_of_le_of_lt (Nat.div_le_self _ _) hX, e s, by rw [e, div_min X s hX]⟩

theorem way_next {L : List Nd} {c : K} {X X' j s : Nat} {dp : Int} {acc : List Rf} (hs : dp - ((j : Int) + 1) = (s : Int)) (hX : X' = X / 2 ^ s) (h : dp ≤ 16 → ∀ a, a ∈ wayF L c X dp.toNat j → a ∈ acc) :
    dp ≤ 16 → ∀ a, a ∈ wayF L c X dp.toNat (j + 1) → a ∈ acc ∨ ((resR L c X' ((j : Int) + 1)).e = 0 ∧ (resR L c X' ((j : Int) + 1)).left = 0) ∧ a = (resR L c X' ((j : Int) + 1)).at' := by
  intro h16 a ha
  unfold wayF at ha
  rw [List.mem_append] at ha
  rcases ha with ha | ha
  · exact Or.inl (h h16 a ha)
  · right
    rw [show dp.toNat - (j + 1) = s by omega, ← hX, show ((j + 1 : Nat) : Int) = (j : Int) + 1 by omega] at ha
    split at ha
    · rename_i h2
      exact ⟨h2, by simpa using ha⟩
    · cases ha

set_option maxRecDepth 100000 in
set_option maxHeartbeats 4000000 in
theorem way_any (w : World) (q : Qb) (L : List Nd) (h : IsQ w q L) (kk o r b x g n : Int) (d : Bool) (X : Nat) (hX : X < 4294967296) (dp : Int) (hdp : I64 dp) :
    Calls Try.prog 18 #[.pointer (some ⟨q.b, 0, none⟩), .agg #[.int .i64 kk, .int .i64 o, .int .i64 r, .int .i64 b, .int .i64 x, .int .i64 g, .int .i64 n, .bool d], .int .u32 (X : Int), .int .i64 dp] w fun e w' => ∃ v W, e = .returned v ∧ RfS w' w.heap.size v W ∧ W.length ≤ 17 ∧ (1 ≤ dp → dp ≤ 16 → ∀ a, a ∈ wayF L (K.mk kk o r b x g n d) X dp.toNat dp.toNat → a ∈ W) ∧ Fr none' w w' := by
  have fB := (Fr.refl none' w).alloc (.cells #[.int .i64 kk, .int .i64 o, .int .i64 r, .int .i64 b, .int .i64 x, .int .i64 g, .int .i64 n, .bool d] 34)
  have rB := row_alloc w #[.int .i64 kk, .int .i64 o, .int .i64 r, .int .i64 b, .int .i64 x, .int .i64 g, .int .i64 n, .bool d] 34
  have h0 := h.keep0 fB
  go_enter Try.func18, Try.ntmps18
  go_wp2_with fail
  generalize (w.alloc (.cells #[.int .i64 kk, .int .i64 o, .int .i64 r, .int .i64 b, .int .i64 x, .int .i64 g, .int .i64 n, .bool d] 34)) = v0 at *
  have HB : Hid (∀ y, q.s L y → y < v0.heap.size) := fun y hy => h0.lt y hy
  have HrB : Hid (Row v0 w.heap.size #[.int .i64 kk, .int .i64 o, .int .i64 r, .int .i64 b, .int .i64 x, .int .i64 g, .int .i64 n, .bool d] 34) := rB
  have HF : Hid (Fr none' w v0) := fB
  have HI0 : Hid (IsQ v0 q L) := h0
  have HD : Hid (I64 dp) := hdp
  have hdl : -9223372036854775808 ≤ dp ∧ dp ≤ 9223372036854775807 := by unfold I64 at hdp; omega
  clear rB fB h0 h hdp
  go_loopw [9, 10] (fun v i wr => ∃ (j : Nat) (acc : List Rf), j ≤ 16 ∧ ((j : Int) ≤ dp ∨ j = 0) ∧ i = .int .i64 ((j : Int) + 1) ∧ acc.length ≤ j ∧ Hid (RfuI v0 wr q L v acc) ∧ Hid (dp ≤ 16 → ∀ a, a ∈ wayF L (K.mk kk o r b x g n d) X dp.toNat j → a ∈ acc)) (fun _ i _ => 17 - (intOf i).toNat)
  case atStart => exact ⟨0, [], by omega, Or.inr rfl, by simp, by simp, by show RfuI _ _ _ _ _ _; exact ⟨ownk_nil _ _ _ _, HI0.out, Fr.refl _ _⟩, fun _ a h => h⟩
  case round =>
    obtain ⟨j, acc, hj, hjd, rfl, hac, hI, hW⟩ := hrel
    by_cases hg : (j : Int) + 1 ≤ dp ∧ j < 16
    · have u1 : decide ((j : Int) + 1 ≤ dp) = true := decide_eq_true hg.1
      have u2 : decide ((j : Int) + 1 ≤ 16) = true := decide_eq_true (by omega)
      obtain ⟨s, hs⟩ : ∃ s : Nat, dp - ((j : Int) + 1) = (s : Int) := ⟨(dp - ((j : Int) + 1)).toNat, by omega⟩
      have hw : IntKind.i64.wrap (dp - ((j : Int) + 1)) = (s : Int) := by rw [hs, IntKind.wrap_i64]; omega
      have hw2 : wrap64 (dp - ((j : Int) + 1)) = (s : Int) := by rw [hs]; unfold wrap64; omega
      have hw4 : IntKind.i64.wrap (s : Int) = (s : Int) := by rw [IntKind.wrap_i64]; omega
      have hw5 : wrap64 (s : Int) = (s : Int) := by unfold wrap64; omega
      have hs0 : decide ((s : Int) < 0) = false := decide_eq_false (by omega)
      obtain ⟨X', hX', hXl, hv1, hv2⟩ := shr_facts X s hX
      have hR := fun w' (f : Fr none' wr w') => rresolve_any w' q L (hI.out.is.keep0 f) (K.mk kk o r b x g n d) X' hXl ((j : Int) + 1)
      have rB := HrB.out.keep hI.out.fr (fun h => h)
      have HK : Hid (∀ w', Fr none' wr w' → w'.cell? ⟨w.heap.size, 0, none⟩ = some (.int .i64 kk) ∧ w'.cell? ⟨w.heap.size, 1, none⟩ = some (.int .i64 o) ∧ w'.cell? ⟨w.heap.size, 2, none⟩ = some (.int .i64 r) ∧ w'.cell? ⟨w.heap.size, 3, none⟩ = some (.int .i64 b) ∧ w'.cell? ⟨w.heap.size, 4, none⟩ = some (.int .i64 x) ∧ w'.cell? ⟨w.heap.size, 5, none⟩ = some (.int .i64 g) ∧ w'.cell? ⟨w.heap.size, 6, none⟩ = some (.int .i64 n) ∧ w'.cell? ⟨w.heap.size, 7, none⟩ = some (.bool d)) := fun w' f => cbox_cells (rB.keep f (fun h => h))
      have HW2 : Hid (dp ≤ 16 → ∀ a, a ∈ wayF L (K.mk kk o r b x g n d) X dp.toNat (j + 1) → a ∈ acc ∨ ((resR L (K.mk kk o r b x g n d) X' ((j : Int) + 1)).e = 0 ∧ (resR L (K.mk kk o r b x g n d) X' ((j : Int) + 1)).left = 0) ∧ a = (resR L (K.mk kk o r b x g n d) X' ((j : Int) + 1)).at') := way_next hs hX' hW.out
      have hjl : (j : Int) + 1 ≤ dp := hg.1
      have hj16 : j < 16 := hg.2
      generalize resR L (K.mk kk o r b x g n d) X' ((j : Int) + 1) = R at *
      obtain ⟨⟨Rn, Ri⟩, Rl, Re⟩ := R
      replace hR : ∀ w', Fr none' wr w' → Calls Try.prog 30 #[.pointer (some ⟨q.b, 0, none⟩), .agg #[.int .i64 kk, .int .i64 o, .int .i64 r, .int .i64 b, .int .i64 x, .int .i64 g, .int .i64 n, .bool d], .int .u32 (X' : Int), .int .i64 ((j : Int) + 1)] w' fun e w2 => e = .returned (.tuple #[.agg #[.int .i64 Rn, .int .i64 Ri], .int .i64 Rl, .int .i64 Re]) ∧ Fr none' w' w2 := hR
      have hXC := hR _ (Fr.refl none' wr).drew
      have hXD := hR _ ((Fr.refl none' wr).alloc (.cells #[.int .i64 0, .int .i64 0] 32)).drew
      have HfC : Hid (Fr none' wr wr.drew ∧ Fr none' wr (wr.alloc (.cells #[.int .i64 0, .int .i64 0] 32)).drew) := ⟨(Fr.refl none' wr).drew, ((Fr.refl none' wr).alloc (.cells #[.int .i64 0, .int .i64 0] 32)).drew⟩
      have G0 := Fr.refl none' wr
      clear hR rB hW hX' hXl hg
      go_wp2_with fail
      go_region_held3 (fun w' => w'.cell? ⟨w.heap.size, 0, none⟩ = some (.int .i64 kk) ∧ w'.cell? ⟨w.heap.size, 1, none⟩ = some (.int .i64 o) ∧ w'.cell? ⟨w.heap.size, 2, none⟩ = some (.int .i64 r) ∧ w'.cell? ⟨w.heap.size, 3, none⟩ = some (.int .i64 b) ∧ w'.cell? ⟨w.heap.size, 4, none⟩ = some (.int .i64 x) ∧ w'.cell? ⟨w.heap.size, 5, none⟩ = some (.int .i64 g) ∧ w'.cell? ⟨w.heap.size, 6, none⟩ = some (.int .i64 n) ∧ w'.cell? ⟨w.heap.size, 7, none⟩ = some (.bool d)) ((refine HK.out _ ?_; first | exact G0 | exact G0.drew | exact G0.alloc _ | exact G0.drew.alloc _ | exact (G0.alloc _).drew | (way_fr; done))) (first | (go_at_call 30; refine hXC.mono ?_; rintro e w7 ⟨rfl, f7⟩; replace G0 := HfC.out.1.trans f7; have ge := G0.size) | (go_at_call 30; refine hXD.mono ?_; rintro e w7 ⟨rfl, f7⟩; replace G0 := HfC.out.2.trans f7; have rz := ((row_alloc wr #[.int .i64 0, .int .i64 0] 32).drew).keep f7 (fun h => h); have x0 := rz.cell 0; have x1 := rz.cell 1; have x2 := rz.frozen 0; have x3 := rz.frozen 1))
      all_goals first
        | (have fr8 := pair_fr (.int .i64 Rn) (.int .i64 Ri) G0 (Or.inl (Nat.le_refl _)); have r22 := pair_set rz (.int .i64 Rn) (.int .i64 Ri); clear rz x0 x1 x2 x3; unfold pput at fr8 r22; generalize ((w7.setCell ⟨wr.heap.size, 0, none⟩ (.int .i64 Rn)).setCell ⟨wr.heap.size, 1, none⟩ (.int .i64 Ri)) = w8 at fr8 r22 ⊢; generalize wr.heap.size = B8 at r22 ⊢)
        | (have fr8 := G0.alloc (.cells #[.int .i64 Rn, .int .i64 Ri] 32); have r22 := row_alloc w7 #[.int .i64 Rn, .int .i64 Ri] 32; generalize (w7.alloc (.cells #[.int .i64 Rn, .int .i64 Ri] 32)) = w8 at fr8 r22 ⊢; generalize w7.heap.size = B8 at r22 ⊢)
      all_goals
        have I8 : Hid (RfuI v0 w8 q L u9 acc) := by show RfuI _ _ _ _ _ _; exact ⟨hI.out.ow.keep0 fr8, hI.out.is.keep0 fr8, hI.out.fr.trans fr8⟩
        obtain ⟨b0, b1, _, _⟩ := pair_cells r22
        clear fr8 r22 G0 hXC hXD hI HfC HK
        by_cases hc : Re = 0 ∧ Rl = 0
        · obtain ⟨rfl, rfl⟩ := hc
          obtain ⟨v', w9, hrun, I9⟩ := I8.out.more HB.out (by omega) ⟨Rn, Ri⟩
          have HI9 : Hid (RfuI v0 w9 q L v' (acc ++ [⟨Rn, Ri⟩])) := I9
          have HW3 : Hid (dp ≤ 16 → ∀ a, a ∈ wayF L (K.mk kk o r b x g n d) X dp.toNat (j + 1) → a ∈ acc ++ [⟨Rn, Ri⟩]) := fun h16 a ha => by
            rcases HW2.out h16 a ha with h | ⟨_, h⟩
            · exact List.mem_append_left _ h
            · rw [h]; simp
          clear I8 I9 HW2
          go_wp2_with (first | (at_builtin; refine wpList_append_runK rfl _ _ 38 rfl _ _ rfl rfl _ _ hrun ?_))
          go_roundw
          case rel => exact ⟨j + 1, _, by omega, Or.inl (by omega), by go_num, by simp; omega, HI9.out, HW3.out⟩
          case measure => simp [intOf]; omega
        · have HW3 : Hid (dp ≤ 16 → ∀ a, a ∈ wayF L (K.mk kk o r b x g n d) X dp.toNat (j + 1) → a ∈ acc) := fun h16 a ha => by
            rcases HW2.out h16 a ha with h | ⟨h, _⟩
            · exact h
            · exact absurd h hc
          have hcs : (Re == 0) = false ∨ ((Re == 0) = true ∧ (Rl == 0) = false) := by
            by_cases h0 : Re = 0
            · exact Or.inr ⟨by simpa using h0, by simpa using fun h => hc ⟨h0, h⟩⟩
            · exact Or.inl (by simpa using h0)
          clear HW2 hc
          rcases hcs with t1 | ⟨t1, t2⟩
          all_goals
            go_wp2_with fail
            go_roundw
            case rel => exact ⟨j + 1, acc, by omega, Or.inl (by omega), by go_num, by omega, I8.out, HW3.out⟩
            case measure => simp [intOf]; omega
    · have hc : decide ((j : Int) + 1 ≤ dp) = false ∨ (decide ((j : Int) + 1 ≤ dp) = true ∧ decide ((j : Int) + 1 ≤ 16) = false) := by
        by_cases h1 : (j : Int) + 1 ≤ dp
        · exact Or.inr ⟨decide_eq_true h1, decide_eq_false (by omega)⟩
        · exact Or.inl (decide_eq_false h1)
      have HWE : Hid (1 ≤ dp → dp ≤ 16 → ∀ a, a ∈ wayF L (K.mk kk o r b x g n d) X dp.toNat dp.toNat → a ∈ acc) := fun h1 h2 a ha => hW.out h2 a (by rw [show j = dp.toNat by omega]; exact ha)
      have rB := HrB.out.keep hI.out.fr (fun h => h)
      obtain ⟨k0, k1, k2, k3, k4, k5, k6, k7⟩ := cbox_cells rB
      have hR := rresolve_any _ q L hI.out.is (K.mk kk o r b x g n d) X hX dp
      generalize resR L (K.mk kk o r b x g n d) X dp = R at *
      obtain ⟨⟨Rn, Ri⟩, Rl, Re⟩ := R
      replace hR : Calls Try.prog 30 #[.pointer (some ⟨q.b, 0, none⟩), .agg #[.int .i64 kk, .int .i64 o, .int .i64 r, .int .i64 b, .int .i64 x, .int .i64 g, .int .i64 n, .bool d], .int .u32 (X : Int), .int .i64 dp] wr fun e w2 => e = .returned (.tuple #[.agg #[.int .i64 Rn, .int .i64 Ri], .int .i64 Rl, .int .i64 Re]) ∧ Fr none' wr w2 := hR
      clear hW hg rB
      rcases hc with u1 | ⟨u1, u2⟩
      all_goals
        go_wp2_with fail
        refine hR.mono ?_
        rintro e w7 ⟨rfl, f7⟩
        have fr8 := f7.alloc (.cells #[.int .i64 Rn, .int .i64 Ri] 32)
        have r22 := row_alloc w7 #[.int .i64 Rn, .int .i64 Ri] 32
        have I8 : RfuI v0 (w7.alloc (.cells #[.int .i64 Rn, .int .i64 Ri] 32)) q L u9 acc := ⟨hI.out.ow.keep0 fr8, hI.out.is.keep0 fr8, hI.out.fr.trans fr8⟩
        obtain ⟨b0, b1, _, _⟩ := pair_cells r22
        clear fr8 r22 hR f7 hI k0 k1 k2 k3 k4 k5 k6 k7
        by_cases hc : Re = 0
        · subst hc
          obtain ⟨v', w9, hrun, I9⟩ := I8.more HB.out (by omega) ⟨Rn, Ri⟩
          have hsz : (w7.alloc (.cells #[.int .i64 Rn, .int .i64 Ri] 32)).heap.size = w7.heap.size + 1 := by simp
          rw [hsz] at hrun
          clear hsz
          have hS := I9.ret
          have hL9 : (acc ++ [(⟨Rn, Ri⟩ : Rf)]).length ≤ 17 := by simp; omega
          obtain ⟨a', cap', hv'⟩ := hS.slice
          obtain ⟨Z, hZ⟩ : ∃ Z, Z = acc ++ [(⟨Rn, Ri⟩ : Rf)] := ⟨_, rfl⟩
          have hZ2 : ∀ a, a ∈ acc → a ∈ Z := fun a ha => by rw [hZ]; exact List.mem_append_left _ ha
          rw [← hZ] at hv' hS hL9 I9
          clear hZ
          obtain ⟨M, hM⟩ : ∃ M, M = Z.length := ⟨_, rfl⟩
          rw [← hM] at hv' hL9
          subst hv'
          have HE : Hid (RfS w9 w.heap.size (.slice a' M cap') Z ∧ Z.length ≤ 17 ∧ (1 ≤ dp → dp ≤ 16 → ∀ a, a ∈ wayF L (K.mk kk o r b x g n d) X dp.toNat dp.toNat → a ∈ Z) ∧ Fr none' w w9) := ⟨hS.mono HF.out.size, by rw [← hM]; exact hL9, fun h1 h2 a ha => hZ2 a (HWE.out h1 h2 a ha), HF.out.trans I9.fr⟩
          clear hM hZ2
          clear I8 I9 hS HWE
          go_wp2_with (first | (at_builtin; refine wpList_append_runK rfl _ _ 38 rfl _ _ rfl rfl _ _ hrun ?_))
          go_ret
          exact ⟨_, _, rfl, HE.out⟩
        · have t1 : (Re == 0) = false := by simpa using hc
          have hS := I8.ret
          obtain ⟨a', cap', rfl⟩ := hS.slice
          have HE : Hid (RfS (w7.alloc (.cells #[.int .i64 Rn, .int .i64 Ri] 32)) w.heap.size (.slice a' acc.length cap') acc ∧ acc.length ≤ 17 ∧ (1 ≤ dp → dp ≤ 16 → ∀ a, a ∈ wayF L (K.mk kk o r b x g n d) X dp.toNat dp.toNat → a ∈ acc) ∧ Fr none' w (w7.alloc (.cells #[.int .i64 Rn, .int .i64 Ri] 32))) := ⟨hS.mono HF.out.size, by omega, HWE.out, HF.out.trans I8.fr⟩
          clear I8 hS HWE hc
          go_wp2_with fail
          go_ret
          exact ⟨_, _, rfl, HE.out⟩

end Go.Proofs.Ytibdkadojoeopaa
