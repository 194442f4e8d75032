/-
  Contracts of the document's Put over the translation. No statement is proved here.
-/
import Derived.Test.YtibdkadojoeopaaCsRefG
namespace Go.Proofs.Ytibdkadojoeopaa
open Go.RowKit Go.Maps Go.WideMaps

theorem flatN_set (C : Nat → Nat) (L : List Nd) (a : Rf) (c : K) : flatN C (setN L a c) = flatN C L := by
  induction L with
  | nil => rfl
  | cons x L ih =>
    unfold setN at ih ⊢
    rw [List.map_cons, flatN_cons, flatN_cons, ih]
    split <;> rfl

/-- One slot turned. -/
theorem IsQ.put {w : World} {q : Qb} {L : List Nd} (h : IsQ w q L) {a : Rf} {n : Nd} (hf : fnd L a.n = some n) {j : Nat} (ha : a.i = (j : Int)) (hj : j < 2 ^ n.rx) {c : K} (hc : rightC c = true) : IsQ (set8 w (q.C n.id) (j * 8) c) q (setN L a c) := by
  obtain ⟨hm, hid⟩ := fnd_mem hf
  have f : Fr (at' (q.C n.id)) w (set8 w (q.C n.id) (j * 8) c) := set8_fr (Fr.refl _ _) (Or.inr rfl)
  have nn := h.ns n hm
  refine ⟨h.row.keep f (fun e => nn.1 (Eq.symm e)), ?_, fun m hm' => ?_, fun m hm' m' hm'' e => ?_, h.nb, fun m hm' => ?_, good_set h.good a hc⟩
  · rw [show (setN L a c).length = L.length by simp [setN], flatN_set]
    exact ownsRow_at h.own (fun k hk hl => f.block k hl (fun e => nn.2 (by rw [← (show k = q.C n.id from e)]; exact hk)))
  · obtain ⟨x, hx, e1, e2, hc' | hc'⟩ := mem_set hm'
    · have : x = n := by
        have := fnd_of_mem h.good.srt hx
        rw [hc'.1, hf] at this
        exact (Option.some.inj this).symm
      subst this
      rw [e1, e2, hc'.2, ha, Int.toNat_natCast]
      exact (h.sl x hx).set hj c
    · rw [hc'.2]
      exact (h.sl x hx).keep f (fun e => by
        have := h.inj x hx n hm e
        exact hc'.1 (by rw [this, hid]))
  · obtain ⟨x, hx, e1, _⟩ := mem_set hm'
    obtain ⟨y, hy, e2, _⟩ := mem_set hm''
    rw [e1, e2] at e ⊢
    exact h.inj x hx y hy e
  · obtain ⟨x, hx, e1, _⟩ := mem_set hm'
    rw [e1]; exact h.ns x hx

theorem ChgQ.drew {w w' : World} {q : Qb} {L L' : List Nd} (h : ChgQ w q L w' L') : ChgQ w q L w'.drew L' := by
  obtain ⟨q', h1, h2, h3, h4⟩ := h
  exact ⟨q', h1, h2.keep0 (Fr.refl none' w').drew, h3.drew, h4⟩

set_option maxRecDepth 100000 in
set_option maxHeartbeats 1000000 in
theorem rput_bad (w : World) (q : Qb) (L : List Nd) (h : IsQ w q L) (a i : Int) (k o r b x g n : Int) (d : Bool) (E : Int) (hE : getE L ⟨a, i⟩ = E) (h0 : (E != 0) = true) :
    Calls Try.prog 29 #[.pointer (some ⟨q.b, 0, none⟩), .agg #[.int .i64 a, .int .i64 i], .agg #[.int .i64 k, .int .i64 o, .int .i64 r, .int .i64 b, .int .i64 x, .int .i64 g, .int .i64 n, .bool d]] w fun e w' => e = .returned (.int .i64 E) ∧ Fr none' w w' := by
  have fA := ((Fr.refl none' w).alloc (.cells #[.int .i64 a, .int .i64 i] 32)).alloc (.cells #[.int .i64 k, .int .i64 o, .int .i64 r, .int .i64 b, .int .i64 x, .int .i64 g, .int .i64 n, .bool d] 34)
  have hG := rget_any _ q L (h.keep0 fA) ⟨a, i⟩
  rw [hE] at hG
  generalize getC L ⟨a, i⟩ = C at *
  obtain ⟨k', o', r', b', x', g', n', d'⟩ := C
  clear hE h
  go_enter Try.func29, Try.ntmps29
  go_wp2_with fail
  refine hG.mono ?_
  rintro e w1 ⟨rfl, f1⟩
  replace fA := (fA.trans f1).alloc (.cells #[.int .i64 k', .int .i64 o', .int .i64 r', .int .i64 b', .int .i64 x', .int .i64 g', .int .i64 n', .bool d'] 34)
  clear hG f1
  unfold capV
  go_wp2_with fail
  go_ret
  exact ⟨rfl, fA⟩

set_option maxRecDepth 100000 in
set_option maxHeartbeats 1000000 in
theorem rput_wrong (w : World) (q : Qb) (L : List Nd) (h : IsQ w q L) (a i : Int) (k o r b x g n : Int) (d : Bool) (hE : getE L ⟨a, i⟩ = 0) (hR : rightC (K.mk k o r b x g n d) = false) :
    Calls Try.prog 29 #[.pointer (some ⟨q.b, 0, none⟩), .agg #[.int .i64 a, .int .i64 i], .agg #[.int .i64 k, .int .i64 o, .int .i64 r, .int .i64 b, .int .i64 x, .int .i64 g, .int .i64 n, .bool d]] w fun e w' => e = .returned (.int .i64 141) ∧ Fr none' w w' := by
  have fA := ((Fr.refl none' w).alloc (.cells #[.int .i64 a, .int .i64 i] 32)).alloc (.cells #[.int .i64 k, .int .i64 o, .int .i64 r, .int .i64 b, .int .i64 x, .int .i64 g, .int .i64 n, .bool d] 34)
  have rA := row_alloc1 w (.cells #[.int .i64 a, .int .i64 i] 32) (cbox k o r b x g n d) 34
  unfold cbox at rA
  have hG := rget_any _ q L (h.keep0 fA) ⟨a, i⟩
  rw [hE] at hG
  have R := fun w => rright_any k o r b x g n d w
  rw [hR] at R
  generalize getC L ⟨a, i⟩ = C at *
  obtain ⟨k', o', r', b', x', g', n', d'⟩ := C
  clear hE h
  go_enter Try.func29, Try.ntmps29
  go_wp2_with fail
  refine hG.mono ?_
  rintro e w1 ⟨rfl, f1⟩
  replace fA := (fA.trans f1).alloc (.cells #[.int .i64 k', .int .i64 o', .int .i64 r', .int .i64 b', .int .i64 x', .int .i64 g', .int .i64 n', .bool d'] 34)
  replace rA := (rA.keep f1 (fun h => h)).alloc (.cells #[.int .i64 k', .int .i64 o', .int .i64 r', .int .i64 b', .int .i64 x', .int .i64 g', .int .i64 n', .bool d'] 34)
  clear hG f1
  obtain ⟨c0, c1, c2, c3, c4, c5, c6, c7⟩ := cbox_cells rA
  unfold capV
  go_wp2_with fail
  refine (R _).mono ?_
  rintro e w2 ⟨rfl, f1⟩
  replace fA := fA.trans f1
  clear c0 c1 c2 c3 c4 c5 c6 c7 rA f1
  go_wp2_with fail
  go_ret
  exact ⟨rfl, fA⟩

set_option maxRecDepth 100000 in
set_option maxHeartbeats 2000000 in
theorem rput_ok (w : World) (q : Qb) (L : List Nd) (h : IsQ w q L) (a : Int) (j : Nat) (y : Nd) (hf : fnd L a = some y) (hj : j < 2 ^ y.rx) (k o r b x g n : Int) (d : Bool) (hR : rightC (K.mk k o r b x g n d) = true) :
    Calls Try.prog 29 #[.pointer (some ⟨q.b, 0, none⟩), .agg #[.int .i64 a, .int .i64 (j : Int)], .agg #[.int .i64 k, .int .i64 o, .int .i64 r, .int .i64 b, .int .i64 x, .int .i64 g, .int .i64 n, .bool d]] w fun e w' => e = .returned (.int .i64 0) ∧ ChgQ w q L w' (setN L ⟨a, j⟩ (K.mk k o r b x g n d)) := by
  have fA := ((Fr.refl none' w).alloc (.cells #[.int .i64 a, .int .i64 (j : Int)] 32)).alloc (.cells #[.int .i64 k, .int .i64 o, .int .i64 r, .int .i64 b, .int .i64 x, .int .i64 g, .int .i64 n, .bool d] 34)
  have rA := row_alloc1 w (.cells #[.int .i64 a, .int .i64 (j : Int)] 32) (cbox k o r b x g n d) 34
  have rB := (row_alloc w #[.int .i64 a, .int .i64 (j : Int)] 32).alloc (.cells #[.int .i64 k, .int .i64 o, .int .i64 r, .int .i64 b, .int .i64 x, .int .i64 g, .int .i64 n, .bool d] 34)
  unfold cbox at rA
  have h0 := h.keep0 fA
  have hG := rget_any _ q L h0 ⟨a, j⟩
  rw [(getE_ok hf hj).1] at hG
  have R := fun w => rright_any k o r b x g n d w
  rw [hR] at R
  generalize getC L ⟨a, j⟩ = C at *
  obtain ⟨k', o', r', b', x', g', n', d'⟩ := C
  have hm := (fnd_mem hf).1
  have HB : Hid (∀ k, q.s L k → k < w.heap.size) := fun k hk => h.lt k hk
  have HC : Hid (∀ w', Fr none' w w' → IsQ w' q L → ChgQ w q L (set8 w' (q.C y.id) (j * 8) (K.mk k o r b x g n d)) (setN L ⟨a, j⟩ (K.mk k o r b x g n d))) := fun w' f h' =>
    ⟨q, rfl, h'.put (a := ⟨a, j⟩) hf rfl hj hR, set8_fr (f.mono (fun _ _ h => h.elim)) (Or.inr (Or.inr (Or.inr ⟨y, hm, rfl⟩))), fun k hk => by
      rcases hk with h1 | h1 | ⟨m, hm', h1⟩
      · exact Or.inl (Or.inl h1)
      · exact Or.inl (Or.inr (Or.inl h1))
      · obtain ⟨z, hz, e1, _⟩ := mem_set hm'
        rw [e1] at h1
        exact Or.inl (Or.inr (Or.inr ⟨z, hz, h1⟩))⟩
  clear h hR
  go_enter Try.func29, Try.ntmps29
  go_wp2_with fail
  refine hG.mono ?_
  rintro e w1 ⟨rfl, f1⟩
  have f2 := f1.alloc (.cells #[.int .i64 k', .int .i64 o', .int .i64 r', .int .i64 b', .int .i64 x', .int .i64 g', .int .i64 n', .bool d'] 34)
  replace fA := fA.trans f2
  replace rA := rA.keep f2 (fun h => h)
  replace rB := rB.keep f2 (fun h => h)
  replace h0 := h0.keep0 f2
  clear hG f1 f2
  obtain ⟨c0, c1, c2, c3, c4, c5, c6, c7⟩ := cbox_cells rA
  unfold capV
  go_wp2_with fail
  refine (R _).mono ?_
  rintro e w2 ⟨rfl, f1⟩
  replace fA := fA.trans f1
  replace rA := rA.keep f1 (fun h => h)
  replace rB := rB.keep f1 (fun h => h)
  replace h0 := h0.keep0 f1
  clear c0 c1 c2 c3 c4 c5 c6 c7 f1
  obtain ⟨s0, s1, q0, q1⟩ := pair_cells rB
  have hA := rat_any w2 q L h0 a
  go_wp2_with fail
  refine hA.mono ?_
  rintro e w3 ⟨rfl, ⟨hf', rfl⟩ | ⟨m, y', hf', hi, rfl⟩⟩
  · rw [hf] at hf'; cases hf'
  · rw [hf] at hf'
    cases hf'
    obtain ⟨gg, cap, N, S, hS, e0, hlt, e2, sl, gb, Gb⟩ := h0.atN hi
    rw [← hS] at hj
    have n1 := HB.out _ gb
    have n2 := HB.out _ Gb
    have HR : Hid (ChgQ w q L (set8 w3 (q.C y.id) (j * 8) (K.mk k o r b x g n d)).drew (setN L ⟨a, j⟩ (K.mk k o r b x g n d))) := (HC.out _ fA h0).drew
    obtain ⟨c0, c1, c2, c3, c4, c5, c6, c7⟩ := cbox_cells rA
    obtain ⟨d0, d1, d2, d3, d4, d5, d6, d7⟩ := sl.cells j hj
    have z := sl.frozen
    have z0 := z (j * 8)
    have z1 := z (j * 8 + 1)
    have z2 := z (j * 8 + 2)
    have z3 := z (j * 8 + 3)
    have z4 := z (j * 8 + 4)
    have z5 := z (j * 8 + 5)
    have z6 := z (j * 8 + 6)
    have z7 := z (j * 8 + 7)
    generalize q.C y.id = G at *
    clear hA hf hi h0 hS gb Gb HB HC rA rB fA sl z R hm
    go_wp2_with fail
    go_region
    all_goals go_wp2_with fail
    all_goals go_ret
    all_goals exact ⟨rfl, HR.out⟩

theorem rput_any (w : World) (q : Qb) (L : List Nd) (h : IsQ w q L) (a : Rf) (c : K) :
    Calls Try.prog 29 #[.pointer (some ⟨q.b, 0, none⟩), .agg #[.int .i64 a.n, .int .i64 a.i], .agg (capV c)] w fun e w' => e = .returned (.int .i64 (putE L a c)) ∧ ChgQ w q L w' (putS L a c) := by
  obtain ⟨a, i⟩ := a
  obtain ⟨k, o, r, b, x, g, n, d⟩ := c
  unfold putS putE
  by_cases h0 : getE L ⟨a, i⟩ = 0
  · rw [if_pos h0]
    cases hR : rightC (K.mk k o r b x g n d) with
    | false => exact (rput_wrong w q L h a i k o r b x g n d h0 hR).mono fun _ _ ⟨h1, h2⟩ => ⟨h1, ChgQ.same h h2⟩
    | true =>
      rcases ref_cases L a i with hf | ⟨y, hf, hi | ⟨j, rfl, hj⟩⟩
      · rw [(getE_none hf).1] at h0; cases h0
      · rw [(getE_out hf hi).1] at h0; cases h0
      · exact rput_ok w q L h a j y hf hj k o r b x g n d hR
  · rw [if_neg h0, if_neg h0]
    exact (rput_bad w q L h a i k o r b x g n d _ rfl (by simpa using h0)).mono fun _ _ ⟨h1, h2⟩ => ⟨h1, ChgQ.same h h2⟩

end Go.Proofs.Ytibdkadojoeopaa
