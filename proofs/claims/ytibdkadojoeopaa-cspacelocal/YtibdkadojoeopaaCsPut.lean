/-
  Contracts of package cspace's Put, AddNode and DropNode over the translation. No statement is proved here.
-/
import Derived.Test.YtibdkadojoeopaaCsVal
namespace Go.Proofs.Ytibdkadojoeopaa
open Go.RowKit Go.Maps Go.WideMaps

theorem r_i64 {c : K} (h : rightC c = true) : I64 c.r := by
  have := right_bounds h
  unfold I64
  omega

set_option maxRecDepth 100000 in
set_option maxHeartbeats 1000000 in
theorem put_bad (w : World) (p : Pb) (E : Int) (hE : (E != 0) = true) (a i : Int) (k o r b x g n : Int) (d : Bool) (hs : ∀ w', Fr none' w w' → Calls Try.prog 41 #[.pointer (some ⟨p.b, 0, none⟩), .agg #[.int .i64 a, .int .i64 i]] w' fun e w2 => e = .returned (.tuple #[.pointer none, .int .i64 E]) ∧ Fr none' w' w2) :
    Calls Try.prog 19 #[.pointer (some ⟨p.b, 0, none⟩), .agg #[.int .i64 a, .int .i64 i], .agg #[.int .i64 k, .int .i64 o, .int .i64 r, .int .i64 b, .int .i64 x, .int .i64 g, .int .i64 n, .bool d]] w fun e w' => e = .returned (.int .i64 E) ∧ Fr none' w w' := by
  have fA := ((Fr.refl none' w).alloc (.cells #[.int .i64 a, .int .i64 i] 32)).alloc (.cells #[.int .i64 k, .int .i64 o, .int .i64 r, .int .i64 b, .int .i64 x, .int .i64 g, .int .i64 n, .bool d] 34)
  have hs1 := hs _ fA
  clear hs
  go_enter Try.func19, Try.ntmps19
  go_wp2_with fail
  refine hs1.mono ?_
  rintro e w1 ⟨rfl, f1⟩
  replace fA := fA.trans f1
  clear hs1 f1
  go_wp2_with fail
  go_ret
  exact ⟨rfl, fA⟩

set_option maxRecDepth 100000 in
set_option maxHeartbeats 1000000 in
theorem put_wrong (w : World) (p : Pb) (L : List Nd) (h : IsP w p L) (a : Int) (j : Nat) (ha : I64 a) (y : Nd) (hf : fnd L a = some y) (hj : j < 2 ^ y.rx) (k o r b x g n : Int) (d : Bool) (hr : I64 r) (hR : rightC (K.mk k o r b x g n d) = false) :
    Calls Try.prog 19 #[.pointer (some ⟨p.b, 0, none⟩), .agg #[.int .i64 a, .int .i64 (j : Int)], .agg #[.int .i64 k, .int .i64 o, .int .i64 r, .int .i64 b, .int .i64 x, .int .i64 g, .int .i64 n, .bool d]] w fun e w' => e = .returned (.int .i64 141) ∧ Fr none' w w' := by
  have fA := ((Fr.refl none' w).alloc (.cells #[.int .i64 a, .int .i64 (j : Int)] 32)).alloc (.cells #[.int .i64 k, .int .i64 o, .int .i64 r, .int .i64 b, .int .i64 x, .int .i64 g, .int .i64 n, .bool d] 34)
  have rA := row_alloc1 w (.cells #[.int .i64 a, .int .i64 (j : Int)] 32) (cbox k o r b x g n d) 34
  unfold cbox at rA
  have hA := h.keep0 fA
  have hs1 := slot_ok _ p L hA a j ha y hf hj
  have R := fun w => right_any k o r b x g n d w hr
  rw [hR] at R
  clear hA h hf ha
  go_enter Try.func19, Try.ntmps19
  go_wp2_with fail
  refine hs1.mono ?_
  rintro e w1 ⟨rfl, f1⟩
  replace rA := rA.keep f1 (fun h => h)
  replace fA := fA.trans f1
  clear hs1 f1
  obtain ⟨c0, c1, c2, c3, c4, c5, c6, c7⟩ := cbox_cells rA
  clear rA
  go_wp2_with fail
  refine (R _).mono ?_
  rintro e w2 ⟨rfl, f1⟩
  replace fA := fA.trans f1
  clear f1 c0 c1 c2 c3 c4 c5 c6 c7
  go_wp2_with fail
  go_ret
  exact ⟨rfl, fA⟩

set_option maxRecDepth 100000 in
set_option maxHeartbeats 1000000 in
theorem put_ok (w : World) (p : Pb) (L : List Nd) (h : IsP w p L) (a : Int) (j : Nat) (ha : I64 a) (y : Nd) (hf : fnd L a = some y) (hj : j < 2 ^ y.rx) (k o r b x g n : Int) (d : Bool) (hR : rightC (K.mk k o r b x g n d) = true) :
    Calls Try.prog 19 #[.pointer (some ⟨p.b, 0, none⟩), .agg #[.int .i64 a, .int .i64 (j : Int)], .agg #[.int .i64 k, .int .i64 o, .int .i64 r, .int .i64 b, .int .i64 x, .int .i64 g, .int .i64 n, .bool d]] w fun e w' => e = .returned (.int .i64 0) ∧ Chg w p L w' (setN L ⟨a, j⟩ (K.mk k o r b x g n d)) := by
  have fA := ((Fr.refl none' w).alloc (.cells #[.int .i64 a, .int .i64 (j : Int)] 32)).alloc (.cells #[.int .i64 k, .int .i64 o, .int .i64 r, .int .i64 b, .int .i64 x, .int .i64 g, .int .i64 n, .bool d] 34)
  have rA := row_alloc1 w (.cells #[.int .i64 a, .int .i64 (j : Int)] 32) (cbox k o r b x g n d) 34
  unfold cbox at rA
  have hm := (fnd_mem hf).1
  have hB : p.B y.id ≠ w.heap.size + 1 := by
    have := h.lt _ (Or.inr (Or.inr ⟨y, hm, rfl⟩))
    omega
  have hA := h.keep0 fA
  have hs1 := slot_ok _ p L hA a j ha y hf hj
  have R := fun w => right_any k o r b x g n d w (r_i64 hR)
  rw [hR] at R
  have HC : Hid (∀ w', Fr none' w w' → IsP w' p L → Chg w p L (set8 w' (p.B y.id) (j * 8) (K.mk k o r b x g n d)) (setN L ⟨a, j⟩ (K.mk k o r b x g n d))) := fun w' f h' =>
    ⟨p, rfl, h'.put (a := ⟨a, j⟩) hf rfl hj hR, set8_fr (f.mono (fun _ _ h => h.elim)) (Or.inr (Or.inr (Or.inr ⟨y, hm, rfl⟩))), fun k hk => by
      rcases hk with h1 | h1 | ⟨m, hm', h1⟩
      · exact Or.inl (Or.inl h1)
      · exact Or.inl (Or.inr (Or.inl h1))
      · obtain ⟨z, hz, e1, _⟩ := mem_set hm'
        rw [e1] at h1
        exact Or.inl (Or.inr (Or.inr ⟨z, hz, h1⟩))⟩
  clear h hf ha hR
  go_enter Try.func19, Try.ntmps19
  go_wp2_with fail
  refine hs1.mono ?_
  rintro e w1 ⟨rfl, f1⟩
  replace rA := rA.keep f1 (fun h => h)
  replace hA := hA.keep0 f1
  replace fA := fA.trans f1
  clear hs1 f1
  obtain ⟨c0, c1, c2, c3, c4, c5, c6, c7⟩ := cbox_cells rA
  go_wp2_with fail
  refine (R _).mono ?_
  rintro e w2 ⟨rfl, f1⟩
  replace rA := rA.keep f1 (fun h => h)
  replace hA := hA.keep0 f1
  replace fA := fA.trans f1
  clear f1 c0 c1 c2 c3 c4 c5 c6 c7
  obtain ⟨c0, c1, c2, c3, c4, c5, c6, c7⟩ := cbox_cells rA
  have sA := hA.sl y hm
  have HR : Hid (Chg w p L (set8 w2 (p.B y.id) (j * 8) (K.mk k o r b x g n d)) (setN L ⟨a, j⟩ (K.mk k o r b x g n d))) := HC.out w2 fA hA
  obtain ⟨d0, d1, d2, d3, d4, d5, d6, d7⟩ := sA.cells j hj
  have z := sA.frozen
  have z0 := z (j * 8)
  have z1 := z (j * 8 + 1)
  have z2 := z (j * 8 + 2)
  have z3 := z (j * 8 + 3)
  have z4 := z (j * 8 + 4)
  have z5 := z (j * 8 + 5)
  have z6 := z (j * 8 + 6)
  have z7 := z (j * 8 + 7)
  clear z rA sA hA fA HC
  generalize p.B y.id = G at *
  go_wp2_with fail
  go_ret
  exact ⟨rfl, HR.out⟩

theorem put_any (w : World) (p : Pb) (L : List Nd) (h : IsP w p L) (a : Rf) (ha : I64 a.n) (c : K) (hr : I64 c.r) :
    Calls Try.prog 19 #[.pointer (some ⟨p.b, 0, none⟩), .agg #[.int .i64 a.n, .int .i64 a.i], .agg (capV c)] w fun e w' => e = .returned (.int .i64 (putE L a c)) ∧ Chg w p L w' (putS L a c) := by
  obtain ⟨a, i⟩ := a
  obtain ⟨k, o, r, b, x, g, n, d⟩ := c
  unfold putS putE
  rcases ref_cases L a i with hf | ⟨y, hf, hi | ⟨j, rfl, hj⟩⟩
  · rw [(getE_none hf).1, if_neg (by decide), if_neg (by decide)]
    exact (put_bad w p 120 rfl a i k o r b x g n d (fun w' f => slot_none w' p L (h.keep0 f) a i ha hf)).mono fun _ _ ⟨h1, h2⟩ => ⟨h1, Chg.same h h2⟩
  · rw [(getE_out hf hi).1, if_neg (by decide), if_neg (by decide)]
    exact (put_bad w p 1 rfl a i k o r b x g n d (fun w' f => slot_out w' p L (h.keep0 f) a i ha y hf hi)).mono fun _ _ ⟨h1, h2⟩ => ⟨h1, Chg.same h h2⟩
  · rw [(getE_ok hf hj).1, if_pos rfl]
    cases hR : rightC (K.mk k o r b x g n d) with
    | false => exact (put_wrong w p L h a j ha y hf hj k o r b x g n d hr hR).mono fun _ _ ⟨h1, h2⟩ => ⟨h1, Chg.same h h2⟩
    | true => exact put_ok w p L h a j ha y hf hj k o r b x g n d hR

/-! ### AddNode -/
set_option maxRecDepth 100000 in
set_option maxHeartbeats 1000000 in
theorem add_arg (w : World) (P : Value) (id rx : Int) (h : okA id rx = false) : Calls Try.prog 23 #[P, .int .i64 id, .int .i64 rx] w fun e w' => e = .returned (.int .i64 1) ∧ w' = w := by
  unfold okA at h
  cases h1 : (decide (0 ≤ id) && decide (id ≤ 1023)) with
  | false =>
    go_enter Try.func23, Try.ntmps23
    go_wp2_with (go_at_call 39; refine (swithin_any _ _ _ _).mono ?_; rintro e w1 ⟨rfl, rfl⟩; rw [h1])
    go_ret
    exact ⟨rfl, rfl⟩
  | true =>
    rw [h1, Bool.true_and] at h
    go_enter Try.func23, Try.ntmps23
    go_wp2_with (go_at_call 39; refine (swithin_any _ _ _ _).mono ?_; rintro e w1 ⟨rfl, rfl⟩; first | rw [h1] | rw [h])
    go_ret
    exact ⟨rfl, rfl⟩

set_option maxRecDepth 100000 in
set_option maxHeartbeats 1000000 in
theorem add_full (w : World) (p : Pb) (L : List Nd) (h : IsP w p L) (id rx : Int) (ho : okA id rx = true) (y : Nd) (hf : fnd L id = some y) : Calls Try.prog 23 #[.pointer (some ⟨p.b, 0, none⟩), .int .i64 id, .int .i64 rx] w fun e w' => e = .returned (.int .i64 130) ∧ Fr none' w w' := by
  have hb := (okA_iff.mp ho).1
  have c0 := h.cell
  have hm : mapF p L id = some (y.rx, p.B y.id) := by unfold mapF; rw [hf]; rfl
  have l0 := h.map.look_some (k := id) (by unfold I64; omega) hm
  have f0 := (Fr.refl none' w).alloc (.cells #[.int .i64 (y.rx : Int), .slice (some ⟨p.B y.id, 0, none⟩) (2 ^ y.rx) (2 ^ y.rx)] 69)
  unfold okA at ho
  obtain ⟨h1, h2⟩ := Bool.and_eq_true_iff.mp ho
  generalize 2 ^ y.rx = N at *
  clear hb hm hf h ho
  go_enter Try.func23, Try.ntmps23
  go_wp2_with (go_at_call 39; refine (swithin_any _ _ _ _).mono ?_; rintro e w1 ⟨rfl, rfl⟩; first | rw [h1] | rw [h2])
  go_ret
  exact ⟨rfl, f0⟩

set_option maxRecDepth 100000 in
set_option maxHeartbeats 2000000 in
theorem add_ok (w : World) (p : Pb) (L : List Nd) (h : IsP w p L) (id : Int) (m : Nat) (ho : okA id m = true) (hf : fnd L id = none) : Calls Try.prog 23 #[.pointer (some ⟨p.b, 0, none⟩), .int .i64 id, .int .i64 (m : Int)] w fun e w' => e = .returned (.int .i64 0) ∧ Chg w p L w' (ins (newN id m) L) := by
  have hb := (okA_iff.mp ho)
  have hI : I64 id := by unfold I64; omega
  have hm : mapF p L id = none := by unfold mapF; rw [hf]; rfl
  have c0 := h.cell
  have l0 := h.map.look_none hI hm
  have fA := ((Fr.refl none' w).alloc (.cells #[.int .i64 0, .slice none 0 0] 69)).drew
  have hA := h.keep0 fA
  have cA : (w.alloc (.cells #[.int .i64 0, .slice none 0 0] 69)).cell? ⟨p.b, 0, none⟩ = some (.map (some p.m)) := hA.cell
  obtain ⟨zs, hz, hmk⟩ := make_slots (2 ^ m) (pow4 (x := m) (by omega) (by omega)).2
  have eN : ((2 ^ m : Nat) : Int) = (2 : Int) ^ m := by push_cast; rfl
  have fB := (Fr.refl none' (w.alloc (.cells #[.int .i64 0, .slice none 0 0] 69)).drew).alloc (.cells zs 34)
  have hB := hA.keep0 fB
  have cB : ((w.alloc (.cells #[.int .i64 0, .slice none 0 0] 69)).alloc (.cells zs 34)).cell? ⟨p.b, 0, none⟩ = some (.map (some p.m)) := hB.cell
  have gN := goodN_new ho
  obtain ⟨w2, hst, mp, f2⟩ := hB.map.store (len_le h.good) hI hm m (w.heap.size + 1) (f' := fun j => if id = j then some (m, w.heap.size + 1) else mapF p L j) (fun _ => rfl)
  have sz := hz (w.alloc (.cells #[.int .i64 0, .slice none 0 0] 69)).drew
  have eH : (w.alloc (.cells #[.int .i64 0, .slice none 0 0] 69)).drew.heap.size = w.heap.size + 1 := by simp
  rw [eH] at sz
  have HC : Hid (Chg w p L w2 (ins (newN id m) L)) := h.add gN (by rw [newN_id ho]; exact hf) (g := w.heap.size + 1) (by omega) (fA.trans fB) (by exact sz) f2 (by rw [newN_id ho]; exact mp)
  unfold okA at ho
  obtain ⟨h1, h2⟩ := Bool.and_eq_true_iff.mp ho
  unfold nodeV at hst
  have hw : IntKind.i64.wrap (2 ^ m) = ((2 ^ m : Nat) : Int) := by
    have := (pow4 (x := m) (by omega) (by omega)).2
    rw [← eN, IntKind.wrap_i64]
    generalize (2 ^ m : Nat) = N at *
    omega
  have hmk' : ∀ w : World, (Instr.makeSlice 67 (.int .i64 (IntKind.i64.wrap (2 ^ m))) (.int .i64 (IntKind.i64.wrap (2 ^ m)))).run Try.prog w = .ok (.slice (some ⟨w.heap.size, 0, none⟩) (2 ^ m) (2 ^ m)) (w.alloc (.cells zs 34)) := fun w => by rw [hw]; exact hmk w
  clear hmk hw eN
  replace hst : (Instr.mapUpdate 62 (.map (some p.m)) (.int .i64 id) (.agg #[.int .i64 (m : Int), .slice (some ⟨w.heap.size + 1, 0, none⟩) (2 ^ m) (2 ^ m)])).run Try.prog ((w.alloc (.cells #[.int .i64 0, .slice none 0 0] 69)).alloc (.cells zs 34)).drew = .ok () w2 := hst
  generalize (2 ^ m : Nat) = N at hmk' hst
  clear hm hf hA hB gN mp f2 sz eH ho fA fB hz h
  go_enter Try.func23, Try.ntmps23
  go_wp2_with (go_at_call 39; refine (swithin_any _ _ _ _).mono ?_; rintro e w1 ⟨rfl, rfl⟩; first | rw [h1] | rw [h2])
  go_region
  all_goals go_wp2_with fail
  all_goals go_ret
  all_goals exact ⟨rfl, HC.out⟩

theorem add_any (w : World) (p : Pb) (L : List Nd) (h : IsP w p L) (id rx : Int) : Calls Try.prog 23 #[.pointer (some ⟨p.b, 0, none⟩), .int .i64 id, .int .i64 rx] w fun e w' => e = .returned (.int .i64 (addE L id rx)) ∧ Chg w p L w' (addS L id rx) := by
  unfold addS addE
  cases ho : okA id rx with
  | false => exact (add_arg w _ id rx ho).mono fun _ _ ⟨h1, h2⟩ => ⟨h1, by rw [h2]; exact Chg.same h (Fr.refl _ _)⟩
  | true =>
    cases hf : fnd L id with
    | some y => exact (add_full w p L h id rx ho y hf).mono fun _ _ ⟨h1, h2⟩ => ⟨h1, Chg.same h h2⟩
    | none =>
      obtain ⟨m, rfl⟩ := Int.eq_ofNat_of_zero_le (show 0 ≤ rx by have := (okA_iff.mp ho).2; omega)
      exact add_ok w p L h id m ho hf

/-! ### DropNode -/
theorem eg_full : ∀ args w, (callFunc 34 args).run Try.prog w = .ok (.enter 34 args) w := enters_of Try.func34 (by kernel_rfl) rfl

set_option maxRecDepth 100000 in
set_option maxHeartbeats 2000000 in
theorem indexf_any (w : World) (g N : Nat) (sl : Nat → K) (n : Nd) (hn : n.sl = sl) (h : SlB w g N sl) (hN : N ≤ 16) : Calls Try.prog 53 #[.slice (some ⟨g, 0, none⟩) N N, .func (.func 34) #[] #[]] w fun e w' => ∃ i : Int, e = .returned (.int .i64 i) ∧ Fr none' w w' ∧ (decide (0 ≤ i)) = fulN n N := by
  have eg := eg_full
  subst hn
  go_enter Try.func53, Try.ntmps53
  go_wp2_with fail
  go_loopw [8] (fun i wr => ∃ k : Nat, k ≤ N ∧ i = .int .i64 k ∧ Fr none' w wr ∧ fulN n k = false) (fun i _ => N - (intOf i).toNat)
  case atStart => exact ⟨0, by omega, rfl, Fr.refl _ _, rfl⟩
  case round =>
    obtain ⟨k, hk, rfl, fk, hF⟩ := hrel
    by_cases hlt : k < N
    · have hW := h.keep fk (fun h => h)
      obtain ⟨d0, d1, d2, d3, d4, d5, d6, d7⟩ := hW.cells k hlt
      have hc := isfull_any (n.sl k) wr
      have HF : Hid (fulN n (k + 1) = (fulN n k || (n.sl k).k != 0)) := rfl
      have HX : Hid (∀ j, k < j → j ≤ N → ((n.sl k).k != 0) = true → fulN n j = true) := fun j h1 h2 h3 => (fulN_iff n j).2 ⟨k, h1, by simpa using h3⟩
      have HG : Hid (((n.sl k).k != 0) = true → fulN n N = true) := fun h3 => (fulN_iff n N).2 ⟨k, hlt, by simpa using h3⟩
      clear HX hW
      generalize n.sl k = c at *
      obtain ⟨k', o', r', b', x', g', n', d'⟩ := c
      dsimp only at d0 d1 d2 d3 d4 d5 d6 d7 HF HG
      replace hc : Calls Try.prog 34 #[.agg #[.int .i64 k', .int .i64 o', .int .i64 r', .int .i64 b', .int .i64 x', .int .i64 g', .int .i64 n', .bool d']] wr fun e w' => e = .returned (.bool (k' != 0)) ∧ Fr none' wr w' := hc
      cases hb : (k' != 0) with
      | true =>
        rw [hb] at hc HG
        go_wp2_with fail
        refine hc.mono ?_
        rintro e w1 ⟨rfl, f1⟩
        go_wp2_with fail
        go_ret
        exact ⟨k, rfl, fk.trans f1, by rw [HG.out trivial]; simp⟩
      | false =>
        rw [hb] at hc HF
        go_wp2_with fail
        refine hc.mono ?_
        rintro e w1 ⟨rfl, f1⟩
        go_wp2_with fail
        go_roundw
        case rel => exact ⟨k + 1, by omega, by go_num, fk.trans f1, by rw [HF.out, hF]; rfl⟩
        case measure => simp [intOf]; omega
    · obtain rfl : k = N := by omega
      go_wp2_with fail
      go_ret
      exact ⟨-1, rfl, fk, by rw [hF]; rfl⟩

set_option maxRecDepth 100000 in
theorem contains_any (w : World) (g N : Nat) (n : Nd) (h : SlB w g N n.sl) (hN : N ≤ 16) : Calls Try.prog 44 #[.slice (some ⟨g, 0, none⟩) N N, .func (.func 34) #[] #[]] w fun e w' => e = .returned (.bool (fulN n N)) ∧ Fr none' w w' := by
  have hi := indexf_any w g N n.sl n rfl h hN
  generalize fulN n N = F at *
  clear h
  go_enter Try.func44, Try.ntmps44
  go_wp2_with fail
  refine hi.mono ?_
  rintro e w1 ⟨i, rfl, f1, hF⟩
  subst hF
  go_wp2_with fail
  go_ret
  exact ⟨rfl, f1⟩

set_option maxRecDepth 100000 in
set_option maxHeartbeats 1000000 in
theorem drop_none (w : World) (p : Pb) (L : List Nd) (h : IsP w p L) (id : Int) (hI : I64 id) (hf : fnd L id = none) : Calls Try.prog 24 #[.pointer (some ⟨p.b, 0, none⟩), .int .i64 id] w fun e w' => e = .returned (.int .i64 120) ∧ Fr none' w w' := by
  have hm : mapF p L id = none := by unfold mapF; rw [hf]; rfl
  have c0 := h.cell
  have l0 := h.map.look_none hI hm
  have f0 := (Fr.refl none' w).alloc (.cells #[.int .i64 0, .slice none 0 0] 69)
  clear hm hf h hI
  go_enter Try.func24, Try.ntmps24
  go_wp2_with fail
  go_ret
  exact ⟨rfl, f0⟩

set_option maxRecDepth 100000 in
set_option maxHeartbeats 1000000 in
theorem drop_full (w : World) (p : Pb) (L : List Nd) (h : IsP w p L) (id : Int) (hI : I64 id) (y : Nd) (hf : fnd L id = some y) (hF : fulN y (2 ^ y.rx) = true) : Calls Try.prog 24 #[.pointer (some ⟨p.b, 0, none⟩), .int .i64 id] w fun e w' => e = .returned (.int .i64 130) ∧ Fr none' w w' := by
  have hm : mapF p L id = some (y.rx, p.B y.id) := by unfold mapF; rw [hf]; rfl
  have c0 := h.cell
  have l0 := h.map.look_some hI hm
  have f0 := (Fr.refl none' w).alloc (.cells #[.int .i64 (y.rx : Int), .slice (some ⟨p.B y.id, 0, none⟩) (2 ^ y.rx) (2 ^ y.rx)] 69)
  have g := h.good.nd hf
  have hc := contains_any _ (p.B y.id) (2 ^ y.rx) y ((h.keep0 f0).sl y (fnd_mem hf).1) (pow4 g.lo g.hi).2
  rw [hF] at hc
  clear hm hf h hI g hF
  generalize (2 ^ y.rx : Nat) = N at *
  go_enter Try.func24, Try.ntmps24
  go_wp2_with fail
  refine hc.mono ?_
  rintro e w1 ⟨rfl, f1⟩
  go_wp2_with fail
  go_ret
  exact ⟨rfl, f0.trans f1⟩

set_option maxRecDepth 100000 in
set_option maxHeartbeats 1000000 in
theorem drop_ok (w : World) (p : Pb) (L : List Nd) (h : IsP w p L) (id : Int) (hI : I64 id) (y : Nd) (hf : fnd L id = some y) (hF : fulN y (2 ^ y.rx) = false) : Calls Try.prog 24 #[.pointer (some ⟨p.b, 0, none⟩), .int .i64 id] w fun e w' => e = .returned (.int .i64 0) ∧ Chg w p L w' (del L id) := by
  have hm : mapF p L id = some (y.rx, p.B y.id) := by unfold mapF; rw [hf]; rfl
  have c0 := h.cell
  have l0 := h.map.look_some hI hm
  have f0 := (Fr.refl none' w).alloc (.cells #[.int .i64 (y.rx : Int), .slice (some ⟨p.B y.id, 0, none⟩) (2 ^ y.rx) (2 ^ y.rx)] 69)
  have g := h.good.nd hf
  have hc := contains_any _ (p.B y.id) (2 ^ y.rx) y ((h.keep0 f0).sl y (fnd_mem hf).1) (pow4 g.lo g.hi).2
  rw [hF] at hc
  have hlen : L.length = (del L id).length + 1 := by
    obtain ⟨i, _, hi, _⟩ := fnd_at hf
    have := len_del h.good hi
    rwa [(fnd_mem hf).2] at this
  have HC : Hid (∀ w1, Fr none' w w1 → w1.cell? ⟨p.b, 0, none⟩ = some (.map (some p.m)) ∧ ∃ w2, (∀ ty, (Builtin.delete_ #[62, 3] ty #[.map (some p.m), .int .i64 id]).run Try.prog w1 = .ok (.tuple #[]) w2) ∧ Chg w p L w2 (del L id)) := fun w1 f1 => by
    have h1 := h.keep0 f1
    have h2 := h1.map
    rw [hlen] at h2
    obtain ⟨w2, hr, hm2, f2⟩ := h2.drop hI hm (f' := fun j => if j = id then none else mapF p L j) (fun _ => rfl)
    obtain ⟨q, q1, q2, q3, q4⟩ := h1.del f2 hm2
    exact ⟨h1.cell, w2, hr, q, q1, q2, (f1.mono (fun _ _ h => h.elim)).trans (q3.mono (fun _ _ h => h)), fun k hk => (q4 k hk).imp (fun h => h) (fun h => Nat.le_trans f1.size h)⟩
  clear hm hf h hI g hF hlen
  generalize (2 ^ y.rx : Nat) = N at *
  go_enter Try.func24, Try.ntmps24
  go_wp2_with fail
  refine hc.mono ?_
  rintro e w1 ⟨rfl, f1⟩
  obtain ⟨c1, w2, hrun, hC⟩ := HC.out w1 (f0.trans f1)
  clear HC hc f1 f0 l0 c0
  have HC : Hid (Chg w p L w2 (del L id)) := hC
  clear hC
  go_wp2_with fail
  go_ret
  exact ⟨rfl, HC.out⟩

theorem drop_any (w : World) (p : Pb) (L : List Nd) (h : IsP w p L) (id : Int) (hI : I64 id) : Calls Try.prog 24 #[.pointer (some ⟨p.b, 0, none⟩), .int .i64 id] w fun e w' => e = .returned (.int .i64 (drE L id)) ∧ Chg w p L w' (drS L id) := by
  unfold drS drE
  cases hf : fnd L id with
  | none => exact (drop_none w p L h id hI hf).mono fun _ _ ⟨h1, h2⟩ => ⟨h1, Chg.same h h2⟩
  | some y =>
    cases hF : fulN y (2 ^ y.rx) with
    | true => exact (drop_full w p L h id hI y hf hF).mono fun _ _ ⟨h1, h2⟩ => ⟨by simpa [hF] using h1, by simpa [hF] using Chg.same h h2⟩
    | false => exact (drop_ok w p L h id hI y hf hF).mono fun _ _ ⟨h1, h2⟩ => ⟨by simpa [hF] using h1, by simpa [hF] using h2⟩

end Go.Proofs.Ytibdkadojoeopaa
