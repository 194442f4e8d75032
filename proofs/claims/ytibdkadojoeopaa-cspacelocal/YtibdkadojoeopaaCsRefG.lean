/-
  Contracts of the document's Radix, Get and Put over the translation. No statement is proved here.
-/
import Derived.Test.YtibdkadojoeopaaCsRef
namespace Go.Proofs.Ytibdkadojoeopaa
open Go.RowKit Go.Maps Go.WideMaps

set_option maxRecDepth 100000 in
set_option maxHeartbeats 1000000 in
theorem rradix_any (w : World) (q : Qb) (L : List Nd) (h : IsQ w q L) (k : Int) :
    Calls Try.prog 16 #[.pointer (some ⟨q.b, 0, none⟩), .int .i64 k] w fun e w' => e = .returned (.int .i64 (radS L k)) ∧ w' = w := by
  have c0 := h.cell
  obtain ⟨a, cap, hv, hcap, hn⟩ := h.form
  rw [hv] at c0
  have HN := fun i n hi => hn i n hi
  have HN' : Hid (∀ i n, L[i]? = some n → i < L.length ∧ ∃ g, a = some ⟨g, 0, none⟩ ∧ w.cell? ⟨g, i * 3 + 1, none⟩ = some (.int .i64 (n.rx : Int))) := fun i n hi => by
    obtain ⟨g, h1, _, h2, _⟩ := hn i n hi
    refine ⟨?_, g, h1, h2⟩
    rcases Nat.lt_or_ge i L.length with h' | h'
    · exact h'
    · rw [List.getElem?_eq_none h'] at hi; cases hi
  have hA := rat_any w q L h k
  clear HN hn hv hcap h
  generalize L.length = N at *
  go_enter Try.func16, Try.ntmps16
  go_wp2_with fail
  refine hA.mono ?_
  rintro e w1 ⟨rfl, ⟨hf, rfl⟩ | ⟨i, n, hf, hi, rfl⟩⟩
  · have HR : Hid (radS L k = 0) := by show _ = _; unfold radS; rw [hf]
    clear hA hf
    go_wp2_with fail
    go_ret
    exact ⟨by rw [HR.out]; rfl, rfl⟩
  · have HR : Hid (radS L k = n.rx) := by show _ = _; unfold radS; rw [hf]
    obtain ⟨hlt, g, rfl, d1⟩ := HN'.out i n hi
    clear hA hi hf
    go_wp2_with fail
    go_ret
    exact ⟨by rw [HR.out]; rfl, rfl⟩

/-- What is asked of the row of nodes, at one node. -/
structure AtN (w : World) (q : Qb) (L : List Nd) (i : Nat) (n : Nd) (g cap N S G : Nat) : Prop where
  c0 : w.cell? ⟨q.b, 0, none⟩ = some (.slice (some ⟨g, 0, none⟩) N cap)
  lt : i < N
  c2 : w.cell? ⟨g, i * 3 + 2, none⟩ = some (.slice (some ⟨G, 0, none⟩) S S)
  sl : SlB w G S n.sl
  gb : q.s L g
  Gb : q.s L G

theorem IsQ.atN {w : World} {q : Qb} {L : List Nd} (h : IsQ w q L) {i : Nat} {n : Nd} (hi : L[i]? = some n) : ∃ g cap N S, S = 2 ^ n.rx ∧ AtN w q L i n g cap N S (q.C n.id) := by
  obtain ⟨a, cap, hv, _, hn⟩ := h.form
  obtain ⟨g, rfl, _, _, h2⟩ := hn i n hi
  have c0 := h.cell
  rw [hv] at c0
  refine ⟨g, cap, L.length, _, rfl, c0, ?_, h2, h.sl n (List.mem_of_getElem? hi), Or.inr (Or.inl (by rw [hv]; rfl)), Or.inr (Or.inr ⟨n, List.mem_of_getElem? hi, rfl⟩)⟩
  rcases Nat.lt_or_ge i L.length with h' | h'
  · exact h'
  · rw [List.getElem?_eq_none h'] at hi; cases hi

set_option maxRecDepth 100000 in
set_option maxHeartbeats 1000000 in
theorem rget_none (w : World) (q : Qb) (L : List Nd) (h : IsQ w q L) (a i : Int) (hf : fnd L a = none) :
    Calls Try.prog 22 #[.pointer (some ⟨q.b, 0, none⟩), .agg #[.int .i64 a, .int .i64 i]] w fun e w' => e = .returned (.tuple #[.agg (capV K0), .int .i64 120]) ∧ Fr none' w w' := by
  have fA := ((Fr.refl none' w).alloc (.cells #[.int .i64 a, .int .i64 i] 32)).alloc (.cells #[.int .i64 0, .int .i64 0, .int .i64 0, .int .i64 0, .int .i64 0, .int .i64 0, .int .i64 0, .bool false] 34)
  have rA := row_alloc1 w (.cells #[.int .i64 a, .int .i64 i] 32) #[.int .i64 0, .int .i64 0, .int .i64 0, .int .i64 0, .int .i64 0, .int .i64 0, .int .i64 0, .bool false] 34
  have hA := rat_any _ q L (h.keep0 fA) a
  have HR : Hid (Row ((w.alloc (.cells #[.int .i64 a, .int .i64 i] 32)).alloc (.cells #[.int .i64 0, .int .i64 0, .int .i64 0, .int .i64 0, .int .i64 0, .int .i64 0, .int .i64 0, .bool false] 34)) (w.heap.size + 1) #[.int .i64 0, .int .i64 0, .int .i64 0, .int .i64 0, .int .i64 0, .int .i64 0, .int .i64 0, .bool false] 34) := rA
  clear h rA
  go_enter Try.func22, Try.ntmps22
  go_wp2_with fail
  refine hA.mono ?_
  rintro e w1 ⟨rfl, ⟨_, rfl⟩ | ⟨j, n, hf', _, rfl⟩⟩
  · clear hA hf
    go_wp2_with fail
    refine bodyPost_ret (ret_cap_tmp rfl rfl HR.out rfl) rfl ?_
    exact ⟨rfl, fA⟩
  · rw [hf] at hf'; cases hf'

set_option maxRecDepth 100000 in
set_option maxHeartbeats 1000000 in
theorem rget_out (w : World) (q : Qb) (L : List Nd) (h : IsQ w q L) (a i : Int) (n : Nd) (hf : fnd L a = some n) (hi : ¬ (0 ≤ i ∧ i < 2 ^ n.rx)) :
    Calls Try.prog 22 #[.pointer (some ⟨q.b, 0, none⟩), .agg #[.int .i64 a, .int .i64 i]] w fun e w' => e = .returned (.tuple #[.agg (capV K0), .int .i64 1]) ∧ Fr none' w w' := by
  have fA := ((Fr.refl none' w).alloc (.cells #[.int .i64 a, .int .i64 i] 32)).alloc (.cells #[.int .i64 0, .int .i64 0, .int .i64 0, .int .i64 0, .int .i64 0, .int .i64 0, .int .i64 0, .bool false] 34)
  have rA := row_alloc1 w (.cells #[.int .i64 a, .int .i64 i] 32) #[.int .i64 0, .int .i64 0, .int .i64 0, .int .i64 0, .int .i64 0, .int .i64 0, .int .i64 0, .bool false] 34
  have rB := (row_alloc w #[.int .i64 a, .int .i64 i] 32).alloc (.cells #[.int .i64 0, .int .i64 0, .int .i64 0, .int .i64 0, .int .i64 0, .int .i64 0, .int .i64 0, .bool false] 34)
  have h0 := h.keep0 fA
  have hA := rat_any _ q L h0 a
  have eN : ((2 ^ n.rx : Nat) : Int) = (2 : Int) ^ n.rx := by push_cast; rfl
  rw [← eN] at hi
  clear h eN
  go_enter Try.func22, Try.ntmps22
  go_wp2_with fail
  refine hA.mono ?_
  rintro e w1 ⟨rfl, ⟨hf', rfl⟩ | ⟨j, n', hf', hj, rfl⟩⟩
  · rw [hf] at hf'; cases hf'
  · rw [hf] at hf'
    cases hf'
    obtain ⟨g, cap, N, S, hS, c0, hlt, c2, _⟩ := h0.atN hj
    rw [← hS] at hi
    generalize q.C n.id = G at *
    clear hA hf hj h0 hS
    generalize ((w.alloc (.cells #[.int .i64 a, .int .i64 i] 32)).alloc (.cells #[.int .i64 0, .int .i64 0, .int .i64 0, .int .i64 0, .int .i64 0, .int .i64 0, .int .i64 0, .bool false] 34)) = v0 at *
    obtain ⟨k0, k1, k2, k3, k4, k5, k6, k7⟩ := cbox_cells (k := 0) (o := 0) (r := 0) (b := 0) (x := 0) (g := 0) (n := 0) (d := false) rA
    obtain ⟨z0, z1, z2, z3, z4, z5, z6, z7⟩ := cbox_frozen rA
    obtain ⟨s0, s1, q0, q1⟩ := pair_cells rB
    have HR : Hid (∀ m, Row (cput (v0.drewN m) (w.heap.size + 1) 0 0 0 0 0 0 0 false) (w.heap.size + 1) #[.int .i64 0, .int .i64 0, .int .i64 0, .int .i64 0, .int .i64 0, .int .i64 0, .int .i64 0, .bool false] 34 ∧ Fr none' w (cput (v0.drewN m) (w.heap.size + 1) 0 0 0 0 0 0 0 false)) := fun m => ⟨cbox_set (k := 0) (o := 0) (r := 0) (b := 0) (x := 0) (g := 0) (n := 0) (d := false) (rA.keep (fr_drewN v0 m) (fun h => h)), cbox_fr _ _ _ _ _ _ _ _ (fA.trans (fr_drewN v0 m)) (Or.inl (by omega))⟩
    clear rA rB fA
    by_cases hneg : i < 0
    · have t1 : decide (i < 0) = true := decide_eq_true hneg
      clear hi hneg
      go_wp2_with fail
      go_quiet (fail)
      go_wp2_with fail
      refine bodyPost_ret (ret_cap_tmp rfl rfl (HR.out _).1 rfl) rfl ?_
      exact ⟨rfl, (HR.out _).2⟩
    · have t1 : decide (i < 0) = false := decide_eq_false hneg
      have t2 : decide ((S : Int) ≤ i) = true := by simp; omega
      clear hi hneg
      go_wp2_with fail
      go_quiet (fail)
      go_wp2_with fail
      refine bodyPost_ret (ret_cap_tmp rfl rfl (HR.out _).1 rfl) rfl ?_
      exact ⟨rfl, (HR.out _).2⟩

set_option maxRecDepth 100000 in
set_option maxHeartbeats 1000000 in
theorem rget_ok (w : World) (q : Qb) (L : List Nd) (h : IsQ w q L) (a : Int) (j : Nat) (n : Nd) (hf : fnd L a = some n) (hjS : j < 2 ^ n.rx) :
    Calls Try.prog 22 #[.pointer (some ⟨q.b, 0, none⟩), .agg #[.int .i64 a, .int .i64 (j : Int)]] w fun e w' => e = .returned (.tuple #[.agg (capV (n.sl j)), .int .i64 0]) ∧ Fr none' w w' := by
  have fA := ((Fr.refl none' w).alloc (.cells #[.int .i64 a, .int .i64 (j : Int)] 32)).alloc (.cells #[.int .i64 0, .int .i64 0, .int .i64 0, .int .i64 0, .int .i64 0, .int .i64 0, .int .i64 0, .bool false] 34)
  have rA := row_alloc1 w (.cells #[.int .i64 a, .int .i64 (j : Int)] 32) #[.int .i64 0, .int .i64 0, .int .i64 0, .int .i64 0, .int .i64 0, .int .i64 0, .int .i64 0, .bool false] 34
  have rB := (row_alloc w #[.int .i64 a, .int .i64 (j : Int)] 32).alloc (.cells #[.int .i64 0, .int .i64 0, .int .i64 0, .int .i64 0, .int .i64 0, .int .i64 0, .int .i64 0, .bool false] 34)
  have h0 := h.keep0 fA
  have hA := rat_any _ q L h0 a
  have HB : Hid (∀ k, q.s L k → k < w.heap.size) := fun k hk => h.lt k hk
  obtain ⟨c, hc⟩ : ∃ c, c = n.sl j := ⟨_, rfl⟩
  rw [← hc]
  obtain ⟨k', o', r', b', x', g', n', d'⟩ := c
  have gn := h.good.nd hf
  have h16 := (pow4 gn.lo gn.hi).2
  clear h gn
  go_enter Try.func22, Try.ntmps22
  go_wp2_with fail
  refine hA.mono ?_
  rintro e w1 ⟨rfl, ⟨hf', rfl⟩ | ⟨m, y, hf', hj, rfl⟩⟩
  · rw [hf] at hf'; cases hf'
  · rw [hf] at hf'
    cases hf'
    obtain ⟨g, cap, N, S, hS, c0, hlt, c2, sl, gb, Gb⟩ := h0.atN hj
    rw [← hS] at hjS h16
    have n1 := HB.out _ gb
    have n2 := HB.out _ Gb
    generalize q.C n.id = G at *
    clear hA hf hj h0 hS gb Gb HB
    generalize ((w.alloc (.cells #[.int .i64 a, .int .i64 (j : Int)] 32)).alloc (.cells #[.int .i64 0, .int .i64 0, .int .i64 0, .int .i64 0, .int .i64 0, .int .i64 0, .int .i64 0, .bool false] 34)) = v0 at *
    obtain ⟨d0, d1, d2, d3, d4, d5, d6, d7⟩ := sl.cells j hjS
    rw [← hc] at d0 d1 d2 d3 d4 d5 d6 d7
    dsimp only at d0 d1 d2 d3 d4 d5 d6 d7
    obtain ⟨k0, k1, k2, k3, k4, k5, k6, k7⟩ := cbox_cells (k := 0) (o := 0) (r := 0) (b := 0) (x := 0) (g := 0) (n := 0) (d := false) rA
    obtain ⟨z0, z1, z2, z3, z4, z5, z6, z7⟩ := cbox_frozen rA
    obtain ⟨s0, s1, q0, q1⟩ := pair_cells rB
    have HR : Hid (∀ m, Row (cput (v0.drewN m) (w.heap.size + 1) k' o' r' b' x' g' n' d') (w.heap.size + 1) (cbox k' o' r' b' x' g' n' d') 34 ∧ Fr none' w (cput (v0.drewN m) (w.heap.size + 1) k' o' r' b' x' g' n' d')) := fun m => ⟨cbox_set (k := 0) (o := 0) (r := 0) (b := 0) (x := 0) (g := 0) (n := 0) (d := false) (rA.keep (fr_drewN v0 m) (fun h => h)), cbox_fr _ _ _ _ _ _ _ _ (fA.trans (fr_drewN v0 m)) (Or.inl (by omega))⟩
    have t1 : decide ((j : Int) < 0) = false := by simp
    have t2 : decide ((S : Int) ≤ (j : Int)) = false := by simp; omega
    clear rA rB fA sl hc
    go_wp2_with fail
    go_quiet (fail)
    go_wp2_with fail
    go_region
    all_goals go_wp2_with fail
    all_goals (refine bodyPost_ret (ret_cap_tmp rfl rfl (HR.out _).1 rfl) rfl ?_; exact ⟨rfl, (HR.out _).2⟩)

theorem rget_any (w : World) (q : Qb) (L : List Nd) (h : IsQ w q L) (a : Rf) :
    Calls Try.prog 22 #[.pointer (some ⟨q.b, 0, none⟩), .agg #[.int .i64 a.n, .int .i64 a.i]] w fun e w' => e = .returned (.tuple #[.agg (capV (getC L a)), .int .i64 (getE L a)]) ∧ Fr none' w w' := by
  obtain ⟨a, i⟩ := a
  rcases ref_cases L a i with hf | ⟨n, hf, hi | ⟨j, rfl, hj⟩⟩
  · rw [(getE_none hf).1, (getE_none hf).2]
    exact rget_none w q L h a i hf
  · rw [(getE_out hf hi).1, (getE_out hf hi).2]
    exact rget_out w q L h a i n hf hi
  · rw [(getE_ok hf hj).1, (getE_ok hf hj).2]
    exact rget_ok w q L h a j n hf hj

end Go.Proofs.Ytibdkadojoeopaa
