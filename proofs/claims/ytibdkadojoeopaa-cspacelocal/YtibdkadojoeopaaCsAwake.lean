/-
  The law's own example and awake over the translation. No statement is proved here.
-/
import Derived.Test.YtibdkadojoeopaaCsDoes
namespace Go.Proofs.Ytibdkadojoeopaa
open Go.RowKit Go.Maps Go.WideMaps

/-- A space whose blocks are all newer than w. -/
structure NewP (w w' : World) (p : Pb) (L : List Nd) : Prop where
  is : IsP w' p L
  fr : Fr none' w w'
  hi : ∀ k, p.s L k → w.heap.size ≤ k

theorem NewP.step {w w1 w2 : World} {p : Pb} {L L' : List Nd} (h : NewP w w1 p L) (c : Chg w1 p L w2 L') : ∃ p' : Pb, p'.b = p.b ∧ NewP w w2 p' L' := by
  obtain ⟨p', e, h1, f, n⟩ := c
  exact ⟨p', e, h1, fr_two h.fr f (fun k hk => Or.inr (h.hi k hk)), fun k hk => by
    rcases n k hk with h2 | h2
    · exact h.hi k h2
    · have := h.fr.size; omega⟩

def exR : K := K.mk 2 10 0 0 2 5 3 false
def exL : List Nd := putS (addS (addS [] 10 2) 20 1) ⟨10, 1⟩ (K.mk 2 20 0 0 1 0 0 false)

theorem ret_tc {fn : Func} {t p : Tmp} {tmps : Array Value} {g : Nat} {cs : Array Value} {w : World} (h : fn.results = #[.tmp t, .cell p 34]) (hp : tmps.getD p undef = .pointer (some ⟨g, 0, none⟩)) (hr : Row w g cs 34) (hs : cs.size = 8) :
    (results fn tmps).run Try.prog w = .ok (.tuple #[tmps.getD t undef, .agg cs]) w := by
  have hl := load_cap hr hs
  have hp' : tmps[p]?.getD undef = .pointer (some ⟨g, 0, none⟩) := by simpa using hp
  simp only [results, h]
  simp [Result.andThen, hp', asAddr, hl]

set_option maxRecDepth 100000 in
set_option maxHeartbeats 400000 in
theorem example_any (w : World) : Calls Try.prog 25 #[] w fun e w' => ∃ p : Pb, e = .returned (.tuple #[.pointer (some ⟨p.b, 0, none⟩), .agg #[.int .i64 2, .int .i64 10, .int .i64 0, .int .i64 0, .int .i64 2, .int .i64 5, .int .i64 3, .bool false]]) ∧ IsP w' p exL ∧ Fr none' w w' := by
  have f0 := (Fr.refl none' w).alloc (.cells #[.int .i64 0, .int .i64 0, .int .i64 0, .int .i64 0, .int .i64 0, .int .i64 0, .int .i64 0, .bool false] 34)
  have r0 := row_alloc w #[.int .i64 0, .int .i64 0, .int .i64 0, .int .i64 0, .int .i64 0, .int .i64 0, .int .i64 0, .bool false] 34
  have hN := new_any (w.alloc (.cells #[.int .i64 0, .int .i64 0, .int .i64 0, .int .i64 0, .int .i64 0, .int .i64 0, .int .i64 0, .bool false] 34))
  have hsz : (w.alloc (.cells #[.int .i64 0, .int .i64 0, .int .i64 0, .int .i64 0, .int .i64 0, .int .i64 0, .int .i64 0, .bool false] 34)).heap.size = w.heap.size + 1 := by simp
  have HS : Hid ((w.alloc (.cells #[.int .i64 0, .int .i64 0, .int .i64 0, .int .i64 0, .int .i64 0, .int .i64 0, .int .i64 0, .bool false] 34)).heap.size = w.heap.size + 1) := hsz
  clear hsz
  have A1 := fun (w : World) (p : Pb) (h : IsP w p []) => add_any w p [] h 10 2
  generalize addE [] 10 2 = z1 at A1
  obtain ⟨L1, hL1⟩ : ∃ L1, L1 = addS [] 10 2 := ⟨_, rfl⟩
  rw [← hL1] at A1
  have A2 := fun (w : World) (p : Pb) (h : IsP w p L1) => add_any w p L1 h 20 1
  generalize addE L1 20 1 = z2 at A2
  obtain ⟨L2, hL2⟩ : ∃ L2, L2 = addS L1 20 1 := ⟨_, rfl⟩
  rw [← hL2] at A2
  obtain ⟨L3, hL3⟩ : ∃ L3, L3 = putS L2 ⟨10, 1⟩ (K.mk 2 20 0 0 1 0 0 false) := ⟨_, rfl⟩
  have A3 : ∀ (w : World) (p : Pb), IsP w p L2 → Calls Try.prog 19 #[.pointer (some ⟨p.b, 0, none⟩), .agg #[.int .i64 10, .int .i64 1], .agg #[.int .i64 2, .int .i64 20, .int .i64 0, .int .i64 0, .int .i64 1, .int .i64 0, .int .i64 0, .bool false]] w fun e w' => (∃ z, e = .returned (.int .i64 z)) ∧ Chg w p L2 w' L3 := fun w p h => by
    rw [hL3]
    exact (put_any w p L2 h ⟨10, 1⟩ ⟨by decide, by decide⟩ (K.mk 2 20 0 0 1 0 0 false) ⟨by decide, by decide⟩).mono fun _ _ ⟨h1, h2⟩ => ⟨⟨_, h1⟩, h2⟩
  have hex : exL = L3 := by unfold exL; rw [hL3, hL2, hL1]
  rw [hex]
  clear hex hL1 hL2 hL3
  go_enter Try.func25, Try.ntmps25
  go_wp2_with fail
  refine hN.mono ?_
  rintro e w1 ⟨p, rfl, h1, f1, n1⟩
  have N1 : NewP (w.alloc (.cells #[.int .i64 0, .int .i64 0, .int .i64 0, .int .i64 0, .int .i64 0, .int .i64 0, .int .i64 0, .bool false] 34)) w1 p [] := ⟨h1, f1, n1⟩
  clear hN h1 f1 n1
  go_wp2_with fail
  refine (A1 w1 p N1.is).mono ?_
  rintro e w2 ⟨rfl, c2⟩
  obtain ⟨p2, e2, N2⟩ := N1.step c2
  have B2 := A2 w2 p2 N2.is
  rw [e2] at B2
  have HE2 : Hid (p2.b = p.b) := e2
  clear c2 N1 A1 A2 e2
  go_wp2_with fail
  refine B2.mono ?_
  rintro e w3 ⟨rfl, c3⟩
  obtain ⟨p3, e3, N3⟩ := N2.step c3
  have B3 := A3 w3 p3 N3.is
  rw [e3, HE2.out] at B3
  have HE3 : Hid (p3.b = p.b) := e3.trans HE2.out
  clear c3 N2 B2 A3 e3
  go_wp2_with fail
  refine B3.mono ?_
  rintro e w4 ⟨⟨z3, rfl⟩, c4⟩
  obtain ⟨p4, e4, N4⟩ := N3.step c4
  have HE4 : Hid (p4.b = p.b) := e4.trans HE3.out
  clear c4 N3 B3 e4
  have h4 : IsP w4 p4 L3 := N4.is
  have hne : ¬ p4.s L3 w.heap.size := fun e => by have := N4.hi _ e; have := HS.out; omega
  have F4 := f0.trans N4.fr
  replace r0 := r0.keep N4.fr (fun h => h)
  obtain ⟨k0, k1, k2, k3, k4, k5, k6, k7⟩ := cbox_cells (k := 0) (o := 0) (r := 0) (b := 0) (x := 0) (g := 0) (n := 0) (d := false) r0
  obtain ⟨z0, z1, z2, z3, z4, z5, z6, z7⟩ := cbox_frozen r0
  have HR : Hid (Row (cput w4 w.heap.size 2 10 0 0 2 5 3 false) w.heap.size (cbox 2 10 0 0 2 5 3 false) 34 ∧ IsP (cput w4 w.heap.size 2 10 0 0 2 5 3 false) p4 L3 ∧ Fr none' w (cput w4 w.heap.size 2 10 0 0 2 5 3 false)) :=
    ⟨cbox_set (k := 0) (o := 0) (r := 0) (b := 0) (x := 0) (g := 0) (n := 0) (d := false) r0, h4.keep (cbox_fr (S := at' w.heap.size) (p := w.heap.size) 2 10 0 0 2 5 3 false (Fr.refl _ w4) (Or.inr rfl)) (fun k hk e => hne (e ▸ hk)), cbox_fr 2 10 0 0 2 5 3 false F4 (Or.inl (Nat.le_refl _))⟩
  clear r0 F4 h4 hne N4 f0 HS
  go_wp2_with fail
  refine bodyPost_ret (ret_tc rfl rfl HR.out.1 rfl) rfl ?_
  exact ⟨p4, by rw [HE4.out]; rfl, HR.out.2.1, HR.out.2.2⟩

theorem ex1 : resR exL exR 21 5 = ⟨⟨10, 1⟩, 0, 0⟩ := by
  have h1 : (resR exL exR 21 5).at'.n = 10 := by decide +kernel
  have h2 : (resR exL exR 21 5).at'.i = 1 := by decide +kernel
  have h3 : (resR exL exR 21 5).left = 0 := by decide +kernel
  have h4 : (resR exL exR 21 5).e = 0 := by decide +kernel
  revert h1 h2 h3 h4
  generalize resR exL exR 21 5 = R
  obtain ⟨⟨a, b⟩, c, d⟩ := R
  rintro rfl rfl rfl rfl
  rfl
theorem ex2 : resR exL exR 171 8 = ⟨⟨20, 0⟩, 2, 0⟩ := by
  have h1 : (resR exL exR 171 8).at'.n = 20 := by decide +kernel
  have h2 : (resR exL exR 171 8).at'.i = 0 := by decide +kernel
  have h3 : (resR exL exR 171 8).left = 2 := by decide +kernel
  have h4 : (resR exL exR 171 8).e = 0 := by decide +kernel
  revert h1 h2 h3 h4
  generalize resR exL exR 171 8 = R
  obtain ⟨⟨a, b⟩, c, d⟩ := R
  rintro rfl rfl rfl rfl
  rfl
theorem ex3 : resR exL exR 17 5 = ⟨⟨0, 0⟩, 0, 122⟩ := by
  have h4 : (resR exL exR 17 5).e = 122 := by decide +kernel
  rw [resR_bad (by rw [h4]; decide), h4]
  rfl
theorem ex4 : slotE exL exR 171 8 = 123 ∧ slotA exL exR 171 8 = ⟨0, 0⟩ := by
  have h : slotE exL exR 171 8 = 123 := by decide +kernel
  refine ⟨h, ?_⟩
  unfold slotA
  rw [h]
  rfl
theorem ex5 : drE exL 10 = 130 := by decide +kernel

end Go.Proofs.Ytibdkadojoeopaa
