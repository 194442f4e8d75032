/-
  Waiting, over the translation. No statement is proved here.
-/
import Derived.Test.YtjobdfkfongjaaaIpCanB
namespace Go.Proofs.Ytjobdfkfongjaaa
open Go.RowKit Go.Maps Go.WideMaps Go.Shelf

/-- Behind k rounds over a queue: whom the list holds. -/
structure Wt (w : World) (b : Nat) (l0 l : List Int) (s o ep : Int) (ab xb k : Nat) (W : World) : Prop where
  fr : Fr none' w W
  ex : ∃ a n c, Row W w.heap.size #[.slice a n c] 37 ∧ OI w.heap.size W (.slice a n c) (l0 ++ l.take k)
  ar : Row W ab #[.int .i64 2, .int .i64 ep, .int .i64 3, .int .i64 ep] 82
  x4 : Row W xb #[pv b] 24
  x5 : Row W (xb + 1) #[.int .i64 s, .int .i64 o] 82

/-- The same, and what an earlier loop left. -/
def Wt2 (D : Nat) (w : World) (b : Nat) (l0 l : List Int) (s o ep : Int) (ab xb k : Nat) (W : World) : Prop := Wt w b l0 l s o ep ab xb k W ∧ W.heap[D]? = some (.deferred (some []))
/-- Between two rounds over the places. -/
structure Wl (w : World) (ab : Nat) (l0 : List Int) (ep : Int) (W : World) : Prop where
  fr : Fr none' w W
  ex : ∃ a n c, Row W w.heap.size #[.slice a n c] 37 ∧ OI w.heap.size W (.slice a n c) l0
  ar : Row W ab #[.int .i64 2, .int .i64 ep, .int .i64 3, .int .i64 ep] 82

section
variable {w : World} {p : Pb} {S : Ip} {l0 : List Int} {s o ep : Int} {ab xb : Nat}
theorem wt_own {B : Nat} {l : List Int} (hB : w.heap.size ≤ B) : OwnFrom B (Wt w p.b l0 l s o ep ab xb) := by
  intro k W W' row h hg hr
  have hr' : ∀ r, row = some r → ∃ o : Obj, W.heap[r]? = some o ∧ o.isCells = false := fun r e => (hr r e).2
  obtain ⟨a, n, c, r, hO⟩ := h.ex
  exact ⟨fr_grown h.fr hg hB (fun r e => (hr r e).1), ⟨a, n, c, row_grown r hg hr', ownsRow_grown hO hg hr'⟩, row_grown h.ar hg hr', row_grown h.x4 hg hr', row_grown h.x5 hg hr'⟩
theorem wt2_own {B D : Nat} {l : List Int} (hB : w.heap.size ≤ B) (hD : D < B) : OwnFrom B (Wt2 D w p.b l0 l s o ep ab xb) := by
  intro k W W' row h hg hr
  refine ⟨wt_own hB k W W' row h.1 hg hr, ((fr_of_grown' hg).block D (Array.getElem?_eq_some_iff.1 h.2).1 (fun e => ?_)).trans h.2⟩
  have := (hr D e.symm).1
  omega
theorem wt_round (h : IsI w p S) (ok : Ok S) (hl0 : l0.length ≤ 1024) {k : Nat} {W : World} (hc : Wt w p.b l0 (S.q s o) s o ep ab xb k W) (hk : k < (S.q s o).length) :
    ∃ g x a n c a' n' c' w4, g = p.B ((S.q s o).getD k 0) ∧ W.cell? ⟨w.heap.size, 0, none⟩ = some (.slice a n c) ∧ w.heap.size < W.heap.size ∧ W.cell? ⟨g, 0, none⟩ = some (.int .i64 x) ∧
      (Builtin.append_ #[37, 37] 37 #[.slice a n c, .slice (some ⟨W.heap.size, 0, none⟩) 1 1]).run Try.prog (W.drew.alloc (.cells #[.int .i64 x] 3)) = .ok (.slice a' n' c') w4 ∧ (∃ u, w4.cell? ⟨w.heap.size, 0, none⟩ = some u) ∧ w4.frozen? ⟨w.heap.size, 0, none⟩ = false ∧
      Wt w p.b l0 (S.q s o) s o ep ab xb (k + 1) (w4.setCell ⟨w.heap.size, 0, none⟩ (.slice a' n' c')) ∧ ∀ B, w.heap.size < B → KeepsFrom B W (w4.setCell ⟨w.heap.size, 0, none⟩ (.slice a' n' c')) := by
  obtain ⟨a, n, c, r, hO⟩ := hc.ex
  have hx : (S.q s o).getD k 0 = (S.q s o)[k] := by simp [List.getD_eq_getElem?_getD, hk]
  obtain ⟨u, hu, _⟩ := (ok.mem s o _).1 (List.getElem_mem hk)
  have hid := ((h.keep0 hc.fr).look hu).ci
  rw [fnd_i hu] at hid
  have hO' : OI w.heap.size W.drew (.slice a n c) (l0 ++ (S.q s o).take k) := hO.keep0 (Fr.refl none' W).drew
  obtain ⟨v', w4, hrun, f4, own4, _⟩ := app_i W.drew w.heap.size (.slice a n c) _ _ hO' (by
    have := ok.len s o
    rw [List.length_append, List.length_take]
    omega) hc.fr.size (S.q s o)[k]
  obtain ⟨va, vn, vc, rfl⟩ : ∃ a n c, v' = .slice a n c := by
    rcases own4.2 with h' | ⟨g, cap, _, h', _⟩
    · exact ⟨_, _, _, h'.1⟩
    · exact ⟨_, _, _, h'⟩
  have dr : ∀ {q : Nat} {cs : Array Value} {ty : TypeId}, Row W q cs ty → Row W.drew q cs ty := fun r => r
  have r4 := fr_append f4 hO' (dr r) (by decide)
  have f5 := fr_set w4 w.heap.size 0 (.slice va vn vc) (Fr.refl (at' w.heap.size) w4)
  have st : ∀ {q : Nat} {cs : Array Value} {ty : TypeId}, Row W q cs ty → ty ≠ 3 → ty ≠ 37 → Row (w4.setCell ⟨w.heap.size, 0, none⟩ (.slice va vn vc)) q cs ty := fun {q cs ty} r' a1 a2 => (fr_append f4 hO' (dr r') a1).keep f5 (fun e => by
    have e : q = w.heap.size := e
    subst e
    exact a2 (row_ty r' r).1)
  refine ⟨_, (S.q s o)[k], a, n, c, va, vn, vc, w4, by rw [hx], r.cell 0, r.lt, hid, hrun, ⟨_, r4.cell 0⟩, r4.frozen 0, ⟨?_, ⟨va, vn, vc, r4.setCell 0 _, ?_⟩, st hc.ar (by decide) (by decide), st hc.x4 (by decide) (by decide), st hc.x5 (by decide) (by decide)⟩, ?_⟩
  · refine fr_high (fr_high (hc.fr.trans (Fr.refl none' W).drew) f4 (fun q e => (own_rowB hO' e).1)) f5 (fun q e => by have e : q = w.heap.size := e; omega)
  · have := setCell_own own4 r4 (by decide) (.slice va vn vc)
    unfold OI
    rw [List.take_succ_eq_append_getElem hk, ← List.append_assoc, List.map_append, List.length_append]
    exact this
  · intro B hB
    exact (keepsC (Fr.refl none' W).drew (fun _ h => h.elim)).trans ((keepsC f4 (fun q e => Or.inr (by obtain ⟨_, cur, r⟩ := own_rowB hO' e; exact ⟨cur, 3, r⟩))).trans (keepsC f5 (fun q e => by have e : q = w.heap.size := e; exact Or.inl (by omega))))
end

theorem alloc_old {W : World} {D : Nat} {o o' : Obj} (h : W.heap[D]? = some o) : (W.alloc o').heap[D]? = some o :=
  ((Fr.refl none' W).alloc o').block D (Array.getElem?_eq_some_iff.1 h).1 (fun h => h) |>.trans h
section
attribute [local go_sem] Oper.semAt_some
attribute [local go_sem ↓ high] builtin_app

set_option maxRecDepth 100000 in
set_option maxHeartbeats 4000000 in
theorem waiting_any (w : World) (p : Pb) (S : Ip) (h : IsI w p S) (ok : Ok S) (ep : Int) (he : I64 ep) :
    Calls Try.prog 17 #[pv p.b, .int .i64 ep] w fun e w' => ∃ v, e = .returned v ∧ Fr none' w w' ∧ OI w.heap.size w' v (waiL S ep) := by
  refine (callsIn_wide (n := 5)).1 ?_
  refine callsIn_of_wp_marks Try.func17 rfl trivial ?_ rfl
  simp only [Try.ntmps17, List.size_toArray, List.length_cons, List.length_nil, Nat.reduceAdd, Nat.reduceSub, Array.replicate_succ, Array.replicate_zero, List.push_toArray, List.append_toArray, List.nil_append, List.cons_append]
  gi_wp2_with fail
  refine ⟨trivial, (callsIn_wide.2 (senders_any _ _)).mono ?_⟩
  rintro e wa ⟨rfl, fa⟩
  gi_wp2_with fail
  refine ⟨trivial, (callsIn_wide.2 (receivers_any _ _)).mono ?_⟩
  rintro e wb ⟨rfl, fb⟩
  gi_wp2_with fail
  have F : Fr none' w (wb.alloc (.cells #[.int .i64 2, .int .i64 ep, .int .i64 3, .int .i64 ep] 82)) := ((((Fr.refl none' w).alloc (.cells #[.slice none 0 0] 37)).trans fa).trans fb).alloc _
  have R5 : Row (wb.alloc (.cells #[.int .i64 2, .int .i64 ep, .int .i64 3, .int .i64 ep] 82)) w.heap.size #[.slice none 0 0] 37 := (((row_alloc w #[.slice none 0 0] 37).keep fa (fun h => h)).keep fb (fun h => h)).alloc _
  have RA := row_alloc wb #[.int .i64 2, .int .i64 ep, .int .i64 3, .int .i64 ep] 82
  have i2 : I64 2 := i64s (by omega) (by omega)
  have i3 : I64 3 := i64s (by omega) (by omega)
  generalize wb.alloc (.cells #[.int .i64 2, .int .i64 ep, .int .i64 3, .int .i64 ep] 82) = W0 at *
  generalize wb.heap.size = ab at *
  clear fa fb
  have J0 : Wl w ab [] ep W0 := ⟨F, ⟨none, 0, 0, R5, ⟨rfl, Or.inl ⟨rfl, rfl⟩⟩⟩, RA⟩
  have a0 := RA.cell 0
  have a1 := RA.cell 1
  have J0 : Wl w ab [] ep W0 := ⟨F, ⟨none, 0, 0, R5, ⟨rfl, Or.inl ⟨rfl, rfl⟩⟩⟩, RA⟩
  have hl1 : ([] : List Int).length ≤ 1024 := by simp
  have hl2 : ([] ++ S.q 2 ep).length ≤ 1024 := by rw [List.nil_append]; exact ok.len 2 ep
  have a0 := RA.cell 0
  have a1 := RA.cell 1
  have J0 : Wl w ab [] ep W0 := ⟨F, ⟨none, 0, 0, R5, ⟨rfl, Or.inl ⟨rfl, rfl⟩⟩⟩, RA⟩
  have hl1 : ([] : List Int).length ≤ 1024 := by simp
  have hl2 : ([] ++ S.q 2 ep).length ≤ 1024 := by rw [List.nil_append]; exact ok.len 2 ep
  have a0 := RA.cell 0
  have a1 := RA.cell 1
  have J0 : Wl w ab [] ep W0 := ⟨F, ⟨none, 0, 0, R5, ⟨rfl, Or.inl ⟨rfl, rfl⟩⟩⟩, RA⟩
  have hl1 : ([] : List Int).length ≤ 1024 := by simp
  have hl2 : ([] ++ S.q 2 ep).length ≤ 1024 := by rw [List.nil_append]; exact ok.len 2 ep
  have a0 := RA.cell 0
  have a1 := RA.cell 1
  have J0 : Wl w ab [] ep W0 := ⟨F, ⟨none, 0, 0, R5, ⟨rfl, Or.inl ⟨rfl, rfl⟩⟩⟩, RA⟩
  have hl1 : ([] : List Int).length ≤ 1024 := by simp
  have hl2 : ([] ++ S.q 2 ep).length ≤ 1024 := by rw [List.nil_append]; exact ok.len 2 ep
  have a0 := RA.cell 0
  have a1 := RA.cell 1
  have J0 : Wl w ab [] ep W0 := ⟨F, ⟨none, 0, 0, R5, ⟨rfl, Or.inl ⟨rfl, rfl⟩⟩⟩, RA⟩
  have hl1 : ([] : List Int).length ≤ 1024 := by simp
  have hl2 : ([] ++ S.q 2 ep).length ≤ 1024 := by rw [List.nil_append]; exact ok.len 2 ep
  have a0 := RA.cell 0
  have a1 := RA.cell 1
  refine wpIn_loop_rounds 3 ?_
  rw [roundsIn_succ]
  gi_wp2_with fail
  refine ⟨trivial, (callsIn_wide.2 (queue_any p.b 2 ep _)).mono ?_⟩
  rintro e w1 ⟨rfl, rfl⟩
  simp only [World.size_alloc]
  have j1 : Wt w p.b [] (S.q 2 ep) 2 ep ep ab (W0.heap.size + 1) 0 (((W0.alloc (.cells #[.int .i64 2, .int .i64 ep] 82)).alloc (.cells #[pv p.b] 24)).alloc (.cells #[.int .i64 2, .int .i64 ep] 82)) := by
    have q4 := row_alloc1 W0 (.cells #[.int .i64 2, .int .i64 ep] 82) #[pv p.b] 24
    have q5 := row_alloc1 (W0.alloc (.cells #[.int .i64 2, .int .i64 ep] 82)) (.cells #[pv p.b] 24) #[.int .i64 2, .int .i64 ep] 82
    simp only [World.size_alloc] at q5
    obtain ⟨xa, xn, xc, r5, hO⟩ := J0.ex
    exact ⟨(((J0.fr.alloc _).alloc _).alloc _), ⟨xa, xn, xc, ((r5.alloc _).alloc _).alloc _, by rw [List.take_zero, List.append_nil]; exact hO.keep0 (((Fr.refl none' W0).alloc _).alloc _ |>.alloc _)⟩, ((J0.ar.alloc _).alloc _).alloc _, q4.alloc _, q5⟩
  gi_wp2_with fail
  refine range13 (m := (S.q 2 ep).length) (xs := fun k => #[pv (p.B ((S.q 2 ep).getD k 0))]) (by omega) rfl enters_q1 (queue1_seq _ _ _ p.b p.q 2 ep i2 he (p.V 2 ep) (S.q 2 ep) p.B (h.ql ok 2 ep)) (fun _ => rfl) (Wt w p.b [] (S.q 2 ep) 2 ep ep ab (W0.heap.size + 1)) (fun _ _ => False) (wt_own (Nat.le_trans J0.fr.size (by simp only [World.size_alloc]; omega))) (fun _ _ _ _ h => h.elim)
    (fun k V hk => need_of (h.keep0 hk.fr) hk.x4 hk.x5 k) j1
    (fun k => ⟨#[pv p.b, .int .i64 ep, undef, undef, .slice none 0 0, .pointer (some ⟨w.heap.size, 0, none⟩), undef, .pointer (some ⟨W0.heap.size, 0, none⟩), pv (p.B ((S.q 2 ep).getD k 0)), .int .i64 ep, plV 2 ep, .int .i64 ep, plV 3 ep, .slice (some ⟨ab, 0, none⟩) 2 2, .int .i64 2, .int .i64 0, .bool true, .pointer (some ⟨ab, 0, none⟩), plV 2 ep, pv p.b, plV 2 ep, .func (.func 85) #[] #[pv (W0.heap.size + 1), pv (W0.heap.size + 1 + 1)], pv (p.B ((S.q 2 ep).getD k 0)), undef, undef, undef, undef, undef, undef, undef, undef, undef], []⟩) ?assign1 ?body1 ?done1 (fun _ _ _ _ _ h => h.elim)
  case assign1 =>
    intro l k W K hK
    gi_wp2
    exact hK
  case body1 =>
    intro l k W hI hk
    obtain ⟨g, x, xa, xn, xc, va, vn, vc, w4, hg, d3, dlt, dg, hrun, ⟨u, d4⟩, z4, hcx, hkf⟩ := wt_round h ok hl1 hI hk
    rw [← hg]
    have HE : Hid (KeepsFrom (W0.heap.size + 3) W _ ∧ _) := And.intro (hkf _ (Nat.lt_of_le_of_lt J0.fr.size (by omega))) hcx
    have hrun' : (App #[37, 37] 37 #[.slice xa xn xc, .slice (some ⟨W.heap.size, 0, none⟩) 1 1]).run Try.prog ((W.alloc (.cells #[.int .i64 x] 3)).drew) = .ok (.slice va vn vc) w4 := hrun
    have hmix : Try.prog.follows .mixedOrders = true := by kernel_rfl
    clear hg hrun hkf hcx hI a0 a1
    gi_wp2_with fail
    gi_region_with_o (fail)
    all_goals gi_wp2_with fail
    all_goals exact ⟨by simp only [World.size_alloc]; exact HE.out.1, HE.out.2⟩
  case done1 =>
    intro D1 U1 hD1 hI hK1
    have J1 : Wl w ab ([] ++ S.q 2 ep) ep U1 := ⟨hI.fr, by have e := hI.ex; rw [List.take_length] at e; exact e, hI.ar⟩
    clear hI
    have hL1 := (Array.getElem?_eq_some_iff.1 hK1).1
    have hJ1 : w.heap.size < D1 := by have := J0.fr.size; simp only [World.size_alloc] at hD1; omega
    have a2 := J1.ar.cell 2
    have a3 := J1.ar.cell 3
    gi_wp2_with fail
    rw [roundsIn_succ]
    gi_wp2_with fail
    refine ⟨trivial, (callsIn_wide.2 (queue_any p.b 3 ep _)).mono ?_⟩
    rintro e w1 ⟨rfl, rfl⟩
    simp only [World.size_alloc]
    have j2 : Wt w p.b ([] ++ S.q 2 ep) (S.q 3 ep) 3 ep ep ab (U1.heap.size + 1) 0 (((U1.alloc (.cells #[.int .i64 3, .int .i64 ep] 82)).alloc (.cells #[pv p.b] 24)).alloc (.cells #[.int .i64 3, .int .i64 ep] 82)) := by
      have q4 := row_alloc1 U1 (.cells #[.int .i64 3, .int .i64 ep] 82) #[pv p.b] 24
      have q5 := row_alloc1 (U1.alloc (.cells #[.int .i64 3, .int .i64 ep] 82)) (.cells #[pv p.b] 24) #[.int .i64 3, .int .i64 ep] 82
      simp only [World.size_alloc] at q5
      obtain ⟨xa, xn, xc, r5, hO⟩ := J1.ex
      exact ⟨(((J1.fr.alloc _).alloc _).alloc _), ⟨xa, xn, xc, ((r5.alloc _).alloc _).alloc _, by rw [List.take_zero, List.append_nil]; exact hO.keep0 (((Fr.refl none' U1).alloc _).alloc _ |>.alloc _)⟩, ((J1.ar.alloc _).alloc _).alloc _, q4.alloc _, q5⟩
    gi_wp2_with fail
    refine range13 (m := (S.q 3 ep).length) (xs := fun k => #[pv (p.B ((S.q 3 ep).getD k 0))]) (by omega) rfl enters_q1 (queue1_seq _ _ _ p.b p.q 3 ep i3 he (p.V 3 ep) (S.q 3 ep) p.B (h.ql ok 3 ep)) (fun _ => rfl) (Wt2 D1 w p.b ([] ++ S.q 2 ep) (S.q 3 ep) 3 ep ep ab (U1.heap.size + 1)) (fun _ _ => False) (wt2_own (Nat.le_trans J1.fr.size (by simp only [World.size_alloc]; omega)) (by simp only [World.size_alloc]; have := hL1; omega)) (fun _ _ _ _ h => h.elim)
      (fun k V hk => need_of (h.keep0 hk.1.fr) hk.1.x4 hk.1.x5 k) ⟨j2, alloc_old (alloc_old (alloc_old hK1))⟩
      (fun k => ⟨#[pv p.b, .int .i64 ep, undef, undef, .slice none 0 0, .pointer (some ⟨w.heap.size, 0, none⟩), undef, .pointer (some ⟨U1.heap.size, 0, none⟩), pv (p.B ((S.q 3 ep).getD k 0)), .int .i64 ep, plV 2 ep, .int .i64 ep, plV 3 ep, .slice (some ⟨ab, 0, none⟩) 2 2, .int .i64 2, .int .i64 1, .bool true, .pointer (some ⟨ab, 2, none⟩), plV 3 ep, pv p.b, plV 3 ep, .func (.func 85) #[] #[pv (U1.heap.size + 1), pv (U1.heap.size + 1 + 1)], pv (p.B ((S.q 3 ep).getD k 0)), undef, undef, undef, undef, undef, undef, undef, .int .i64 1, undef], []⟩) ?assign2 ?body2 ?done2 (fun _ _ _ _ _ h => h.elim)
    case assign2 =>
      intro l k W K hK
      gi_wp2
      exact hK
    case body2 =>
      intro l k W hI hk
      obtain ⟨g, x, xa, xn, xc, va, vn, vc, w4, hg, d3, dlt, dg, hrun, ⟨u, d4⟩, z4, hcx, hkf⟩ := wt_round h ok hl2 hI.1 hk
      rw [← hg]
      have HE : Hid (KeepsFrom (U1.heap.size + 3) W _ ∧ _) := And.intro (hkf _ (Nat.lt_of_le_of_lt J1.fr.size (by omega))) (show Wt2 D1 _ _ _ _ _ _ _ _ _ _ _ from ⟨hcx, (hkf D1 (by have := hJ1; omega)).same D1 _ (Nat.le_refl _) hI.2 rfl⟩)
      have hrun' : (App #[37, 37] 37 #[.slice xa xn xc, .slice (some ⟨W.heap.size, 0, none⟩) 1 1]).run Try.prog ((W.alloc (.cells #[.int .i64 x] 3)).drew) = .ok (.slice va vn vc) w4 := hrun
      have hmix : Try.prog.follows .mixedOrders = true := by kernel_rfl
      clear hg hrun hkf hcx hI a2 a3
      gi_wp2_with fail
      gi_region_with_o (fail)
      all_goals gi_wp2_with fail
      all_goals exact ⟨by simp only [World.size_alloc]; exact HE.out.1, HE.out.2⟩
    case done2 =>
      intro D2 U2 hD2 hI hK2
      have J2 : Wl w ab (([] ++ S.q 2 ep) ++ S.q 3 ep) ep U2 := ⟨hI.1.fr, by have e := hI.1.ex; rw [List.take_length] at e; exact e, hI.1.ar⟩
      have hK1b := hI.2
      clear hI
      obtain ⟨xa, xn, xc, r5, hO⟩ := J2.ex
      have c5 := r5.cell 0
      gi_wp2_with fail
      rw [roundsIn_succ]
      gi_wp2_with fail
      have hD3 : w.heap.size ≤ D2 ∧ D1 ≠ D2 := by have := J1.fr.size; simp only [World.size_alloc] at hD2; omega
      have g2 := grownBy_putObj' U2 D2 (.deferred none)
      have k1 : (U2.putObj D2 (.deferred none)).heap[D1]? = some (.deferred (some [])) := (World.putObj_heap_other (fun e => hD3.2 e)).trans hK1b
      have g1 := grownBy_putObj' (U2.putObj D2 (.deferred none)) D1 (.deferred none)
      have q2 : ∀ r, some D2 = some r → w.heap.size ≤ r ∧ ∃ o : Obj, U2.heap[r]? = some o ∧ o.isCells = false := fun r e => by cases e; exact ⟨hD3.1, _, hK2, rfl⟩
      have q1 : ∀ r, some D1 = some r → w.heap.size ≤ r ∧ ∃ o : Obj, (U2.putObj D2 (.deferred none)).heap[r]? = some o ∧ o.isCells = false := fun r e => by cases e; exact ⟨Nat.le_of_lt hJ1, _, k1, rfl⟩
      refine ⟨by simp, .inl ⟨_, _, rfl, run_takeDeferred hK2, by simp, .inl ⟨_, _, rfl, run_takeDeferred k1, ?_⟩⟩⟩
      refine ⟨_, results_tmp rfl _ _ _, _, rfl, fr_grown (fr_grown J2.fr g2 (Nat.le_refl _) (fun r e => (q2 r e).1)) g1 (Nat.le_refl _) (fun r e => (q1 r e).1), ?_⟩
      exact ownsRow_grown (ownsRow_grown hO g2 (fun r e => (q2 r e).2)) g1 (fun r e => (q1 r e).2)
end

end Go.Proofs.Ytjobdfkfongjaaa
