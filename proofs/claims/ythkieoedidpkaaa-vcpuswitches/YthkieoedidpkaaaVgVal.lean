/-
  Contracts of package vgic's Inject, Enable, SetMask, End, Counts and running over the translation. No statement is proved here.
-/
import Derived.Test.YthkieoedidpkaaaVgNew
namespace Go.Proofs.Ythkieoedidpkaaa
open Go.RowKit Go.Maps Go.WideMaps

section
variable {w : World} {b : Nat} {f : Nat → Option (Int × Bool)}
theorem GM.look_none (h : GM w b f) {k : Nat} (hk : k < 64) (hf : f k = none) : (Instr.lookup 82 (.map (some b)) (.int .i64 (k : Int)) true).run Try.prog w = .ok (.tuple #[.agg #[.int .i64 0, .bool false], .bool false]) w := by
  have := h.look hk; rw [hf] at this; exact this
theorem GM.look_some (h : GM w b f) {k : Nat} (hk : k < 64) {p : Int} {l : Bool} (hf : f k = some (p, l)) : (Instr.lookup 82 (.map (some b)) (.int .i64 (k : Int)) true).run Try.prog w = .ok (.tuple #[.agg #[.int .i64 p, .bool l], .bool true]) w := by
  have := h.look hk; rw [hf] at this; exact this
theorem GM.look0_some (h : GM w b f) {k : Nat} (hk : k < 64) {p : Int} {l : Bool} (hf : f k = some (p, l)) : (Instr.lookup 82 (.map (some b)) (.int .i64 (k : Int)) false).run Try.prog w = .ok (.agg #[.int .i64 p, .bool l]) w := by
  have := h.look0 hk; rw [hf] at this; exact this
end

set_option maxHeartbeats 1000000 in
theorem inject_any (w : World) (B : Bk) (S : Vg) (h : IsVg w B S) (n p : Int) (l : Bool) :
    Calls Try.prog 52 #[.pointer (some ⟨B.b, 0, none⟩), .int .i64 n, .int .i64 p, .bool l] w fun e w' => e = .returned (.int .i64 (injE S n p)) ∧ Chg w B (injS S n p l) w' := by
  unfold injE injS
  cases hn : isI n with
  | false =>
    go_enter Try.func52, Try.ntmps52
    go_wp2_with fail
    refine (has_any _ _).mono ?_
    rintro e w1 ⟨rfl, rfl⟩
    rw [hn]
    go_wp2_with fail
    go_ret
    exact ⟨rfl, Chg.same h (Fr.refl _ _)⟩
  | true =>
    obtain ⟨k, rfl, hk⟩ := isI_nat hn
    cases hp : isP p with
    | false =>
      have hp' : (decide (0 ≤ p) && decide (p ≤ 255)) = false := hp
      go_enter Try.func52, Try.ntmps52
      go_wp2_with fail
      refine (has_any _ _).mono ?_
      rintro e w1 ⟨rfl, rfl⟩
      rw [hn]
      go_wp2_with fail
      refine (within_any _ _ _ _).mono ?_
      rintro e w1 ⟨rfl, rfl⟩
      rw [hp']
      go_wp2_with fail
      go_ret
      exact ⟨rfl, Chg.same h (Fr.refl _ _)⟩
    | true =>
      have hp' : (decide (0 ≤ p) && decide (p ≤ 255)) = true := hp
      obtain ⟨c0, c1, c2, c3⟩ := h.cells
      show Calls _ _ _ _ fun e w' => e = .returned (.int .i64 (bif (S.pe k).isSome then 80 else 0)) ∧ Chg w B (bif (S.pe k).isSome then S else { S with pe := set1 S.pe k (some (p, l)), inj := inc S.inj }) w'
      cases hf : S.pe k with
      | some q =>
        obtain ⟨q, m⟩ := q
        have hL := h.pe.look_some hk hf
        have f0 := (Fr.refl none' w).alloc (.cells #[.int .i64 q, .bool m] 81)
        go_enter Try.func52, Try.ntmps52
        go_wp2_with fail
        refine (has_any _ _).mono ?_
        rintro e w1 ⟨rfl, rfl⟩
        rw [hn]
        go_wp2_with fail
        refine (within_any _ _ _ _).mono ?_
        rintro e w1 ⟨rfl, rfl⟩
        rw [hp']
        go_wp2_with fail
        go_ret
        exact ⟨rfl, Chg.same h f0⟩
      | none =>
        have hL := h.pe.look_none hk hf
        have f0 := (Fr.refl none' w).alloc (.cells #[.int .i64 0, .bool false] 81)
        have h1 := h.keep0 f0
        obtain ⟨w2, hrun, hm, f2⟩ := h1.pe.store hk p l
        have h2 := h1.setPe hm f2 (goodF_set h1.good.pe _ _ (fun q l' e => by cases e; have := isP_iff.mp hp; omega))
        obtain ⟨d0, d1, d2, d3⟩ := h1.cells
        obtain ⟨e0, e1, e2⟩ := h2.counts
        have g0 := h2.frozen 68
        have hI := h2.setInj (inc S.inj)
        have hF : Fr B.s w (w2.setCell ⟨B.b, 68, none⟩ (.int .i64 (inc S.inj))) := fr_b 68 _ ((f0.mono (fun _ _ h => h.elim)).trans (f2.mono (fun _ _ e => Or.inr (Or.inl e))))
        unfold inc at hI hF ⊢
        have HI : Hid (Chg w B { S with pe := set1 S.pe k (some (p, l)), inj := wrap64 (S.inj + 1) } (w2.setCell ⟨B.b, 68, none⟩ (.int .i64 (wrap64 (S.inj + 1))))) := ⟨hF, hI⟩
        clear hI hF h2 h1 f2 f0 hm h hf
        go_enter Try.func52, Try.ntmps52
        go_wp2_with fail
        refine (has_any _ _).mono ?_
        rintro e w1 ⟨rfl, rfl⟩
        rw [hn]
        go_wp2_with fail
        refine (within_any _ _ _ _).mono ?_
        rintro e w1 ⟨rfl, rfl⟩
        rw [hp']
        go_wp2_with fail
        go_ret
        exact ⟨rfl, HI.out⟩

/-- What a step of a range over a map of grades tells. -/
theorem next_is {D : DataW Unit} {f : Nat → Option (Int × Bool)} (M : Mg D f) {kl : Lit} {c : Int × Bool} {y : DataW Unit × List MemPlace} (hv : gEl (.agg #[.int .i64 c.1, .bool c.2]) = some y) (hat : ∀ zd, D.atKey kl zd = y.1) : ∃ k : Nat, k < 64 ∧ kl = .int .i64 (k : Int) ∧ f k = some c := by
  obtain ⟨k, hk, rfl⟩ := M.key kl (has_true_of_atKey hat)
  refine ⟨k, hk, rfl, ?_⟩
  have hs := M.has k
  rw [has_true_of_atKey hat] at hs
  cases hf : f k with
  | none => rw [hf] at hs; cases hs
  | some q =>
    obtain ⟨p, l⟩ := q
    have e := M.at' k p l hf (gd 0 false)
    rw [hat, gEl_mk] at *
    cases hv
    obtain ⟨e1, e2⟩ := gd_inj e
    rw [← e1, ← e2]

theorem inv_key {key : Value} {kl : Lit} (h : keyOf Try.prog 3 key = some kl) : ∃ x : Int, key = .int .i64 x := by
  obtain ⟨x, rfl, _⟩ := Maps.keyOf_int_inv Try.underlying3 h
  exact ⟨x, rfl⟩
def mkG (c : Int × Bool) : Value := .agg #[.int .i64 c.1, .bool c.2]
theorem inv_el {v : Value} {y : DataW Unit × List MemPlace} (h : gEl v = some y) : ∃ c : Int × Bool, v = mkG c := by
  obtain ⟨p, l, rfl, _⟩ := gEl_inv h
  exact ⟨(p, l), rfl⟩

/-- The step of a range over a map of grades. -/
theorem wpList_next_g {w : World} {ops : Array Oper} {rest : List Oper} {o : Oper} {a : Act} {Q : Exit → Act → World → Prop} (hg : o.guard = none) (it : Operand) (hop : o.op = Op.next it false) (b r : Nat) (D : DataW Unit) (f : Nat → Option (Int × Bool)) (M : Mg D f) (left : Lit → Bool) (ct : Nat)
    (hit : a.eval it = .pointer (some ⟨r, 0, none⟩)) (h : w.ranges Try.prog 3 gEl b r 64 D left ct)
    (hDone : (∀ kl, left kl = false) → wpList Try.prog ops Q rest (a.put o.dst (.tuple #[.bool false])) w)
    (hMore : ∀ (k : Nat) (p : Int) (l : Bool) (w' : World) (ct' : Nat), k < 64 → f k = some (p, l) → w'.ranges Try.prog 3 gEl b r 64 D (fun z => left z && !z.sameKey (.int .i64 (k : Int))) ct' → ct' < ct → w.grownBy w' (some r) →
      (Instr.entry (.pointer (some ⟨r, 0, none⟩))).run Try.prog w' = .ok (.tuple #[.int .i64 (k : Int), .agg #[.int .i64 p, .bool l]]) w' → wpList Try.prog ops Q rest (a.put o.dst (.tuple #[.bool true, .int .i64 (k : Int), .agg #[.int .i64 p, .bool l]])) w') :
    wpList Try.prog ops Q (o :: rest) a w :=
  wpList_next_ranges w hg it hop 3 law3 gEl (Value.int .i64) mkG (fun _ _ hk => inv_key hk) (fun _ _ hv => inv_el hv) b r 64 D left ct hit h (fun _ hl => hDone hl)
    (fun x c kl y w' ct' hkey hlk hv hat hrg hlt hgr hsz hen => by
      obtain ⟨k, hk, rfl, hf⟩ := next_is M hv hat
      obtain ⟨x', ex, e, _⟩ := Maps.keyOf_int_inv Try.underlying3 hkey
      cases ex
      cases e
      exact hMore k c.1 c.2 w' ct' hk hf hrg hlt hgr hen)

set_option maxHeartbeats 2000000 in
theorem running_any (w : World) (B : Bk) (S : Vg) (h : IsVg w B S) :
    Calls Try.prog 62 #[.pointer (some ⟨B.b, 0, none⟩)] w fun e w' => e = .returned (.int .i64 (run S)) ∧ Fr none' w w' := by
  obtain ⟨c0, c1, c2, c3⟩ := h.cells
  obtain ⟨D, hown, M⟩ := h.ac
  have HM : Hid (Mg D S.ac ∧ GoodF S.ac) := ⟨M, h.good.ac⟩
  clear h M c0 c1 c2
  go_enter Try.func62, Try.ntmps62
  go_wp2_with (first | (at_range; refine wpList_range_own _ rfl _ 82 rfl 3 81 law3 Try.underlying82 _ B.a 64 D rfl hown ?_; intro w0 hrg0 hg0 hs0))
  go_frame
  have f0 := fr_grown0 hg0
  go_loopw [3] (fun i wr => ∃ (left : Lit → Bool) (ct : Nat) (x : Int), wr.ranges Try.prog 3 gEl B.a w.heap.size 64 D left ct ∧ i = .int .i64 x ∧ Fr none' w wr ∧ x ≤ 256 ∧ (∀ (k : Nat) p l, S.ac k = some (p, l) → left (.int .i64 (k : Int)) = false → x ≤ p) ∧ (x = 256 ∨ ∃ k p l, S.ac k = some (p, l) ∧ x = p)) (fun _ wr => wr.rangeLeft B.a w.heap.size)
  case atStart =>
    refine ⟨_, _, 256, hrg0, rfl, f0, by omega, ?_, Or.inl rfl⟩
    intro k p l hk hl
    have e := HM.out.1.has k
    rw [hk] at e
    rw [e] at hl
    cases hl
  case round =>
    clear hrg0 hg0 hs0 f0 hown
    obtain ⟨left, ct, x, hrg, rfl, fk, h1, h2, h3⟩ := hrel
    have H1 : Hid (x ≤ 256 ∧ (∀ (k : Nat) p l, S.ac k = some (p, l) → left (.int .i64 (k : Int)) = false → x ≤ p) ∧ (x = 256 ∨ ∃ k p l, S.ac k = some (p, l) ∧ x = p)) := ⟨h1, h2, h3⟩
    have HG : Hid (wr.ranges Try.prog 3 gEl B.a w.heap.size 64 D left ct) := hrg
    clear h1 h2 h3
    go_wp2_with (first | (at_next; refine wpList_next_g rfl _ rfl B.a w.heap.size D S.ac HM.out.1 left ct rfl hrg (fun hl => ?_) (fun k p l w1 ct1 hk hf hrg1 hlt hgr hen => ?_)))
    · have HD : x = run S := run_eq HM.out.2 H1.out.1 (fun j p l hj => H1.out.2.1 j p l hj (hl _)) H1.out.2.2
      go_ret
      exact ⟨by rw [HD]; rfl, fk⟩
    · have ra := hrg1.alloc (.cells #[.int .i64 p, .bool l] 81)
      have fa : Fr none' w (w1.alloc (.cells #[.int .i64 p, .bool l] 81)) := ((fk.newer (fr_map hgr) (Nat.le_refl _))).alloc _
      have HL : ∀ y : Int, y ≤ x → y ≤ p → ∀ (k' : Nat) p' l', S.ac k' = some (p', l') → (left (.int .i64 (k' : Int)) && !(Lit.int .i64 (k' : Int)).sameKey (.int .i64 (k : Int))) = false → y ≤ p' := fun y hy hyp k' p' l' hk' he => by
        cases hl : left (.int .i64 (k' : Int)) with
        | false => have := H1.out.2.1 k' p' l' hk' hl; omega
        | true =>
          rw [hl] at he
          have e := WideAt.sameKey_eq (by simpa using he : (Lit.int .i64 (k' : Int)).sameKey (.int .i64 (k : Int)) = true)
          have e' : k' = k := by simp at e; omega
          subst e'
          rw [hf] at hk'
          cases hk'
          exact hyp
      refine ⟨⟨_, ct1, _, ra, rfl, fa, ?_⟩, by rw [ra.left_eq, HG.out.left_eq]; exact hlt⟩
      by_cases hpx : p < x
      · rw [if_pos hpx]
        exact ⟨by have := H1.out.1; omega, HL p (by omega) (by omega), Or.inr ⟨k, p, l, hf, rfl⟩⟩
      · rw [if_neg hpx]
        exact ⟨H1.out.1, HL x (by omega) (by omega), H1.out.2.2⟩

end Go.Proofs.Ythkieoedidpkaaa
