/-
  The document's highest over the translation. No statement is proved here.
-/
import Derived.Test.YtipfgenbfnkpfaaSdRefE
namespace Go.Proofs.Ytipfgenbfnkpfaa
open Go.RowKit Go.Maps Go.WideMaps

/-- The most urgent of a domain so far. -/
def higS (L : List Tk) (d : Int) (b : Option Tk) (x : Int) : Option Tk := match fnd L x with
  | none => b
  | some t => if t.d = d then (match b with | none => some t | some u => if u.p < t.p then some t else b) else b
def hig (L : List Tk) (d : Int) (Q : List Int) : Option Tk := Q.foldl (higS L d) none
/-- Its place, or none. -/
def BI (L : List Tk) (b : Option Tk) (v : Int) : Prop := (b = none ∧ v = -1) ∨ ∃ (i : Nat) (t : Tk), b = some t ∧ L[i]? = some t ∧ v = (i : Int)

set_option maxRecDepth 100000 in
set_option maxHeartbeats 4000000 in
theorem rhi_any (w : World) (q : Db) (S : Sd) (Q : List Int) (h : IsD w q S Q) (htn : S.tn < S.tb.length) (hl : Q.length ≤ 5000) (hq : ∀ x ∈ Q, ∃ t, fnd S.L x = some t) :
    Calls Try.prog 60 #[.pointer (some ⟨q.b, 0, none⟩)] w fun e w' => (∃ v, e = .returned (.int .i64 v) ∧ BI S.L (hig S.L (pe S) Q) v) ∧ Fr none' w w' := by
  have D := rdom_any w q S Q h htn
  have HH : Hid (IsD w q S Q) := h
  have HQ : Hid (∀ x ∈ Q, ∃ t, fnd S.L x = some t) := hq
  obtain ⟨aq, cq, hqv, hqn⟩ := h.formQ
  obtain ⟨al, cl, hlv, hlc, hln⟩ := h.formL
  have hlen := len_le h.good
  have HC : Hid (∀ w1, Fr none' w w1 → w1.cell? ⟨q.b, 4, none⟩ = some (.slice aq Q.length cq) ∧ w1.cell? ⟨q.b, 3, none⟩ = some (.slice al S.L.length cl)) := fun w1 f => by
    have c4 := (h.keep0 f).cells.2.2.2.2.1
    have c3 := (h.keep0 f).cells.2.2.2.1
    rw [hqv] at c4
    rw [hlv] at c3
    exact ⟨c4, c3⟩
  have HNQ : Hid (∀ (j : Nat) (x : Int), Q[j]? = some x → ∃ g, aq = some ⟨g, 0, none⟩ ∧ w.cell? ⟨g, j, none⟩ = some (.int .i64 x)) := hqn
  have HNL : Hid (∀ (i : Nat) (n : Tk), S.L[i]? = some n → ∃ g, al = some ⟨g, 0, none⟩ ∧ w.cell? ⟨g, i * 5 + 1, none⟩ = some (.int .i64 n.p) ∧ w.cell? ⟨g, i * 5 + 2, none⟩ = some (.int .i64 n.d)) := fun i n hi => by
    obtain ⟨g, e, _, _, c1, c2, _⟩ := hln i n hi
    exact ⟨g, e, c1, c2⟩
  have HD : Hid (∀ d, pe S = d → hig S.L d Q = hig S.L (pe S) Q) := fun d e => by rw [e]
  generalize pe S = dp at *
  clear h hqv hqn hlv hln htn hq HD
  obtain ⟨N, hNl⟩ : ∃ N, N = Q.length := ⟨_, rfl⟩
  obtain ⟨M, hMl⟩ : ∃ M, M = S.L.length := ⟨_, rfl⟩
  rw [← hNl] at hl
  rw [← hMl] at hlen hlc
  rw [← hNl, ← hMl] at HC
  have HL : Hid (N = Q.length) := hNl
  have HM : Hid (M = S.L.length) := hMl
  clear hNl hMl
  go_enter Try.func60, Try.ntmps60
  go_wp2_with fail
  refine D.mono ?_
  rintro e w1 ⟨rfl, nd, rfl⟩
  clear D
  go_wp2_with fail
  go_loopw [3, 5] (fun bv i wr => ∃ (j : Nat) (v : Int), j ≤ N ∧ bv = .int .i64 v ∧ i = .int .i64 (j : Int) ∧ Fr none' w wr ∧ Hid (BI S.L (hig S.L dp (Q.take j)) v)) (fun _ i _ => N - (intOf i).toNat)
  case atStart => exact ⟨0, -1, by omega, rfl, rfl, fr_drewN _ _, Or.inl ⟨rfl, rfl⟩⟩
  case round =>
    obtain ⟨j, v, hj, rfl, rfl, fr, HB⟩ := hrel
    obtain ⟨c4, c3⟩ := HC.out wr fr
    by_cases hjN : j < N
    · have hjL : j < Q.length := by rw [← HL.out]; exact hjN
      have hx := List.getElem?_eq_getElem hjL
      have ht : Q.take (j + 1) = Q.take j ++ [Q[j]] := by rw [List.take_add_one, hx]; rfl
      have hmem : Q[j] ∈ Q := List.getElem_mem hjL
      generalize Q[j] = x at *
      obtain ⟨gq, rfl, d0⟩ := HNQ.out j x hx
      replace d0 := cell_keep fr d0 (fun h => h)
      obtain ⟨t, hft⟩ := HQ.out x hmem
      obtain ⟨i, hi⟩ := fnd_ix hft
      have hiM : i < M := by rw [HM.out]; exact lt_of_get hi
      obtain ⟨gl, rfl, p1, p2⟩ := HNL.out i t hi
      replace p1 := cell_keep fr p1 (fun h => h)
      replace p2 := cell_keep fr p2 (fun h => h)
      have A := rat_at (HH.out.keep0 fr) hft hi
      have HT : Hid (hig S.L dp (Q.take (j + 1)) = higS S.L dp (hig S.L dp (Q.take j)) x) := by
        show hig S.L dp (Q.take (j + 1)) = _
        rw [ht]
        unfold hig
        rw [List.foldl_append]
        rfl
      have HX : Hid (fnd S.L x = some t) := hft
      have HY : Hid (S.L[i]? = some t) := hi
      have i1 : 0 ≤ (j : Int) ∧ (j : Int) < (N : Int) := by omega
      have i2 : 0 ≤ (i : Int) ∧ (i : Int) < (M : Int) := by omega
      clear hx ht hmem hft hi hjL
      by_cases hd : t.d = dp
      · have t1 : (t.d == dp) = true := by simpa using hd
        rcases HB.out with ⟨hb, rfl⟩ | ⟨iu, u, hb, hiu, rfl⟩
        · have HR : Hid (BI S.L (hig S.L dp (Q.take (j + 1))) (i : Int)) := by
            show BI _ _ _
            rw [HT.out, hb]
            unfold higS
            rw [HX.out]
            dsimp only
            rw [if_pos hd]
            exact Or.inr ⟨i, t, rfl, HY.out, rfl⟩
          clear HB hb hd HT HX HY
          go_wp2_with (go_at_call 55; refine A.mono ?_; rintro e wa ⟨rfl, rfl⟩)
          go_quiet (fail)
          go_wp2_with fail
          go_roundw
          case rel => exact ⟨j + 1, (i : Int), by omega, rfl, by go_num, fr.trans (fr_drewN _ _), HR⟩
          case measure => simp [intOf]; omega
        · obtain ⟨gl', e', u1, _⟩ := HNL.out iu u hiu
          simp only [Option.some.injEq, Addr.mk.injEq, and_true] at e'
          subst e'
          replace u1 := cell_keep fr u1 (fun h => h)
          have hiuM : iu < M := by rw [HM.out]; exact lt_of_get hiu
          have i3 : 0 ≤ (iu : Int) ∧ (iu : Int) < (M : Int) := by omega
          have i4 : decide ((iu : Int) < 0) = false := decide_eq_false (by omega)
          by_cases hp : u.p < t.p
          · have HR : Hid (BI S.L (hig S.L dp (Q.take (j + 1))) (i : Int)) := by
              show BI _ _ _
              rw [HT.out, hb]
              unfold higS
              rw [HX.out]
              dsimp only
              rw [if_pos hd, if_pos hp]
              exact Or.inr ⟨i, t, rfl, HY.out, rfl⟩
            have t2 : decide (u.p < t.p) = true := by simpa using hp
            clear HB hb hd HT HX HY hp hiu
            generalize u.p = up at *
            generalize t.p = tp at *
            go_wp2_with (go_at_call 55; refine A.mono ?_; rintro e wa ⟨rfl, rfl⟩)
            go_quiet (fail)
            go_wp2_with fail
            go_roundw
            case rel => exact ⟨j + 1, (i : Int), by omega, rfl, by go_num, fr.trans (fr_drewN _ _), HR⟩
            case measure => simp [intOf]; omega
          · have HR : Hid (BI S.L (hig S.L dp (Q.take (j + 1))) (iu : Int)) := by
              show BI _ _ _
              rw [HT.out, hb]
              unfold higS
              rw [HX.out]
              dsimp only
              rw [if_pos hd, if_neg hp]
              exact Or.inr ⟨iu, u, rfl, hiu, rfl⟩
            have t2 : decide (u.p < t.p) = false := by simpa using hp
            clear HB hb hd HT HX HY hp hiu
            generalize u.p = up at *
            generalize t.p = tp at *
            go_wp2_with (go_at_call 55; refine A.mono ?_; rintro e wa ⟨rfl, rfl⟩)
            go_quiet (fail)
            go_wp2_with fail
            go_roundw
            case rel => exact ⟨j + 1, (iu : Int), by omega, rfl, by go_num, fr.trans (fr_drewN _ _), HR⟩
            case measure => simp [intOf]; omega
      · have t1 : (t.d == dp) = false := by simpa using hd
        have HR : Hid (BI S.L (hig S.L dp (Q.take (j + 1))) v) := by
          show BI _ _ _
          rw [HT.out]
          unfold higS
          rw [HX.out]
          dsimp only
          rw [if_neg hd]
          exact HB.out
        clear HB hd HT HX HY
        go_wp2_with (go_at_call 55; refine A.mono ?_; rintro e wa ⟨rfl, rfl⟩)
        go_quiet (fail)
        go_wp2_with fail
        go_roundw
        case rel => exact ⟨j + 1, v, by omega, rfl, by go_num, fr.trans (fr_drewN _ _), HR⟩
        case measure => simp [intOf]; omega
    · have HR : Hid (BI S.L (hig S.L dp Q) v) := by
        have e : Q.take j = Q := List.take_of_length_le (by rw [← HL.out]; omega)
        rw [e] at HB
        exact HB
      have ij : ¬ (j : Int) < (N : Int) := by omega
      clear HB
      go_wp2_with fail
      go_ret
      exact ⟨⟨v, rfl, HR.out⟩, fr⟩

theorem rhi_no {w : World} {q : Db} {S : Sd} {Q : List Int} (h : IsD w q S Q) (htn : S.tn < S.tb.length) (hl : Q.length ≤ 5000) (hq : ∀ x ∈ Q, ∃ t, fnd S.L x = some t) (hh : hig S.L (pe S) Q = none) :
    Calls Try.prog 60 #[.pointer (some ⟨q.b, 0, none⟩)] w fun e w' => e = .returned (.int .i64 (-1)) ∧ Fr none' w w' := by
  refine (rhi_any w q S Q h htn hl hq).mono ?_
  rintro e w' ⟨⟨v, rfl, ⟨_, rfl⟩ | ⟨i, t, hb, _⟩⟩, f⟩
  · exact ⟨rfl, f⟩
  · rw [hh] at hb; cases hb
theorem rhi_at {w : World} {q : Db} {S : Sd} {Q : List Int} (h : IsD w q S Q) (htn : S.tn < S.tb.length) (hl : Q.length ≤ 5000) (hq : ∀ x ∈ Q, ∃ t, fnd S.L x = some t) {t : Tk} (hh : hig S.L (pe S) Q = some t) {i : Nat} (hi : S.L[i]? = some t) :
    Calls Try.prog 60 #[.pointer (some ⟨q.b, 0, none⟩)] w fun e w' => e = .returned (.int .i64 (i : Int)) ∧ Fr none' w w' := by
  refine (rhi_any w q S Q h htn hl hq).mono ?_
  rintro e w' ⟨⟨v, rfl, ⟨hb, _⟩ | ⟨j, u, hb, hj, rfl⟩⟩, f⟩
  · rw [hh] at hb; cases hb
  · rw [hh] at hb
    cases hb
    rw [ix_one h.good hi hj]
    exact ⟨rfl, f⟩

end Go.Proofs.Ytipfgenbfnkpfaa
