/-
  A slice of lines of the call's own, and the contract of 'last' over the translation. No statement is proved here.
-/
import Derived.Test.YtkmpmjjjklfalaaTlbActs
import Derived.Laws.AppendOwnNone
namespace Go.Proofs.Ytkmpmjjjklfalaa
open Go.RowKit

theorem wpList_append_run {P : Program} {w : World} {ops : Array Oper} {rest : List Oper} {o : Oper} {a : Act} {Q : Exit → Act → World → Prop} (hgd : o.guard = none) (s x : Operand) (t : TypeId)
    (ho : o.op = .call { callee := .builtin .append, args := #[s, x], argTypes := #[t, t] }) (vs vx : Value) (hs : a.eval s = vs) (hx : a.eval x = vx) (v' : Value) (w' : World)
    (hrun : (Builtin.append_ #[t, t] o.type #[vs, vx]).run P w = .ok v' w') (h : wpList P ops Q rest (a.put o.dst v') w') : wpList P ops Q (o :: rest) a w := by
  refine wpList_plain hgd fun K hK => ?_
  unfold Oper.wp
  simp [execOp, ho, resolve, invoke, builtin, hs, hx, hrun, Result.andThen]
  exact hK _ _ h

/-- A slice of the call's own that holds n lines. -/
def Own (w : World) (B : Nat) (v : Value) (n : Nat) (Fs : Nat → Ln) : Prop := ∃ L, w.ownsRow B 28 5 v n L ∧ IsLines (fun j => L[j]?) n Fs

theorem own_nil (w : World) (B : Nat) (Fs : Nat → Ln) : Own w B (.slice none 0 0) 0 Fs := ⟨[], ⟨rfl, Or.inl ⟨rfl, rfl⟩⟩, fun j hj => by omega⟩

theorem Own.keep {S : Nat → Prop} {w w' : World} {B n : Nat} {v : Value} {Fs : Nat → Ln} (h : Own w B v n Fs) (f : Fr S w w') (hs : ∀ g, some g = v.ownBlock → ¬ S g) : Own w' B v n Fs := by
  obtain ⟨L, ⟨hl, h | ⟨g, cap, cur, hv, hb, hg, hc, hm, hs', ht⟩⟩, hL⟩ := h
  · exact ⟨L, ⟨hl, Or.inl h⟩, hL⟩
  · exact ⟨L, ⟨hl, Or.inr ⟨g, cap, cur, hv, hb, (show Row w' g cur _ from Row.keep (show Row w g cur _ from hg) f (hs g (by rw [hv]; rfl))), hc, hm, hs', ht⟩⟩, hL⟩

theorem Own.keep0 {w w' : World} {B n : Nat} {v : Value} {Fs : Nat → Ln} (h : Own w B v n Fs) (f : Fr none' w w') : Own w' B v n Fs := h.keep f (fun _ _ h => h)

/-- A block of another type is not the slice's. -/
theorem Own.apart {w : World} {B n b : Nat} {v : Value} {Fs : Nat → Ln} {cs : Array Value} {t : TypeId} (h : Own w B v n Fs) (r : Row w b cs t) (ht : t ≠ 28) : some b ≠ v.ownBlock := by
  obtain ⟨L, ⟨hl, h | ⟨g, cap, cur, hv, hb, hg, _⟩⟩, _⟩ := h
  · rw [h.1]; simp [Value.ownBlock]
  · rw [hv]
    intro e
    have e' : b = g := by simpa [Value.ownBlock] using e
    subst e'
    have r' : w.heap[b]? = some (.cells cs t (0, 0)) := r
    rw [hg] at r'
    simp only [Option.some.injEq, Obj.cells.injEq] at r'
    exact ht r'.2.1.symm

theorem Own.high {w : World} {B n : Nat} {v : Value} {Fs : Nat → Ln} (h : Own w B v n Fs) (k : Nat) (hk : some k = v.ownBlock) : B ≤ k := by
  obtain ⟨L, ⟨_, h | ⟨g, cap, cur, hv, hb, _⟩⟩, _⟩ := h
  · rw [h.1] at hk; simp [Value.ownBlock] at hk
  · rw [hv] at hk; simp [Value.ownBlock] at hk; omega

theorem Own.row {w : World} {B n : Nat} {v : Value} {Fs : Nat → Ln} (hn : 0 < n) (h : Own w B v n Fs) : ∃ g cap, v = .slice (some ⟨g, 0, none⟩) n cap ∧ LineRow w g cap n Fs := by
  obtain ⟨L, ⟨hl, h | ⟨g, cap, cur, hv, hb, hg, hc, hm, hs, ht⟩⟩, hL⟩ := h
  · omega
  · refine ⟨g, cap, hv, cur, hg, hs, fun j hj => ?_⟩
    have key : ∀ i u, L[i]? = some u → cur[i]? = some u := fun i u hu => by
      rw [← ht, List.getElem?_take] at hu
      split at hu
      · simpa using hu
      · simp at hu
    obtain ⟨g0, g1, g2, g3, g4⟩ := hL j hj
    exact ⟨key _ _ g0, key _ _ g1, key _ _ g2, key _ _ g3, key _ _ g4⟩

theorem fr_of_grown {w w' : World} {row : Option Nat} (h : w.grownBy w' row) : Fr (fun k => some k = row) w w' :=
  ⟨h.os, h.tape, h.output, h.size, fun k hk hn => h.block k hk hn⟩

/-- One line more. -/
theorem append_line (w : World) (B : Nat) (a : Addr) (v : Value) (k : Nat) (Fs : Nat → Ln) (x : Ln) (hb : B ≤ w.heap.size) (ho : Own w B v k Fs) (hk : k < 1000)
    (c0 : w.cell? (a.add 0) = some (.int .i64 x.v)) (c1 : w.cell? (a.add 1) = some (.int .i64 x.a)) (c2 : w.cell? (a.add 2) = some (.int .i64 x.p)) (c3 : w.cell? (a.add 3) = some (.int .i64 x.f)) (c4 : w.cell? (a.add 4) = some (.int .i64 x.r)) :
    ∃ v' w', (Builtin.append_ #[43, 43] 43 #[v, .slice (some a) 1 1]).run Try.prog w = .ok v' w' ∧ Fr (fun q => some q = v.ownBlock) w w' ∧ Own w' B v' (k + 1) (upd Fs k x) := by
  obtain ⟨L, ho, hL⟩ := ho
  have hi := info_line
  cases hq : Try.prog.info? 28 with
  | none => simp [hq] at hi
  | some i =>
    rw [hq] at hi
    simp only [Option.map_some, Option.some.injEq, Prod.mk.injEq] at hi
    obtain ⟨hz, hby, hs⟩ := hi
    obtain ⟨v', w', h1, h2, h3, _⟩ := run_append_own (P := Try.prog) w B 43 43 28 i _ 5 40 Try.underlying43 hq hz hs hby rfl (by omega) v k L ho a 1 1 [.int .i64 x.v, .int .i64 x.a, .int .i64 x.p, .int .i64 x.f, .int .i64 x.r] rfl
      (fun j u hu => by
        match j, hu with
        | 0, hu => simp at hu; rw [c0, hu]
        | 1, hu => simp at hu; rw [c1, hu]
        | 2, hu => simp at hu; rw [c2, hu]
        | 3, hu => simp at hu; rw [c3, hu]
        | 4, hu => simp at hu; rw [c4, hu]
        | j + 5, hu => simp at hu)
      (fun u hu => by simp at hu; rcases hu with rfl | rfl | rfl | rfl | rfl <;> simp [Value.oneCell'])
      (by simp only [maxLen]; omega) (by omega) hb
    have hlen := ho.1
    refine ⟨v', w', h1, fr_of_grown h3, _, h2, fun j hj => ?_⟩
    by_cases hjk : j = k
    · subst hjk
      rw [upd_same]
      simp [hlen]
    · rw [upd_other _ _ hjk]
      obtain ⟨g0, g1, g2, g3, g4⟩ := hL j (by omega)
      have b0 : j * 5 < L.length := by omega
      have b1 : j * 5 + 1 < L.length := by omega
      have b2 : j * 5 + 2 < L.length := by omega
      have b3 : j * 5 + 3 < L.length := by omega
      have b4 : j * 5 + 4 < L.length := by omega
      simp only [List.getElem?_append, b0, b1, b2, b3, b4, if_true]
      exact ⟨g0, g1, g2, g3, g4⟩

set_option maxHeartbeats 4000000 in
theorem last_own (w : World) (B : Nat) (v : Value) (n : Nat) (Fs : Nat → Ln) (x : Ln) (i : Nat) (ho : Own w B v n Fs) (hi : i < n) (hx : Fs i = x) (hlater : ∀ j, i < j → j < n → key (Fs j) x = false) (hn : n ≤ 1000) :
    Calls Try.prog 18 #[v, .agg #[.int .i64 x.v, .int .i64 x.a, .int .i64 x.p, .int .i64 x.f, .int .i64 x.r]] w fun e w' => e = .returned (.bool true) ∧ Fr none' w w' := by
  obtain ⟨g, cap, rfl, hrow⟩ := ho.row (by omega)
  have HL : Hid (∀ j, i < j → j < n → key (Fs j) x = false) := hlater
  have HX : Hid (Fs i = x) := hx
  clear ho hlater hx
  have r0 := row_alloc w #[.int .i64 x.v, .int .i64 x.a, .int .i64 x.p, .int .i64 x.f, .int .i64 x.r] 28
  have f0 := (Fr.refl none' w).alloc (.cells #[.int .i64 x.v, .int .i64 x.a, .int .i64 x.p, .int .i64 x.f, .int .i64 x.r] 28)
  have l0 := hrow.alloc (.cells #[.int .i64 x.v, .int .i64 x.a, .int .i64 x.p, .int .i64 x.f, .int .i64 x.r] 28)
  have heq := eq_line
  clear hrow
  go_enter Try.func18, Try.ntmps18
  go_wp2_with fail
  go_loopw [5] (fun q wr => ∃ m : Nat, i ≤ m ∧ m < n ∧ q = .int .i64 m ∧ Fr none' w wr ∧ LineRow wr g cap n Fs ∧ Row wr w.heap.size #[.int .i64 x.v, .int .i64 x.a, .int .i64 x.p, .int .i64 x.f, .int .i64 x.r] 28) (fun q _ => (intOf q).toNat)
  case atStart => exact ⟨n - 1, by omega, by omega, by rw [show ((n - 1 : Nat) : Int) = (n : Int) - 1 by omega], f0, l0, r0⟩
  case round =>
    clear f0 l0 r0
    obtain ⟨m, hm1, hm2, rfl, fk, lk, rk⟩ := hrel
    have y1 : 0 ≤ (m : Int) ∧ (m : Int) < (n : Int) := by omega
    have y2 : decide (0 ≤ (m : Int)) = true := decide_eq_true (by omega)
    obtain ⟨c0, c1, c2, c3, c4⟩ := lk.cells m hm2
    obtain ⟨d0, d1, d2, d3, d4⟩ := row5 rk
    by_cases hmi : m = i
    · rw [hmi, HX.out, ← hmi] at c0 c1 c2 c3 c4
      clear hmi
      go_wp2_with fail
      go_quiet (fail)
      go_wp2_with fail
      go_quiet (fail)
      go_wp2_with fail
      go_ret
      exact ⟨ret_bool (by simp), (fk.trans (fr_drewN _ _)).trans (fr_drewN _ _)⟩
    · have hk := HL.out m (by omega) hm2
      have z1 : (1 : Int) ≤ (m : Int) := by omega
      cases t1 : ((Fs m).v == x.v) with
      | false =>
        go_wp2_with fail
        go_quiet (fail)
        have f5 := fk.trans (fr_drewN _ nq)
        have l5 := lk.keep (fr_drewN _ nq) (fun h => h)
        have r5 := rk.keep (fr_drewN _ nq) (fun h => h)
        go_wp2_with fail
        go_roundw
        case rel => exact ⟨m - 1, by omega, by omega, by rw [show ((m - 1 : Nat) : Int) = (m : Int) - 1 by omega], f5, l5, r5⟩
        case measure => simp [intOf]; omega
      | true =>
      cases t2 : ((Fs m).a == x.a) with
      | false =>
        go_wp2_with fail
        go_quiet (fail)
        have f5 := fk.trans (fr_drewN _ nq)
        have l5 := lk.keep (fr_drewN _ nq) (fun h => h)
        have r5 := rk.keep (fr_drewN _ nq) (fun h => h)
        go_wp2_with fail
        go_roundw
        case rel => exact ⟨m - 1, by omega, by omega, by rw [show ((m - 1 : Nat) : Int) = (m : Int) - 1 by omega], f5, l5, r5⟩
        case measure => simp [intOf]; omega
      | true =>
      cases t3 : ((Fs m).p == x.p) with
      | false =>
        go_wp2_with fail
        go_quiet (fail)
        have f5 := fk.trans (fr_drewN _ nq)
        have l5 := lk.keep (fr_drewN _ nq) (fun h => h)
        have r5 := rk.keep (fr_drewN _ nq) (fun h => h)
        go_wp2_with fail
        go_roundw
        case rel => exact ⟨m - 1, by omega, by omega, by rw [show ((m - 1 : Nat) : Int) = (m : Int) - 1 by omega], f5, l5, r5⟩
        case measure => simp [intOf]; omega
      | true =>
        exfalso
        simp [key, t1, t2, t3] at hk

end Go.Proofs.Ytkmpmjjjklfalaa
