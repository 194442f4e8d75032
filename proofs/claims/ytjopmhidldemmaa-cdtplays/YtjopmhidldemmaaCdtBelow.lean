/-
  Package cdt's iterator over a place's descendants. No statement is proved here.
-/
import Derived.Test.YtjopmhidldemmaaCdtRange
namespace Go.Proofs.Ytjopmhidldemmaa
open Go.RowKit Go.Shelf

attribute [local go_sem] Oper.semAt_some

/-- What the iterator reads behind k rounds: its own box, its place's depth, where the next one lies, and that one's depth. -/
structure Nd13 (bb p : Nat) (dp : Int) (bl : Nat → Nat) (nx : Nat → Option Addr) (dt : Nat → Int) (k : Nat) (W : World) : Prop where
  box : W.cell? ⟨bb, 0, none⟩ = some (pv p)
  dep : W.cell? ⟨p, 2, none⟩ = some (.int .i64 dp)
  nxt : W.cell? ⟨match k with | 0 => p | j + 1 => bl j, 4, none⟩ = some (.pointer (nx k))
  at' : ∀ b, nx k = ad b → W.cell? ⟨b, 2, none⟩ = some (.int .i64 (dt k))

open Classical in
noncomputable def left13 (m : Nat) (nx : Nat → Option Addr) (v : Value) : Nat :=
  if h : ∃ k, k ≤ m ∧ v = .pointer (nx k) then m - Classical.choose h else 0
theorem left13_eq {m : Nat} {nx : Nat → Option Addr} (hi : ∀ j k, j ≤ m → k ≤ m → nx j = nx k → j = k) {k : Nat} (hk : k ≤ m) : left13 m nx (.pointer (nx k)) = m - k := by
  have hex : ∃ j, j ≤ m ∧ Value.pointer (nx k) = .pointer (nx j) := ⟨k, hk, rfl⟩
  unfold left13
  rw [dif_pos hex]
  obtain ⟨h1, h2⟩ := Classical.choose_spec hex
  rw [hi _ k h1 hk (by simpa using h2.symm)]

set_option maxRecDepth 100000 in
set_option maxHeartbeats 1000000 in
theorem below1_seq (n : Nat) (bb p : Nat) (dp : Int) (m : Nat) (bl : Nat → Nat) (nx : Nat → Option Addr) (dt : Nat → Int)
    (hin : ∀ k, k < m → nx k = ad (bl k) ∧ dp < dt k) (hout : nx m = none ∨ ∃ b, nx m = ad b ∧ dt m ≤ dp) (hi : ∀ j k, j ≤ m → k ≤ m → nx j = nx k → j = k) :
    Seq13 n 39 #[.pointer (some ⟨bb, 0, none⟩)] m (fun k => #[pv (bl k)]) (Nd13 bb p dp bl nx dt) := by
  intro l J Jx W hN hD hY h0
  refine callsIn_of_wp Try.func39 rfl trivial ?_ rfl
  have n0 := hN 0 W h0
  have c0 := n0.box
  have c1 : W.cell? ⟨p, 4, none⟩ = some (.pointer (nx 0)) := n0.nxt
  simp only [Try.ntmps39, List.size_toArray, List.length_cons, List.length_nil, Nat.reduceAdd, Nat.reduceSub, Array.replicate_succ, Array.replicate_zero, List.push_toArray, List.append_toArray, List.nil_append, List.cons_append]
  gi_wp2
  gi_loopw [3] (fun v wr => ∃ k, k ≤ m ∧ v = .pointer (nx k) ∧ J k wr) (fun v _ => left13 m nx v)
  case atStart => exact ⟨0, by omega, rfl, h0⟩
  case round =>
    clear n0 c0 c1
    obtain ⟨k, hk, rfl, hj⟩ := hrel
    have nk := hN k _ hj
    have c0 := nk.box
    have c2 := nk.dep
    by_cases hlt : k < m
    · obtain ⟨e1, e2⟩ := hin k hlt
      have c3 := nk.at' _ e1
      rw [e1]
      have d1 : decide (dp < dt k) = true := decide_eq_true e2
      clear nk
      gi_wp2_with fail
      gi_quiet (fail)
      obtain ⟨fn, tmps, assign, body, hy, hR⟩ := hY k _ (hD k wr nq hj) hlt
      gi_wp2
      refine ⟨fun h => (by cases h), hR.mono ?_⟩
      rintro e W3 (⟨rfl, hJ3⟩ | ⟨rfl, hJx3⟩)
      · have c5 : W3.cell? ⟨bl k, 4, none⟩ = some (.pointer (nx (k + 1))) := (hN (k + 1) W3 hJ3).nxt
        gi_wp2
        go_roundw
        case rel => exact ⟨k + 1, by omega, rfl, hJ3⟩
        case measure =>
          show left13 m nx (.pointer (nx (k + 1))) < left13 m nx (.pointer (ad (bl k)))
          rw [← e1, left13_eq hi (by omega : k + 1 ≤ m), left13_eq hi hk]
          omega
      · gi_wp2
        refine bodyPost_ret (results_none rfl _ _ _) rfl ?_
        exact ⟨⟨_, rfl⟩, .inr ⟨k + 1, by omega, hJx3⟩⟩
    · obtain rfl : k = m := by omega
      rcases hout with e1 | ⟨b, e1, e2⟩
      · rw [e1]
        clear nk
        gi_wp2_with fail
        gi_quiet (fail)
        gi_wp2
        go_end0
        exact ⟨⟨_, rfl⟩, .inl (hD k wr _ hj)⟩
      · have c3 := nk.at' _ e1
        rw [e1]
        have d1 : decide (dp < dt k) = false := decide_eq_false (by omega)
        clear nk
        gi_wp2_with fail
        gi_quiet (fail)
        gi_wp2
        go_end0
        exact ⟨⟨_, rfl⟩, .inl (hD k wr _ hj)⟩

set_option maxHeartbeats 1000000 in
theorem below_any (p : Nat) (w : World) : Calls Try.prog 36 #[pv p] w fun e w' => e = .returned (.func (.func 39) #[] #[.pointer (some ⟨w.heap.size, 0, none⟩)]) ∧ w' = w.alloc (.cells #[pv p] 45) := by
  go_enter Try.func36, Try.ntmps36
  go_wp2
  go_ret
  exact ⟨rfl, rfl⟩

end Go.Proofs.Ytjopmhidldemmaa
