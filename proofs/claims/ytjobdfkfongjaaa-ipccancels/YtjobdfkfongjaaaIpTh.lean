/-
  The iterator over a queue, who came first, and a thread's place, over the translation. No statement is proved here.
-/
import Derived.Test.YtjobdfkfongjaaaIpRange
namespace Go.Proofs.Ytjobdfkfongjaaa
open Go.RowKit Go.Shelf

attribute [local go_sem] Oper.semAt_some

/-- A queue's value and whom it holds. -/
def QL (v : Option Qs) (l : List Int) : Prop := match v with
  | none => l = []
  | some z => z.n = l.length ∧ l.length ≤ 1024
/-- What the iterator reads. -/
structure Nq (xb ab b q : Nat) (s o : Int) (v : Option Qs) (l : List Int) (B : Int → Nat) (k : Nat) (W : World) : Prop where
  st : k = 0 → W.cell? ⟨xb, 0, none⟩ = some (pv b) ∧ W.cell? ⟨b, 1, none⟩ = some (.map (some q)) ∧ W.cell? ⟨ab, 0, none⟩ = some (.int .i64 s) ∧ W.cell? ⟨ab, 1, none⟩ = some (.int .i64 o) ∧ ∃ V, MQ W q V ∧ V s o = v
  at' : ∀ z x, v = some z → l[k]? = some x → W.cell? ⟨z.g, k, none⟩ = some (pv (B x))

set_option maxRecDepth 100000 in
set_option maxHeartbeats 1000000 in
theorem queue1_seq (n xb ab b q : Nat) (s o : Int) (hs : I64 s) (ho : I64 o) (v : Option Qs) (l : List Int) (B : Int → Nat) (hv : QL v l) :
    Seq13 n 85 #[pv xb, pv ab] l.length (fun k => #[pv (B (l.getD k 0))]) (Nq xb ab b q s o v l B) := by
  intro yl J Jx W hN hD hY h0
  refine callsIn_of_wp Try.func85 rfl trivial ?_ rfl
  have n0 := hN 0 W h0
  obtain ⟨c0, c1, c2, c3, V, hm, hV⟩ := n0.st rfl
  have l0 : ∀ n, _ := fun n => (hm.keep (fr_drewN W n) (fun h => h)).look hs ho
  rw [hV] at l0
  simp only [Try.ntmps85, List.size_toArray, List.length_cons, List.length_nil, Nat.reduceAdd, Nat.reduceSub, Array.replicate_succ, Array.replicate_zero, List.push_toArray, List.append_toArray, List.nil_append, List.cons_append]
  cases v with
  | none =>
    have hl : l = [] := hv
    subst hl
    clear hm hV n0
    simp only [qO] at l0
    gi_wp2_with fail
    gi_quiet (fail)
    gi_wp2
    gi_loopw [13] (fun v wr => v = .int .i64 0 ∧ J 0 wr) (fun v _ => 0)
    case atStart => exact ⟨rfl, hD 0 _ _ h0⟩
    case round =>
      obtain ⟨rfl, hj⟩ := hrel
      gi_wp2_with fail
      go_end0
      exact ⟨⟨_, rfl⟩, .inl hj⟩
  | some z =>
    obtain ⟨g, m, cap⟩ := z
    obtain ⟨hz, hz4⟩ : m = l.length ∧ l.length ≤ 1024 := hv
    have HL : Hid (l.length = m) := hz.symm
    rw [← hz] at hz4
    rw [← hz] at hY
    rw [← hz]
    clear hm hV n0 hz
    simp only [qO, qV] at l0
    gi_wp2_with fail
    gi_quiet (fail)
    gi_wp2
    gi_loopw [13] (fun v wr => ∃ k : Nat, k ≤ m ∧ v = .int .i64 (k : Int) ∧ J k wr) (fun v _ => m - (intOf v).toNat)
    case atStart => exact ⟨0, by omega, rfl, hD 0 _ _ h0⟩
    case round =>
      clear c0 c1 c2 c3 l0
      obtain ⟨k, hk, rfl, hj⟩ := hrel
      by_cases hlt : k < m
      · have hx : l[k]? = some (l.getD k 0) := by
          have : k < l.length := by rw [HL.out]; exact hlt
          rw [List.getD_eq_getElem?_getD, List.getElem?_eq_getElem this]
          rfl
        have c4 := (hN k _ hj).at' _ _ rfl hx
        obtain ⟨fn, tmps, assign, body, hy, hR⟩ := hY k _ hj hlt
        have ik : 0 ≤ (k : Int) ∧ (k : Int) < (m : Int) := by omega
        clear hx
        generalize l.getD k 0 = x at *
        gi_wp2_with fail
        refine ⟨fun h => (by cases h), hR.mono ?_⟩
        rintro e W3 (⟨rfl, hJ3⟩ | ⟨rfl, hJx3⟩)
        · gi_wp2
          go_roundw
          case rel => exact ⟨k + 1, by omega, by go_num, hJ3⟩
          case measure => simp [intOf]; omega
        · gi_wp2
          refine bodyPost_ret (results_none rfl _ _ _) rfl ?_
          exact ⟨⟨_, rfl⟩, .inr ⟨k + 1, by omega, hJx3⟩⟩
      · obtain rfl : k = m := by omega
        gi_wp2_with fail
        go_end0
        exact ⟨⟨_, rfl⟩, .inl hj⟩

theorem queue_any (b : Nat) (s o : Int) (w : World) : Calls Try.prog 53 #[pv b, plV s o] w fun e w' => e = .returned (.func (.func 85) #[] #[pv w.heap.size, pv (w.heap.size + 1)]) ∧ w' = (w.alloc (.cells #[pv b] 24)).alloc (.cells #[.int .i64 s, .int .i64 o] 82) := by
  go_enter Try.func53, Try.ntmps53
  go_wp2
  go_ret
  exact ⟨rfl, rfl⟩
theorem enters_q1 : ∀ args w, (callFunc 85 args).run Try.prog w = .ok (.enter 85 args) w := enters_of Try.func85 (by kernel_rfl) rfl

end Go.Proofs.Ytjobdfkfongjaaa
