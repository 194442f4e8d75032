/-
  A slice of entries to be laid, of the call's own. No statement is proved here.
-/
import Derived.Test.YthmombgogmgobaaIoBoth
import Derived.Test.YthmombgogmgobaaGrow
import Derived.Test.YthmombgogmgobaaRefFrame
import Derived.Laws.AppendOwnNone
namespace Go.Proofs.Ythmombgogmgobaa
open Go.RowKit

def pqV (q : Pq) : Array Value := #[.int .i64 q.t, .int .i64 q.i, .bool q.v, .bool q.l, .int .i64 q.r, .int .i64 q.f]

/-- Cells that show n of them. -/
def IsPqL (get : Nat → Option Value) (n : Nat) (Q : Nat → Pq) : Prop := ∀ j, j < n → ∀ i, i < 6 → get (j * 6 + i) = (pqV (Q j))[i]?

/-- A slice of the call's own that holds n of them. -/
def OwnQ (w : World) (B : Nat) (v : Value) (n : Nat) (Q : Nat → Pq) : Prop := ∃ L, w.ownsRow B 31 6 v n L ∧ IsPqL (fun j => L[j]?) n Q

theorem ownq_nil (w : World) (B : Nat) (Q : Nat → Pq) : OwnQ w B (.slice none 0 0) 0 Q := ⟨[], ⟨rfl, Or.inl ⟨rfl, rfl⟩⟩, fun j hj => by omega⟩

theorem OwnQ.keep0 {w w' : World} {B n : Nat} {v : Value} {Q : Nat → Pq} (h : OwnQ w B v n Q) (f : Fr none' w w') : OwnQ w' B v n Q := by
  obtain ⟨L, ⟨hl, h | ⟨g, cap, cur, hv, hb, hg, hc, hm, hs', ht⟩⟩, hL⟩ := h
  · exact ⟨L, ⟨hl, Or.inl h⟩, hL⟩
  · exact ⟨L, ⟨hl, Or.inr ⟨g, cap, cur, hv, hb, (show Row w' g cur _ from Row.keep (show Row w g cur _ from hg) f (fun h => h)), hc, hm, hs', ht⟩⟩, hL⟩

theorem OwnQ.congr {w : World} {B n : Nat} {v : Value} {Q Q' : Nat → Pq} (h : OwnQ w B v n Q) (e : ∀ j, j < n → Q j = Q' j) : OwnQ w B v n Q' := by
  obtain ⟨L, h1, h2⟩ := h
  exact ⟨L, h1, fun j hj => by rw [← e j hj]; exact h2 j hj⟩

theorem OwnQ.high {w : World} {B n : Nat} {v : Value} {Q : Nat → Pq} (h : OwnQ w B v n Q) (k : Nat) (hk : some k = v.ownBlock) : B ≤ k := by
  obtain ⟨L, ⟨_, h | ⟨g, cap, cur, hv, hb, _⟩⟩, _⟩ := h
  · rw [h.1] at hk; simp [Value.ownBlock] at hk
  · rw [hv] at hk; simp [Value.ownBlock] at hk; omega

theorem Fr.ownQ {w w1 w2 : World} {n : Nat} {v : Value} {Q : Nat → Pq} (f : Fr none' w w1) (g : Fr (fun q => some q = v.ownBlock) w1 w2) (o : OwnQ w1 w.heap.size v n Q) : Fr none' w w2 :=
  ⟨g.os.trans f.os, g.tape.trans f.tape, g.output.trans f.output, Nat.le_trans f.size g.size, fun i hi hn => (g.block i (Nat.lt_of_lt_of_le hi f.size) (fun e => by have := o.high i e; omega)).trans (f.block i hi hn)⟩

/-- As a slice that can be laid. -/
theorem OwnQ.puts {w : World} {B n : Nat} {v : Value} {Q : Nat → Pq} (h : OwnQ w B v n Q) : ∃ a0 cap, v = .slice a0 n cap ∧ Pqs w a0 n Q := by
  obtain ⟨L, ⟨hl, h | ⟨g, cap, cur, hv, hb, hg, hc, hm, hs, ht⟩⟩, hL⟩ := h
  · obtain ⟨rfl, rfl⟩ := h
    exact ⟨none, 0, rfl, fun k hk => by omega⟩
  · refine ⟨_, cap, hv, fun k hk => ⟨g, 0, rfl, ?_⟩⟩
    have key : ∀ i, i < 6 → w.cell? ⟨g, 0 + k * 6 + i, none⟩ = (pqV (Q k))[i]? := fun i hi => by
      rw [(show Row w g cur _ from hg).cell, Nat.zero_add, ← hL k hk i hi]
      show cur[k * 6 + i]? = L[k * 6 + i]?
      rw [← ht, List.getElem?_take, if_pos (by omega)]
      simp
    exact ⟨key 0 (by omega), key 1 (by omega), key 2 (by omega), key 3 (by omega), key 4 (by omega), key 5 (by omega)⟩

theorem info_pq : (Try.prog.info? 31).map (fun i => (i.zero, i.bytes, i.size)) = some (some (.agg (pqV ⟨0, 0, false, false, 0, 0⟩)), 40, 6) := by kernel_rfl

def updQ (Q : Nat → Pq) (k : Nat) (x : Pq) : Nat → Pq := fun j => if j = k then x else Q j

/-- One more. -/
theorem append_pq (w : World) (B : Nat) (a : Addr) (v : Value) (k : Nat) (Q : Nat → Pq) (x : Pq) (hb : B ≤ w.heap.size) (ho : OwnQ w B v k Q) (hk : k < 1000)
    (c : ∀ i u, (pqV x)[i]? = some u → w.cell? (a.add i) = some u) :
    ∃ v' w', (Builtin.append_ #[22, 22] 22 #[v, .slice (some a) 1 1]).run Try.prog w = .ok v' w' ∧ Fr (fun q => some q = v.ownBlock) w w' ∧ OwnQ w' B v' (k + 1) (updQ Q k x) := by
  obtain ⟨L, ho, hL⟩ := ho
  have hi := info_pq
  cases hq : Try.prog.info? 31 with
  | none => simp [hq] at hi
  | some i =>
    rw [hq] at hi
    simp only [Option.map_some, Option.some.injEq, Prod.mk.injEq] at hi
    obtain ⟨hz, hby, hs⟩ := hi
    obtain ⟨v', w', h1, h2, h3, _⟩ := run_append_own (P := Try.prog) w B 22 22 31 i _ 6 40 Try.underlying22 hq hz hs hby rfl (by omega) v k L ho a 1 1 (pqV x).toList rfl
      (fun j u hu => c j u (by simpa using hu))
      (fun u hu => by simp [pqV] at hu; rcases hu with rfl | rfl | rfl | rfl | rfl | rfl <;> simp [Value.oneCell'])
      (by simp only [maxLen]; omega) (by omega) hb
    have hlen := ho.1
    refine ⟨v', w', h1, io_grown h3, _, h2, fun j hj i hi => ?_⟩
    · show (L ++ (pqV x).toList)[j * 6 + i]? = (pqV (updQ Q k x j))[i]?
      unfold updQ
      by_cases hjk : j = k
      · subst hjk
        rw [if_pos rfl, List.getElem?_append_right (by omega), show j * 6 + i - L.length = i by omega]
        simp
      · rw [if_neg hjk, List.getElem?_append_left (by omega)]
        exact hL j (by omega) i hi

/-- A block just laid holds it. -/
theorem laid_pq (w : World) (x : Pq) : ∀ i u, (pqV x)[i]? = some u → (w.alloc (.cells (pqV x) 31)).cell? ((⟨w.heap.size, 0, none⟩ : Addr).add i) = some u := fun i u hu => by
  rw [add_lit', Nat.zero_add, (row_alloc w (pqV x) _).cell]; exact hu

end Go.Proofs.Ythmombgogmgobaa
