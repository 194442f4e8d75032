/-
  The document's space (a struct, a row of nodes, a block of slots a node) told as what it holds ('IsQ'); its small calls. No statement is proved here.
-/
import Derived.Test.YtibdkadojoeopaaCsFull
import Derived.Test.YtibdkadojoeopaaCapRefE
namespace Go.Proofs.Ytibdkadojoeopaa
open Go.RowKit Go.Maps Go.WideMaps

def ndV (n : Nd) (g : Nat) : List Value := [.int .i64 (n.id : Int), .int .i64 (n.rx : Int), .slice (some ⟨g, 0, none⟩) (2 ^ n.rx) (2 ^ n.rx)]
def flatN (C : Nat → Nat) (L : List Nd) : List Value := L.flatMap fun n => ndV n (C n.id)
theorem flatN_append (C : Nat → Nat) (L M : List Nd) : flatN C (L ++ M) = flatN C L ++ flatN C M := by simp [flatN]
theorem flatN_one (C : Nat → Nat) (n : Nd) : flatN C [n] = ndV n (C n.id) := by simp [flatN]
theorem flatN_cons (C : Nat → Nat) (n : Nd) (L : List Nd) : flatN C (n :: L) = ndV n (C n.id) ++ flatN C L := by simp [flatN]
theorem flatN_len (C : Nat → Nat) (L : List Nd) : (flatN C L).length = L.length * 3 := by
  induction L with
  | nil => rfl
  | cons x L ih => rw [flatN_cons, List.length_append, ih]; simp [ndV]; omega
theorem flatN_at (C : Nat → Nat) : ∀ (L : List Nd) (i : Nat) (n : Nd), L[i]? = some n → ∀ r, r < 3 → (flatN C L)[i * 3 + r]? = (ndV n (C n.id))[r]?
  | y :: L, 0, n, h, r, hr => by
    simp at h
    subst h
    rw [flatN_cons, Nat.zero_mul, Nat.zero_add, List.getElem?_append_left (by simp [ndV]; omega)]
  | y :: L, i + 1, n, h, r, hr => by
    have e : (ndV y (C y.id)).length = 3 := rfl
    rw [flatN_cons, List.getElem?_append_right (by omega), e, show (i + 1) * 3 + r - 3 = i * 3 + r by omega]
    exact flatN_at C L i n (by simpa using h) r hr
  | [], i, n, h, _, _ => by simp at h
theorem flatN_congr {C C' : Nat → Nat} {L : List Nd} (h : ∀ n ∈ L, C n.id = C' n.id) : flatN C L = flatN C' L := by
  induction L with
  | nil => rfl
  | cons x L ih => rw [flatN_cons, flatN_cons, h x List.mem_cons_self, ih (fun n hn => h n (List.mem_cons_of_mem _ hn))]

/-- Its blocks: the struct, the row of nodes, the slots of each. -/
structure Qb where
  b : Nat
  v : Value
  C : Nat → Nat
def Qb.s (q : Qb) (L : List Nd) : Nat → Prop := fun k => k = q.b ∨ some k = q.v.ownBlock ∨ ∃ n ∈ L, k = q.C n.id

structure IsQ (w : World) (q : Qb) (L : List Nd) : Prop where
  row : Row w q.b #[q.v] 29
  own : w.ownsRow 0 73 3 q.v L.length (flatN q.C L)
  sl : ∀ n ∈ L, SlB w (q.C n.id) (2 ^ n.rx) n.sl
  inj : ∀ n ∈ L, ∀ n' ∈ L, q.C n.id = q.C n'.id → n.id = n'.id
  nb : some q.b ≠ q.v.ownBlock
  ns : ∀ n ∈ L, q.C n.id ≠ q.b ∧ some (q.C n.id) ≠ q.v.ownBlock
  good : GoodL L

theorem ownsRow_at {w w' : World} {B n k : Nat} {e : TypeId} {v : Value} {xs : List Value} (h : w.ownsRow B e k v n xs) (hk : ∀ q, some q = v.ownBlock → q < w.heap.size → w'.heap[q]? = w.heap[q]?) : w'.ownsRow B e k v n xs := by
  obtain ⟨hl, h | ⟨g, cap, cur, hv, hb, hg, hc, hm, hs, ht⟩⟩ := h
  · exact ⟨hl, Or.inl h⟩
  · exact ⟨hl, Or.inr ⟨g, cap, cur, hv, hb, (hk g (by rw [hv]; rfl) (Row.lt (show Row w g cur e from hg))).trans hg, hc, hm, hs, ht⟩⟩

theorem ownsRow_lt {w : World} {B n k : Nat} {e : TypeId} {v : Value} {xs : List Value} (h : w.ownsRow B e k v n xs) (q : Nat) (hq : some q = v.ownBlock) : q < w.heap.size := by
  obtain ⟨hl, h | ⟨g, cap, cur, hv, hb, hg, hc, hm, hs, ht⟩⟩ := h
  · rw [h.1] at hq; simp [Value.ownBlock] at hq
  · rw [hv] at hq
    obtain rfl : q = g := by simpa [Value.ownBlock] using hq
    exact Row.lt (show Row w q cur e from hg)

theorem ownsRow_high {w : World} {B n k : Nat} {e : TypeId} {v : Value} {xs : List Value} (h : w.ownsRow B e k v n xs) (q : Nat) (hq : some q = v.ownBlock) : B ≤ q := by
  obtain ⟨hl, h | ⟨g, cap, cur, hv, hb, hg, hc, hm, hs, ht⟩⟩ := h
  · rw [h.1] at hq; simp [Value.ownBlock] at hq
  · rw [hv] at hq
    obtain rfl : q = g := by simpa [Value.ownBlock] using hq
    exact hb

theorem ownsRow_zero {w : World} {B n k : Nat} {e : TypeId} {v : Value} {xs : List Value} (h : w.ownsRow B e k v n xs) : w.ownsRow 0 e k v n xs := by
  obtain ⟨hl, h | ⟨g, cap, cur, hv, hb, r⟩⟩ := h
  · exact ⟨hl, Or.inl h⟩
  · exact ⟨hl, Or.inr ⟨g, cap, cur, hv, by omega, r⟩⟩

section
variable {w : World} {q : Qb} {L : List Nd}
theorem IsQ.keep {T : Nat → Prop} {w' : World} (h : IsQ w q L) (f : Fr T w w') (hs : ∀ k, q.s L k → ¬ T k) : IsQ w' q L :=
  ⟨h.row.keep f (hs _ (Or.inl rfl)), ownsRow_at h.own (fun k hk hl => f.block k hl (hs k (Or.inr (Or.inl hk)))), fun n hn => (h.sl n hn).keep f (hs _ (Or.inr (Or.inr ⟨n, hn, rfl⟩))), h.inj, h.nb, h.ns, h.good⟩
theorem IsQ.keep0 {w' : World} (h : IsQ w q L) (f : Fr none' w w') : IsQ w' q L := h.keep f (fun _ _ h => h)
theorem IsQ.lt (h : IsQ w q L) (k : Nat) (hk : q.s L k) : k < w.heap.size := by
  rcases hk with rfl | hk | ⟨n, hn, rfl⟩
  · exact h.row.lt
  · exact ownsRow_lt h.own k hk
  · exact (h.sl n hn).lt
theorem IsQ.cell (h : IsQ w q L) : w.cell? ⟨q.b, 0, none⟩ = some q.v := h.row.cell 0

/-- The row of nodes: a slice, and each node's cells. -/
theorem IsQ.form (h : IsQ w q L) : ∃ (a : Option Addr) (cap : Nat), q.v = .slice a L.length cap ∧ L.length ≤ cap ∧ ∀ i n, L[i]? = some n → ∃ g, a = some ⟨g, 0, none⟩ ∧ w.cell? ⟨g, i * 3, none⟩ = some (.int .i64 (n.id : Int)) ∧ w.cell? ⟨g, i * 3 + 1, none⟩ = some (.int .i64 (n.rx : Int)) ∧ w.cell? ⟨g, i * 3 + 2, none⟩ = some (.slice (some ⟨q.C n.id, 0, none⟩) (2 ^ n.rx) (2 ^ n.rx)) := by
  obtain ⟨hl, hh | ⟨g, cap, cur, hv, hb, hg, hc, hm, hs, ht⟩⟩ := h.own
  · obtain ⟨h1, h2⟩ := hh
    refine ⟨none, 0, by rw [h1, h2], by omega, fun i n hi => ?_⟩
    rw [List.length_eq_zero_iff.mp h2] at hi
    simp at hi
  · refine ⟨_, cap, hv, hc, fun i n hi => ⟨g, rfl, ?_⟩⟩
    have hlt : i < L.length := by
      rcases Nat.lt_or_ge i L.length with h' | h'
      · exact h'
      · rw [List.getElem?_eq_none h'] at hi; cases hi
    have key : ∀ r, r < 3 → w.cell? ⟨g, i * 3 + r, none⟩ = (ndV n (q.C n.id))[r]? := fun r hr => by
      rw [(show Row w g cur _ from hg).cell, ← flatN_at q.C L i n hi r hr, ← ht, List.getElem?_take, if_pos (by omega)]
      simp
    exact ⟨key 0 (by omega), key 1 (by omega), key 2 (by omega)⟩

def ChgQ (w : World) (q : Qb) (L : List Nd) (w' : World) (L' : List Nd) : Prop := ∃ q' : Qb, q'.b = q.b ∧ IsQ w' q' L' ∧ Fr (q.s L) w w' ∧ ∀ k, q'.s L' k → q.s L k ∨ w.heap.size ≤ k
theorem ChgQ.same {w' : World} (h : IsQ w q L) (f : Fr none' w w') : ChgQ w q L w' L := ⟨q, rfl, h.keep0 f, f.mono (fun _ _ h => h.elim), fun _ h => Or.inl h⟩
end

set_option maxRecDepth 100000 in
set_option maxHeartbeats 1000000 in
theorem rat_any (w : World) (q : Qb) (L : List Nd) (h : IsQ w q L) (k : Int) :
    Calls Try.prog 37 #[.pointer (some ⟨q.b, 0, none⟩), .int .i64 k] w fun e w' => w' = w ∧ ((fnd L k = none ∧ e = .returned (.int .i64 (-1))) ∨ ∃ (i : Nat) (n : Nd), fnd L k = some n ∧ L[i]? = some n ∧ e = .returned (.int .i64 (i : Int))) := by
  have c0 := h.cell
  obtain ⟨a, cap, hv, hcap, hn⟩ := h.form
  rw [hv] at c0
  have HN : Hid (∀ i n, L[i]? = some n → ∃ g, a = some ⟨g, 0, none⟩ ∧ w.cell? ⟨g, i * 3, none⟩ = some (.int .i64 (n.id : Int)) ∧ w.cell? ⟨g, i * 3 + 1, none⟩ = some (.int .i64 (n.rx : Int)) ∧ w.cell? ⟨g, i * 3 + 2, none⟩ = some (.slice (some ⟨q.C n.id, 0, none⟩) (2 ^ n.rx) (2 ^ n.rx))) := hn
  have hlen := len_le h.good
  have HF : Hid (∀ i n, L[i]? = some n → (n.id : Int) = k → fnd L k = some n) := fun i n hi e => by
    rw [← e]
    exact fnd_of_mem h.good.srt (List.mem_of_getElem? hi)
  clear hn hv h hcap
  obtain ⟨N, hNl⟩ : ∃ N, N = L.length := ⟨_, rfl⟩
  rw [← hNl] at c0 hlen
  have HL : Hid (N = L.length) := hNl
  clear hNl
  go_enter Try.func37, Try.ntmps37
  go_wp2_with fail
  go_loopw [5] (fun i wr => ∃ j : Nat, j ≤ N ∧ i = .int .i64 (j : Int) ∧ Hid (wr = w ∧ ∀ m n, m < j → L[m]? = some n → (n.id : Int) ≠ k)) (fun i _ => N - (intOf i).toNat)
  case atStart => exact ⟨0, by omega, rfl, rfl, fun m n hm => by omega⟩
  case round =>
    obtain ⟨j, hj, rfl, hI⟩ := hrel
    obtain rfl : wr = w := hI.out.1
    by_cases hjN : j < N
    · have hjL : j < L.length := by rw [← HL.out]; exact hjN
      obtain ⟨g, rfl, d0, d1, d2⟩ := HN.out j L[j] (List.getElem?_eq_getElem hjL)
      have HX : Hid (L[j]? = some L[j]) := List.getElem?_eq_getElem hjL
      generalize L[j] = n at *
      clear d1 d2
      by_cases e : (n.id : Int) = k
      · have t1 : ((n.id : Int) == k) = true := by simpa using e
        have HE : Hid (fnd L k = some n) := HF.out j n HX.out e
        clear e
        go_wp2_with fail
        go_ret
        exact ⟨rfl, Or.inr ⟨j, n, HE.out, HX.out, rfl⟩⟩
      · have t1 : ((n.id : Int) == k) = false := by simpa using e
        have HE : Hid ((n.id : Int) ≠ k) := e
        clear e
        go_wp2_with fail
        go_roundw
        case rel =>
          refine ⟨j + 1, by omega, by go_num, trivial, fun m n' hm hn' => ?_⟩
          by_cases em : m = j
          · subst em
            rw [HX.out] at hn'
            cases hn'
            exact HE.out
          · exact hI.out.2 m n' (by omega) hn'
        case measure => simp [intOf]; omega
    · obtain rfl : j = N := by omega
      go_wp2_with fail
      go_ret
      refine ⟨rfl, Or.inl ⟨fnd_none_of fun n hn => ?_, rfl⟩⟩
      obtain ⟨m, hm, e⟩ := List.mem_iff_getElem.mp hn
      exact hI.out.2 m n (by rw [HL.out]; exact hm) (by rw [List.getElem?_eq_getElem hm, e])

end Go.Proofs.Ytibdkadojoeopaa
