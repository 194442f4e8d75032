/-
  Slices of the call's own: rows, append of a number. No statement is proved here.
-/
import Derived.Test.YtjobdfkfongjaaaIpAwake
import Derived.Test.YtjobdfkfongjaaaIpOpen
import Derived.Deep.CutBlock
import Derived.Deep.CutRange
namespace Go.Proofs.Ytjobdfkfongjaaa
open Go.RowKit Go.Maps Go.WideMaps

theorem bel_of' {w w' : World} (f : Fr none' w w') : Below w.heap.size w w' := f.below (Nat.le_refl _) (fun _ h => h.elim)
theorem Ix.turn {w0 w w' : World} {b : Nat} {S : Ip} {O O' T : Nat → Prop} (h : Ix w0 w b S O) (f : Fr T w w') (hT : ∀ k, T k → w0.heap.size ≤ k ∧ O k) (ho : ∀ k, O' k → (O k ∨ w.heap.size ≤ k) ∧ k < w'.heap.size) : Ix w0 w' b S O' := by
  obtain ⟨p, e, q1, q2, q3, q4, q5⟩ := h
  refine ⟨p, e, q1.keep f (fun k hk hS => (q2 k hk).2 (hT k hS).2), fun k hk => ⟨(q2 k hk).1, fun h' => ?_⟩, fun k hk => (ho k hk).2, fr_new q4 f (fun k hk => (hT k hk).1), q5⟩
  rcases (ho k h').1 with h1 | h1
  · exact (q2 k hk).2 h1
  · have := q1.lt k hk; omega

/-! ### lists of the law's own -/
theorem ownsRow_at {w w' : World} {B n k : Nat} {e : TypeId} {v : Value} {xs : List Value} (h : w.ownsRow B e k v n xs) (hk : ∀ q, some q = v.ownBlock → q < w.heap.size → w'.heap[q]? = w.heap[q]?) : w'.ownsRow B e k v n xs := by
  obtain ⟨hl, h | ⟨g, cap, cur, hv, hb, hg, hc, hm, hs, ht⟩⟩ := h
  · exact ⟨hl, Or.inl h⟩
  · exact ⟨hl, Or.inr ⟨g, cap, cur, hv, hb, (hk g (by rw [hv]; rfl) (Row.lt (show Row w g cur e from hg))).trans hg, hc, hm, hs, ht⟩⟩
theorem own_rowB {w : World} {e : TypeId} {k n B : Nat} {v : Value} {xs : List Value} (h : w.ownsRow B e k v n xs) {g : Nat} (hg : some g = v.ownBlock) : B ≤ g ∧ ∃ cur, Row w g cur e := by
  obtain ⟨_, h | ⟨g', cap, cur, hv, hb, hr, _⟩⟩ := h
  · rw [h.1] at hg; simp [Value.ownBlock] at hg
  · rw [hv] at hg
    obtain rfl : g = g' := by simpa [Value.ownBlock] using hg
    exact ⟨hb, cur, hr⟩
theorem info_i : (Try.prog.info? 3).map (fun i => (i.zero, i.size, i.bytes)) = some (some (.int .i64 0), 1, 8) := by kernel_rfl
theorem app_i (w : World) (B : Nat) (v : Value) (n : Nat) (xs : List Value) (ho : w.ownsRow B 3 1 v n xs) (hn : n ≤ 100000) (hB : B ≤ w.heap.size) (t : Int) :
    ∃ v' w', (Builtin.append_ #[37, 37] 37 #[v, .slice (some ⟨w.heap.size, 0, none⟩) 1 1]).run Try.prog (w.alloc (.cells #[.int .i64 t] 3)) = .ok v' w' ∧ Fr (fun k => some k = v.ownBlock) w w' ∧ w'.ownsRow B 3 1 v' (n + 1) (xs ++ [.int .i64 t]) ∧ (∀ k, some k = v'.ownBlock → some k = v.ownBlock ∨ w.heap.size ≤ k) := by
  have f0 := (Fr.refl none' w).alloc (.cells #[.int .i64 t] 3)
  have r0 := row_alloc w #[.int .i64 t] 3
  have hi := info_i
  cases hq : Try.prog.info? 3 with
  | none => simp [hq] at hi
  | some i =>
    rw [hq] at hi
    simp only [Option.map_some, Option.some.injEq, Prod.mk.injEq] at hi
    obtain ⟨hz0, hs, hby⟩ := hi
    obtain ⟨v', w', g1, g2, g3, _, g5⟩ := run_append_own_at (P := Try.prog) (w := w.alloc (.cells #[.int .i64 t] 3)) B 37 37 3 i _ 1 8 Try.underlying37 hq hz0 hs hby rfl (by omega) v n xs (ownsRow_at ho fun q _ hl => f0.block q hl (fun h => h)) ⟨w.heap.size, 0, none⟩ 1 1 [.int .i64 t] (by simp) (fun j u hu => by
      rw [add_lit', Nat.zero_add, r0.cell]
      match j, hu with
      | 0, hu => simpa using hu
      | j + 1, hu => simp at hu) (fun u hu => by simp at hu; subst hu; rfl) (by simp only [maxLen]; omega) (by omega) (by have := f0.size; omega)
    refine ⟨v', w', g1, (f0.mono (fun _ _ h => h.elim)).trans (fr_of_grown' g3), g2, fun k hk => ?_⟩
    rcases g5 with g5 | g5
    · exact Or.inl (hk.trans g5)
    · rw [g5] at hk
      have := Option.some.inj hk
      exact Or.inr (by rw [this, World.size_alloc]; omega)
theorem fro_own {w0 w w' : World} {O : Nat → Prop} {B n k : Nat} {e : TypeId} {v : Value} {xs : List Value} (f : FrO w0 O w w') (h : w.ownsRow B e k v n xs) (hO : ∀ q, some q = v.ownBlock → O q) : w'.ownsRow B e k v n xs :=
  ownsRow_at h fun q hq hl => f.block q hl (fun hn => hn.2 (hO q hq))

end Go.Proofs.Ytjobdfkfongjaaa
