/-
  Lists of who came and what was sent, of the law's own. No statement is proved here.
-/
import Derived.Test.YtcdckkhfkkjbmaaIpAwake
import Derived.Test.YtcdckkhfkkjbmaaIpOrdQ
import Derived.Test.YtcdckkhfkkjbmaaIpRefR
import Derived.Test.YtcdckkhfkkjbmaaIpOpen
import Derived.Deep.CutBlock
import Derived.Deep.CutRange
namespace Go.Proofs.Ytcdckkhfkkjbmaa
open Go.RowKit Go.Maps Go.WideMaps

theorem bel_of' {w w' : World} (f : Fr none' w w') : Below w.heap.size w w' := f.below (Nat.le_refl _) (fun _ h => h.elim)
theorem Ix.turn {w0 w w' : World} {b : Nat} {S : Ip} {O O' T : Nat → Prop} (h : Ix w0 w b S O) (f : Fr T w w') (hT : ∀ k, T k → w0.heap.size ≤ k ∧ O k) (ho : ∀ k, O' k → (O k ∨ w.heap.size ≤ k) ∧ k < w'.heap.size) : Ix w0 w' b S O' := by
  obtain ⟨p, e, q1, q2, q3, q4, q5⟩ := h
  refine ⟨p, e, q1.keep f (fun k hk hS => (q2 k hk).2 (hT k hS).2), fun k hk => ⟨(q2 k hk).1, fun h' => ?_⟩, fun k hk => (ho k hk).2, fr_new q4 f (fun k hk => (hT k hk).1), q5⟩
  rcases (ho k h').1 with h1 | h1
  · exact (q2 k hk).2 h1
  · have := q1.lt k hk; omega

/-! ### lists of the law's own -/
theorem ownsRow_at {w w' : World} {B n k : Nat} {e : TypeId} {v : Value} {xs : List Value} (h : w.ownsRow B e k v n xs) (hk : ∀ q, some q = v.ownBlock → q < w.heap.size → w'.heap[q]? = w.heap[q]?) : w'.ownsRow B e k v n xs := by
  obtain ⟨hl, h | ⟨g, cap, cur, hv, hb, hg, hc, hm, hs, ht⟩⟩ := h
  · exact ⟨hl, Or.inl h⟩
  · exact ⟨hl, Or.inr ⟨g, cap, cur, hv, hb, (hk g (by rw [hv]; rfl) (Row.lt (show Row w g cur e from hg))).trans hg, hc, hm, hs, ht⟩⟩
theorem own_rowB {w : World} {e : TypeId} {k n B : Nat} {v : Value} {xs : List Value} (h : w.ownsRow B e k v n xs) {g : Nat} (hg : some g = v.ownBlock) : B ≤ g ∧ ∃ cur, Row w g cur e := by
  obtain ⟨_, h | ⟨g', cap, cur, hv, hb, hr, _⟩⟩ := h
  · rw [h.1] at hg; simp [Value.ownBlock] at hg
  · rw [hv] at hg
    obtain rfl : g = g' := by simpa [Value.ownBlock] using hg
    exact ⟨hb, cur, hr⟩
theorem info_i : (Try.prog.info? 3).map (fun i => (i.zero, i.size, i.bytes)) = some (some (.int .i64 0), 1, 8) := by kernel_rfl
theorem info_m : (Try.prog.info? 36).map (fun i => (i.zero, i.size, i.bytes)) = some (some (msV M0), 7, 40) := by kernel_rfl
theorem app_i (w : World) (B : Nat) (v : Value) (n : Nat) (xs : List Value) (ho : w.ownsRow B 3 1 v n xs) (hn : n ≤ 100000) (hB : B ≤ w.heap.size) (t : Int) :
    ∃ v' w', (Builtin.append_ #[37, 37] 37 #[v, .slice (some ⟨w.heap.size, 0, none⟩) 1 1]).run Try.prog (w.alloc (.cells #[.int .i64 t] 3)) = .ok v' w' ∧ Fr (fun k => some k = v.ownBlock) w w' ∧ w'.ownsRow B 3 1 v' (n + 1) (xs ++ [.int .i64 t]) ∧ (∀ k, some k = v'.ownBlock → some k = v.ownBlock ∨ w.heap.size ≤ k) := by
  have f0 := (Fr.refl none' w).alloc (.cells #[.int .i64 t] 3)
  have r0 := row_alloc w #[.int .i64 t] 3
  have hi := info_i
  cases hq : Try.prog.info? 3 with
  | none => simp [hq] at hi
  | some i =>
    rw [hq] at hi
    simp only [Option.map_some, Option.some.injEq, Prod.mk.injEq] at hi
    obtain ⟨hz0, hs, hby⟩ := hi
    obtain ⟨v', w', g1, g2, g3, _, g5⟩ := run_append_own_at (P := Try.prog) (w := w.alloc (.cells #[.int .i64 t] 3)) B 37 37 3 i _ 1 8 Try.underlying37 hq hz0 hs hby rfl (by omega) v n xs (ownsRow_at ho fun q _ hl => f0.block q hl (fun h => h)) ⟨w.heap.size, 0, none⟩ 1 1 [.int .i64 t] (by simp) (fun j u hu => by
      rw [add_lit', Nat.zero_add, r0.cell]
      match j, hu with
      | 0, hu => simpa using hu
      | j + 1, hu => simp at hu) (fun u hu => by simp at hu; subst hu; rfl) (by simp only [maxLen]; omega) (by omega) (by have := f0.size; omega)
    refine ⟨v', w', g1, (f0.mono (fun _ _ h => h.elim)).trans (fr_of_grown' g3), g2, fun k hk => ?_⟩
    rcases g5 with g5 | g5
    · exact Or.inl (hk.trans g5)
    · rw [g5] at hk
      have := Option.some.inj hk
      exact Or.inr (by rw [this, World.size_alloc]; omega)
theorem app_m (w : World) (B : Nat) (v : Value) (n : Nat) (xs : List Value) (ho : w.ownsRow B 36 7 v n xs) (hn : n ≤ 100000) (hB : B ≤ w.heap.size) (m : Ms) :
    ∃ v' w', (Builtin.append_ #[53, 53] 53 #[v, .slice (some ⟨w.heap.size, 0, none⟩) 1 1]).run Try.prog (w.alloc (.cells (msA m) 36)) = .ok v' w' ∧ Fr (fun k => some k = v.ownBlock) w w' ∧ w'.ownsRow B 36 7 v' (n + 1) (xs ++ msL m) ∧ (∀ k, some k = v'.ownBlock → some k = v.ownBlock ∨ w.heap.size ≤ k) := by
  have f0 := (Fr.refl none' w).alloc (.cells (msA m) 36)
  have r0 := row_alloc w (msA m) 36
  have hi := info_m
  cases hq : Try.prog.info? 36 with
  | none => simp [hq] at hi
  | some i =>
    rw [hq] at hi
    simp only [Option.map_some, Option.some.injEq, Prod.mk.injEq] at hi
    obtain ⟨hz0, hs, hby⟩ := hi
    obtain ⟨v', w', g1, g2, g3, _, g5⟩ := run_append_own_at (P := Try.prog) (w := w.alloc (.cells (msA m) 36)) B 53 53 36 i _ 7 40 Try.underlying53 hq hz0 hs hby rfl (by omega) v n xs (ownsRow_at ho fun q _ hl => f0.block q hl (fun h => h)) ⟨w.heap.size, 0, none⟩ 1 1 (msL m) (by simp [msL]) (fun j u hu => by
      rw [add_lit', Nat.zero_add, r0.cell]
      rw [← hu]
      unfold msL
      simp) (fun u hu => by simp [msL] at hu; rcases hu with rfl | rfl | rfl | rfl | rfl | rfl | rfl <;> rfl) (by simp only [maxLen]; omega) (by omega) (by have := f0.size; omega)
    refine ⟨v', w', g1, (f0.mono (fun _ _ h => h.elim)).trans (fr_of_grown' g3), g2, fun k hk => ?_⟩
    rcases g5 with g5 | g5
    · exact Or.inl (hk.trans g5)
    · rw [g5] at hk
      have := Option.some.inj hk
      exact Or.inr (by rw [this, World.size_alloc]; omega)

/-- Who came, with what, and where the Ipc stands. -/
def Ow (va vb : Value) : Nat → Prop := fun k => some k = va.ownBlock ∨ some k = vb.ownBlock
structure Cam (w0 w : World) (b : Nat) (ep : Int) (va vb : Value) (C : List Sn) : Prop where
  ix : Ix w0 w b (ordS ep [] C false) (Ow va vb)
  ra : w.ownsRow w0.heap.size 3 1 va C.length (C.map fun c => .int .i64 c.1)
  rb : w.ownsRow w0.heap.size 36 7 vb C.length (C.flatMap fun c => msL c.2)
  ok : OkC C
theorem fro_own {w0 w w' : World} {O : Nat → Prop} {B n k : Nat} {e : TypeId} {v : Value} {xs : List Value} (f : FrO w0 O w w') (h : w.ownsRow B e k v n xs) (hO : ∀ q, some q = v.ownBlock → O q) : w'.ownsRow B e k v n xs :=
  ownsRow_at h fun q hq hl => f.block q hl (fun hn => hn.2 (hO q hq))
/-- Nothing that counts has turned. -/
theorem Cam.fro {w0 w w' : World} {b : Nat} {ep : Int} {va vb : Value} {C : List Sn} (h : Cam w0 w b ep va vb C) (Q : Ix w0 w' b (ordS ep [] C false) (Ow va vb)) (f : FrO w0 (Ow va vb) w w') : Cam w0 w' b ep va vb C :=
  ⟨Q, fro_own f h.ra (fun _ hq => Or.inl hq), fro_own f h.rb (fun _ hq => Or.inr hq), h.ok⟩
/-- One more came: both appends, one behind the other. -/
theorem cam_push {w0 w w' : World} {b : Nat} {ep t : Int} {m : Ms} {va vb : Value} {C : List Sn} (h : Cam w0 w b ep va vb C) (Q : Ix w0 w' b (ordS ep [] (C ++ [(t, m)]) false) (Ow va vb)) (f : FrO w0 (Ow va vb) w w') (ok : OkC (C ++ [(t, m)])) :
    ∃ va' wA, (Builtin.append_ #[37, 37] 37 #[va, .slice (some ⟨w'.heap.size, 0, none⟩) 1 1]).run Try.prog (w'.alloc (.cells #[.int .i64 t] 3)) = .ok va' wA ∧ Fr none' w0 wA ∧
    ∃ vb' wB, (Builtin.append_ #[53, 53] 53 #[vb, .slice (some ⟨wA.heap.size, 0, none⟩) 1 1]).run Try.prog (wA.alloc (.cells (msA m) 36)) = .ok vb' wB ∧ Hid (Cam w0 wB b ep va' vb' (C ++ [(t, m)])) := by
  have ra := fro_own f h.ra (fun _ hq => Or.inl hq)
  have rb := fro_own f h.rb (fun _ hq => Or.inr hq)
  have hl := h.ok.len
  have hsz := Q.old.size
  obtain ⟨va', wA, a1, a2, a3, a4⟩ := app_i w' w0.heap.size va C.length _ ra (by omega) hsz t
  have dif : ∀ q, some q = va.ownBlock → some q = vb.ownBlock → False := fun q h1 h2 => by
    obtain ⟨_, cur, r⟩ := own_rowB ra h1
    obtain ⟨_, cur', r'⟩ := own_rowB rb h2
    exact row_ne r r' (by decide) rfl
  have rbA := ownsRow_at rb (w' := wA) (fun q hq hl => a2.block q hl (fun e => dif q e hq))
  have hbl : ∀ q, some q = vb.ownBlock → q < w'.heap.size := fun q hq => by obtain ⟨_, cur, r⟩ := own_rowB rb hq; exact r.lt
  have QA : Ix w0 wA b (ordS ep [] (C ++ [(t, m)]) false) (Ow va' vb) := Q.turn a2 (fun k hk => ⟨(own_rowB ra hk).1, Or.inl hk⟩) (fun k hk => by
    rcases hk with hk | hk
    · obtain ⟨_, cur, r⟩ := own_rowB a3 hk
      refine ⟨?_, r.lt⟩
      rcases a4 k hk with h1 | h1
      · exact Or.inl (Or.inl h1)
      · exact Or.inr h1
    · exact ⟨Or.inl (Or.inr hk), Nat.lt_of_lt_of_le (hbl k hk) a2.size⟩)
  refine ⟨va', wA, a1, QA.old, ?_⟩
  obtain ⟨vb', wB, b1, b2, b3, b4⟩ := app_m wA w0.heap.size vb C.length _ rbA (by omega) QA.old.size m
  have difA : ∀ q, some q = va'.ownBlock → some q = vb.ownBlock → False := fun q h1 h2 => by
    obtain ⟨_, cur, r⟩ := own_rowB a3 h1
    obtain ⟨_, cur', r'⟩ := own_rowB rbA h2
    exact row_ne r r' (by decide) rfl
  have raB := ownsRow_at a3 (w' := wB) (fun q hq hl => b2.block q hl (fun e => difA q hq e))
  have hal : ∀ q, some q = va'.ownBlock → q < wA.heap.size := fun q hq => by obtain ⟨_, cur, r⟩ := own_rowB a3 hq; exact r.lt
  refine ⟨vb', wB, b1, ⟨QA.turn b2 (fun k hk => ⟨(own_rowB rbA hk).1, Or.inr hk⟩) (fun k hk => ?_), ?_, ?_, ok⟩⟩
  · rcases hk with hk | hk
    · exact ⟨Or.inl (Or.inl hk), Nat.lt_of_lt_of_le (hal k hk) b2.size⟩
    · obtain ⟨_, cur, r⟩ := own_rowB b3 hk
      refine ⟨?_, r.lt⟩
      rcases b4 k hk with h1 | h1
      · exact Or.inl (Or.inr h1)
      · exact Or.inr h1
  · rw [List.length_append, List.map_append]; exact raB
  · rw [List.length_append, List.flatMap_append]
    simpa using b3

end Go.Proofs.Ytcdckkhfkkjbmaa
