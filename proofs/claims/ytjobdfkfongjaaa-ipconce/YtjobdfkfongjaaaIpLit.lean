/-
  The block of the map of badges told as what it holds: laws on reading and writing it. No statement is proved here.
-/
import Derived.Test.YtjobdfkfongjaaaIpMap
import Derived.Test.YtjobdfkfongjaaaIpOkC
namespace Go.Proofs.Ytjobdfkfongjaaa
open Go.RowKit Go.Maps Go.WideMaps

/-- Block b is a map of badges that says this; K: its keys. -/
def ML (w : World) (b : Nat) (f : Int → Option Int) : Prop := ∃ (K : List Int) (D : DataW Unit), w.ownsMap Try.prog 3 iEl b K.length D ∧ Ng D f ∧ K.Nodup ∧ (∀ k, k ∈ K ↔ (f k).isSome = true) ∧ (∀ k ∈ K, 0 ≤ k ∧ k < 1024) ∧ Maps.size D = K.length

theorem own_tightI {w : World} {b n m : Nat} {D : DataW Unit} (h : w.ownsMap Try.prog 3 iEl b n D) (hm : Maps.size D ≤ m) : w.ownsMap Try.prog 3 iEl b m D := by
  obtain ⟨es, clock, hb, F, _, rfl⟩ := h
  refine ⟨es, clock, hb, F, ?_, rfl⟩
  simpa [Maps.size, length_sorted] using hm
theorem ml_made (w : World) : ML (w.alloc (.map #[] 0)) w.heap.size (fun _ => none) := ⟨[], _, World.ownsMap_made w _ _ _, ng_nil, List.Pairwise.nil, by simp, by simp, rfl⟩
theorem zeroI (w : World) : (zeroValue 3).run Try.prog w = .ok (.int .i64 0) w := Try.zeroValue3 w

section
variable {w : World} {b : Nat} {f : Int → Option Int}
theorem ML.lt (h : ML w b f) : b < w.heap.size := by obtain ⟨K, D, h, _⟩ := h; exact h.lt
theorem ML.keep {S : Nat → Prop} {w' : World} (h : ML w b f) (k : Fr S w w') (hs : ¬ S b) : ML w' b f := by
  have hl := h.lt
  obtain ⟨K, D, ⟨es, clock, hb, F, hn, hD⟩, hM⟩ := h
  exact ⟨K, D, ⟨es, clock, (k.block b hl hs).trans hb, F, hn, hD⟩, hM⟩
theorem ML.congr {f' : Int → Option Int} (h : ML w b f) (e : ∀ k, f k = f' k) : ML w b f' := by
  rw [← funext e]; exact h
theorem ML.ne {c : Nat} {cs : Array Value} {t : TypeId} (h : ML w b f) (r : Row w c cs t) : b ≠ c := by
  rintro rfl
  obtain ⟨K, D, ⟨es, clock, hb, _⟩, _⟩ := h
  have r' : w.heap[b]? = some (.cells cs t (0, 0)) := r
  rw [hb] at r'
  cases r'
theorem ML.len {K : List Int} (h : K.Nodup) (hk : ∀ k ∈ K, 0 ≤ k ∧ k < 1024) : K.length ≤ 1024 := len_ids 1024 K h (fun x hx => by have := hk x hx; omega)

theorem ML.look (h : ML w b f) {k : Int} (hk : I64 k) :
    (Instr.lookup 70 (.map (some b)) (.int .i64 k) true).run Try.prog w = .ok (.tuple #[.int .i64 ((f k).getD 0), .bool (f k).isSome]) w := by
  obtain ⟨K, D, h, M, _⟩ := h
  obtain ⟨v, ps, hrun, hv⟩ := h.look_ok law3 Try.underlying70 (zeroI w) (iEl_mk 0) (key3 hk)
  rw [hrun, M.has]
  cases e : f k with
  | none =>
    rw [atKey_of_not_has (by rw [M.has, e]; rfl)] at hv
    obtain ⟨x, rfl, e'⟩ := iEl_inv hv
    obtain rfl := il_inj (congrArg Prod.fst e')
    rfl
  | some g =>
    rw [M.at' k g e] at hv
    obtain ⟨x, rfl, e'⟩ := iEl_inv hv
    obtain rfl := il_inj (congrArg Prod.fst e')
    rfl
theorem ML.look0 (h : ML w b f) {k : Int} (hk : I64 k) :
    (Instr.lookup 70 (.map (some b)) (.int .i64 k) false).run Try.prog w = .ok (.int .i64 ((f k).getD 0)) w := by
  obtain ⟨K, D, h, M, _⟩ := h
  obtain ⟨v, ps, hrun, hv⟩ := h.lookup law3 Try.underlying70 (zeroI w) (iEl_mk 0) (key3 hk)
  rw [hrun]
  cases e : f k with
  | none =>
    rw [atKey_of_not_has (by rw [M.has, e]; rfl)] at hv
    obtain ⟨x, rfl, e'⟩ := iEl_inv hv
    obtain rfl := il_inj (congrArg Prod.fst e')
    rfl
  | some g =>
    rw [M.at' k g e] at hv
    obtain ⟨x, rfl, e'⟩ := iEl_inv hv
    obtain rfl := il_inj (congrArg Prod.fst e')
    rfl
theorem ML.store (h : ML w b f) {k : Int} (hk : 0 ≤ k ∧ k < 1024) (g : Int) {f' : Int → Option Int} (hf' : ∀ j, f' j = if j = k then some g else f j) :
    ∃ w', (Instr.mapUpdate 70 (.map (some b)) (.int .i64 k) (.int .i64 g)).run Try.prog w = .ok () w' ∧ ML w' b f' ∧ Fr (at' b) w w' := by
  obtain ⟨K, D, h, M, h1, h2, h3, h4⟩ := h
  have hn := ML.len h1 h3
  obtain ⟨w', hrun, h', ht⟩ := h.store law3 Try.underlying70 (by simp only [maxLen]; omega) (key3 (k := k) ⟨by omega, by omega⟩) (iEl_mk g)
  have M' := ng_put M k g hf'
  have hs := size_put (k := .int .i64 k) (d := (.lit (.int .i64 g) : DataW Unit)) M.tidy
  rw [M.has, h4] at hs
  refine ⟨w', hrun, ?_, fr_map ht.grown⟩
  by_cases e : (f k).isSome = true
  · rw [e] at hs
    have hs' : Maps.size (D.put (.int .i64 k) (.lit (.int .i64 g))) = K.length := by simpa using hs
    refine ⟨K, _, own_tightI h' (by rw [hs']; omega), M', h1, fun j => ?_, h3, hs'⟩
    rw [hf', h2]
    split
    · rename_i ej; subst ej; simp [e]
    · rfl
  · have e' : (f k).isSome = false := by simpa using e
    rw [e'] at hs
    have hs' : Maps.size (D.put (.int .i64 k) (.lit (.int .i64 g))) = (k :: K).length := by simpa using hs
    refine ⟨k :: K, _, own_tightI h' (by rw [hs']; omega), M', List.nodup_cons.2 ⟨fun hm => e ((h2 k).1 hm), h1⟩, fun j => ?_, fun j hj => ?_, hs'⟩
    · rw [hf', List.mem_cons, h2]
      split
      · rename_i ej; subst ej; simp
      · rename_i ej; simp [ej]
    · rcases List.mem_cons.1 hj with rfl | hj
      · exact hk
      · exact h3 j hj
theorem ML.drop (h : ML w b f) {k : Int} (hk : 0 ≤ k ∧ k < 1024) {y : Int} (hf : f k = some y) {f' : Int → Option Int} (hf' : ∀ j, f' j = if j = k then none else f j) :
    ∃ w', (∀ ty, (Builtin.delete_ #[70, 3] ty #[.map (some b), .int .i64 k]).run Try.prog w = .ok (.tuple #[]) w') ∧ ML w' b f' ∧ Fr (at' b) w w' := by
  obtain ⟨K, D, h, M, h1, h2, h3, h4⟩ := h
  obtain ⟨w', hrun, h', ht⟩ := h.drop law3 Try.underlying70 (key3 (k := k) ⟨by omega, by omega⟩) 0
  have M' := ng_del M k hf'
  have hm : k ∈ K := (h2 k).2 (by rw [hf]; rfl)
  have hs := size_del (k := .int .i64 k) M.tidy
  rw [h4, M.has, hf] at hs
  have hl := List.length_erase_of_mem hm
  have hp := List.length_pos_of_mem hm
  have hs' : Maps.size (D.del (.int .i64 k)) = (K.erase k).length := by
    simp at hs
    omega
  refine ⟨w', fun ty => ?_, ⟨K.erase k, _, own_tightI h' (by rw [hs']; omega), M', h1.erase k, fun j => ?_, fun j hj => h3 j (List.mem_of_mem_erase hj), hs'⟩, fr_map ht.grown⟩
  · rw [← hrun]
    rfl
  · rw [hf', h1.mem_erase_iff, h2]
    split
    · rename_i ej; subst ej; simp
    · rename_i ej; simp [ej]
end

end Go.Proofs.Ytjobdfkfongjaaa
