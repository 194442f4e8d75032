/-
  An entry of a map taken and written by its stamp ('m[k] = append(m[k], ..)', 'm[k] |= ..'), over keys of either kind. No statement is proved here.
-/
import Derived.Test.YtjobdfkfongjaaaIpTh
namespace Go.Proofs.Ytjobdfkfongjaaa
open Go.RowKit Go.Maps Go.WideMaps Go.WideElems Go.ChangeShapes Go.WideShapes Go.ChangeMaps

section
variable {H : Type} {P : Program} {w : World} {t k e : TypeId} {R : Value → Option (DataW H × List MemPlace)} {b n : Nat} {D : DataW H}

theorem entry_own (K : Keyed P k) (ht : P.underlying t = some (.map k e)) {z : Value} (hz : ∀ u : World, (zeroValue e).run P u = .ok z u) (h : w.ownsMap P k R b n D) {key : Value} {kl : Lit} (hkey : keyOf P k key = some kl) :
    ∃ (v0 : Value) (st : Nat) (o1 : Obj), (Instr.mapEntry t (.map (some b)) key).run P w = .ok (.tuple #[v0, goInt st]) (setBlock w b o1) ∧ (Instr.lookup t (.map (some b)) key false).run P w = .ok v0 w ∧
      ∀ (w2 : World) (val : Value), w2.heap[b]? = some o1 → ∃ o2, (Instr.entryStore t (.map (some b)) (goInt st) val).run P w2 = .ok () (setBlock w2 b o2) ∧ (Instr.mapUpdate t (.map (some b)) key val).run P w = .ok () (setBlock w b o2) := by
  obtain ⟨es, clock, hb, F, _, _⟩ := h
  obtain ⟨s1, s2, _⟩ := F.stamped
  rcases K.find w hkey es.toList F.keys with ⟨h1, h2⟩ | ⟨j, e0, h1, h2, h3⟩
  · refine ⟨z, clock, .map (es.push ⟨key, z, clock⟩) (clock + 1), ?_, ?_, fun w2 val hw2 => ⟨.map (es.push ⟨key, val, clock⟩) (clock + 1), ?_, ?_⟩⟩
    · simp [Instr.mapEntry, run_underlying ht, MapKept.run_getObj_map hb, K.check w false hkey, h1, hz, MapKept.run_setObj_map _ hb, Result.andThen, setBlock]
    · simp [Instr.lookup, run_underlying ht, MapKept.run_getObj_map hb, K.check w _ hkey, h1, hz, Result.andThen]
    · have hidx : (es.push ⟨key, z, clock⟩).findIdx? (fun e => ((e.born : Nat) : Int) == ((clock : Nat) : Int)) = some es.size := by
        rw [findIdx_arr]
        exact findIdx_born (l := (es.push ⟨key, z, clock⟩).toList) (j := es.size) (e0 := ⟨key, z, clock⟩) (by
          simp only [Array.toList_push, List.map_append, List.map_cons, List.map_nil]
          refine List.nodup_append.2 ⟨s2, by simp, fun a ha c hc e1 => ?_⟩
          simp only [List.mem_singleton] at hc
          obtain ⟨x, hx, rfl⟩ := List.mem_map.1 ha
          have := s1 x hx
          omega) (by simp)
      have hmod : (es.push ⟨key, z, clock⟩).modify es.size (fun e => { e with val := val }) = es.push ⟨key, val, clock⟩ := by
        apply Array.ext'
        rw [Array.toList_modify, Array.toList_push, Array.toList_push, ← Array.length_toList, modify_last]
      simp [Instr.entryStore, MapKept.run_getObj_map hw2, asInt, asIntOf, goInt, hidx, hmod, MapKept.run_setObj_map _ hw2, Result.andThen, setBlock]
    · simp [Instr.mapUpdate, run_underlying ht, MapKept.run_getObj_map hb, K.check w false hkey, h1, MapKept.run_setObj_map _ hb, Result.andThen, setBlock]
  · have hj : es[j]? = some e0 := by simpa using h2
    have hsame : es.modify j (fun e => { e with key := key }) = es := by
      apply Array.ext'
      rw [Array.toList_modify, modify_eq_set _ _ _ _ h2]
      have : ({ e0 with key := key } : MapEntry) = e0 := by rw [← h3]
      rw [this]
      exact set_self _ _ _ h2
    refine ⟨e0.val, e0.born, .map es clock, ?_, ?_, fun w2 val hw2 => ⟨.map (es.modify j (fun e' => { e' with key := key, val := val })) clock, ?_, ?_⟩⟩
    · simp [Instr.mapEntry, run_underlying ht, MapKept.run_getObj_map hb, K.check w false hkey, h1, hj, h3, K.stays w hkey, hsame, MapKept.run_setObj_map _ hb, Result.andThen, setBlock]
    · simp [Instr.lookup, run_underlying ht, MapKept.run_getObj_map hb, K.check w _ hkey, h1, Result.andThen]
    · have hidx : es.findIdx? (fun e => ((e.born : Nat) : Int) == ((e0.born : Nat) : Int)) = some j := by
        rw [findIdx_arr]
        exact findIdx_born s2 h2
      have hmod : es.modify j (fun e => { e with val := val }) = es.modify j (fun e' => { e' with key := key, val := val }) := by
        apply Array.ext'
        rw [Array.toList_modify, Array.toList_modify, modify_eq_set _ _ _ _ h2, modify_eq_set _ _ _ _ h2, ← h3]
      simp [Instr.entryStore, MapKept.run_getObj_map hw2, asInt, asIntOf, goInt, hidx, hmod, MapKept.run_setObj_map _ hw2, Result.andThen, setBlock]
    · simp [Instr.mapUpdate, run_underlying ht, MapKept.run_getObj_map hb, K.check w false hkey, h1, hj, h3, K.stays w hkey, MapKept.run_setObj_map _ hb, Result.andThen, setBlock]

theorem fr_block (w : World) (b : Nat) (o : Obj) : Fr (at' b) w (setBlock w b o) := by
  refine ⟨rfl, rfl, rfl, by simp [setBlock], fun i _ hn => ?_⟩
  have hn : ¬ i = b := hn
  simp only [setBlock]
  rw [Array.getElem?_setIfInBounds_ne (fun e => hn e.symm)]
theorem block_same {w : World} {b : Nat} (hb : b < w.heap.size) (o : Obj) : (setBlock w b o).heap[b]? = some o := by
  simp [setBlock, Array.getElem?_setIfInBounds_self_of_lt hb]
end

/-- The same block at the same place: the same map. -/
theorem MQ.moved {w w' : World} {b : Nat} {f : Int → Int → Option Qs} (h : MQ w b f) (e : w'.heap[b]? = w.heap[b]?) : MQ w' b f := by
  obtain ⟨K, D, ⟨es, clock, hb, F, hn, hD⟩, hM⟩ := h
  exact ⟨K, D, ⟨es, clock, e.trans hb, F, hn, hD⟩, hM⟩
theorem ML.moved {w w' : World} {b : Nat} {f : Int → Option Int} (h : ML w b f) (e : w'.heap[b]? = w.heap[b]?) : ML w' b f := by
  obtain ⟨K, D, ⟨es, clock, hb, F, hn, hD⟩, hM⟩ := h
  exact ⟨K, D, ⟨es, clock, e.trans hb, F, hn, hD⟩, hM⟩

theorem MQ.entry {w : World} {b : Nat} {f : Int → Int → Option Qs} (h : MQ w b f) {s o : Int} (hk : okK (s, o)) :
    ∃ (st : Nat) (w1 : World), (Instr.mapEntry 69 (.map (some b)) (plV s o)).run Try.prog w = .ok (.tuple #[qO (f s o), goInt st]) w1 ∧ Fr (at' b) w w1 ∧
      ∀ (w2 : World) (g : Qs), w2.heap[b]? = w1.heap[b]? → ∃ w3, (Instr.entryStore 69 (.map (some b)) (goInt st) (qV g)).run Try.prog w2 = .ok () w3 ∧ Fr (at' b) w2 w3 ∧ MQ w3 b (uV f s o (some g)) := by
  obtain ⟨hs, ho⟩ := okK_64 hk
  have hl := h.look hs ho
  have hlt := h.lt
  have hst := fun g => h.store hk g (f' := uV f s o (some g)) (fun _ _ => rfl)
  obtain ⟨K, D, h, _⟩ := h
  obtain ⟨v0, st, o1, g1, g2, g3⟩ := entry_own lawP Try.underlying69 zeroQ h (keyP hs ho)
  rw [g2] at hl
  obtain rfl : v0 = qO (f s o) := by simpa using hl
  refine ⟨st, _, g1, fr_block _ _ _, fun w2 g e => ?_⟩
  rw [block_same hlt] at e
  obtain ⟨o2, r1, r2⟩ := g3 w2 (qV g) e
  obtain ⟨w', q1, q2, _⟩ := hst g
  rw [r2] at q1
  obtain rfl : setBlock w b o2 = w' := by simpa using q1
  have hlt2 : b < w2.heap.size := (Array.getElem?_eq_some_iff.1 e).1
  exact ⟨_, r1, fr_block _ _ _, q2.moved ((block_same hlt2 _).trans (block_same hlt _).symm)⟩
theorem ML.entry {w : World} {b : Nat} {f : Int → Option Int} (h : ML w b f) {k : Int} (hk : 0 ≤ k ∧ k < 1024) :
    ∃ (st : Nat) (w1 : World), (Instr.mapEntry 70 (.map (some b)) (.int .i64 k)).run Try.prog w = .ok (.tuple #[.int .i64 ((f k).getD 0), goInt st]) w1 ∧ Fr (at' b) w w1 ∧
      ∀ (w2 : World) (g : Int), w2.heap[b]? = w1.heap[b]? → ∃ w3, (Instr.entryStore 70 (.map (some b)) (goInt st) (.int .i64 g)).run Try.prog w2 = .ok () w3 ∧ Fr (at' b) w2 w3 ∧ ML w3 b (fun j => if j = k then some g else f j) := by
  have h64 : I64 k := ⟨by omega, by omega⟩
  have hl := h.look0 h64
  have hlt := h.lt
  have hst := fun g => h.store hk g (f' := fun j => if j = k then some g else f j) (fun _ => rfl)
  obtain ⟨K, D, h, _⟩ := h
  obtain ⟨v0, st, o1, g1, g2, g3⟩ := entry_own law3 Try.underlying70 zeroI h (key3 h64)
  rw [g2] at hl
  obtain rfl : v0 = .int .i64 ((f k).getD 0) := by simpa using hl
  refine ⟨st, _, g1, fr_block _ _ _, fun w2 g e => ?_⟩
  rw [block_same hlt] at e
  obtain ⟨o2, r1, r2⟩ := g3 w2 (.int .i64 g) e
  obtain ⟨w', q1, q2, _⟩ := hst g
  rw [r2] at q1
  obtain rfl : setBlock w b o2 = w' := by simpa using q1
  have hlt2 : b < w2.heap.size := (Array.getElem?_eq_some_iff.1 e).1
  exact ⟨_, r1, fr_block _ _ _, q2.moved ((block_same hlt2 _).trans (block_same hlt _).symm)⟩

end Go.Proofs.Ytjobdfkfongjaaa
