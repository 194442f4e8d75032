/-
  A map's entry taken by its stamp, and written by it. No statement is proved here.
-/
import Derived.Test.YtjopmhidldemmaaCdtMov
import Derived.MapFrom
namespace Go.Proofs.Ytjopmhidldemmaa
open Go.RowKit Go.Maps Go.WideMaps Go.MapKept Go.ChangeMaps

theorem modify_self {α : Type} {es : Array α} {j : Nat} {e : α} {f : α → α} (h : es[j]? = some e) (hf : f e = e) : es.modify j f = es := by
  apply Array.ext_getElem?
  intro i
  rw [Array.getElem?_modify]
  split
  · rename_i hi
    subst hi
    rw [h]
    simp [hf]
  · rfl
theorem setblock_self {w : World} {b : Nat} {o : Obj} (h : w.heap[b]? = some o) : { w with heap := w.heap.setIfInBounds b o } = w := by
  have : w.heap.setIfInBounds b o = w.heap := by
    apply Array.ext_getElem?
    intro i
    rw [Array.getElem?_setIfInBounds]
    split
    · rename_i hi
      subst hi
      split
      · exact h.symm
      · rename_i hl
        rw [Array.getElem?_eq_none (by omega)]
    · rfl
  rw [this]

/-- The entry of a bears the stamp s. -/
def St (w : World) (b : Nat) (a : Rf) (s : Nat) : Prop := ∃ (es : Array MapEntry) (clock j : Nat) (e : MapEntry), w.heap[b]? = some (.map es clock) ∧ es[j]? = some e ∧ e.key = rfV a ∧ e.born = s ∧ (es.toList.map (·.born)).Nodup ∧ (es.toList.map (·.key)).Nodup ∧ ∀ x ∈ es.toList, ∃ l, keyOf Try.prog 33 x.key = some l

theorem entry_run {w : World} {b n : Nat} {f : Rf → Option Nat} (h : MP w b n f) {a : Rf} (ha : a.Ok) {g : Nat} (hf : f a = some g) :
    ∃ s v, St w b a s ∧ (Instr.mapEntry 48 (.map (some b)) (rfV a)).run Try.prog w = .ok (.tuple #[v, .int .i64 (s : Int)]) w := by
  have hl := h.look_some ha hf
  obtain ⟨D, ⟨es, clock, hb, F, _, _⟩, _⟩ := h
  rcases law33.find w (key33 ha) es.toList F.keys with ⟨h1, _⟩ | ⟨j, e0, h1, h2, h3⟩
  · simp [Instr.lookup, run_underlying Try.underlying48, MapKept.run_getObj_map hb, law33.check w es.isEmpty (key33 ha), h1, zeroP w, Result.andThen] at hl
  · have hj : es[j]? = some e0 := by simpa using h2
    have hkey : keyOf Try.prog 33 (rfV a) = some (kl a) := key33 ha
    refine ⟨e0.born, e0.val, ⟨es, clock, j, e0, hb, hj, h3, rfl, F.stamped.2.1, F.stamped.2.2, F.keys⟩, ?_⟩
    have hm : es.modify j (fun e => { e with key := rfV a }) = es := modify_self hj (by cases e0; simp_all)
    have hst := law33.stays w hkey
    simp [Instr.mapEntry, run_underlying Try.underlying48, MapKept.run_getObj_map hb, law33.check w false hkey, h1, hj, h3, hst, MapKept.run_setObj_map _ hb, Result.andThen, hm, goInt, setblock_self hb]

theorem findIdx_born {es : Array MapEntry} {j : Nat} {e : MapEntry} (hj : es[j]? = some e) (hn : (es.toList.map (·.born)).Nodup) : es.findIdx? (fun x => (x.born : Int) == (e.born : Int)) = some j := by
  obtain ⟨hlt, he⟩ := Array.getElem?_eq_some_iff.1 hj
  rw [Array.findIdx?_eq_some_iff_getElem]
  refine ⟨hlt, by simp [he], fun i hi => ?_⟩
  intro hh
  have hil : i < es.size := by omega
  have e1 : es[i].born = es[j].born := by
    have : ((es[i].born : Int) == (e.born : Int)) = true := by simpa using hh
    have := eq_of_beq this
    rw [he]
    omega
  have := (List.getElem?_inj (l := es.toList.map (·.born)) (i := i) (j := j) (by simpa using hil) hn).1 (by
    rw [List.getElem?_map, List.getElem?_map]
    simp [hil, hlt, e1])
  omega

/-- A store by the stamp is a store by the key; other entries keep theirs. -/
theorem store_run {w : World} {b : Nat} {a : Rf} {s : Nat} (ha : a.Ok) (h : St w b a s) (v : Value) :
    ∃ w', (Instr.entryStore 48 (.map (some b)) (.int .i64 (s : Int)) v).run Try.prog w = .ok () w' ∧ (Instr.mapUpdate 48 (.map (some b)) (rfV a) v).run Try.prog w = .ok () w' ∧ ∀ c s', St w b c s' → St w' b c s' := by
  obtain ⟨es, clock, j, e, hb, hj, hk, rfl, hn, hkn, hks⟩ := h
  have hkey : keyOf Try.prog 33 (rfV a) = some (kl a) := key33 ha
  refine ⟨{ w with heap := w.heap.setIfInBounds b (.map (es.modify j fun x => { x with val := v }) clock) }, ?_, ?_, ?_⟩
  · simp [Instr.entryStore, MapKept.run_getObj_map hb, asInt, asIntOf, findIdx_born hj hn, MapKept.run_setObj_map _ hb, Result.andThen]
  · rcases law33.find w hkey es.toList hks with ⟨_, h2⟩ | ⟨i, e0, h1, h2, h3⟩
    · exact absurd hk (h2 e (List.mem_of_getElem? (by simpa using hj)))
    · have hi : es[i]? = some e0 := by simpa using h2
      have hij : i = j := (List.getElem?_inj (l := es.toList.map (·.key)) (by
        have := (Array.getElem?_eq_some_iff.1 hi).1
        simpa using this) hkn).1 (by
        rw [List.getElem?_map, List.getElem?_map]
        simp [hi, hj, hk, h3])
      subst hij
      rw [hj] at hi
      cases hi
      have hm : es.modify i (fun x => { x with key := rfV a, val := v }) = es.modify i (fun x => { x with val := v }) := by
        apply Array.ext_getElem?
        intro q
        rw [Array.getElem?_modify, Array.getElem?_modify]
        split
        · rename_i hq
          subst hq
          rw [hj]
          cases e
          simp_all
        · rfl
      have hst := law33.stays w hkey
      simp [Instr.mapUpdate, run_underlying Try.underlying48, MapKept.run_getObj_map hb, law33.check w false hkey, h1, hj, h3, hst, MapKept.run_setObj_map _ hb, Result.andThen, hm]
  · rintro c s' ⟨es', clock', i, e', hb', hi, hk', rfl, _, _, _⟩
    rw [hb] at hb'
    cases hb'
    have hm1 : (es.modify j fun x => { x with val := v }).toList.map (·.born) = es.toList.map (·.born) := by
      apply List.ext_getElem?
      intro q
      rw [List.getElem?_map, List.getElem?_map, Array.getElem?_toList, Array.getElem?_toList, Array.getElem?_modify]
      split
      · cases es[q]? <;> rfl
      · rfl
    have hm2 : (es.modify j fun x => { x with val := v }).toList.map (·.key) = es.toList.map (·.key) := by
      apply List.ext_getElem?
      intro q
      rw [List.getElem?_map, List.getElem?_map, Array.getElem?_toList, Array.getElem?_toList, Array.getElem?_modify]
      split
      · cases es[q]? <;> rfl
      · rfl
    refine ⟨_, clock, i, if j = i then { e' with val := v } else e', heap_setBlock_same hb _, ?_, ?_, ?_, by rw [hm1]; exact hn, by rw [hm2]; exact hkn, ?_⟩
    · rw [Array.getElem?_modify, hi]
      split <;> rfl
    · split <;> exact hk'
    · split <;> rfl
    · intro x hx
      have : x.key ∈ es.toList.map (·.key) := by rw [← hm2]; exact List.mem_map.2 ⟨x, hx, rfl⟩
      obtain ⟨y, hy, e2⟩ := List.mem_map.1 this
      rw [← e2]
      exact hks y hy

end Go.Proofs.Ytjopmhidldemmaa
