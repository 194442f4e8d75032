/-
  The map of queues (keys: places) told as what it holds: laws on reading and writing it, and an entry taken and written by its stamp. No statement is proved here.
-/
import Derived.Test.YtjobdfkfongjaaaIpLit
import Derived.DeepKeys5
import Derived.WideKeyEntry
namespace Go.Proofs.Ytjobdfkfongjaaa
open Go.RowKit Go.Maps Go.WideMaps

/-! ### places as keys -/
theorem laid_out : laidOutB Try.prog = true := by kernel_rfl
theorem rowP : (82 : TypeId) < Try.prog.types.size := of_decide_eq_true (by kernel_rfl)
theorem lawP : Keyed Try.prog 82 := Keyed.of_law (deep_law_laid laid_out (m := 3) (by omega) rowP (by kernel_rfl) (by rw [Try.underlying82]))
theorem ktP : Try.prog.keyType 82 = true := by kernel_rfl
theorem cellsP : Try.prog.cellsOf 82 = 2 := by kernel_rfl
theorem formedP (s o : Int) : (plV s o).formed Try.prog 82 = true := by simp [Value.formed, Try.underlying82, cellsP]
def kl (s o : Int) : Lit := .string (keyBytes [.int .i64 s, .int .i64 o])
theorem wf64 {x : Int} (hx : I64 x) : (Lit.int .i64 x).wf = true := by
  obtain ⟨hk1, hk2⟩ := hx
  have h1 : IntKind.i64.min = -9223372036854775808 := rfl
  have h2 : IntKind.i64.max = 9223372036854775807 := rfl
  simp only [Lit.wf, h1, h2, Bool.and_eq_true, decide_eq_true_eq]
  omega
theorem litsP {s o : Int} (hs : I64 s) (ho : I64 o) : Try.prog.keyLits (Try.prog.types.size + 1) 82 [.int .i64 s, .int .i64 o] = some [.int .i64 s, .int .i64 o] := by
  obtain ⟨m, hm⟩ : ∃ m, Try.prog.types.size = m + 1 := ⟨_, (by kernel_rfl : Try.prog.types.size = (Try.prog.types.size - 1) + 1)⟩
  rw [hm]
  have h1 := wf64 hs
  have h2 := wf64 ho
  have c3 : Try.prog.cellsOf 3 = 1 := by kernel_rfl
  simp [Program.keyLits, Try.underlying82, cellsP, Try.underlying3, c3, h1, h2]
theorem keyP {s o : Int} (hs : I64 s) (ho : I64 o) : keyOf Try.prog 82 (plV s o) = some (kl s o) := by
  unfold keyOf
  rw [Try.underlying82]
  simp only [ktP, formedP, Bool.and_self, if_true]
  rw [show (plV s o).cells.toList = [.int .i64 s, .int .i64 o] from rfl, litsP hs ho]
  rfl
theorem kl_inj {s o s' o' : Int} (h1 : I64 s) (h2 : I64 o) (h3 : I64 s') (h4 : I64 o') (h : kl s o = kl s' o') : s = s' ∧ o = o' := by
  have := lawP.inj (keyP h1 h2) (by rw [h]; exact keyP h3 h4)
  simpa using this

/-! ### slices as elements -/
/-- A slice that begins with its block: block, length, room. -/
structure Qs where
  g : Nat
  n : Nat
  c : Nat
abbrev qV (q : Qs) : Value := .slice (some ⟨q.g, 0, none⟩) q.n q.c
def qd (q : Qs) : DataW Unit := .agg [.lit (.int .i64 q.g), .lit (.int .i64 q.n), .lit (.int .i64 q.c)]
def qd0 : DataW Unit := .agg []
def qEl (v : Value) : Option (DataW Unit × List MemPlace) := match v with
  | .slice (some ⟨g, 0, none⟩) n c => some (qd ⟨g, n, c⟩, [])
  | .slice none 0 0 => some (qd0, [])
  | _ => none
theorem qEl_mk (q : Qs) : qEl (qV q) = some (qd q, []) := rfl
theorem qEl_inv {v : Value} {y : DataW Unit × List MemPlace} (h : qEl v = some y) : (∃ q : Qs, v = qV q ∧ y = (qd q, [])) ∨ (v = .slice none 0 0 ∧ y = (qd0, [])) := by
  unfold qEl at h
  split at h
  · rename_i g n c
    cases h
    exact Or.inl ⟨⟨g, n, c⟩, rfl, rfl⟩
  · cases h
    exact Or.inr ⟨rfl, rfl⟩
  · cases h
theorem qd_inj {l m : Qs} (h : qd l = qd m) : l = m := by
  cases l
  cases m
  simp only [qd, DataW.agg.injEq, List.cons.injEq, DataW.lit.injEq, Lit.int.injEq, true_and, and_true] at h
  simp only [Qs.mk.injEq]
  omega
theorem qd_ne {l : Qs} : qd l ≠ qd0 := by simp [qd, qd0]

/-- A place's number, one for each. -/
def pno (k : Int × Int) : Int := k.1 * 2048 + k.2 + 1
def okK (k : Int × Int) : Prop := 0 ≤ k.1 ∧ k.1 ≤ 5 ∧ -1 ≤ k.2 ∧ k.2 < 1024
theorem len_pl {K : List (Int × Int)} (h : K.Nodup) (hk : ∀ k ∈ K, okK k) : K.length ≤ 20000 := by
  have := len_ids 20000 (K.map pno) (by
    unfold List.Nodup at h ⊢
    rw [List.pairwise_map]
    refine List.Pairwise.imp_of_mem ?_ h
    intro a b ha hb hab e
    obtain ⟨h1, h2, h3, h4⟩ := hk a ha
    obtain ⟨g1, g2, g3, g4⟩ := hk b hb
    unfold pno at e
    apply hab
    have e1 : a.1 = b.1 := by omega
    have e2 : a.2 = b.2 := by omega
    exact Prod.ext e1 e2) (fun x hx => by
    obtain ⟨k, hk', rfl⟩ := List.mem_map.1 hx
    obtain ⟨h1, h2, h3, h4⟩ := hk k hk'
    unfold pno
    omega)
  simpa using this

/-- A map's datum says this of its keys. -/
structure Qg (D : DataW Unit) (f : Int → Int → Option Qs) : Prop where
  tidy : Tidy D
  has : ∀ s o : Int, I64 s → I64 o → Maps.has D (kl s o) = (f s o).isSome
  at' : ∀ s o g, I64 s → I64 o → f s o = some g → ∀ z, D.atKey (kl s o) z = qd g
theorem qg_nil : Qg (.map []) (fun _ _ => none) where
  tidy := tidy_empty
  has _ _ _ _ := rfl
  at' _ _ _ _ _ h := by cases h
theorem qg_put {D : DataW Unit} {f f' : Int → Int → Option Qs} (h : Qg D f) {s o : Int} (hs : I64 s) (ho : I64 o) (g : Qs) (hf : ∀ a b, f' a b = if a = s ∧ b = o then some g else f a b) : Qg (D.put (kl s o) (qd g)) f' := by
  have hkl : WideAt.IsKeyLit (kl s o) := trivial
  refine ⟨h.tidy.put hkl _, fun a b ha hb => ?_, fun a b q ha hb hj z => ?_⟩
  · rw [hf]
    by_cases e : a = s ∧ b = o
    · rw [if_pos e, e.1, e.2, has_put_same h.tidy.isMap hkl]; rfl
    · rw [if_neg e, has_put_other (fun e' => e (kl_inj ha hb hs ho e'))]; exact h.has a b ha hb
  · rw [hf] at hj
    by_cases e : a = s ∧ b = o
    · rw [if_pos e] at hj; cases hj; rw [e.1, e.2]; exact atKey_put_same h.tidy.isMap hkl _ _
    · rw [if_neg e] at hj; rw [atKey_put_other (fun e' => e (kl_inj ha hb hs ho e'))]; exact h.at' a b q ha hb hj z
theorem qg_del {D : DataW Unit} {f f' : Int → Int → Option Qs} (h : Qg D f) {s o : Int} (hs : I64 s) (ho : I64 o) (hf : ∀ a b, f' a b = if a = s ∧ b = o then none else f a b) : Qg (D.del (kl s o)) f' := by
  refine ⟨h.tidy.del _, fun a b ha hb => ?_, fun a b q ha hb hj z => ?_⟩
  · rw [hf]
    by_cases e : a = s ∧ b = o
    · rw [if_pos e, e.1, e.2, has_del_same]; rfl
    · rw [if_neg e, has_del_other (fun e' => e (kl_inj ha hb hs ho e'))]; exact h.has a b ha hb
  · rw [hf] at hj
    by_cases e : a = s ∧ b = o
    · rw [if_pos e] at hj; cases hj
    · rw [if_neg e] at hj; rw [atKey_del_other (fun e' => e (kl_inj ha hb hs ho e'))]; exact h.at' a b q ha hb hj z

/-- Block b is a map of queues that says this. -/
def MQ (w : World) (b : Nat) (f : Int → Int → Option Qs) : Prop := ∃ (K : List (Int × Int)) (D : DataW Unit), w.ownsMap Try.prog 82 qEl b K.length D ∧ Qg D f ∧ K.Nodup ∧ (∀ k, okK k → (k ∈ K ↔ (f k.1 k.2).isSome = true)) ∧ (∀ k ∈ K, okK k) ∧ Maps.size D = K.length

theorem own_tightQ {w : World} {b n m : Nat} {D : DataW Unit} (h : w.ownsMap Try.prog 82 qEl b n D) (hm : Maps.size D ≤ m) : w.ownsMap Try.prog 82 qEl b m D := by
  obtain ⟨es, clock, hb, F, _, rfl⟩ := h
  refine ⟨es, clock, hb, F, ?_, rfl⟩
  simpa [Maps.size, length_sorted] using hm
theorem mq_made (w : World) : MQ (w.alloc (.map #[] 0)) w.heap.size (fun _ _ => none) := ⟨[], _, World.ownsMap_made w _ _ _, qg_nil, List.Pairwise.nil, by simp, by simp, rfl⟩
theorem zeroQ (w : World) : (zeroValue 115).run Try.prog w = .ok (.slice none 0 0) w := Try.zeroValue115 w
theorem okK_64 {s o : Int} (h : okK (s, o)) : I64 s ∧ I64 o := by
  obtain ⟨h1, h2, h3, h4⟩ := h
  simp only at h1 h2 h3 h4
  unfold I64
  omega

section
variable {w : World} {b : Nat} {f : Int → Int → Option Qs}
theorem MQ.lt (h : MQ w b f) : b < w.heap.size := by obtain ⟨K, D, h, _⟩ := h; exact h.lt
theorem MQ.keep {S : Nat → Prop} {w' : World} (h : MQ w b f) (k : Fr S w w') (hs : ¬ S b) : MQ w' b f := by
  have hl := h.lt
  obtain ⟨K, D, ⟨es, clock, hb, F, hn, hD⟩, hM⟩ := h
  exact ⟨K, D, ⟨es, clock, (k.block b hl hs).trans hb, F, hn, hD⟩, hM⟩
theorem MQ.congr {f' : Int → Int → Option Qs} (h : MQ w b f) (e : ∀ s o, f s o = f' s o) : MQ w b f' := by
  rw [← (funext fun s => funext fun o => e s o : f = f')]; exact h
theorem MQ.ne {c : Nat} {cs : Array Value} {t : TypeId} (h : MQ w b f) (r : Row w c cs t) : b ≠ c := by
  rintro rfl
  obtain ⟨K, D, ⟨es, clock, hb, _⟩, _⟩ := h
  have r' : w.heap[b]? = some (.cells cs t (0, 0)) := r
  rw [hb] at r'
  cases r'
/-- What a queue's value is: nil where there is none. -/
def qO : Option Qs → Value
  | none => .slice none 0 0
  | some q => qV q
theorem MQ.look (h : MQ w b f) {s o : Int} (hs : I64 s) (ho : I64 o) :
    (Instr.lookup 69 (.map (some b)) (plV s o) false).run Try.prog w = .ok (qO (f s o)) w := by
  obtain ⟨K, D, h, M, _⟩ := h
  obtain ⟨v, ps, hrun, hv⟩ := h.lookup lawP Try.underlying69 (zeroQ w) (show qEl (.slice none 0 0) = some (qd0, []) from rfl) (keyP hs ho)
  rw [hrun]
  cases e : f s o with
  | none =>
    rw [atKey_of_not_has (by rw [M.has s o hs ho, e]; rfl)] at hv
    rcases qEl_inv hv with ⟨g, rfl, e'⟩ | ⟨rfl, e'⟩
    · exact absurd (congrArg Prod.fst e').symm qd_ne
    · rfl
  | some g =>
    rw [M.at' s o g hs ho e] at hv
    rcases qEl_inv hv with ⟨g', rfl, e'⟩ | ⟨rfl, e'⟩
    · obtain rfl := qd_inj (congrArg Prod.fst e')
      rfl
    · exact absurd (congrArg Prod.fst e') qd_ne
theorem MQ.store (h : MQ w b f) {s o : Int} (hk : okK (s, o)) (g : Qs) {f' : Int → Int → Option Qs} (hf' : ∀ a b, f' a b = if a = s ∧ b = o then some g else f a b) :
    ∃ w', (Instr.mapUpdate 69 (.map (some b)) (plV s o) (qV g)).run Try.prog w = .ok () w' ∧ MQ w' b f' ∧ Fr (at' b) w w' := by
  obtain ⟨K, D, h, M, h1, h2, h3, h4⟩ := h
  have hn := len_pl h1 h3
  obtain ⟨hs, ho⟩ := okK_64 hk
  obtain ⟨w', hrun, h', ht⟩ := h.store lawP Try.underlying69 (by simp only [maxLen]; omega) (keyP hs ho) (qEl_mk g)
  have M' := qg_put M hs ho g hf'
  have hz := size_put (k := kl s o) (d := qd g) M.tidy
  rw [M.has s o hs ho, h4] at hz
  refine ⟨w', hrun, ?_, fr_map ht.grown⟩
  by_cases e : (f s o).isSome = true
  · rw [e] at hz
    have hz' : Maps.size (D.put (kl s o) (qd g)) = K.length := by simpa using hz
    refine ⟨K, _, own_tightQ h' (by rw [hz']; omega), M', h1, fun j hj => ?_, h3, hz'⟩
    rw [hf', h2 j hj]
    split
    · rename_i ej; rw [ej.1, ej.2, e]; rfl
    · rfl
  · have e' : (f s o).isSome = false := by simpa using e
    rw [e'] at hz
    have hz' : Maps.size (D.put (kl s o) (qd g)) = ((s, o) :: K).length := by simpa using hz
    refine ⟨(s, o) :: K, _, own_tightQ h' (by rw [hz']; omega), M', List.nodup_cons.2 ⟨fun hm => e ((h2 (s, o) hk).1 hm), h1⟩, fun j hj => ?_, fun j hj => ?_, hz'⟩
    · rw [hf', List.mem_cons, h2 j hj]
      split
      · rename_i ej; simp [Prod.ext_iff, ej]
      · rename_i ej; simp [Prod.ext_iff, ej]
    · rcases List.mem_cons.1 hj with rfl | hj
      · exact hk
      · exact h3 j hj
theorem MQ.drop (h : MQ w b f) {s o : Int} (hk : okK (s, o)) {y : Qs} (hf : f s o = some y) {f' : Int → Int → Option Qs} (hf' : ∀ a b, f' a b = if a = s ∧ b = o then none else f a b) :
    ∃ w', (∀ ty, (Builtin.delete_ #[69, 82] ty #[.map (some b), plV s o]).run Try.prog w = .ok (.tuple #[]) w') ∧ MQ w' b f' ∧ Fr (at' b) w w' := by
  obtain ⟨K, D, h, M, h1, h2, h3, h4⟩ := h
  obtain ⟨hs, ho⟩ := okK_64 hk
  obtain ⟨w', hrun, h', ht⟩ := h.drop lawP Try.underlying69 (keyP hs ho) 0
  have M' := qg_del M hs ho hf'
  have hm : (s, o) ∈ K := (h2 (s, o) hk).2 (by rw [hf]; rfl)
  have hz := size_del (k := kl s o) M.tidy
  rw [h4, M.has s o hs ho, hf] at hz
  have hl := List.length_erase_of_mem hm
  have hp := List.length_pos_of_mem hm
  have hz' : Maps.size (D.del (kl s o)) = (K.erase (s, o)).length := by
    simp at hz
    omega
  refine ⟨w', fun ty => ?_, ⟨K.erase (s, o), _, own_tightQ h' (by rw [hz']; omega), M', h1.erase _, fun j hj => ?_, fun j hj => h3 j (List.mem_of_mem_erase hj), hz'⟩, fr_map ht.grown⟩
  · rw [← hrun]
    rfl
  · rw [hf', h1.mem_erase_iff, h2 j hj]
    split
    · rename_i ej; simp [Prod.ext_iff, ej]
    · rename_i ej; simp [Prod.ext_iff, ej]
end

end Go.Proofs.Ytjobdfkfongjaaa
