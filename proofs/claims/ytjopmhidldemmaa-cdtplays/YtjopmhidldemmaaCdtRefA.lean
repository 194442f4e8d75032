/-
  The document's rows made longer; no call. No statement is proved here.
-/
import Derived.Test.YtjopmhidldemmaaCdtRefS
import Derived.Deep.RegionLaw
namespace Go.Proofs.Ytjopmhidldemmaa
open Go.RowKit Go.Maps Go.WideMaps

theorem step_append_run {ops : Array Oper} {o : Oper} {a : Act} {w : World} {K : Act → World → Prop} {Q : Exit → Act → World → Prop} {E : Prop} (hgd : o.guard = none) (s x : Operand) (t : TypeId)
    (ho : o.op = .call { callee := .builtin .append, args := #[s, x], argTypes := #[t, t] }) (vs vx v' : Value) (w' : World) (hs : a.eval s = vs) (hx : a.eval x = vx)
    (hrun : (Builtin.append_ #[t, t] o.type #[vs, vx]).run Try.prog w = .ok v' w') (hK : K (a.put o.dst v') w') :
    if Region.wanted o (yielded ops a.tmps) = true then Oper.wp Try.prog o a w K Q else E := by
  have hw : Region.wanted o (yielded ops a.tmps) = true := by simp [Region.wanted, hgd]
  rw [if_pos hw]
  unfold Oper.wp
  simp [execOp, ho, resolve, invoke, builtin, hs, hx, hrun, Result.andThen]
  exact hK

theorem info_int : (Try.prog.info? 3).map (fun i => (i.zero, i.size, i.bytes)) = some (some (.int .i64 0), 1, 8) := by kernel_rfl
theorem info_one : (Try.prog.info? 64).map (fun i => (i.zero, i.size, i.bytes)) = some (some (.agg #[.int .i64 0, .int .i64 0, .int .i64 0, .slice none 0 0, .bool false]), 5, 56) := by kernel_rfl

def intL (l : List Nat) : List Value := l.map fun (n : Nat) => Value.int .i64 (n : Int)
theorem intL_app (l m : List Nat) : intL (l ++ m) = intL l ++ intL m := by simp [intL]

/-- Many numbers more. -/
theorem append_ks {w : World} {B B' : Nat} {v u : Value} {l m : List Nat} (hb : B ≤ w.heap.size) (ho : Ks w B v l) (hu : Ks w B' u m) (hl : l.length ≤ 10000000) (hm : m.length ≤ 10000000) :
    ∃ v' w', (Builtin.append_ #[28, 28] 28 #[v, u]).run Try.prog w = .ok v' w' ∧ Fr (fun q => some q = v.ownBlock) w w' ∧ Ks w' B v' (l ++ m) := by
  have hi := info_int
  cases hq : Try.prog.info? 3 with
  | none => simp [hq] at hi
  | some i =>
    rw [hq] at hi
    simp only [Option.map_some, Option.some.injEq, Prod.mk.injEq] at hi
    obtain ⟨hz0, hs, hby⟩ := hi
    by_cases hn : m.length = 0
    · have hum := hu.2 hn
      have hml := List.eq_nil_of_length_eq_zero hn
      subst hum hml
      have := run_append_owned_none (P := Try.prog) (w := w) B 28 28 3 i 1 Try.underlying28 hq v l.length _ ho.1
      exact ⟨v, w, this, Fr.refl _ _, by rw [List.append_nil]; exact ho⟩
    · obtain ⟨g, cap, cur, hv, _, hr, _, _, _, hx⟩ := hu.row hn
      rw [hv]
      obtain ⟨v', w', g1, g2, g3, g4⟩ := run_append_own (P := Try.prog) (w := w) B 28 28 3 i (.int .i64 0) 1 8 Try.underlying28 hq hz0 hs hby rfl (by omega) v l.length _ ho.1 ⟨g, 0, none⟩ m.length cap (intL m) (by simp [intL]) (fun j x hj => by
        rw [add_lit', Nat.zero_add, hr.cell]
        exact hx j x hj) (fun x hx => by
        obtain ⟨n, _, rfl⟩ := List.mem_map.1 hx
        rfl) (by simp only [maxLen]; omega) (by omega) hb
      refine ⟨v', w', g1, fr_of_grown g3, ?_⟩
      have e1 : (l ++ m).length = l.length + m.length := List.length_append
      have e2 : (l ++ m).map (fun (n : Nat) => Value.int .i64 (n : Int)) = l.map (fun (n : Nat) => Value.int .i64 (n : Int)) ++ intL m := intL_app l m
      unfold Ks
      rw [e1, e2]
      exact ⟨g2, fun h => by omega⟩

theorem ks_one (w : World) (B n : Nat) (hB : B ≤ w.heap.size) : Ks (w.alloc (.cells #[.int .i64 (n : Int)] 3)) B (.slice (some ⟨w.heap.size, 0, none⟩) 1 1) [n] :=
  ⟨⟨by simp, Or.inr ⟨w.heap.size, 1, _, rfl, hB, row_alloc w _ _, by simp, by simp [maxLen], by simp, by simp⟩⟩, fun h => by cases h⟩

/-- One name more. -/
theorem append_on {w : World} {B g : Nat} {v : Value} {K : Nat → Value} {L : List On} {o : On} (hb : B ≤ w.heap.size) (ho : OwnK 64 5 w B v L.length (flatO K 0 L)) (hl : L.length ≤ 100000) (hK : K L.length = .slice none 0 0)
    (r : Row w g #[.int .i64 o.a.n, .int .i64 o.a.i, .int .i64 o.up, .slice none 0 0, .bool o.go] 64) :
    ∃ v' w', (Builtin.append_ #[27, 27] 27 #[v, .slice (some ⟨g, 0, none⟩) 1 1]).run Try.prog w = .ok v' w' ∧ Fr (fun q => some q = v.ownBlock) w w' ∧ OwnK 64 5 w' B v' (L ++ [o]).length (flatO K 0 (L ++ [o])) := by
  obtain ⟨v', w', h1, h2, h3⟩ := append_k (T := 27) Try.underlying27 info_one rfl (by omega) (by omega) w B ⟨g, 0, none⟩ v L.length (flatO K 0 L) (onV o (.slice none 0 0)) hb ho (by omega) rfl (fun j u hu => by
    rw [add_lit', Nat.zero_add, r.cell]
    match j, hu with
    | 0, hu => simpa [onV] using hu
    | 1, hu => simpa [onV] using hu
    | 2, hu => simpa [onV] using hu
    | 3, hu => simpa [onV] using hu
    | 4, hu => simpa [onV] using hu
    | j + 5, hu => simp [onV] at hu) (fun u hu => by simp [onV] at hu; rcases hu with rfl | rfl | rfl | rfl | rfl <;> rfl)
  refine ⟨v', w', h1, h2, ?_⟩
  rw [flatO_append, List.length_append, Nat.zero_add]
  show OwnK _ _ _ _ _ _ (flatO K 0 L ++ (onV o (K L.length) ++ []))
  rw [List.append_nil, hK]
  exact h3

def updV (K : Nat → Value) (n : Nat) (v : Value) : Nat → Value := fun i => if i = n then v else K i

/-- The row of names one longer. -/
theorem IsR.push {w w1 w2 w3 : World} {B r : Nat} {q : Qr} {L : List On} {ro : List Nat} {o : On} {v' : Value} (h : IsR w B r q L ro) (f1 : Fr none' w w1) (f2 : Fr (fun k => some k = q.v.ownBlock) w1 w2) (hks : o.ks = []) (hsm : L.length + 1 ≤ 1000)
    (ho : OwnK 64 5 w2 B v' (L ++ [o]).length (flatO (updV q.K L.length (.slice none 0 0)) 0 (L ++ [o]))) (hw3 : w3 = w2.setCell ⟨r, 0, none⟩ v') :
    IsR w3 B r ⟨v', updV q.K L.length (.slice none 0 0), q.u⟩ (L ++ [o]) ro ∧ Fr (q.s r L.length) w w3 := by
  have h1 := h.keep0 f1
  have hr2 := h1.row.keep f2 (fun e => h1.nb e)
  have f3 : Fr (at' r) w2 w3 := by rw [hw3]; exact fr_set w2 r 0 _ (Fr.refl _ _)
  have hr3 : Row w3 r #[v', q.u] 30 := by rw [hw3]; exact hr2.setCell 0 v'
  have hks2 : ∀ {v : Value} {l : List Nat}, Ks w1 B v l → Ks w3 B v l := fun {v l} hh => by
    have a1 : Ks w2 B v l := hh.at (fun x hx hl => f2.block x hl (fun e => own_own h1.own hh (by decide) x hx e))
    exact a1.at (fun x hx hl => f3.block x hl (fun e => own_ne a1 hr2 (by decide) (by rw [← (e : x = r)]; exact hx)))
  refine ⟨⟨hr3, ho.at (fun x hx hl => f3.block x hl (fun e => own_ne ho hr2 (by decide) (by rw [← (e : x = r)]; exact hx))), hks2 h1.rts, fun i o2 hi => ?_, h.hi, by simpa using hsm⟩, ?_⟩
  · by_cases e : i < L.length
    · rw [List.getElem?_append_left e] at hi
      have : updV q.K L.length (.slice none 0 0) i = q.K i := by unfold updV; rw [if_neg (by omega)]
      show Ks w3 B (updV q.K L.length (.slice none 0 0) i) o2.ks
      rw [this]
      exact hks2 (h1.kd i o2 hi)
    · have hl : i = L.length := by
        have := (List.getElem?_eq_some_iff.1 hi).1
        simp at this
        omega
      subst hl
      rw [List.getElem?_append_right (Nat.le_refl _), Nat.sub_self] at hi
      cases hi
      rw [hks]
      have : updV q.K L.length (.slice none 0 0) L.length = .slice none 0 0 := by unfold updV; rw [if_pos rfl]
      show Ks w3 B (updV q.K L.length (.slice none 0 0) L.length) []
      rw [this]
      exact ks_nil _ _
  · exact ((f1.mono (fun _ _ h => h.elim)).trans (f2.mono (fun k _ e => Or.inr (Or.inl e)))).trans (f3.mono (fun k _ e => Or.inl e))
/-- Other roots. -/
theorem IsR.roots {w w1 w2 w3 : World} {B r : Nat} {q : Qr} {L : List On} {ro ro' : List Nat} {u' : Value} {S : Nat → Prop} (h : IsR w B r q L ro) (f1 : Fr none' w w1) (f2 : Fr S w1 w2) (hS : ∀ k, S k → w.heap.size ≤ k) (hu : Ks w2 B u' ro') (hw3 : w3 = w2.setCell ⟨r, 1, none⟩ u') :
    IsR w3 B r ⟨q.v, q.K, u'⟩ L ro' ∧ Fr (at' r) w w3 := by
  have f12 : Fr none' w w2 := ⟨f2.os.trans f1.os, f2.tape.trans f1.tape, f2.output.trans f1.output, Nat.le_trans f1.size f2.size, fun i hi hn => (f2.block i (Nat.lt_of_lt_of_le hi f1.size) (fun e => by have := hS i e; omega)).trans (f1.block i hi hn)⟩
  have h2 := h.keep0 f12
  have f3 : Fr (at' r) w2 w3 := by rw [hw3]; exact fr_set w2 r 1 _ (Fr.refl _ _)
  have hr3 : Row w3 r #[q.v, u'] 30 := by rw [hw3]; exact h2.row.setCell 1 u'
  refine ⟨⟨hr3, h2.own.at (fun x hx hl => f3.block x hl (fun e => h2.nb (by rw [← (e : x = r)]; exact hx))), hu.at (fun x hx hl => f3.block x hl (fun e => own_ne hu h2.row (by decide) (by rw [← (e : x = r)]; exact hx))), fun i o hi => (h2.kd i o hi).at (fun x hx hl => f3.block x hl (fun e => own_ne (h2.kd i o hi) h2.row (by decide) (by rw [← (e : x = r)]; exact hx))), h.hi, h.sm⟩, ?_⟩
  exact (f12.mono (fun _ _ h => h.elim)).trans f3

end Go.Proofs.Ytjopmhidldemmaa
