/-
  Slices of the call's own, of elements of so many cells; slices of slots' names. No statement is proved here.
-/
import Derived.Test.YtjopmhidldemmaaCdtVal
import Derived.BigQuiet
import Derived.Laws.AppendOwnNone
namespace Go.Proofs.Ytjopmhidldemmaa
open Go.RowKit

theorem wpList_append_runK {P : Program} {w : World} {ops : Array Oper} {rest : List Oper} {o : Oper} {a : Act} {Q : Exit → Act → World → Prop} (hgd : o.guard = none) (s x : Operand) (t : TypeId)
    (ho : o.op = .call { callee := .builtin .append, args := #[s, x], argTypes := #[t, t] }) (vs vx : Value) (hs : a.eval s = vs) (hx : a.eval x = vx) (v' : Value) (w' : World)
    (hrun : (Builtin.append_ #[t, t] o.type #[vs, vx]).run P w = .ok v' w') (h : wpList P ops Q rest (a.put o.dst v') w') : wpList P ops Q (o :: rest) a w := by
  refine wpList_plain hgd fun K hK => ?_
  unfold Oper.wp
  simp [execOp, ho, resolve, invoke, builtin, hs, hx, hrun, Result.andThen]
  exact hK _ _ h

/-- A slice of the call's own: n elements of type e, k cells each. -/
def OwnK (e : TypeId) (k : Nat) (w : World) (B : Nat) (v : Value) (n : Nat) (L : List Value) : Prop := w.ownsRow B e k v n L ∧ (n = 0 → v = .slice none 0 0)

theorem ownk_nil (e : TypeId) (k : Nat) (w : World) (B : Nat) : OwnK e k w B (.slice none 0 0) 0 [] := ⟨⟨by simp, Or.inl ⟨rfl, rfl⟩⟩, fun _ => rfl⟩

theorem OwnK.at {e : TypeId} {k : Nat} {w w' : World} {B : Nat} {v : Value} {n : Nat} {L : List Value} (h : OwnK e k w B v n L) (hk : ∀ q, some q = v.ownBlock → q < w.heap.size → w'.heap[q]? = w.heap[q]?) : OwnK e k w' B v n L := by
  obtain ⟨⟨hl, h | ⟨g, cap, cur, hv, hb, hg, hc, hm, hs, ht⟩⟩, hn⟩ := h
  · exact ⟨⟨hl, Or.inl h⟩, hn⟩
  · exact ⟨⟨hl, Or.inr ⟨g, cap, cur, hv, hb, (hk g (by rw [hv]; rfl) (Row.lt (show Row w g cur e from hg))).trans hg, hc, hm, hs, ht⟩⟩, hn⟩
theorem OwnK.keep0 {e : TypeId} {k : Nat} {w w' : World} {B : Nat} {v : Value} {n : Nat} {L : List Value} (h : OwnK e k w B v n L) (f : Fr none' w w') : OwnK e k w' B v n L := h.at fun q _ hl => f.block q hl (fun h => h)
theorem OwnK.high {e : TypeId} {k : Nat} {w : World} {B : Nat} {v : Value} {n : Nat} {L : List Value} (h : OwnK e k w B v n L) (q : Nat) (hq : some q = v.ownBlock) : B ≤ q := by
  obtain ⟨⟨_, h | ⟨g, cap, cur, hv, hb, _⟩⟩, _⟩ := h
  · rw [h.1] at hq; simp [Value.ownBlock] at hq
  · rw [hv] at hq; simp [Value.ownBlock] at hq; omega
/-- The slice's block told whole. -/
theorem OwnK.row {e : TypeId} {k : Nat} {w : World} {B : Nat} {v : Value} {n : Nat} {L : List Value} (h : OwnK e k w B v n L) (hn : n ≠ 0) :
    ∃ g cap cur, v = .slice (some ⟨g, 0, none⟩) n cap ∧ B ≤ g ∧ Row w g cur e ∧ n ≤ cap ∧ cap ≤ maxLen ∧ cur.size = cap * k ∧ ∀ (j : Nat) (x : Value), L[j]? = some x → cur[j]? = some x := by
  obtain ⟨⟨hl, h | ⟨g, cap, cur, hv, hb, hg, hc, hm, hs, ht⟩⟩, _⟩ := h
  · exact absurd h.2 hn
  · refine ⟨g, cap, cur, hv, hb, hg, hc, hm, hs, fun j x hj => ?_⟩
    have : (cur.toList.take (n * k))[j]? = some x := by rw [ht]; exact hj
    rw [List.getElem?_take] at this
    split at this
    · simpa using this
    · simp at this

theorem Fr.ownK {e : TypeId} {k : Nat} {w w1 w2 : World} {v : Value} {n : Nat} {L : List Value} (f : Fr none' w w1) (g : Fr (fun q => some q = v.ownBlock) w1 w2) (o : OwnK e k w1 w.heap.size v n L) : Fr none' w w2 :=
  ⟨g.os.trans f.os, g.tape.trans f.tape, g.output.trans f.output, Nat.le_trans f.size g.size, fun i hi hn => (g.block i (Nat.lt_of_lt_of_le hi f.size) (fun e => by have := o.high i e; omega)).trans (f.block i hi hn)⟩

/-- One element more. -/
theorem append_k {T e : TypeId} {k bytes : Nat} {z : Value} (hT : Try.prog.underlying T = some (.slice e)) (hi : (Try.prog.info? e).map (fun i => (i.zero, i.size, i.bytes)) = some (some z, k, bytes)) (hz : z.cells.size = k) (hk : 0 < k) (hb8 : bytes ≤ 1000)
    (w : World) (B : Nat) (a : Addr) (v : Value) (n : Nat) (L news : List Value) (hb : B ≤ w.heap.size) (ho : OwnK e k w B v n L) (hn : n < 10000000) (hl : news.length = k) (hc : ∀ j u, news[j]? = some u → w.cell? (a.add j) = some u) (h1 : ∀ u ∈ news, u.oneCell' = true) :
    ∃ v' w', (Builtin.append_ #[T, T] T #[v, .slice (some a) 1 1]).run Try.prog w = .ok v' w' ∧ Fr (fun q => some q = v.ownBlock) w w' ∧ OwnK e k w' B v' (n + 1) (L ++ news) := by
  obtain ⟨ho, _⟩ := ho
  cases hq : Try.prog.info? e with
  | none => simp [hq] at hi
  | some i =>
    rw [hq] at hi
    simp only [Option.map_some, Option.some.injEq, Prod.mk.injEq] at hi
    obtain ⟨hz0, hs, hby⟩ := hi
    obtain ⟨v', w', g1, g2, g3, _⟩ := run_append_own (P := Try.prog) (w := w) B T T e i z k bytes hT hq hz0 hs hby hz hk v n L ho a 1 1 news (by omega) hc h1 (by simp only [maxLen]; omega) (Nat.le_trans (Nat.mul_le_mul_left _ hb8) (by omega)) hb
    exact ⟨v', w', g1, fr_of_grown g3, g2, fun h => by omega⟩

/-! ### slices of slots' names -/
def encR (x : Rf) : List Value := [.int .i64 x.n, .int .i64 x.i]
structure RecAt (cs : Array Value) (j : Nat) (x : Rf) : Prop where
  c0 : cs[j * 2]? = some (.int .i64 x.n)
  c1 : cs[j * 2 + 1]? = some (.int .i64 x.i)
def flatV (L : List Rf) : List Value := L.flatMap encR
theorem flatV_append (L M : List Rf) : flatV (L ++ M) = flatV L ++ flatV M := by simp [flatV]
theorem flatV_one (x : Rf) : flatV [x] = encR x := by simp [flatV]
theorem flatV_len (L : List Rf) : (flatV L).length = L.length * 2 := by
  induction L with
  | nil => rfl
  | cons x L ih =>
    have : flatV (x :: L) = encR x ++ flatV L := by simp [flatV]
    rw [this, List.length_append, ih]
    simp [encR]
    omega
theorem flatV_at : ∀ (L : List Rf) (i : Nat) (x : Rf), L[i]? = some x → ∀ r, r < 2 → (flatV L)[i * 2 + r]? = some (encR x)[r]!
  | y :: L, 0, x, h, r, hr => by
    simp at h
    subst h
    have : flatV (y :: L) = encR y ++ flatV L := by simp [flatV]
    rw [this, Nat.zero_mul, Nat.zero_add, List.getElem?_append_left (by simp [encR]; omega)]
    match r, hr with
    | 0, _ => rfl
    | 1, _ => rfl
  | y :: L, i + 1, x, h, r, hr => by
    have : flatV (y :: L) = encR y ++ flatV L := by simp [flatV]
    have e : (encR y).length = 2 := rfl
    rw [this, List.getElem?_append_right (by omega), e, show (i + 1) * 2 + r - 2 = i * 2 + r by omega]
    exact flatV_at L i x (by simpa using h) r hr
  | [], i, x, h, _, _ => by simp at h

theorem rec_of {cur : Array Value} {L : List Rf} (hx : ∀ (j : Nat) (x : Value), (flatV L)[j]? = some x → cur[j]? = some x) (i : Nat) (x : Rf) (h : L[i]? = some x) : RecAt cur i x := by
  have q := fun r hr => hx _ _ (flatV_at L i x h r hr)
  exact ⟨q 0 (by omega), q 1 (by omega)⟩

/-- A slice that holds these registers: nil, or a block that begins with them. -/
def RfS (w : World) (B : Nat) (v : Value) (L : List Rf) : Prop :=
  (L = [] ∧ v = .slice none 0 0) ∨ ∃ g cap cs, v = .slice (some ⟨g, 0, none⟩) L.length cap ∧ B ≤ g ∧ L.length ≤ cap ∧ cap ≤ maxLen ∧ Row w g cs 33 ∧ ∀ i x, L[i]? = some x → RecAt cs i x

theorem RfS.keep {S : Nat → Prop} {w w' : World} {B : Nat} {v : Value} {L : List Rf} (h : RfS w B v L) (f : Fr S w w') (hs : ∀ k, B ≤ k → ¬ S k) : RfS w' B v L := by
  rcases h with h | ⟨g, cap, cs, h1, hb, h2, h3, h4, h5⟩
  · exact Or.inl h
  · exact Or.inr ⟨g, cap, cs, h1, hb, h2, h3, h4.keep f (hs g hb), h5⟩
theorem RfS.keep0 {w w' : World} {B : Nat} {v : Value} {L : List Rf} (h : RfS w B v L) (f : Fr none' w w') : RfS w' B v L := h.keep f (fun _ _ h => h)
theorem RfS.mono {w : World} {B B' : Nat} {v : Value} {L : List Rf} (h : RfS w B v L) (hb : B' ≤ B) : RfS w B' v L := by
  rcases h with h | ⟨g, cap, cs, h1, hb', h2, h3, h4, h5⟩
  · exact Or.inl h
  · exact Or.inr ⟨g, cap, cs, h1, by omega, h2, h3, h4, h5⟩
theorem RfS.slice {w : World} {B : Nat} {v : Value} {L : List Rf} (h : RfS w B v L) : ∃ a cap, v = .slice a L.length cap := by
  rcases h with ⟨rfl, rfl⟩ | ⟨g, cap, cs, rfl, _⟩
  · exact ⟨_, _, rfl⟩
  · exact ⟨_, _, rfl⟩

theorem info_ref : (Try.prog.info? 33).map (fun i => (i.zero, i.size, i.bytes)) = some (some (.agg #[.int .i64 0, .int .i64 0]), 2, 16) := by kernel_rfl

/-- One register more. -/
theorem append_ref (w : World) (B g : Nat) (v : Value) (L : List Rf) (x : Rf) (hb : B ≤ w.heap.size) (ho : OwnK 33 2 w B v L.length (flatV L)) (hn : L.length < 1000000) (r : Row w g #[.int .i64 x.n, .int .i64 x.i] 33) :
    ∃ v' w', (Builtin.append_ #[36, 36] 36 #[v, .slice (some ⟨g, 0, none⟩) 1 1]).run Try.prog w = .ok v' w' ∧ Fr (fun q => some q = v.ownBlock) w w' ∧ OwnK 33 2 w' B v' (L ++ [x]).length (flatV (L ++ [x])) := by
  obtain ⟨v', w', h1, h2, h3⟩ := append_k (T := 36) Try.underlying36 info_ref rfl (by omega) (by omega) w B ⟨g, 0, none⟩ v L.length (flatV L) (encR x) hb ho (by omega) rfl (fun j u hu => by
    rw [add_lit', Nat.zero_add, r.cell]
    match j, hu with
    | 0, hu => simpa [encR] using hu
    | 1, hu => simpa [encR] using hu
    | j + 2, hu => simp [encR] at hu) (fun u hu => by simp [encR] at hu; rcases hu with rfl | rfl <;> rfl)
  refine ⟨v', w', h1, h2, ?_⟩
  rw [flatV_append, flatV_one, List.length_append]
  exact h3

theorem OwnK.rfs {w : World} {B : Nat} {v : Value} {L : List Rf} (h : OwnK 33 2 w B v L.length (flatV L)) : RfS w B v L := by
  by_cases e : L = []
  · subst e; exact Or.inl ⟨rfl, h.2 rfl⟩
  · obtain ⟨g, cap, cur, hv, hb, hr, hc, hm, _, hx⟩ := h.row (by simpa using e)
    exact Or.inr ⟨g, cap, cur, hv, hb, hc, hm, hr, fun i x hi => rec_of hx i x hi⟩
theorem RfS.cells {w : World} {B : Nat} {v : Value} {L : List Rf} (h : RfS w B v L) : ∃ a cap, v = .slice a L.length cap ∧ ∀ (i : Nat) (x : Rf), L[i]? = some x → ∃ g, a = some ⟨g, 0, none⟩ ∧ B ≤ g ∧ w.cell? ⟨g, i * 2, none⟩ = some (.int .i64 x.n) ∧ w.cell? ⟨g, i * 2 + 1, none⟩ = some (.int .i64 x.i) := by
  rcases h with ⟨rfl, rfl⟩ | ⟨g, cap, cs, rfl, hb, _, _, hr, hx⟩
  · exact ⟨none, 0, rfl, fun i x hi => by simp at hi⟩
  · exact ⟨_, cap, rfl, fun i x hi => ⟨g, rfl, hb, (hr.cell _).trans (hx i x hi).c0, (hr.cell _).trans (hx i x hi).c1⟩⟩

theorem eq_ref (n i n' i' : Int) (w : World) : (binOp .eql 33 (.agg #[.int .i64 n, .int .i64 i]) (.agg #[.int .i64 n', .int .i64 i'])).run Try.prog w = .ok (.bool (decide ((⟨n, i⟩ : Rf) = ⟨n', i'⟩))) w := by
  simp [go_sem]
  repeat' split
  all_goals simp_all
theorem neq_ref (n i n' i' : Int) (w : World) : (binOp .neq 33 (.agg #[.int .i64 n, .int .i64 i]) (.agg #[.int .i64 n', .int .i64 i'])).run Try.prog w = .ok (.bool (decide ((⟨n, i⟩ : Rf) ≠ ⟨n', i'⟩))) w := by
  simp [go_sem]
  repeat' split
  all_goals simp_all

theorem list_differ {L M : List Rf} {j : Nat} {x y : Rf} (h1 : L[j]? = some x) (h2 : M[j]? = some y) (h : x ≠ y) : L ≠ M := by
  rintro rfl
  rw [h1] at h2
  exact h (Option.some.inj h2)

set_option maxRecDepth 100000 in
set_option maxHeartbeats 1000000 in
theorem refs_any (w : World) (B B' : Nat) (v v' : Value) (L M : List Rf) (h : RfS w B v L) (h' : RfS w B' v' M) (hl : L.length ≤ 100000) : Calls Try.prog 9 #[v, v'] w fun e w' => e = .returned (.bool (decide (L = M))) ∧ Fr none' w w' := by
  obtain ⟨a, cap, rfl, hc⟩ := h.cells
  obtain ⟨a', cap', rfl, hc'⟩ := h'.cells
  clear h h'
  by_cases hlen : L.length = M.length
  · have HC : Hid (∀ (i : Nat) (x y : Rf), L[i]? = some x → M[i]? = some y → (∃ g, a = some ⟨g, 0, none⟩ ∧ w.cell? ⟨g, i * 2, none⟩ = some (.int .i64 x.n) ∧ w.cell? ⟨g, i * 2 + 1, none⟩ = some (.int .i64 x.i)) ∧ ∃ g, a' = some ⟨g, 0, none⟩ ∧ w.cell? ⟨g, i * 2, none⟩ = some (.int .i64 y.n) ∧ w.cell? ⟨g, i * 2 + 1, none⟩ = some (.int .i64 y.i)) :=
      ⟨fun i x y hi hi' => ⟨by obtain ⟨g, e, _, r⟩ := hc i x hi; exact ⟨g, e, r⟩, by obtain ⟨g, e, _, r⟩ := hc' i y hi'; exact ⟨g, e, r⟩⟩⟩
    clear hc hc'
    have HR : Hid (∀ b : Bool, b = decide (L = M) → Ending.returned (.bool b) = .returned (.bool (decide (L = M)))) := ⟨fun b e => by rw [e]⟩
    generalize hR : Ending.returned (.bool (decide (L = M))) = RR at HR ⊢
    clear hR
    obtain ⟨N, hN⟩ : ∃ N, N = L.length := ⟨_, rfl⟩
    have HN : Hid (N = L.length ∧ N = M.length) := ⟨hN, hN.trans hlen⟩
    rw [← hlen, ← hN]
    rw [← hN] at hl
    clear hN hlen
    have tt : ((N : Int) != (N : Int)) = false := by simp
    go_enter Try.func9, Try.ntmps9
    go_wp2_with fail
    go_loopw [5] (fun i wr => ∃ j : Nat, j ≤ N ∧ i = .int .i64 (j : Int) ∧ Fr none' w wr ∧ Hid (∀ i, i < j → L[i]? = M[i]?)) (fun i _ => N - (intOf i).toNat)
    case atStart => exact ⟨0, by omega, rfl, Fr.refl _ _, ⟨fun i hi => by omega⟩⟩
    case round =>
      obtain ⟨j, hj, rfl, fr, hs⟩ := hrel
      by_cases hjN : j < N
      · have hjL : j < L.length := by rw [← HN.out.1]; exact hjN
        have hjM : j < M.length := by rw [← HN.out.2]; exact hjN
        have e1 := List.getElem?_eq_getElem hjL
        have e2 := List.getElem?_eq_getElem hjM
        obtain ⟨⟨g, rfl, d0, d1⟩, g', rfl, d0', d1'⟩ := HC.out j L[j] M[j] e1 e2
        generalize L[j] = x at *
        generalize M[j] = y at *
        have E12 : Hid (L[j]? = some x ∧ M[j]? = some y) := ⟨e1, e2⟩
        clear e1 e2
        obtain ⟨xn, xi⟩ := x
        obtain ⟨yn, yi⟩ := y
        dsimp only at d0 d1 d0' d1'
        replace d0 := cell_keep fr d0 (fun h => h)
        replace d1 := cell_keep fr d1 (fun h => h)
        replace d0' := cell_keep fr d0' (fun h => h)
        replace d1' := cell_keep fr d1' (fun h => h)
        have hq := fun w => neq_ref xn xi yn yi w
        have HF : Hid (∀ m, Fr none' w (wr.drewN m)) := ⟨fun m => fr.trans (fr_drewN wr m)⟩
        clear fr hjL hjM
        by_cases hxy : (⟨xn, xi⟩ : Rf) = ⟨yn, yi⟩
        · have hd : decide ((⟨xn, xi⟩ : Rf) ≠ ⟨yn, yi⟩) = false := by simpa using hxy
          rw [hd] at hq
          have HX : Hid _ := ⟨hxy⟩
          clear hxy hd
          go_wp2_with fail
          go_quiet (fail)
          go_wp2_with fail
          go_roundw
          case rel => exact ⟨j + 1, by omega, by go_num, HF.out _, ⟨fun i hi => by
            rcases Nat.lt_or_ge i j with h | h
            · exact hs.out i h
            · obtain rfl : i = j := by omega
              rw [E12.out.1, E12.out.2, HX.out]⟩⟩
          case measure => simp [intOf]; omega
        · have hd : decide ((⟨xn, xi⟩ : Rf) ≠ ⟨yn, yi⟩) = true := decide_eq_true hxy
          rw [hd] at hq
          have HX : Hid (L ≠ M) := ⟨list_differ E12.out.1 E12.out.2 hxy⟩
          clear hxy hd
          go_wp2_with fail
          go_quiet (fail)
          go_wp2_with fail
          go_ret
          exact ⟨HR.out _ (by simpa using HX.out), HF.out _⟩
      · obtain rfl : j = N := by omega
        go_wp2_with fail
        go_ret
        exact ⟨HR.out _ (by
          have : L = M := List.ext_getElem? (fun i => by
            rcases Nat.lt_or_ge i j with h | h
            · exact hs.out i h
            · rw [List.getElem?_eq_none (by rw [← HN.out.1]; exact h), List.getElem?_eq_none (by rw [← HN.out.2]; exact h)])
          simpa using this), fr⟩
  · have hd : decide (L = M) = false := decide_eq_false (fun e => hlen (by rw [e]))
    rw [hd]
    have tt : ((L.length : Int) != (M.length : Int)) = true := by simp; omega
    clear hc hc' hd
    generalize L.length = p at *
    generalize M.length = q at *
    go_enter Try.func9, Try.ntmps9
    go_wp2_with fail
    go_ret
    exact ⟨rfl, Fr.refl _ _⟩

end Go.Proofs.Ytjopmhidldemmaa
