/-
  The contract of package sched's New over the translation. No statement is proved here.
-/
import Derived.Test.YtipfgenbfnkpfaaSdSet
namespace Go.Proofs.Ytipfgenbfnkpfaa
open Go.RowKit Go.Maps Go.WideMaps

/-- A slice of turns, wherever it lies. -/
def TnI (w : World) (v : Value) (L : List Tn) : Prop := (v = .slice none 0 0 ∧ L = []) ∨ ∃ (a : Addr) (cap : Nat), v = .slice (some a) L.length cap ∧ ∀ (k : Nat) (x : Tn), L[k]? = some x → ∃ b o, a = ⟨b, o, none⟩ ∧ w.cell? ⟨b, o + k * 2, none⟩ = some (.int .i64 x.d) ∧ w.cell? ⟨b, o + k * 2 + 1, none⟩ = some (.int .i64 x.n)

theorem TnI.keep {w w' : World} {v : Value} {L : List Tn} (h : TnI w v L) (f : Fr none' w w') : TnI w' v L := by
  rcases h with h | ⟨a, cap, hv, hx⟩
  · exact Or.inl h
  · refine Or.inr ⟨a, cap, hv, fun k x hk => ?_⟩
    obtain ⟨b, o, e, c0, c1⟩ := hx k x hk
    exact ⟨b, o, e, cell_keep f c0 (fun h => h), cell_keep f c1 (fun h => h)⟩

set_option maxHeartbeats 1000000 in
theorem isturn_any (x : Tn) (w : World) : Calls Try.prog 24 #[.agg #[.int .i64 x.d, .int .i64 x.n]] w fun e w' => e = .returned (.bool (okNb x)) ∧ Fr none' w w' := by
  have D := fun W => dom_any x.d W
  have f0 := (Fr.refl none' w).alloc (.cells #[.int .i64 x.d, .int .i64 x.n] 33)
  have r0 := row_alloc w #[.int .i64 x.d, .int .i64 x.n] 33
  have c0 := r0.cell 0
  have c1 := r0.cell 1
  dsimp at c0 c1
  unfold okNb
  cases hd : (decide (0 ≤ x.d) && decide (x.d < 4)) with
  | false =>
    rw [hd] at D
    simp only [Bool.false_and]
    clear r0 hd
    go_enter Try.func24, Try.ntmps24
    go_wp2_with (go_at_call 48; refine (D _).mono ?_; rintro e w1 ⟨rfl, rfl⟩)
    go_ret
    exact ⟨rfl, f0⟩
  | true =>
    rw [hd] at D
    simp only [Bool.true_and]
    generalize x.n = n at *
    cases h1 : decide (1 ≤ n) with
    | false =>
      simp only [Bool.false_and]
      clear r0 hd
      go_enter Try.func24, Try.ntmps24
      go_wp2_with (go_at_call 48; refine (D _).mono ?_; rintro e w1 ⟨rfl, rfl⟩)
      go_ret
      exact ⟨rfl, f0⟩
    | true =>
      simp only [Bool.true_and]
      clear r0 hd
      generalize hb : decide (n ≤ 1000) = bb at *
      go_enter Try.func24, Try.ntmps24
      go_wp2_with (go_at_call 48; refine (D _).mono ?_; rintro e w1 ⟨rfl, rfl⟩)
      go_ret
      exact ⟨by rfl, f0⟩

/-! ### slices.Clone of turns -/
theorem encN_one (L : List Tn) : ∀ u ∈ flatN L, u.oneCell' = true := by
  intro u hu
  obtain ⟨x, _, hx⟩ := List.mem_flatMap.mp hu
  simp only [encN, List.mem_cons, List.not_mem_nil, or_false] at hx
  rcases hx with rfl | rfl <;> rfl
theorem flatN_ix (L : List Tn) (j : Nat) (u : Value) (h : (flatN L)[j]? = some u) : ∃ x, L[j / 2]? = some x ∧ (encN x)[j % 2]? = some u := by
  have hl : j < (flatN L).length := by
    rcases Nat.lt_or_ge j (flatN L).length with h' | h'
    · exact h'
    · rw [List.getElem?_eq_none h'] at h; cases h
  rw [flatN_len] at hl
  have hk : j / 2 < L.length := by omega
  refine ⟨L[j / 2], List.getElem?_eq_getElem hk, ?_⟩
  rw [← flatN_at L (j / 2) L[j / 2] (List.getElem?_eq_getElem hk) (j % 2) (by omega), show j / 2 * 2 + j % 2 = j by omega]
  exact h
theorem info_n : (Try.prog.info? 33).map (fun i => (i.zero, i.size, i.bytes)) = some (some (.agg #[.int .i64 0, .int .i64 0]), 2, 16) := by kernel_rfl
theorem add_off (b o j : Nat) : (⟨b, o, none⟩ : Addr).add j = ⟨b, o + j, none⟩ := by cases j <;> rfl

/-- append(s, ..) of turns that lie somewhere, to a slice of the call's own. -/
theorem append_tn (w : World) (v : Value) (l m : List Tn) (a : Addr) (c : Nat) (ho : w.ownsRow 0 33 2 v l.length (flatN l)) (hl : l.length + m.length ≤ 100000) (hc : ∀ (k : Nat) (x : Tn), m[k]? = some x → ∃ b o, a = ⟨b, o, none⟩ ∧ w.cell? ⟨b, o + k * 2, none⟩ = some (.int .i64 x.d) ∧ w.cell? ⟨b, o + k * 2 + 1, none⟩ = some (.int .i64 x.n)) :
    ∃ v' w', (Builtin.append_ #[22, 22] 22 #[v, .slice (some a) m.length c]).run Try.prog w = .ok v' w' ∧ Fr (fun k => some k = v.ownBlock) w w' ∧ w'.ownsRow 0 33 2 v' (l ++ m).length (flatN (l ++ m)) ∧ (v'.ownBlock = v.ownBlock ∨ v'.ownBlock = some w.heap.size) := by
  have hi := info_n
  cases hq : Try.prog.info? 33 with
  | none => simp [hq] at hi
  | some i =>
    rw [hq] at hi
    simp only [Option.map_some, Option.some.injEq, Prod.mk.injEq] at hi
    obtain ⟨hz0, hs, hby⟩ := hi
    obtain ⟨v', w', g1, g2, g3, _, g5⟩ := run_append_own_at (P := Try.prog) (w := w) 0 22 22 33 i _ 2 16 Try.underlying22 hq hz0 hs hby rfl (by omega) v l.length (flatN l) ho a m.length c (flatN m) (flatN_len m) (fun j u hu => by
      obtain ⟨x, hx, hu'⟩ := flatN_ix m j u hu
      obtain ⟨b, o, rfl, c0, c1⟩ := hc _ x hx
      rw [add_off]
      rcases (by omega : j % 2 = 0 ∨ j % 2 = 1) with e | e
      · rw [e] at hu'
        rw [show o + j = o + j / 2 * 2 by omega, c0]
        exact hu'
      · rw [e] at hu'
        rw [show o + j = o + j / 2 * 2 + 1 by omega, c1]
        exact hu') (encN_one m) (by simp only [maxLen]; omega) (by omega) (by omega)
    refine ⟨v', w', g1, fr_of_grown' g3, ?_, g5⟩
    have e : flatN (l ++ m) = flatN l ++ flatN m := by unfold flatN; exact List.flatMap_append
    rw [List.length_append, e]
    exact g2

theorem tnil_eq (w : World) : (binOp .eql 22 (.slice none 0 0) (.slice none 0 0)).run Try.prog w = .ok (.bool true) w := by kernel_rfl
theorem tnil_ne (w : World) (a : Addr) (n c : Nat) : (binOp .eql 22 (.slice (some a) n c) (.slice none 0 0)).run Try.prog w = .ok (.bool false) w := by kernel_rfl

/-- A slice of turns of the call's own. -/
def TnO (w0 w : World) (v : Value) (L : List Tn) : Prop := w.ownsRow 0 33 2 v L.length (flatN L) ∧ ∀ k, some k = v.ownBlock → w0.heap.size ≤ k

set_option maxHeartbeats 1000000 in
theorem tclone_any (w : World) (v : Value) (L : List Tn) (hv : TnI w v L) (hl : L.length ≤ 8) :
    Calls Try.prog 25 #[v] w fun e w' => ∃ a cap, e = .returned (.slice a L.length cap) ∧ Fr none' w w' ∧ TnO w w' (.slice a L.length cap) L := by
  rcases hv with ⟨rfl, rfl⟩ | ⟨a, cap, rfl, hx⟩
  · have HO : Hid (TnO w w (.slice none ([] : List Tn).length 0) []) := ⟨⟨rfl, Or.inl ⟨rfl, rfl⟩⟩, fun k hk => (by cases hk)⟩
    have hE := tnil_eq
    go_enter Try.func25, Try.ntmps25
    go_wp2
    go_ret
    exact ⟨none, 0, rfl, Fr.refl _ _, HO.out⟩
  · have f1 := (Fr.refl none' w).alloc (.cells #[] 33)
    have r1 := row_alloc w #[] 33
    have o1 : (w.alloc (.cells #[] 33)).ownsRow 0 33 2 (.slice (some ⟨w.heap.size, 0, none⟩) 0 0) ([] : List Tn).length (flatN []) := ⟨rfl, Or.inr ⟨w.heap.size, 0, #[], rfl, by omega, r1, by simp, by simp [maxLen], by simp, rfl⟩⟩
    obtain ⟨v', w', hrun, f2, h2, h3⟩ := append_tn (w.alloc (.cells #[] 33)) (.slice (some ⟨w.heap.size, 0, none⟩) 0 0) [] L a cap o1 (by simp; omega) (fun k x hk => by
      obtain ⟨b, o, e, c0, c1⟩ := hx k x hk
      exact ⟨b, o, e, cell_keep f1 c0 (fun h => h), cell_keep f1 c1 (fun h => h)⟩)
    rw [List.nil_append] at h2
    obtain ⟨a', cap', hv'⟩ : ∃ a' cap', v' = .slice a' L.length cap' := by
      obtain ⟨hl, h | ⟨g, cap, cur, hv, _⟩⟩ := h2
      · exact ⟨none, 0, by rw [h.2]; exact h.1⟩
      · exact ⟨_, _, hv⟩
    subst hv'
    have HP : Hid (Fr none' w w' ∧ TnO w w' (.slice a' L.length cap') L) := ⟨f1.newer (b := w.heap.size) (f2.mono (fun k _ e => own_is e)) (Nat.le_refl _), h2, fun k hk => by
      rcases h3 with h3 | h3
      · rw [h3] at hk
        have := own_is hk
        omega
      · rw [h3] at hk
        have := Option.some.inj hk
        simp at this
        omega⟩
    clear f1 r1 o1 f2 h2 h3 hx
    generalize L.length = n at *
    have hE := tnil_ne
    go_enter Try.func25, Try.ntmps25
    go_wp2_with (at_builtin; refine wpList_append_runK rfl _ _ 22 rfl _ _ rfl rfl _ _ hrun ?_)
    go_ret
    exact ⟨_, _, rfl, HP.out⟩

/-! ### New -/
def zcells : Array Value := (#[.map none] ++ Array.replicate 256 (.slice none 0 0)) ++ #[.pointer none, .slice none 0 0, .int .i64 0, .int .i64 0]
theorem zero_s (w : World) : Sem.run Try.prog (zeroValue 57) w = .ok (.agg zcells) w := by kernel_rfl
theorem zero_is : ∃ Z : Array Value, (∀ w, Sem.run Try.prog (zeroValue 57) w = .ok (.agg Z) w) ∧ Z.size = 261 ∧ (∀ j, j < 256 → Z[1 + j]? = some (.slice none 0 0)) ∧ Z[257]? = some (.pointer none) ∧ Z[259]? = some (.int .i64 0) := by
  refine ⟨zcells, zero_s, by simp [zcells], fun j hj => ?_, by simp [zcells], by simp [zcells]⟩
  unfold zcells
  rw [Array.getElem?_append_left (by simp; omega), Array.getElem?_append_right (by simp)]
  simp [hj]

def newB (L : List Tn) : Bool := decide (L.length ≤ 8) && L.all okNb
def newT (L : List Tn) : List Tn := if L = [] then [⟨0, 1000⟩] else L
def newSd (L : List Tn) : Sd := ⟨[], fun _ => [], -1, newT L, 0, Tn.n (((newT L)[0]?).getD ⟨0, 1000⟩)⟩

theorem ok_new {L : List Tn} (h : newB L = true) : Ok (newSd L) := by
  simp only [newB, Bool.and_eq_true, decide_eq_true_eq, List.all_eq_true] at h
  have hT : ∀ t ∈ newT L, okN t := by
    unfold newT
    split
    · intro t ht
      rw [List.mem_singleton] at ht
      subst ht
      exact ⟨by show (0 : Int) ≤ 0; omega, by show (0 : Int) ≤ 3; omega, by show (1 : Int) ≤ 1000; omega, by show (1000 : Int) ≤ 1000; omega⟩
    · exact fun t ht => okNb_iff.1 (h.2 t ht)
  have hlen : (newT L).length ≤ 8 := by
    unfold newT
    split
    · simp
    · exact h.1
  have hpos : 0 < (newT L).length := by
    unfold newT
    split
    · simp
    · rename_i e
      exact List.length_pos_iff.2 e
  have h0 : okN (((newT L)[0]?).getD ⟨0, 1000⟩) := by
    rw [List.getElem?_eq_getElem hpos]
    exact hT _ (List.getElem_mem _)
  refine ⟨⟨goodL_nil, fun t ht => (by cases ht), Or.inl rfl, ⟨fun _ => List.nodup_nil, fun j x => ?_⟩⟩, ⟨hT, hlen, hpos, h0.n0, h0.n1⟩⟩
  constructor
  · intro hx; cases hx
  · rintro ⟨_, t, ht, _⟩; cases ht

theorem get3 (Z : Array Value) (x y z : Value) (i : Nat) (h0 : i ≠ 0) (h1 : i ≠ 258) (h2 : i ≠ 260) : (((Z.setIfInBounds 0 x).setIfInBounds 258 y).setIfInBounds 260 z)[i]? = Z[i]? := by
  rw [Array.getElem?_setIfInBounds_ne (by omega), Array.getElem?_setIfInBounds_ne (by omega), Array.getElem?_setIfInBounds_ne (by omega)]
theorem made_is (w1 : World) (Z : Array Value) (v : Value) (tb : List Tn) (n0 : Int) (hs : Z.size = 261) (hq : ∀ j, j < 256 → Z[1 + j]? = some (.slice none 0 0)) (hc : Z[257]? = some (.pointer none)) (hn : Z[259]? = some (.int .i64 0)) (ho : w1.ownsRow 0 33 2 v tb.length (flatN tb)) :
    IsS ((w1.alloc (.map #[] 0)).alloc (.cells (((Z.setIfInBounds 0 (.map (some w1.heap.size))).setIfInBounds 258 v).setIfInBounds 260 (.int .i64 n0)) 57)) ⟨w1.heap.size + 1, w1.heap.size, fun _ => 0, fun _ => .slice none 0 0, v⟩ ⟨[], fun _ => [], -1, tb, 0, n0⟩ := by
  have f1 := (Fr.refl none' w1).alloc (.map #[] 0)
  have f2 := f1.alloc (.cells (((Z.setIfInBounds 0 (.map (some w1.heap.size))).setIfInBounds 258 v).setIfInBounds 260 (.int .i64 n0)) 57)
  refine ⟨⟨_, row_alloc1 _ _ _ _, by simp [hs], ?_, ?_, ?_, ?_, ?_, ?_⟩, ?_, fun n hn => (by cases hn), fun n hn => (by cases hn), fun j hj => ⟨rfl, Or.inl ⟨rfl, rfl⟩⟩, fun j j' _ _ _ k hk => (by cases hk), ?_, goodL_nil⟩
  · rw [Array.getElem?_setIfInBounds_ne (by omega), Array.getElem?_setIfInBounds_ne (by omega), Array.getElem?_setIfInBounds_self_of_lt (by omega)]
  · intro j hj
    rw [get3 _ _ _ _ _ (by omega) (by omega) (by omega)]
    exact hq j hj
  · rw [get3 _ _ _ _ _ (by omega) (by omega) (by omega)]
    exact hc
  · rw [Array.getElem?_setIfInBounds_ne (by omega), Array.getElem?_setIfInBounds_self_of_lt (by simp; omega)]
  · rw [get3 _ _ _ _ _ (by omega) (by omega) (by omega)]
    exact hn
  · rw [Array.getElem?_setIfInBounds_self_of_lt (by simp; omega)]
  · exact (((mp_made w1).keep ((Fr.refl none' (w1.alloc (.map #[] 0))).alloc (.cells (((Z.setIfInBounds 0 (.map (some w1.heap.size))).setIfInBounds 258 v).setIfInBounds 260 (.int .i64 n0)) 57)) (fun h => h))).congr fun k => rfl
  · exact ownsRow_at ho fun q _ hl => f2.block q hl (fun h => h)

/-- What New answers. -/
def NewP (w : World) (L : List Tn) (e : Ending) (w' : World) : Prop := (newB L = false ∧ e = .returned (.tuple #[.pointer none, .int .i64 1]) ∧ Fr none' w w') ∨ (newB L = true ∧ ∃ p, e = .returned (.tuple #[.pointer (some ⟨p.b, 0, none⟩), .int .i64 0]) ∧ IsS w' p (newSd L) ∧ Fr none' w w' ∧ ∀ k, p.s (newSd L) k → w.heap.size ≤ k)

theorem newP_bad {w w' : World} {L : List Tn} (h : newB L = false) (f : Fr none' w w') : NewP w L (.returned (.tuple #[.pointer none, .int .i64 1])) w' := Or.inl ⟨h, rfl, f⟩
theorem newP_ok {w w1 : World} {L : List Tn} {Z : Array Value} {v : Value} {n0 : Int} (h : newB L = true) (hs : Z.size = 261) (hq : ∀ j, j < 256 → Z[1 + j]? = some (.slice none 0 0)) (hc : Z[257]? = some (.pointer none)) (hn : Z[259]? = some (.int .i64 0)) (f : Fr none' w w1) (ho : TnO w w1 v (newT L)) (h0 : ((newT L)[0]?).map (·.n) = some n0) :
    NewP w L (.returned (.tuple #[.pointer (some ⟨w1.heap.size + 1, 0, none⟩), .int .i64 0])) ((w1.alloc (.map #[] 0)).alloc (.cells (((Z.setIfInBounds 0 (.map (some w1.heap.size))).setIfInBounds 258 v).setIfInBounds 260 (.int .i64 n0)) 57)) := by
  refine Or.inr ⟨h, ⟨w1.heap.size + 1, w1.heap.size, fun _ => 0, fun _ => .slice none 0 0, v⟩, rfl, ?_, (f.alloc _).alloc _, ?_⟩
  · have := made_is w1 Z v (newT L) n0 hs hq hc hn ho.1
    have e : newSd L = ⟨[], fun _ => [], -1, newT L, 0, n0⟩ := by
      unfold newSd
      cases hh : (newT L)[0]? with
      | none => rw [hh] at h0; cases h0
      | some x =>
        rw [hh] at h0
        have : x.n = n0 := by simpa using h0
        rw [← this]
        rfl
    rw [e]
    exact this
  · have := f.size
    rintro k (rfl | rfl | ⟨n, hn, _⟩ | ⟨j, _, hj⟩ | hk)
    · show w.heap.size ≤ w1.heap.size + 1; omega
    · show w.heap.size ≤ w1.heap.size; omega
    · cases hn
    · cases hj
    · exact ho.2 k hk

end Go.Proofs.Ytipfgenbfnkpfaa
