/-
  One cell of the document's row turned; its Move and Swap. No statement is proved here.
-/
import Derived.Test.YtjopmhidldemmaaCdtRef
import Derived.Test.YtjopmhidldemmaaCdtSmall
namespace Go.Proofs.Ytjopmhidldemmaa
open Go.RowKit Go.Maps Go.WideMaps

theorem OwnK.set {e : TypeId} {k : Nat} {w : World} {B : Nat} {g n cap : Nat} {xs : List Value} (h : OwnK e k w B (.slice (some ⟨g, 0, none⟩) n cap) n xs) {j : Nat} (hj : j < xs.length) (u : Value) : OwnK e k (w.setCell ⟨g, j, none⟩ u) B (.slice (some ⟨g, 0, none⟩) n cap) n (xs.set j u) := by
  obtain ⟨⟨hl, hh | ⟨g', cap', cur, hv, hb, hg, hc, hm, hs, ht⟩⟩, hn⟩ := h
  · cases hh.1
  · simp only [Value.slice.injEq, Option.some.injEq, Addr.mk.injEq, and_true, true_and] at hv
    obtain ⟨rfl, rfl⟩ := hv
    have hr := (show Row w g cur e from hg).setCell j u
    refine ⟨⟨by simpa using hl, Or.inr ⟨g, cap, _, rfl, hb, hr, hc, hm, by simpa using hs, ?_⟩⟩, hn⟩
    rw [← ht]
    apply List.ext_getElem?
    intro i
    have hjl : j < (cur.toList.take (n * k)).length := by rw [ht]; exact hj
    simp only [List.length_take, Array.length_toList] at hjl
    by_cases e : j = i
    · subst e
      rw [List.getElem?_set_self (by simp only [List.length_take, Array.length_toList]; omega), List.getElem?_take, if_pos (by omega)]
      have hjs : j < cur.size := by omega
      simp [hjs]
    · rw [List.getElem?_set_ne e, List.getElem?_take, List.getElem?_take]
      split
      · simp [e]
      · rfl

theorem flatO_set {K K' : Nat → Value} {L : List On} {k c : Nat} {o o' : On} {u : Value} (hk : L[k]? = some o) (hc : c < 5) (ho : onV o' (K' k) = (onV o (K k)).set c u) (hK : ∀ j, j ≠ k → K' j = K j) : flatO K' 0 (L.set k o') = (flatO K 0 L).set (k * 5 + c) u := by
  apply List.ext_getElem?
  intro p
  obtain ⟨hkl, _⟩ := List.getElem?_eq_some_iff.1 hk
  by_cases hp : p < L.length * 5
  · obtain ⟨j, r, rfl, hr⟩ : ∃ j r, p = j * 5 + r ∧ r < 5 := ⟨p / 5, p % 5, by omega, by omega⟩
    have hj : j < L.length := by omega
    by_cases e : j = k
    · subst e
      have h1 : (L.set j o')[j]? = some o' := by rw [List.getElem?_set_self hkl]
      rw [flatO_at K' 0 _ j o' h1 r hr, Nat.zero_add, ho]
      by_cases er : c = r
      · subst er
        rw [List.getElem?_set_self (by simp [onV]; omega), List.getElem?_set_self (by rw [flatO_len]; omega)]
      · rw [List.getElem?_set_ne er, List.getElem?_set_ne (by omega), flatO_at K 0 L j o hk r hr, Nat.zero_add]
    · have h1 : (L.set k o')[j]? = some L[j] := by rw [List.getElem?_set_ne (fun h => e h.symm), List.getElem?_eq_getElem hj]
      rw [flatO_at K' 0 _ j _ h1 r hr, Nat.zero_add, hK j e, List.getElem?_set_ne (by omega), flatO_at K 0 L j _ (List.getElem?_eq_getElem hj) r hr, Nat.zero_add]
  · rw [List.getElem?_eq_none (by rw [flatO_len]; simp; omega), List.getElem?_eq_none (by simp [flatO_len]; omega)]

/-- One cell that is no row of children turned. -/
theorem IsR.set {w : World} {B r g cap : Nat} {q : Qr} {L : List On} {ro : List Nat} (h : IsR w B r q L ro) (hv : q.v = .slice (some ⟨g, 0, none⟩) L.length cap) {k c : Nat} {o o' : On} {u : Value} (hk : L[k]? = some o) (hc : c < 5) (ho : onV o' (q.K k) = (onV o (q.K k)).set c u) (hks : o'.ks = o.ks) :
    IsR (w.setCell ⟨g, k * 5 + c, none⟩ u) B r q (L.set k o') ro := by
  obtain ⟨hkl, _⟩ := List.getElem?_eq_some_iff.1 hk
  have hob : q.v.ownBlock = some g := by rw [hv]; rfl
  have f := fr_set w g (k * 5 + c) u (Fr.refl _ _)
  have hown := h.own
  rw [hv] at hown
  have h5 := hown.set (j := k * 5 + c) (by rw [flatO_len]; omega) u
  rw [← flatO_set hk hc ho (fun j _ => rfl)] at h5
  refine ⟨h.row.keep f (fun e => h.nb (by rw [hob]; exact congrArg some e)), ?_, h.rts.at (fun x hx hl => f.block x hl (fun e => h.nu.2 x hx (by rw [hob]; exact congrArg some e))), fun i o2 hi => ?_, h.hi, by simpa using h.sm⟩
  · rw [List.length_set, hv]
    exact h5
  · by_cases e : k = i
    · subst e
      rw [List.getElem?_set_self hkl] at hi
      cases hi
      rw [hks]
      exact (h.kd k o hk).at (fun x hx hl => f.block x hl (fun e => (h.nk k hkl).2 x hx (by rw [hob]; exact congrArg some e)))
    · rw [List.getElem?_set_ne e] at hi
      have hil := (List.getElem?_eq_some_iff.1 hi).1
      exact (h.kd i o2 hi).at (fun x hx hl => f.block x hl (fun e => (h.nk i hil).2 x hx (by rw [hob]; exact congrArg some e)))
theorem IsR.frozen {w : World} {B r g cap : Nat} {q : Qr} {L : List On} {ro : List Nat} (h : IsR w B r q L ro) (hv : q.v = .slice (some ⟨g, 0, none⟩) L.length cap) (hn : L.length ≠ 0) (i : Nat) : w.frozen? ⟨g, i, none⟩ = false := by
  obtain ⟨g', cap', cur, hv', _, hr, _⟩ := h.own.row hn
  rw [hv] at hv'
  simp only [Value.slice.injEq, Option.some.injEq, Addr.mk.injEq, and_true, true_and] at hv'
  rw [hv'.1]
  exact hr.frozen i

def renR (L : List On) (k : Nat) (b : Rf) : List On := match L[k]? with
  | some o => L.set k ⟨b, o.up, o.ks, o.go⟩
  | none => L
theorem renR_len (L : List On) (k : Nat) (b : Rf) : (renR L k b).length = L.length := by unfold renR; split <;> simp
/-- A name turned: two cells. -/
theorem IsR.rename {w : World} {B r g cap : Nat} {q : Qr} {L : List On} {ro : List Nat} (h : IsR w B r q L ro) (hv : q.v = .slice (some ⟨g, 0, none⟩) L.length cap) {k : Nat} {o : On} (hk : L[k]? = some o) (b : Rf) :
    IsR ((w.setCell ⟨g, k * 5, none⟩ (.int .i64 b.n)).setCell ⟨g, k * 5 + 1, none⟩ (.int .i64 b.i)) B r q (renR L k b) ro := by
  obtain ⟨hkl, _⟩ := List.getElem?_eq_some_iff.1 hk
  have h1 := h.set hv (c := 0) (o' := ⟨⟨b.n, o.a.i⟩, o.up, o.ks, o.go⟩) (u := .int .i64 b.n) hk (by omega) rfl rfl
  have h2 := h1.set (by rw [List.length_set]; exact hv) (k := k) (c := 1) (o := ⟨⟨b.n, o.a.i⟩, o.up, o.ks, o.go⟩) (o' := ⟨b, o.up, o.ks, o.go⟩) (u := .int .i64 b.i) (by rw [List.getElem?_set_self hkl]) (by omega) rfl rfl
  rw [List.set_set] at h2
  unfold renR
  rw [hk]
  exact h2

def rmovE (L : List On) (a b : Rf) : Int := if fdR a L = none then 131 else if fdR b L = none then 0 else 130
def rmovL (L : List On) (a b : Rf) : List On := match fdR a L, fdR b L with
  | some k, none => renR L k b
  | _, _ => L
theorem fdI_neg {a : Rf} {L : List On} (h : fdR a L = none) : fdI a L = -1 := by unfold fdI; rw [h]
theorem fdI_pos {a : Rf} {L : List On} {k : Nat} (h : fdR a L = some k) : fdI a L = (k : Int) := by unfold fdI; rw [h]
theorem fr_block {w : World} {r g : Nat} {q : Qr} {L : List On} {w' : World} (hob : q.v.ownBlock = some g) (f : Fr (at' g) w w') : Fr (q.s r L.length) w w' := f.mono (fun k _ e => Or.inr (Or.inl (by rw [hob]; exact congrArg some e)))

set_option maxRecDepth 100000 in
set_option maxHeartbeats 1000000 in
theorem rmove_any (w : World) (B r : Nat) (q : Qr) (L : List On) (ro : List Nat) (h : IsR w B r q L ro) (a b : Rf) :
    Calls Try.prog 20 #[pv r, rfV a, rfV b] w fun e w' => e = .returned (.int .i64 (rmovE L a b)) ∧ ChgR w B r w' (rmovL L a b) ro := by
  have f1 := ((Fr.refl none' w).alloc (.cells #[.int .i64 a.n, .int .i64 a.i] 33)).alloc (.cells #[.int .i64 b.n, .int .i64 b.i] 33)
  have rb := row_alloc1 w (.cells #[.int .i64 a.n, .int .i64 a.i] 33) #[.int .i64 b.n, .int .i64 b.i] 33
  have h1 := h.keep0 f1
  have HH : Hid _ := ⟨h⟩
  clear h
  go_enter Try.func20, Try.ntmps20
  go_wp2_with fail
  refine (find_any _ B r q L ro h1 a).mono ?_
  rintro e w1 ⟨rfl, f2⟩
  replace h1 := h1.keep0 f2
  replace rb := rb.keep f2 (fun h => h)
  replace f1 := f1.trans f2
  clear f2
  have b0 := rb.cell 0
  have b1 := rb.cell 1
  go_wp2_with fail
  refine (find_any _ B r q L ro h1 b).mono ?_
  rintro e w2 ⟨rfl, f2⟩
  replace h1 := h1.keep0 f2
  replace rb := rb.keep f2 (fun h => h)
  replace f1 := f1.trans f2
  clear f2 b0 b1
  cases hfa : fdR a L with
  | none =>
    rw [fdI_neg hfa]
    go_wp2
    go_ret
    exact ⟨by simp [rmovE, hfa], by simp only [rmovL, hfa]; exact ChgR.same HH.out f1⟩
  | some k =>
    rw [fdI_pos hfa]
    have hk0 : decide ((k : Int) < 0) = false := decide_eq_false (by omega)
    cases hfb : fdR b L with
    | some j =>
      rw [fdI_pos hfb]
      have hj0 : decide (0 ≤ (j : Int)) = true := decide_eq_true (by omega)
      go_wp2
      go_ret
      exact ⟨by simp [rmovE, hfa, hfb], by simp only [rmovL, hfa, hfb]; exact ChgR.same HH.out f1⟩
    | none =>
      rw [fdI_neg hfb]
      obtain ⟨o, ho, _⟩ := fdR_some hfa
      have hkl := (List.getElem?_eq_some_iff.1 ho).1
      obtain ⟨ad0, cap, hv, hn⟩ := h1.form
      obtain ⟨g, rfl, d0, d1, _⟩ := hn k o ho
      have c0 := h1.c0
      rw [hv] at c0
      have z0 := h1.frozen hv (by omega) (k * 5)
      have z1 := h1.frozen hv (by omega) (k * 5 + 1)
      have hob : q.v.ownBlock = some g := by rw [hv]; rfl
      have h2 := h1.rename hv ho b
      have fS := fr_set _ g (k * 5 + 1) (.int .i64 b.i) (fr_set w2 g (k * 5) (.int .i64 b.n) (Fr.refl _ _))
      have i1 : 0 ≤ (k : Int) ∧ (k : Int) < (L.length : Int) := by omega
      have HD : Hid (ChgR w B r (((w2.setCell ⟨g, k * 5, none⟩ (.int .i64 b.n)).setCell ⟨g, k * 5 + 1, none⟩ (.int .i64 b.i)).drew) (renR L k b) ro) :=
        ⟨ChgR.of HH.out (h2.keep0 ((Fr.refl none' _).drew)) ((f1.mono (fun _ _ h => h.elim)).trans (fr_block hob fS)).drew⟩
      have b0 := rb.cell 0
      have b1 := rb.cell 1
      clear h1 h2 hn hv HH fS hob rb f1
      generalize L.length = N at *
      go_wp2_with fail
      go_region
      all_goals go_wp2
      all_goals go_ret
      all_goals exact ⟨by simp [rmovE, hfa, hfb], by simp only [rmovL, hfa, hfb]; exact HD.out⟩

def rswpE (L : List On) (a b : Rf) : Int := if fdR a L = none then 131 else if fdR b L = none then 131 else 0
def rswpL (L : List On) (a b : Rf) : List On := match fdR a L, fdR b L with
  | some k, some j => renR (renR L k b) j a
  | _, _ => L
theorem renR_at {L : List On} {k j : Nat} {o : On} (b : Rf) (hj : L[j]? = some o) : ∃ o', (renR L k b)[j]? = some o' := by
  have : j < (renR L k b).length := by rw [renR_len]; exact (List.getElem?_eq_some_iff.1 hj).1
  exact ⟨_, List.getElem?_eq_getElem this⟩

set_option maxRecDepth 100000 in
set_option maxHeartbeats 1000000 in
theorem rswap_any (w : World) (B r : Nat) (q : Qr) (L : List On) (ro : List Nat) (h : IsR w B r q L ro) (a b : Rf) :
    Calls Try.prog 21 #[pv r, rfV a, rfV b] w fun e w' => e = .returned (.int .i64 (rswpE L a b)) ∧ ChgR w B r w' (rswpL L a b) ro := by
  have f1 := ((Fr.refl none' w).alloc (.cells #[.int .i64 a.n, .int .i64 a.i] 33)).alloc (.cells #[.int .i64 b.n, .int .i64 b.i] 33)
  have ra := (row_alloc w #[.int .i64 a.n, .int .i64 a.i] 33).alloc (.cells #[.int .i64 b.n, .int .i64 b.i] 33)
  have rb := row_alloc1 w (.cells #[.int .i64 a.n, .int .i64 a.i] 33) #[.int .i64 b.n, .int .i64 b.i] 33
  have h1 := h.keep0 f1
  have HH : Hid _ := ⟨h⟩
  clear h
  go_enter Try.func21, Try.ntmps21
  go_wp2_with fail
  refine (find_any _ B r q L ro h1 a).mono ?_
  rintro e w1 ⟨rfl, f2⟩
  replace h1 := h1.keep0 f2
  replace rb := rb.keep f2 (fun h => h)
  replace ra := ra.keep f2 (fun h => h)
  replace f1 := f1.trans f2
  clear f2
  have b0 := rb.cell 0
  have b1 := rb.cell 1
  go_wp2_with fail
  refine (find_any _ B r q L ro h1 b).mono ?_
  rintro e w2 ⟨rfl, f2⟩
  replace h1 := h1.keep0 f2
  replace rb := rb.keep f2 (fun h => h)
  replace ra := ra.keep f2 (fun h => h)
  replace f1 := f1.trans f2
  clear f2 b0 b1
  cases hfa : fdR a L with
  | none =>
    rw [fdI_neg hfa]
    go_wp2
    go_ret
    exact ⟨by simp [rswpE, hfa], by simp only [rswpL, hfa]; exact ChgR.same HH.out f1⟩
  | some k =>
    rw [fdI_pos hfa]
    have hk0 : decide ((k : Int) < 0) = false := decide_eq_false (by omega)
    cases hfb : fdR b L with
    | none =>
      rw [fdI_neg hfb]
      go_wp2
      go_ret
      exact ⟨by simp [rswpE, hfa, hfb], by simp only [rswpL, hfa, hfb]; exact ChgR.same HH.out f1⟩
    | some j =>
      rw [fdI_pos hfb]
      have hj0 : decide ((j : Int) < 0) = false := decide_eq_false (by omega)
      obtain ⟨o, ho, _⟩ := fdR_some hfa
      obtain ⟨p, hp, _⟩ := fdR_some hfb
      have hkl := (List.getElem?_eq_some_iff.1 ho).1
      have hjl := (List.getElem?_eq_some_iff.1 hp).1
      obtain ⟨ad0, cap, hv, hn⟩ := h1.form
      obtain ⟨g, rfl, d0, d1, _⟩ := hn k o ho
      have c0 := h1.c0
      rw [hv] at c0
      have z0 := h1.frozen hv (by omega) (k * 5)
      have z1 := h1.frozen hv (by omega) (k * 5 + 1)
      have hob : q.v.ownBlock = some g := by rw [hv]; rfl
      have h2 := (h1.rename hv ho b).keep0 ((Fr.refl none' _).drew)
      have fS := (fr_set _ g (k * 5 + 1) (.int .i64 b.i) (fr_set w2 g (k * 5) (.int .i64 b.n) (Fr.refl _ _))).drew
      obtain ⟨V, hV⟩ : ∃ V, V = ((w2.setCell ⟨g, k * 5, none⟩ (.int .i64 b.n)).setCell ⟨g, k * 5 + 1, none⟩ (.int .i64 b.i)).drew := ⟨_, rfl⟩
      rw [← hV] at h2 fS
      obtain ⟨p', hp'⟩ := renR_at (k := k) b hp
      have hv' : q.v = .slice (some ⟨g, 0, none⟩) (renR L k b).length cap := by rw [renR_len]; exact hv
      obtain ⟨ad1, cap1, hv1, hn1⟩ := h2.form
      obtain ⟨g1, e1, d0', d1', _⟩ := hn1 j p' hp'
      obtain rfl : g1 = g := by
        rw [e1, hv'] at hv1
        simp at hv1
        exact hv1.1.symm
      have c0' := h2.c0
      rw [hv] at c0'
      have z0' := h2.frozen hv' (by rw [renR_len]; omega) (j * 5)
      have z1' := h2.frozen hv' (by rw [renR_len]; omega) (j * 5 + 1)
      have h3 := h2.rename hv' hp' a
      have fS2 := (fr_set _ g1 (j * 5 + 1) (.int .i64 a.i) (fr_set V g1 (j * 5) (.int .i64 a.n) (Fr.refl _ _)))
      have i1 : 0 ≤ (k : Int) ∧ (k : Int) < (L.length : Int) := by omega
      have i2 : 0 ≤ (j : Int) ∧ (j : Int) < (L.length : Int) := by omega
      have gw : g1 < w.heap.size := HH.out.lt g1 (Or.inr (Or.inl hob.symm))
      have raV := ra.keep fS (fun e => by have e' : w.heap.size = g1 := e; omega)
      have HD : Hid (ChgR w B r (((V.setCell ⟨g1, j * 5, none⟩ (.int .i64 a.n)).setCell ⟨g1, j * 5 + 1, none⟩ (.int .i64 a.i)).drew) (renR (renR L k b) j a) ro) :=
        ⟨ChgR.of HH.out (h3.keep0 ((Fr.refl none' _).drew)) (((f1.mono (fun _ _ h => h.elim)).trans (fr_block hob fS)).trans (fr_block hob fS2)).drew⟩
      have b0 := rb.cell 0
      have b1 := rb.cell 1
      have a0 := raV.cell 0
      have a1 := raV.cell 1
      clear h1 h2 h3 hn hn1 hv hv' hv1 HH fS fS2 hob rb ra raV f1 hp' e1
      generalize L.length = N at *
      go_wp2_with fail
      go_region
      all_goals rw [← hV]
      all_goals clear hV c0 z0 z1 d0 d1
      all_goals go_wp2_with fail
      all_goals go_region
      all_goals go_wp2
      all_goals go_ret
      all_goals exact ⟨by simp [rswpE, hfa, hfb], by simp only [rswpL, hfa, hfb]; exact HD.out⟩

end Go.Proofs.Ytjopmhidldemmaa
