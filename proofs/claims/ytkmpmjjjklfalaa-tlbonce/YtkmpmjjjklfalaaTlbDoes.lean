/-
  The contract of 'does' (an act by both) over the translation, act by act and whole: both answer the same, and both buffers hold the same afterwards. No statement is proved here.
-/
import Derived.Test.YtkmpmjjjklfalaaTlbFlush
import Derived.Test.YtkmpmjjjklfalaaTlbRefM
namespace Go.Proofs.Ytkmpmjjjklfalaa
open Go.RowKit

/-- What Fill answers, and what it leaves. -/
def fillE (i : Int) (x : Ln) : Int := bif inB i 0 7 then (bif rightL x then 0 else 30) else 1
def fillT (T : Nat → Ln) (i : Int) (x : Ln) : Nat → Ln := bif inB i 0 7 && rightL x then filled T i.toNat x else T
/-- What Evict answers, and what it leaves. -/
def evE (i : Int) : Int := bif inB i 0 7 then 0 else 1
def evT (T : Nat → Ln) (i : Int) : Nat → Ln := bif inB i 0 7 then upd T i.toNat zl else T

theorem inB_nat {i : Int} (h : inB i 0 7 = true) : ∃ k : Nat, i = k ∧ k < 8 := by
  have := inB_iff.mp h
  exact ⟨i.toNat, by omega, by omega⟩

theorem fill_any (w : World) (b : Nat) (T : Nat → Ln) (fo mi : Int) (h : IsTlb w b T fo mi) (i : Int) (x : Ln) :
    Calls Try.prog 15 #[.pointer (some ⟨b, 0, none⟩), .int .i64 i, .agg #[.int .i64 x.v, .int .i64 x.a, .int .i64 x.p, .int .i64 x.f, .int .i64 x.r]] w fun e w' =>
      e = .returned (.int .i64 (fillE i x)) ∧ Fr (at' b) w w' ∧ IsTlb w' b (fillT T i x) fo mi := by
  cases hi : inB i 0 7 with
  | false =>
    have := fill_out w (.pointer (some ⟨b, 0, none⟩)) i x hi
    refine this.mono ?_
    rintro e w' ⟨rfl, f⟩
    simp only [fillE, fillT, hi, Bool.false_and, cond_false]
    exact ⟨trivial, f.mono (fun _ _ h => h.elim), h.keep f (fun h => h)⟩
  | true =>
    cases hx : rightL x with
    | false =>
      have := fill_bad w (.pointer (some ⟨b, 0, none⟩)) i x hi hx
      refine this.mono ?_
      rintro e w' ⟨rfl, f⟩
      simp only [fillE, fillT, hi, hx, Bool.and_false, cond_false, cond_true]
      exact ⟨trivial, f.mono (fun _ _ h => h.elim), h.keep f (fun h => h)⟩
    | true =>
      obtain ⟨k, rfl, hk⟩ := inB_nat hi
      refine (fill_ok w b T fo mi h k hk x hx).mono ?_
      rintro e w' ⟨rfl, f, h'⟩
      simp only [fillE, fillT, hi, hx, Bool.and_true, cond_true, Int.toNat_natCast]
      exact ⟨trivial, f, h'⟩

theorem rfill_any (w : World) (b : Nat) (T : Nat → Ln) (fo mi : Int) (h : IsRef w b T fo mi) (hG : Good T) (hU : Uniq T) (i : Int) (x : Ln) :
    Calls Try.prog 24 #[.pointer (some ⟨b, 0, none⟩), .int .i64 i, .agg #[.int .i64 x.v, .int .i64 x.a, .int .i64 x.p, .int .i64 x.f, .int .i64 x.r]] w fun e w' =>
      e = .returned (.int .i64 (fillE i x)) ∧ Fr (at' b) w w' ∧ IsRef w' b (fillT T i x) fo mi := by
  cases hi : inB i 0 7 with
  | false =>
    have := rfill_out w (.pointer (some ⟨b, 0, none⟩)) i x hi
    refine this.mono ?_
    rintro e w' ⟨rfl, f⟩
    simp only [fillE, fillT, hi, Bool.false_and, cond_false]
    exact ⟨trivial, f.mono (fun _ _ h => h.elim), h.keep f (fun h => h)⟩
  | true =>
    cases hx : rightL x with
    | false =>
      have := rfill_bad w (.pointer (some ⟨b, 0, none⟩)) i x hi hx
      refine this.mono ?_
      rintro e w' ⟨rfl, f⟩
      simp only [fillE, fillT, hi, hx, Bool.and_false, cond_false, cond_true]
      exact ⟨trivial, f.mono (fun _ _ h => h.elim), h.keep f (fun h => h)⟩
    | true =>
      obtain ⟨k, rfl, hk⟩ := inB_nat hi
      refine (rfill_ok w b T fo mi h hG hU k hk x hx).mono ?_
      rintro e w' ⟨rfl, f, h'⟩
      simp only [fillE, fillT, hi, hx, Bool.and_true, cond_true, Int.toNat_natCast]
      exact ⟨trivial, f, h'⟩

theorem evict_any (w : World) (b : Nat) (T : Nat → Ln) (fo mi : Int) (h : IsTlb w b T fo mi) (i : Int) :
    Calls Try.prog 26 #[.pointer (some ⟨b, 0, none⟩), .int .i64 i] w fun e w' =>
      e = .returned (.int .i64 (evE i)) ∧ Fr (at' b) w w' ∧ IsTlb w' b (evT T i) fo mi := by
  cases hi : inB i 0 7 with
  | false =>
    refine (evict_out w (.pointer (some ⟨b, 0, none⟩)) i hi).mono ?_
    rintro e w' ⟨rfl, rfl⟩
    simp only [evE, evT, hi, cond_false]
    exact ⟨trivial, Fr.refl _ _, h⟩
  | true =>
    obtain ⟨k, rfl, hk⟩ := inB_nat hi
    refine (evict_in w b T fo mi h k hk).mono ?_
    rintro e w' ⟨rfl, f, h'⟩
    simp only [evE, evT, hi, cond_true, Int.toNat_natCast]
    exact ⟨trivial, f, h'⟩

theorem revict_any (w : World) (b : Nat) (T : Nat → Ln) (fo mi : Int) (h : IsRef w b T fo mi) (i : Int) :
    Calls Try.prog 27 #[.pointer (some ⟨b, 0, none⟩), .int .i64 i] w fun e w' =>
      e = .returned (.int .i64 (evE i)) ∧ Fr (at' b) w w' ∧ IsRef w' b (evT T i) fo mi := by
  cases hi : inB i 0 7 with
  | false =>
    refine (revict_out w (.pointer (some ⟨b, 0, none⟩)) i hi).mono ?_
    rintro e w' ⟨rfl, rfl⟩
    simp only [evE, evT, hi, cond_false]
    exact ⟨trivial, Fr.refl _ _, h⟩
  | true =>
    obtain ⟨k, rfl, hk⟩ := inB_nat hi
    refine (revict_in w b T fo mi h k hk).mono ?_
    rintro e w' ⟨rfl, f, h'⟩
    simp only [evE, evT, hi, cond_true, Int.toNat_natCast]
    exact ⟨trivial, f, h'⟩

/-- Both buffers, which hold the same, behind all that was there at first. -/
structure Pair (w : World) (B bt br : Nat) (T : Nat → Ln) (fo mi : Int) : Prop where
  new1 : B ≤ bt
  new2 : B ≤ br
  ne : bt ≠ br
  tlb : IsTlb w bt T fo mi
  ref : IsRef w br T fo mi
  good : Good T
  uniq : Uniq T
  fo0 : 0 ≤ fo
  mi0 : 0 ≤ mi

theorem Pair.keep0 {w w' : World} {B bt br : Nat} {T : Nat → Ln} {fo mi : Int} (h : Pair w B bt br T fo mi) (f : Fr none' w w') : Pair w' B bt br T fo mi :=
  ⟨h.new1, h.new2, h.ne, h.tlb.keep f (fun h => h), h.ref.keep f (fun h => h), h.good, h.uniq, h.fo0, h.mi0⟩

/-- What 'does' comes to: true; both buffers hold T', and have counted. -/
def DoneT (w : World) (B bt br : Nat) (T' : Nat → Ln) (fo' mi' : Int) (e : Ending) (w' : World) : Prop :=
  e = .returned (.bool true) ∧ Fr (two bt br) w w' ∧ Pair w' B bt br T' fo' mi'

theorem row10 {w : World} {b : Nat} {c0 c1 c2 c3 c4 c5 c6 c7 c8 c9 : Value} {t : TypeId} (h : Row w b #[c0, c1, c2, c3, c4, c5, c6, c7, c8, c9] t) :
    w.cell? ⟨b, 0, none⟩ = some c0 ∧ w.cell? ⟨b, 1, none⟩ = some c1 ∧ w.cell? ⟨b, 2, none⟩ = some c2 ∧ w.cell? ⟨b, 3, none⟩ = some c3 ∧ w.cell? ⟨b, 4, none⟩ = some c4 ∧ w.cell? ⟨b, 5, none⟩ = some c5 ∧ w.cell? ⟨b, 6, none⟩ = some c6 ∧ w.cell? ⟨b, 7, none⟩ = some c7 ∧ w.cell? ⟨b, 8, none⟩ = some c8 ∧ w.cell? ⟨b, 9, none⟩ = some c9 :=
  ⟨h.cell 0, h.cell 1, h.cell 2, h.cell 3, h.cell 4, h.cell 5, h.cell 6, h.cell 7, h.cell 8, h.cell 9⟩

theorem good_fill {T : Nat → Ln} (h : Good T) (i : Int) (x : Ln) : Good (fillT T i x) := by
  cases hi : inB i 0 7 <;> cases hx : rightL x <;> simp [fillT, hi, hx]
  · exact h
  · exact h
  · exact h
  · exact good_filled h _ hx

theorem uniq_fill {T : Nat → Ln} (h : Uniq T) (i : Int) (x : Ln) : Uniq (fillT T i x) := by
  cases hi : inB i 0 7 <;> cases hx : rightL x <;> simp [fillT, hi, hx]
  · exact h
  · exact h
  · exact h
  · exact uniq_filled h _ _

theorem good_ev {T : Nat → Ln} (h : Good T) (i : Int) : Good (evT T i) := by
  cases hi : inB i 0 7 <;> simp [evT, hi]
  · exact h
  · exact good_upd h (Or.inl rfl) _

theorem uniq_ev {T : Nat → Ln} (h : Uniq T) (i : Int) : Uniq (evT T i) := by
  cases hi : inB i 0 7 <;> simp [evT, hi]
  · exact h
  · exact uniq_zl h _

theorem more_bounds (i : Int) : 0 ≤ moreF i ∧ 0 ≤ moreM i ∧ moreF i + moreM i = 1 := by
  cases h : decide (i < 0) <;> simp [moreF, moreM, h]

theorem flushG_page {vm pg : Int} (h1 : 0 ≤ vm) (h2 : 0 ≤ pg) : flushG vm (-1) pg = fun l => l.v == vm && l.p == pg := by
  have a : decide (vm < 0) = false := decide_eq_false (by omega)
  have b : decide (pg < 0) = false := decide_eq_false (by omega)
  funext l; simp [flushG, a, b]

theorem flushG_asid {vm sp : Int} (h1 : 0 ≤ vm) (h2 : 0 ≤ sp) : flushG vm sp (-1) = fun l => l.v == vm && l.a == sp := by
  have a : decide (vm < 0) = false := decide_eq_false (by omega)
  have b : decide (sp < 0) = false := decide_eq_false (by omega)
  funext l; simp [flushG, a, b]

theorem flushG_vmid {vm : Int} (h1 : 0 ≤ vm) : flushG vm (-1) (-1) = fun l => l.v == vm := by
  have a : decide (vm < 0) = false := decide_eq_false (by omega)
  funext l; simp [flushG, a]

theorem flushG_all : flushG (-1) (-1) (-1) = fun _ => true := by
  funext l; simp [flushG]

set_option maxRecDepth 100000 in
set_option maxHeartbeats 2000000 in
theorem does_fill (w : World) (B bt br : Nat) (T : Nat → Ln) (fo mi : Int) (h : Pair w B bt br T fo mi) (i : Int) (x : Ln) (vm sp pg : Int) :
    Calls Try.prog 11 #[.pointer (some ⟨bt, 0, none⟩), .pointer (some ⟨br, 0, none⟩), .agg #[.int .i64 1, .int .i64 i, .int .i64 x.v, .int .i64 x.a, .int .i64 x.p, .int .i64 x.f, .int .i64 x.r, .int .i64 vm, .int .i64 sp, .int .i64 pg]] w (DoneT w B bt br (fillT T i x) fo mi) := by
  have h0 := h.keep0 ((Fr.refl none' w).alloc (.cells #[.int .i64 1, .int .i64 i, .int .i64 x.v, .int .i64 x.a, .int .i64 x.p, .int .i64 x.f, .int .i64 x.r, .int .i64 vm, .int .i64 sp, .int .i64 pg] 34))
  have f0 := (Fr.refl (two bt br) w).alloc (.cells #[.int .i64 1, .int .i64 i, .int .i64 x.v, .int .i64 x.a, .int .i64 x.p, .int .i64 x.f, .int .i64 x.r, .int .i64 vm, .int .i64 sp, .int .i64 pg] 34)
  have r0 := row_alloc w #[.int .i64 1, .int .i64 i, .int .i64 x.v, .int .i64 x.a, .int .i64 x.p, .int .i64 x.f, .int .i64 x.r, .int .i64 vm, .int .i64 sp, .int .i64 pg] 34
  have n1 : w.heap.size ≠ bt := Nat.ne_of_gt h.tlb.lt
  have n2 : w.heap.size ≠ br := Nat.ne_of_gt h.ref.lt
  have e1 : (fillE i x == fillE i x) = true := by simp
  go_enter Try.func11, Try.ntmps11
  go_wp2_with fail
  refine (fill_any _ _ _ _ _ h0.tlb i x).mono ?_
  rintro e w1 ⟨rfl, f1, t1⟩
  have q1 := h0.ref.keep f1 (fun e => h.ne e.symm)
  replace r0 := r0.keep f1 n1
  replace f0 := f0.trans (f1.mono (T := two bt br) (fun _ _ e => Or.inl e))
  clear f1
  obtain ⟨k0, k1, k2, k3, k4, k5, k6, k7, k8, k9⟩ := row10 r0
  go_wp2_with fail
  refine (rfill_any _ _ _ _ _ q1 h.good h.uniq i x).mono ?_
  rintro e w2 ⟨rfl, f2, t2⟩
  replace t1 := t1.keep f2 h.ne
  replace f0 := f0.trans (f2.mono (T := two bt br) (fun _ _ e => Or.inr e))
  clear f2 q1 r0 k0 k1 k2 k3 k4 k5 k6 k7 k8 k9
  go_wp2_with fail
  go_ret
  exact ⟨rfl, f0, h.new1, h.new2, h.ne, t1, t2, good_fill h.good _ _, uniq_fill h.uniq _ _, h.fo0, h.mi0⟩

set_option maxRecDepth 100000 in
set_option maxHeartbeats 2000000 in
theorem does_find (w : World) (B bt br : Nat) (T : Nat → Ln) (fo mi : Int) (h : Pair w B bt br T fo mi) (i : Int) (x : Ln) (vm sp pg : Int) (hb : fo + mi < 1000000) :
    Calls Try.prog 11 #[.pointer (some ⟨bt, 0, none⟩), .pointer (some ⟨br, 0, none⟩), .agg #[.int .i64 2, .int .i64 i, .int .i64 x.v, .int .i64 x.a, .int .i64 x.p, .int .i64 x.f, .int .i64 x.r, .int .i64 vm, .int .i64 sp, .int .i64 pg]] w (DoneT w B bt br T (fo + moreF (idx T vm sp pg 8)) (mi + moreM (idx T vm sp pg 8))) := by
  have h0 := h.keep0 ((Fr.refl none' w).alloc (.cells #[.int .i64 2, .int .i64 i, .int .i64 x.v, .int .i64 x.a, .int .i64 x.p, .int .i64 x.f, .int .i64 x.r, .int .i64 vm, .int .i64 sp, .int .i64 pg] 34))
  have f0 := (Fr.refl (two bt br) w).alloc (.cells #[.int .i64 2, .int .i64 i, .int .i64 x.v, .int .i64 x.a, .int .i64 x.p, .int .i64 x.f, .int .i64 x.r, .int .i64 vm, .int .i64 sp, .int .i64 pg] 34)
  have r0 := row_alloc w #[.int .i64 2, .int .i64 i, .int .i64 x.v, .int .i64 x.a, .int .i64 x.p, .int .i64 x.f, .int .i64 x.r, .int .i64 vm, .int .i64 sp, .int .i64 pg] 34
  have n1 : w.heap.size ≠ bt := Nat.ne_of_gt h.tlb.lt
  have n2 : w.heap.size ≠ br := Nat.ne_of_gt h.ref.lt
  have b1 : 0 ≤ fo ∧ fo < 1000000 := by have := h.fo0; have := h.mi0; omega
  have b2 : 0 ≤ mi ∧ mi < 1000000 := by have := h.fo0; have := h.mi0; omega
  have e1 : (ansF T (idx T vm sp pg 8) == ansF T (idx T vm sp pg 8)) = true := by simp
  have e2 : (ansR T (idx T vm sp pg 8) == ansR T (idx T vm sp pg 8)) = true := by simp
  have e3 : (ansB (idx T vm sp pg 8) == ansB (idx T vm sp pg 8)) = true := by simp
  have hm := more_bounds (idx T vm sp pg 8)
  go_enter Try.func11, Try.ntmps11
  go_wp2_with fail
  refine (find_any _ _ _ _ _ vm sp pg h0.tlb b1 b2).mono ?_
  rintro e w1 ⟨rfl, f1, t1⟩
  have q1 := h0.ref.keep f1 (fun e => h.ne e.symm)
  replace r0 := r0.keep f1 n1
  replace f0 := f0.trans (f1.mono (T := two bt br) (fun _ _ e => Or.inl e))
  clear f1
  obtain ⟨k0, k1, k2, k3, k4, k5, k6, k7, k8, k9⟩ := row10 r0
  go_wp2_with fail
  refine (rfind_any _ _ _ _ _ vm sp pg q1 h.good b1 b2).mono ?_
  rintro e w2 ⟨rfl, f2, t2⟩
  replace t1 := t1.keep f2 h.ne
  replace f0 := f0.trans (f2.mono (T := two bt br) (fun _ _ e => Or.inr e))
  clear f2 q1 r0 k0 k1 k2 k3 k4 k5 k6 k7 k8 k9
  go_wp2_with fail
  go_ret
  exact ⟨rfl, f0, h.new1, h.new2, h.ne, t1, t2, h.good, h.uniq, by omega, by omega⟩

set_option maxRecDepth 100000 in
set_option maxHeartbeats 2000000 in
theorem does_evict (w : World) (B bt br : Nat) (T : Nat → Ln) (fo mi : Int) (h : Pair w B bt br T fo mi) (i : Int) (x : Ln) (vm sp pg : Int) :
    Calls Try.prog 11 #[.pointer (some ⟨bt, 0, none⟩), .pointer (some ⟨br, 0, none⟩), .agg #[.int .i64 3, .int .i64 i, .int .i64 x.v, .int .i64 x.a, .int .i64 x.p, .int .i64 x.f, .int .i64 x.r, .int .i64 vm, .int .i64 sp, .int .i64 pg]] w (DoneT w B bt br (evT T i) fo mi) := by
  have h0 := h.keep0 ((Fr.refl none' w).alloc (.cells #[.int .i64 3, .int .i64 i, .int .i64 x.v, .int .i64 x.a, .int .i64 x.p, .int .i64 x.f, .int .i64 x.r, .int .i64 vm, .int .i64 sp, .int .i64 pg] 34))
  have f0 := (Fr.refl (two bt br) w).alloc (.cells #[.int .i64 3, .int .i64 i, .int .i64 x.v, .int .i64 x.a, .int .i64 x.p, .int .i64 x.f, .int .i64 x.r, .int .i64 vm, .int .i64 sp, .int .i64 pg] 34)
  have r0 := row_alloc w #[.int .i64 3, .int .i64 i, .int .i64 x.v, .int .i64 x.a, .int .i64 x.p, .int .i64 x.f, .int .i64 x.r, .int .i64 vm, .int .i64 sp, .int .i64 pg] 34
  have n1 : w.heap.size ≠ bt := Nat.ne_of_gt h.tlb.lt
  have n2 : w.heap.size ≠ br := Nat.ne_of_gt h.ref.lt
  have e1 : (evE i == evE i) = true := by simp
  go_enter Try.func11, Try.ntmps11
  go_wp2_with fail
  refine (evict_any _ _ _ _ _ h0.tlb i).mono ?_
  rintro e w1 ⟨rfl, f1, t1⟩
  have q1 := h0.ref.keep f1 (fun e => h.ne e.symm)
  replace r0 := r0.keep f1 n1
  replace f0 := f0.trans (f1.mono (T := two bt br) (fun _ _ e => Or.inl e))
  clear f1
  obtain ⟨k0, k1, k2, k3, k4, k5, k6, k7, k8, k9⟩ := row10 r0
  go_wp2_with fail
  refine (revict_any _ _ _ _ _ q1 i).mono ?_
  rintro e w2 ⟨rfl, f2, t2⟩
  replace t1 := t1.keep f2 h.ne
  replace f0 := f0.trans (f2.mono (T := two bt br) (fun _ _ e => Or.inr e))
  clear f2 q1 r0 k0 k1 k2 k3 k4 k5 k6 k7 k8 k9
  go_wp2_with fail
  go_ret
  exact ⟨rfl, f0, h.new1, h.new2, h.ne, t1, t2, good_ev h.good _, uniq_ev h.uniq _, h.fo0, h.mi0⟩

set_option maxRecDepth 100000 in
set_option maxHeartbeats 2000000 in
theorem does_page (w : World) (B bt br : Nat) (T : Nat → Ln) (fo mi : Int) (h : Pair w B bt br T fo mi) (i : Int) (x : Ln) (vm sp pg : Int) (v1 : 0 ≤ vm) (v2 : 0 ≤ sp) (v3 : 0 ≤ pg) :
    Calls Try.prog 11 #[.pointer (some ⟨bt, 0, none⟩), .pointer (some ⟨br, 0, none⟩), .agg #[.int .i64 4, .int .i64 i, .int .i64 x.v, .int .i64 x.a, .int .i64 x.p, .int .i64 x.f, .int .i64 x.r, .int .i64 vm, .int .i64 sp, .int .i64 pg]] w (DoneT w B bt br (wipe (fun l => l.v == vm && l.p == pg) T) fo mi) := by
  have h0 := h.keep0 ((Fr.refl none' w).alloc (.cells #[.int .i64 4, .int .i64 i, .int .i64 x.v, .int .i64 x.a, .int .i64 x.p, .int .i64 x.f, .int .i64 x.r, .int .i64 vm, .int .i64 sp, .int .i64 pg] 34))
  have f0 := (Fr.refl (two bt br) w).alloc (.cells #[.int .i64 4, .int .i64 i, .int .i64 x.v, .int .i64 x.a, .int .i64 x.p, .int .i64 x.f, .int .i64 x.r, .int .i64 vm, .int .i64 sp, .int .i64 pg] 34)
  have r0 := row_alloc w #[.int .i64 4, .int .i64 i, .int .i64 x.v, .int .i64 x.a, .int .i64 x.p, .int .i64 x.f, .int .i64 x.r, .int .i64 vm, .int .i64 sp, .int .i64 pg] 34
  have n1 : w.heap.size ≠ bt := Nat.ne_of_gt h.tlb.lt
  have n2 : w.heap.size ≠ br := Nat.ne_of_gt h.ref.lt
  have u1 : decide (vm < 0) = false := decide_eq_false (by omega)
  have u2 : decide (sp < 0) = false := decide_eq_false (by omega)
  have u3 : decide (pg < 0) = false := decide_eq_false (by omega)
  have e1 : (cnt (fun l => l.v == vm && l.p == pg) T 8 == cnt (fun l => l.v == vm && l.p == pg) T 8) = true := by simp
  go_enter Try.func11, Try.ntmps11
  go_wp2_with fail
  refine (flush_page _ _ _ _ _ vm pg h0.tlb).mono ?_
  rintro e w1 ⟨rfl, f1, t1⟩
  have q1 := h0.ref.keep f1 (fun e => h.ne e.symm)
  replace r0 := r0.keep f1 n1
  replace f0 := f0.trans (f1.mono (T := two bt br) (fun _ _ e => Or.inl e))
  clear f1
  obtain ⟨k0, k1, k2, k3, k4, k5, k6, k7, k8, k9⟩ := row10 r0
  go_wp2_with fail
  refine (rflush_any _ _ _ _ _ vm (-1) pg q1 h.good).mono ?_
  rw [flushG_page v1 v3]
  rintro e w2 ⟨rfl, f2, t2⟩
  replace t1 := t1.keep f2 h.ne
  replace f0 := f0.trans (f2.mono (T := two bt br) (fun _ _ e => Or.inr e))
  clear f2 q1 r0 k0 k1 k2 k3 k4 k5 k6 k7 k8 k9
  go_wp2_with fail
  go_ret
  exact ⟨rfl, f0, h.new1, h.new2, h.ne, t1, t2, good_wipe h.good _, uniq_wipe h.uniq _, h.fo0, h.mi0⟩

set_option maxRecDepth 100000 in
set_option maxHeartbeats 2000000 in
theorem does_asid (w : World) (B bt br : Nat) (T : Nat → Ln) (fo mi : Int) (h : Pair w B bt br T fo mi) (i : Int) (x : Ln) (vm sp pg : Int) (v1 : 0 ≤ vm) (v2 : 0 ≤ sp) (v3 : 0 ≤ pg) :
    Calls Try.prog 11 #[.pointer (some ⟨bt, 0, none⟩), .pointer (some ⟨br, 0, none⟩), .agg #[.int .i64 5, .int .i64 i, .int .i64 x.v, .int .i64 x.a, .int .i64 x.p, .int .i64 x.f, .int .i64 x.r, .int .i64 vm, .int .i64 sp, .int .i64 pg]] w (DoneT w B bt br (wipe (fun l => l.v == vm && l.a == sp) T) fo mi) := by
  have h0 := h.keep0 ((Fr.refl none' w).alloc (.cells #[.int .i64 5, .int .i64 i, .int .i64 x.v, .int .i64 x.a, .int .i64 x.p, .int .i64 x.f, .int .i64 x.r, .int .i64 vm, .int .i64 sp, .int .i64 pg] 34))
  have f0 := (Fr.refl (two bt br) w).alloc (.cells #[.int .i64 5, .int .i64 i, .int .i64 x.v, .int .i64 x.a, .int .i64 x.p, .int .i64 x.f, .int .i64 x.r, .int .i64 vm, .int .i64 sp, .int .i64 pg] 34)
  have r0 := row_alloc w #[.int .i64 5, .int .i64 i, .int .i64 x.v, .int .i64 x.a, .int .i64 x.p, .int .i64 x.f, .int .i64 x.r, .int .i64 vm, .int .i64 sp, .int .i64 pg] 34
  have n1 : w.heap.size ≠ bt := Nat.ne_of_gt h.tlb.lt
  have n2 : w.heap.size ≠ br := Nat.ne_of_gt h.ref.lt
  have u1 : decide (vm < 0) = false := decide_eq_false (by omega)
  have u2 : decide (sp < 0) = false := decide_eq_false (by omega)
  have u3 : decide (pg < 0) = false := decide_eq_false (by omega)
  have e1 : (cnt (fun l => l.v == vm && l.a == sp) T 8 == cnt (fun l => l.v == vm && l.a == sp) T 8) = true := by simp
  go_enter Try.func11, Try.ntmps11
  go_wp2_with fail
  refine (flush_asid _ _ _ _ _ vm sp h0.tlb).mono ?_
  rintro e w1 ⟨rfl, f1, t1⟩
  have q1 := h0.ref.keep f1 (fun e => h.ne e.symm)
  replace r0 := r0.keep f1 n1
  replace f0 := f0.trans (f1.mono (T := two bt br) (fun _ _ e => Or.inl e))
  clear f1
  obtain ⟨k0, k1, k2, k3, k4, k5, k6, k7, k8, k9⟩ := row10 r0
  go_wp2_with fail
  refine (rflush_any _ _ _ _ _ vm sp (-1) q1 h.good).mono ?_
  rw [flushG_asid v1 v2]
  rintro e w2 ⟨rfl, f2, t2⟩
  replace t1 := t1.keep f2 h.ne
  replace f0 := f0.trans (f2.mono (T := two bt br) (fun _ _ e => Or.inr e))
  clear f2 q1 r0 k0 k1 k2 k3 k4 k5 k6 k7 k8 k9
  go_wp2_with fail
  go_ret
  exact ⟨rfl, f0, h.new1, h.new2, h.ne, t1, t2, good_wipe h.good _, uniq_wipe h.uniq _, h.fo0, h.mi0⟩

set_option maxRecDepth 100000 in
set_option maxHeartbeats 2000000 in
theorem does_vmid (w : World) (B bt br : Nat) (T : Nat → Ln) (fo mi : Int) (h : Pair w B bt br T fo mi) (i : Int) (x : Ln) (vm sp pg : Int) (v1 : 0 ≤ vm) (v2 : 0 ≤ sp) (v3 : 0 ≤ pg) :
    Calls Try.prog 11 #[.pointer (some ⟨bt, 0, none⟩), .pointer (some ⟨br, 0, none⟩), .agg #[.int .i64 6, .int .i64 i, .int .i64 x.v, .int .i64 x.a, .int .i64 x.p, .int .i64 x.f, .int .i64 x.r, .int .i64 vm, .int .i64 sp, .int .i64 pg]] w (DoneT w B bt br (wipe (fun l => l.v == vm) T) fo mi) := by
  have h0 := h.keep0 ((Fr.refl none' w).alloc (.cells #[.int .i64 6, .int .i64 i, .int .i64 x.v, .int .i64 x.a, .int .i64 x.p, .int .i64 x.f, .int .i64 x.r, .int .i64 vm, .int .i64 sp, .int .i64 pg] 34))
  have f0 := (Fr.refl (two bt br) w).alloc (.cells #[.int .i64 6, .int .i64 i, .int .i64 x.v, .int .i64 x.a, .int .i64 x.p, .int .i64 x.f, .int .i64 x.r, .int .i64 vm, .int .i64 sp, .int .i64 pg] 34)
  have r0 := row_alloc w #[.int .i64 6, .int .i64 i, .int .i64 x.v, .int .i64 x.a, .int .i64 x.p, .int .i64 x.f, .int .i64 x.r, .int .i64 vm, .int .i64 sp, .int .i64 pg] 34
  have n1 : w.heap.size ≠ bt := Nat.ne_of_gt h.tlb.lt
  have n2 : w.heap.size ≠ br := Nat.ne_of_gt h.ref.lt
  have u1 : decide (vm < 0) = false := decide_eq_false (by omega)
  have u2 : decide (sp < 0) = false := decide_eq_false (by omega)
  have u3 : decide (pg < 0) = false := decide_eq_false (by omega)
  have e1 : (cnt (fun l => l.v == vm) T 8 == cnt (fun l => l.v == vm) T 8) = true := by simp
  go_enter Try.func11, Try.ntmps11
  go_wp2_with fail
  refine (flush_vmid _ _ _ _ _ vm h0.tlb).mono ?_
  rintro e w1 ⟨rfl, f1, t1⟩
  have q1 := h0.ref.keep f1 (fun e => h.ne e.symm)
  replace r0 := r0.keep f1 n1
  replace f0 := f0.trans (f1.mono (T := two bt br) (fun _ _ e => Or.inl e))
  clear f1
  obtain ⟨k0, k1, k2, k3, k4, k5, k6, k7, k8, k9⟩ := row10 r0
  go_wp2_with fail
  refine (rflush_any _ _ _ _ _ vm (-1) (-1) q1 h.good).mono ?_
  rw [flushG_vmid v1]
  rintro e w2 ⟨rfl, f2, t2⟩
  replace t1 := t1.keep f2 h.ne
  replace f0 := f0.trans (f2.mono (T := two bt br) (fun _ _ e => Or.inr e))
  clear f2 q1 r0 k0 k1 k2 k3 k4 k5 k6 k7 k8 k9
  go_wp2_with fail
  go_ret
  exact ⟨rfl, f0, h.new1, h.new2, h.ne, t1, t2, good_wipe h.good _, uniq_wipe h.uniq _, h.fo0, h.mi0⟩

set_option maxRecDepth 100000 in
set_option maxHeartbeats 2000000 in
theorem does_all (w : World) (B bt br : Nat) (T : Nat → Ln) (fo mi : Int) (h : Pair w B bt br T fo mi) (i : Int) (x : Ln) (vm sp pg : Int) (v1 : 0 ≤ vm) (v2 : 0 ≤ sp) (v3 : 0 ≤ pg) :
    Calls Try.prog 11 #[.pointer (some ⟨bt, 0, none⟩), .pointer (some ⟨br, 0, none⟩), .agg #[.int .i64 7, .int .i64 i, .int .i64 x.v, .int .i64 x.a, .int .i64 x.p, .int .i64 x.f, .int .i64 x.r, .int .i64 vm, .int .i64 sp, .int .i64 pg]] w (DoneT w B bt br (wipe (fun _ => true) T) fo mi) := by
  have h0 := h.keep0 ((Fr.refl none' w).alloc (.cells #[.int .i64 7, .int .i64 i, .int .i64 x.v, .int .i64 x.a, .int .i64 x.p, .int .i64 x.f, .int .i64 x.r, .int .i64 vm, .int .i64 sp, .int .i64 pg] 34))
  have f0 := (Fr.refl (two bt br) w).alloc (.cells #[.int .i64 7, .int .i64 i, .int .i64 x.v, .int .i64 x.a, .int .i64 x.p, .int .i64 x.f, .int .i64 x.r, .int .i64 vm, .int .i64 sp, .int .i64 pg] 34)
  have r0 := row_alloc w #[.int .i64 7, .int .i64 i, .int .i64 x.v, .int .i64 x.a, .int .i64 x.p, .int .i64 x.f, .int .i64 x.r, .int .i64 vm, .int .i64 sp, .int .i64 pg] 34
  have n1 : w.heap.size ≠ bt := Nat.ne_of_gt h.tlb.lt
  have n2 : w.heap.size ≠ br := Nat.ne_of_gt h.ref.lt
  have u1 : decide (vm < 0) = false := decide_eq_false (by omega)
  have u2 : decide (sp < 0) = false := decide_eq_false (by omega)
  have u3 : decide (pg < 0) = false := decide_eq_false (by omega)
  have e1 : (cnt (fun _ => true) T 8 == cnt (fun _ => true) T 8) = true := by simp
  go_enter Try.func11, Try.ntmps11
  go_wp2_with fail
  refine (flush_all _ _ _ _ _ h0.tlb).mono ?_
  rintro e w1 ⟨rfl, f1, t1⟩
  have q1 := h0.ref.keep f1 (fun e => h.ne e.symm)
  replace r0 := r0.keep f1 n1
  replace f0 := f0.trans (f1.mono (T := two bt br) (fun _ _ e => Or.inl e))
  clear f1
  obtain ⟨k0, k1, k2, k3, k4, k5, k6, k7, k8, k9⟩ := row10 r0
  go_wp2_with fail
  refine (rflush_any _ _ _ _ _ (-1) (-1) (-1) q1 h.good).mono ?_
  rw [flushG_all]
  rintro e w2 ⟨rfl, f2, t2⟩
  replace t1 := t1.keep f2 h.ne
  replace f0 := f0.trans (f2.mono (T := two bt br) (fun _ _ e => Or.inr e))
  clear f2 q1 r0 k0 k1 k2 k3 k4 k5 k6 k7 k8 k9
  go_wp2_with fail
  go_ret
  exact ⟨rfl, f0, h.new1, h.new2, h.ne, t1, t2, good_wipe h.good _, uniq_wipe h.uniq _, h.fo0, h.mi0⟩

set_option maxRecDepth 100000 in
set_option maxHeartbeats 2000000 in
theorem does_neg1 (w : World) (B bt br : Nat) (T : Nat → Ln) (fo mi : Int) (h : Pair w B bt br T fo mi) (d i : Int) (x : Ln) (vm sp pg : Int) (d1 : (d == 1) = false) (d2 : (d == 2) = false) (d3 : (d == 3) = false) (u1 : decide (vm < 0) = true) :
    Calls Try.prog 11 #[.pointer (some ⟨bt, 0, none⟩), .pointer (some ⟨br, 0, none⟩), .agg #[.int .i64 d, .int .i64 i, .int .i64 x.v, .int .i64 x.a, .int .i64 x.p, .int .i64 x.f, .int .i64 x.r, .int .i64 vm, .int .i64 sp, .int .i64 pg]] w (DoneT w B bt br T fo mi) := by
  have h0 := h.keep0 ((Fr.refl none' w).alloc (.cells #[.int .i64 d, .int .i64 i, .int .i64 x.v, .int .i64 x.a, .int .i64 x.p, .int .i64 x.f, .int .i64 x.r, .int .i64 vm, .int .i64 sp, .int .i64 pg] 34))
  have f0 := (Fr.refl (two bt br) w).alloc (.cells #[.int .i64 d, .int .i64 i, .int .i64 x.v, .int .i64 x.a, .int .i64 x.p, .int .i64 x.f, .int .i64 x.r, .int .i64 vm, .int .i64 sp, .int .i64 pg] 34)
  go_enter Try.func11, Try.ntmps11
  go_wp2_with fail
  go_ret
  exact ⟨rfl, f0, h0⟩

set_option maxRecDepth 100000 in
set_option maxHeartbeats 2000000 in
theorem does_neg2 (w : World) (B bt br : Nat) (T : Nat → Ln) (fo mi : Int) (h : Pair w B bt br T fo mi) (d i : Int) (x : Ln) (vm sp pg : Int) (d1 : (d == 1) = false) (d2 : (d == 2) = false) (d3 : (d == 3) = false) (u1 : decide (vm < 0) = false) (u2 : decide (sp < 0) = true) :
    Calls Try.prog 11 #[.pointer (some ⟨bt, 0, none⟩), .pointer (some ⟨br, 0, none⟩), .agg #[.int .i64 d, .int .i64 i, .int .i64 x.v, .int .i64 x.a, .int .i64 x.p, .int .i64 x.f, .int .i64 x.r, .int .i64 vm, .int .i64 sp, .int .i64 pg]] w (DoneT w B bt br T fo mi) := by
  have h0 := h.keep0 ((Fr.refl none' w).alloc (.cells #[.int .i64 d, .int .i64 i, .int .i64 x.v, .int .i64 x.a, .int .i64 x.p, .int .i64 x.f, .int .i64 x.r, .int .i64 vm, .int .i64 sp, .int .i64 pg] 34))
  have f0 := (Fr.refl (two bt br) w).alloc (.cells #[.int .i64 d, .int .i64 i, .int .i64 x.v, .int .i64 x.a, .int .i64 x.p, .int .i64 x.f, .int .i64 x.r, .int .i64 vm, .int .i64 sp, .int .i64 pg] 34)
  go_enter Try.func11, Try.ntmps11
  go_wp2_with fail
  go_ret
  exact ⟨rfl, f0, h0⟩

set_option maxRecDepth 100000 in
set_option maxHeartbeats 2000000 in
theorem does_neg3 (w : World) (B bt br : Nat) (T : Nat → Ln) (fo mi : Int) (h : Pair w B bt br T fo mi) (d i : Int) (x : Ln) (vm sp pg : Int) (d1 : (d == 1) = false) (d2 : (d == 2) = false) (d3 : (d == 3) = false) (u1 : decide (vm < 0) = false) (u2 : decide (sp < 0) = false) (u3 : decide (pg < 0) = true) :
    Calls Try.prog 11 #[.pointer (some ⟨bt, 0, none⟩), .pointer (some ⟨br, 0, none⟩), .agg #[.int .i64 d, .int .i64 i, .int .i64 x.v, .int .i64 x.a, .int .i64 x.p, .int .i64 x.f, .int .i64 x.r, .int .i64 vm, .int .i64 sp, .int .i64 pg]] w (DoneT w B bt br T fo mi) := by
  have h0 := h.keep0 ((Fr.refl none' w).alloc (.cells #[.int .i64 d, .int .i64 i, .int .i64 x.v, .int .i64 x.a, .int .i64 x.p, .int .i64 x.f, .int .i64 x.r, .int .i64 vm, .int .i64 sp, .int .i64 pg] 34))
  have f0 := (Fr.refl (two bt br) w).alloc (.cells #[.int .i64 d, .int .i64 i, .int .i64 x.v, .int .i64 x.a, .int .i64 x.p, .int .i64 x.f, .int .i64 x.r, .int .i64 vm, .int .i64 sp, .int .i64 pg] 34)
  go_enter Try.func11, Try.ntmps11
  go_wp2_with fail
  go_ret
  exact ⟨rfl, f0, h0⟩

set_option maxRecDepth 100000 in
set_option maxHeartbeats 2000000 in
theorem does_other (w : World) (B bt br : Nat) (T : Nat → Ln) (fo mi : Int) (h : Pair w B bt br T fo mi) (d i : Int) (x : Ln) (vm sp pg : Int) (d1 : (d == 1) = false) (d2 : (d == 2) = false) (d3 : (d == 3) = false) (u1 : decide (vm < 0) = false) (u2 : decide (sp < 0) = false) (u3 : decide (pg < 0) = false) (d4 : (d == 4) = false) (d5 : (d == 5) = false) (d6 : (d == 6) = false) (d7 : (d == 7) = false) :
    Calls Try.prog 11 #[.pointer (some ⟨bt, 0, none⟩), .pointer (some ⟨br, 0, none⟩), .agg #[.int .i64 d, .int .i64 i, .int .i64 x.v, .int .i64 x.a, .int .i64 x.p, .int .i64 x.f, .int .i64 x.r, .int .i64 vm, .int .i64 sp, .int .i64 pg]] w (DoneT w B bt br T fo mi) := by
  have h0 := h.keep0 ((Fr.refl none' w).alloc (.cells #[.int .i64 d, .int .i64 i, .int .i64 x.v, .int .i64 x.a, .int .i64 x.p, .int .i64 x.f, .int .i64 x.r, .int .i64 vm, .int .i64 sp, .int .i64 pg] 34))
  have f0 := (Fr.refl (two bt br) w).alloc (.cells #[.int .i64 d, .int .i64 i, .int .i64 x.v, .int .i64 x.a, .int .i64 x.p, .int .i64 x.f, .int .i64 x.r, .int .i64 vm, .int .i64 sp, .int .i64 pg] 34)
  go_enter Try.func11, Try.ntmps11
  go_wp2_with fail
  go_ret
  exact ⟨rfl, f0, h0⟩

/-- What an act leaves in the entries. -/
def stepT (d i : Int) (x : Ln) (vm sp pg : Int) (T : Nat → Ln) : Nat → Ln :=
  if d = 1 then fillT T i x else if d = 2 then T else if d = 3 then evT T i else if vm < 0 ∨ sp < 0 ∨ pg < 0 then T
  else if d = 4 then wipe (fun l => l.v == vm && l.p == pg) T else if d = 5 then wipe (fun l => l.v == vm && l.a == sp) T
  else if d = 6 then wipe (fun l => l.v == vm) T else if d = 7 then wipe (fun _ => true) T else T

/-- How an act counts. -/
def stepF (d vm sp pg : Int) (T : Nat → Ln) : Int := if d = 2 then moreF (idx T vm sp pg 8) else 0
def stepM (d vm sp pg : Int) (T : Nat → Ln) : Int := if d = 2 then moreM (idx T vm sp pg 8) else 0

theorem step_bounds (d vm sp pg : Int) (T : Nat → Ln) : 0 ≤ stepF d vm sp pg T ∧ 0 ≤ stepM d vm sp pg T ∧ stepF d vm sp pg T + stepM d vm sp pg T ≤ 1 := by
  unfold stepF stepM
  by_cases h : d = 2
  · rw [if_pos h, if_pos h]; have := more_bounds (idx T vm sp pg 8); omega
  · rw [if_neg h, if_neg h]; omega

theorem does_any (w : World) (B bt br : Nat) (T : Nat → Ln) (fo mi : Int) (h : Pair w B bt br T fo mi) (hb : fo + mi < 1000000) (d i : Int) (x : Ln) (vm sp pg : Int) :
    Calls Try.prog 11 #[.pointer (some ⟨bt, 0, none⟩), .pointer (some ⟨br, 0, none⟩), .agg #[.int .i64 d, .int .i64 i, .int .i64 x.v, .int .i64 x.a, .int .i64 x.p, .int .i64 x.f, .int .i64 x.r, .int .i64 vm, .int .i64 sp, .int .i64 pg]] w (DoneT w B bt br (stepT d i x vm sp pg T) (fo + stepF d vm sp pg T) (mi + stepM d vm sp pg T)) := by
  by_cases h1 : d = 1
  · subst h1; simpa [stepT, stepF, stepM] using does_fill w B bt br T fo mi h i x vm sp pg
  by_cases h2 : d = 2
  · subst h2; simpa [stepT, stepF, stepM] using does_find w B bt br T fo mi h i x vm sp pg hb
  by_cases h3 : d = 3
  · subst h3; simpa [stepT, stepF, stepM] using does_evict w B bt br T fo mi h i x vm sp pg
  have b1 : (d == 1) = false := beq_eq_false_iff_ne.mpr h1
  have b2 : (d == 2) = false := beq_eq_false_iff_ne.mpr h2
  have b3 : (d == 3) = false := beq_eq_false_iff_ne.mpr h3
  have eF : stepF d vm sp pg T = 0 := by simp [stepF, h2]
  have eM : stepM d vm sp pg T = 0 := by simp [stepM, h2]
  rw [eF, eM, Int.add_zero, Int.add_zero]
  by_cases v1 : vm < 0
  · rw [show stepT d i x vm sp pg T = T by simp [stepT, h1, h2, h3, v1]]
    exact does_neg1 w B bt br T fo mi h d i x vm sp pg b1 b2 b3 (by simpa using v1)
  by_cases v2 : sp < 0
  · rw [show stepT d i x vm sp pg T = T by simp [stepT, h1, h2, h3, v2]]
    exact does_neg2 w B bt br T fo mi h d i x vm sp pg b1 b2 b3 (by simpa using v1) (by simpa using v2)
  by_cases v3 : pg < 0
  · rw [show stepT d i x vm sp pg T = T by simp [stepT, h1, h2, h3, v3]]
    exact does_neg3 w B bt br T fo mi h d i x vm sp pg b1 b2 b3 (by simpa using v1) (by simpa using v2) (by simpa using v3)
  by_cases h4 : d = 4
  · subst h4; simpa [stepT, v1, v2, v3] using does_page w B bt br T fo mi h i x vm sp pg (by omega) (by omega) (by omega)
  by_cases h5 : d = 5
  · subst h5; simpa [stepT, v1, v2, v3] using does_asid w B bt br T fo mi h i x vm sp pg (by omega) (by omega) (by omega)
  by_cases h6 : d = 6
  · subst h6; simpa [stepT, v1, v2, v3] using does_vmid w B bt br T fo mi h i x vm sp pg (by omega) (by omega) (by omega)
  by_cases h7 : d = 7
  · subst h7; simpa [stepT, v1, v2, v3] using does_all w B bt br T fo mi h i x vm sp pg (by omega) (by omega) (by omega)
  rw [show stepT d i x vm sp pg T = T by simp [stepT, h1, h2, h3, v1, v2, v3, h4, h5, h6, h7]]
  exact does_other w B bt br T fo mi h d i x vm sp pg b1 b2 b3 (by simpa using v1) (by simpa using v2) (by simpa using v3) (beq_eq_false_iff_ne.mpr h4) (beq_eq_false_iff_ne.mpr h5) (beq_eq_false_iff_ne.mpr h6) (beq_eq_false_iff_ne.mpr h7)

end Go.Proofs.Ytkmpmjjjklfalaa
