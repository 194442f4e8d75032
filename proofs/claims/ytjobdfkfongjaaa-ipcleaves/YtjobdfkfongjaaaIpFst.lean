/-
  Who came first in a queue; a thread's place; the thread of a number; over the translation. No statement is proved here.
-/
import Derived.Test.YtjobdfkfongjaaaIpEnt
namespace Go.Proofs.Ytjobdfkfongjaaa
open Go.RowKit Go.Shelf Go.Maps Go.WideMaps

attribute [local go_sem] Oper.semAt_some

/-- Whom the pointer means. -/
def ptO (p : Pb) : Option Int → Value
  | none => .pointer none
  | some x => pv (p.B x)

theorem IsI.ql {w : World} {p : Pb} {S : Ip} (h : IsI w p S) (ok : Ok S) (s o : Int) : QL (p.V s o) (S.q s o) := by
  have := h.qu s o
  unfold QR at this
  unfold QL
  cases e : p.V s o with
  | none => rw [e] at this; exact this
  | some z =>
    rw [e] at this
    exact ⟨this.2.1, ok.len s o⟩
theorem IsI.qcell {w : World} {p : Pb} {S : Ip} (h : IsI w p S) {s o : Int} {z : Qs} (e : p.V s o = some z) {k : Nat} {x : Int} (hx : (S.q s o)[k]? = some x) : w.cell? ⟨z.g, k, none⟩ = some (pv (p.B x)) := by
  have := h.qu s o
  rw [e] at this
  obtain ⟨_, _, _, _, cs, r, _, hc⟩ := this
  rw [r.cell]
  exact hc k x hx
/-- Where an Ipc and the iterator's boxes lie, it has what it needs. -/
theorem need_of {W : World} {p : Pb} {S : Ip} (h : IsI W p S) {s o : Int} {xb ab : Nat} (h1 : Row W xb #[pv p.b] 24) (h2 : Row W ab #[.int .i64 s, .int .i64 o] 82) (k : Nat) : Nq xb ab p.b p.q s o (p.V s o) (S.q s o) p.B k W :=
  ⟨fun _ => ⟨h1.cell 0, h.c1, h2.cell 0, h2.cell 1, p.V, h.mq, rfl⟩, fun _ _ e hx => h.qcell e hx⟩

/-- Behind k rounds of 'first': nothing has turned. -/
structure Fi (w : World) (b : Nat) (s o : Int) (k : Nat) (W : World) : Prop where
  z : k = 0
  fr : Fr none' w W
  rr : Row W (w.heap.size + 1) #[.pointer none] 79
  xb : Row W (w.heap.size + 1 + 1) #[pv b] 24
  ab : Row W (w.heap.size + 1 + 1 + 1) #[.int .i64 s, .int .i64 o] 82
structure Fx (w : World) (y : Value) (k : Nat) (W : World) : Prop where
  z : 0 < k
  fr : Fr none' w W
  rr : Row W (w.heap.size + 1) #[y] 79
theorem fi_own {w : World} {b : Nat} {s o : Int} {B : Nat} (hB : w.heap.size ≤ B) : OwnFrom B (Fi w b s o) := by
  intro k W W' row h hg hr
  have hr' : ∀ r, row = some r → ∃ o : Obj, W.heap[r]? = some o ∧ o.isCells = false := fun r e => (hr r e).2
  exact ⟨h.z, fr_grown h.fr hg hB (fun r e => (hr r e).1), row_grown h.rr hg hr', row_grown h.xb hg hr', row_grown h.ab hg hr'⟩
theorem fx_own {w : World} {y : Value} {B : Nat} (hB : w.heap.size ≤ B) : OwnFrom B (Fx w y) := by
  intro k W W' row h hg hr
  have hr' : ∀ r, row = some r → ∃ o : Obj, W.heap[r]? = some o ∧ o.isCells = false := fun r e => (hr r e).2
  exact ⟨h.z, fr_grown h.fr hg hB (fun r e => (hr r e).1), row_grown h.rr hg hr'⟩

set_option maxRecDepth 100000 in
set_option maxHeartbeats 2000000 in
theorem first_any (w : World) (p : Pb) (S : Ip) (h : IsI w p S) (ok : Ok S) (s o : Int) (hs : I64 s) (ho : I64 o) :
    Calls Try.prog 58 #[pv p.b, plV s o] w fun e w' => e = .returned (ptO p (firO S s o)) ∧ Fr none' w w' := by
  refine (callsIn_wide (n := 5)).1 ?_
  refine callsIn_of_wp_marks Try.func58 rfl trivial ?_ rfl
  simp only [Try.ntmps58, List.size_toArray, List.length_cons, List.length_nil, Nat.reduceAdd, Nat.reduceSub, Array.replicate_succ, Array.replicate_zero, List.push_toArray, List.append_toArray, List.nil_append, List.cons_append]
  gi_wp2_with fail
  refine ⟨trivial, (callsIn_wide.2 (queue_any p.b s o _)).mono ?_⟩
  rintro e w1 ⟨rfl, rfl⟩
  simp only [World.size_alloc]
  have i0 : Fi w p.b s o 0 ((((w.alloc (.cells #[.int .i64 s, .int .i64 o] 82)).alloc (.cells #[.pointer none] 79)).alloc (.cells #[pv p.b] 24)).alloc (.cells #[.int .i64 s, .int .i64 o] 82)) := by
    have r1 := row_alloc1 w (.cells #[.int .i64 s, .int .i64 o] 82) #[.pointer none] 79
    have r2 := row_alloc1 (w.alloc (.cells #[.int .i64 s, .int .i64 o] 82)) (.cells #[.pointer none] 79) #[pv p.b] 24
    have r3 := row_alloc1 ((w.alloc (.cells #[.int .i64 s, .int .i64 o] 82)).alloc (.cells #[.pointer none] 79)) (.cells #[pv p.b] 24) #[.int .i64 s, .int .i64 o] 82
    simp only [World.size_alloc] at r2 r3
    exact ⟨rfl, ((((Fr.refl none' w).alloc _).alloc _).alloc _).alloc _, (r1.alloc _).alloc _, r2.alloc _, r3⟩
  gi_wp2_with fail
  refine range13 (m := (S.q s o).length) (xs := fun k => #[pv (p.B ((S.q s o).getD k 0))]) (by omega) rfl enters_q1 (queue1_seq _ _ _ p.b p.q s o hs ho (p.V s o) (S.q s o) p.B (h.ql ok s o)) (fun _ => rfl) (Fi w p.b s o) (Fx w (ptO p (firO S s o))) (fi_own (by have := i0.fr.size; exact this)) (fx_own (by have := i0.fr.size; exact this))
    (fun k V hk => need_of (h.keep0 hk.fr) hk.xb hk.ab k) i0
    (fun k => { tmps := #[pv p.b, plV s o, undef, .pointer (some ⟨w.heap.size, 0, none⟩), .pointer (some ⟨w.heap.size + 1, 0, none⟩), pv (p.B ((S.q s o).getD k 0)), pv p.b, plV s o, .func (.func 85) #[] #[pv (w.heap.size + 1 + 1), pv (w.heap.size + 1 + 1 + 1)], pv (p.B ((S.q s o).getD k 0)), undef], defers := [] }) ?assign ?body ?done ?stop
  case assign =>
    intro l k W K hK
    gi_wp2
    exact hK
  case body =>
    intro l k W hI hk
    have hz := hI.z
    subst hz
    have hF : ptO p (firO S s o) = pv (p.B ((S.q s o).getD 0 0)) := by
      unfold firO
      cases hq : S.q s o with
      | nil => rw [hq] at hk; simp at hk
      | cons a r => rfl
    rw [hF]
    generalize p.B ((S.q s o).getD 0 0) = gy at *
    have r0 := hI.rr.cell 0
    have z0 := hI.rr.frozen 0
    have HL : Hid (KeepsFrom ((((w.alloc (.cells #[.int .i64 s, .int .i64 o] 82)).alloc (.cells #[.pointer none] 79)).alloc (.cells #[pv p.b] 24)).alloc (.cells #[.int .i64 s, .int .i64 o] 82)).heap.size W (W.setCell ⟨w.heap.size + 1, 0, none⟩ (pv gy)) ∧ Fx w (pv gy) (0 + 1) (W.setCell ⟨w.heap.size + 1, 0, none⟩ (pv gy))) :=
      ⟨(KeepsOthers.setCell _ _ _).from _, by omega, hI.fr.setCell (p := ⟨w.heap.size + 1, 0, none⟩) (Or.inl (Nat.le_succ _)) _, hI.rr.setCell 0 (pv gy)⟩
    clear hI hk hF h ok
    gi_wp2
    exact HL.out
  case done =>
    intro D W hD hI hK
    have hF : firO S s o = none := by
      have hn : S.q s o = [] := List.eq_nil_of_length_eq_zero hI.z
      unfold firO
      rw [hn]
      rfl
    have r0 := hI.rr.cell 0
    have z0 := hI.rr.frozen 0
    have hK' := (KeepsOthers.setCell W ⟨w.heap.size + 1, 0, none⟩ (.pointer none)).same D _ hK rfl
    have fW := hI.fr.setCell (p := ⟨w.heap.size + 1, 0, none⟩) (Or.inl (Nat.le_succ _)) (.pointer none)
    have g1 := hI.rr.setCell 0 (.pointer none)
    gi_wp2
    refine ⟨by simp, .inl ⟨_, _, rfl, run_takeDeferred hK', ?_⟩⟩
    have hr' : ∀ r, some D = some r → ∃ o : Obj, (W.setCell ⟨w.heap.size + 1, 0, none⟩ (.pointer none)).heap[r]? = some o ∧ o.isCells = false := fun r e => by cases e; exact ⟨_, hK', rfl⟩
    have hc0 : _ = some (Value.pointer none) := (row_grown g1 (grownBy_putObj' _ D (.deferred none)) hr').cell 0
    refine ⟨.pointer none, ?_, by rw [hF]; rfl, fr_grown fW (grownBy_putObj' _ D (.deferred none)) (Nat.le_refl _) (fun r e => by cases e; exact Nat.le_trans i0.fr.size hD)⟩
    simp [results, Try.f58, go_sem, hc0]
  case stop =>
    intro D k W hD hkm hI hK
    gi_wp2
    refine ⟨by simp, .inl ⟨_, _, rfl, run_takeDeferred hK, ?_⟩⟩
    have hr' : ∀ r, some D = some r → ∃ o : Obj, W.heap[r]? = some o ∧ o.isCells = false := fun r e => by cases e; exact ⟨_, hK, rfl⟩
    have hc0 : _ = some (ptO p (firO S s o)) := (row_grown hI.rr (grownBy_putObj' _ D (.deferred none)) hr').cell 0
    refine ⟨ptO p (firO S s o), ?_, rfl, fr_grown hI.fr (grownBy_putObj' _ D (.deferred none)) (Nat.le_refl _) (fun r e => by cases e; exact Nat.le_trans i0.fr.size hD)⟩
    simp [results, Try.f58, go_sem, hc0]

end Go.Proofs.Ytjobdfkfongjaaa
