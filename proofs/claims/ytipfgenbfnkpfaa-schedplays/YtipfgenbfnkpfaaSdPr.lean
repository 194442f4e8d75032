/-
  A scheduler that a law made, beside blocks of others: package sched's calls by what they say. No statement is proved here.
-/
import Derived.Test.YtipfgenbfnkpfaaSdNewA
namespace Go.Proofs.Ytipfgenbfnkpfaa
open Go.RowKit Go.Maps Go.WideMaps

/-- b is a scheduler newer than w0, of whose blocks none is O's; O's are there. -/
def Sx (w0 w : World) (b : Nat) (S : Sd) (O : Nat → Prop) : Prop := ∃ p : Pb, p.b = b ∧ IsS w p S ∧ (∀ k, p.s S k → w0.heap.size ≤ k ∧ ¬ O k) ∧ (∀ k, O k → k < w.heap.size) ∧ Fr none' w0 w ∧ Ok S
/-- Nothing old has turned, and nothing of O's. -/
def FrO (w0 : World) (O : Nat → Prop) (w w' : World) : Prop := Fr (fun k => w0.heap.size ≤ k ∧ ¬ O k) w w'

section
variable {w0 w w' : World} {b : Nat} {S S' : Sd} {O : Nat → Prop}
theorem Sx.ok (h : Sx w0 w b S O) : Ok S := by obtain ⟨p, _, _, _, _, _, h⟩ := h; exact h
theorem Sx.old (h : Sx w0 w b S O) : Fr none' w0 w := by obtain ⟨p, _, _, _, _, f, _⟩ := h; exact f
theorem fr_new {T : Nat → Prop} (h : Fr none' w0 w) (f : Fr T w w') (hs : ∀ k, T k → w0.heap.size ≤ k) : Fr none' w0 w' :=
  ⟨f.os.trans h.os, f.tape.trans h.tape, f.output.trans h.output, Nat.le_trans h.size f.size, fun i hi hn => (f.block i (Nat.lt_of_lt_of_le hi h.size) (fun e => by have := hs i e; omega)).trans (h.block i hi hn)⟩
theorem sx_chg {p p' : Pb} (hs : ∀ k, p.s S k → w0.heap.size ≤ k ∧ ¬ O k) (hO : ∀ k, O k → k < w.heap.size) (hf : Fr none' w0 w) (e : p'.b = p.b) (c : Chg w p S w' p' S') (ok : Ok S') : Sx w0 w' p.b S' O ∧ FrO w0 O w w' := by
  refine ⟨⟨p', e, c.is, fun k hk => ?_, fun k hk => Nat.lt_of_lt_of_le (hO k hk) c.fr.size, fr_new hf c.fr (fun k hk => (hs k hk).1), ok⟩, c.fr.mono (fun k _ hk => hs k hk)⟩
  rcases c.new k hk with h | h
  · exact hs k h
  · have := hf.size
    exact ⟨by omega, fun ho => by have := hO k ho; omega⟩
theorem Sx.keep {T : Nat → Prop} (h : Sx w0 w b S O) (f : Fr T w w') (hs : ∀ k, T k → w0.heap.size ≤ k ∧ O k) : Sx w0 w' b S O := by
  obtain ⟨p, e, q1, q2, q3, q4, q5⟩ := h
  exact ⟨p, e, q1.keep f (fun k hk hS => (q2 k hk).2 (hs k hS).2), q2, fun k hk => Nat.lt_of_lt_of_le (q3 k hk) f.size, fr_new q4 f (fun k hk => (hs k hk).1), q5⟩
theorem Sx.keep0 (h : Sx w0 w b S O) (f : Fr none' w w') : Sx w0 w' b S O := h.keep f (fun _ h => h.elim)
theorem Sx.more {O' : Nat → Prop} (h : Sx w0 w b S O) (f : Fr none' w w') (ho : ∀ k, O' k → (O k ∨ w.heap.size ≤ k) ∧ k < w'.heap.size) : Sx w0 w' b S O' := by
  obtain ⟨p, e, q1, q2, q3, q4, q5⟩ := h
  refine ⟨p, e, q1.keep0 f, fun k hk => ⟨(q2 k hk).1, fun h' => ?_⟩, fun k hk => (ho k hk).2, q4.trans f, q5⟩
  rcases (ho k h').1 with h1 | h1
  · exact (q2 k hk).2 h1
  · have := q1.lt k hk; omega

theorem xadd (h : Sx w0 w b S O) (i q d : Int) (hi : I64 i) : Calls Try.prog 19 #[.pointer (some ⟨b, 0, none⟩), .int .i64 i, .int .i64 q, .int .i64 d] w fun e w' => e = .returned (.int .i64 (addE S i q d)) ∧ Sx w0 w' b (addS S i q d) O ∧ FrO w0 O w w' := by
  obtain ⟨p, rfl, q1, q2, q3, q4, q5⟩ := h
  exact (add_any w p S q1 q5.q.cur i q d hi).mono fun _ _ ⟨h1, p', h2, h3⟩ => ⟨h1, sx_chg q2 q3 q4 h2 h3 (ok_add q5 i q d)⟩
theorem xdrop (h : Sx w0 w b S O) (i : Int) (hi : I64 i) : Calls Try.prog 27 #[.pointer (some ⟨b, 0, none⟩), .int .i64 i] w fun e w' => e = .returned (.int .i64 (thrE S i)) ∧ Sx w0 w' b (droS S i) O ∧ FrO w0 O w w' := by
  obtain ⟨p, rfl, q1, q2, q3, q4, q5⟩ := h
  exact (drop_any w p S q1 q5.q.cur i hi q5.q.sh).mono fun _ _ ⟨h1, p', h2, h3⟩ => ⟨h1, sx_chg q2 q3 q4 h2 h3 (ok_drop q5 i)⟩
theorem xwake (h : Sx w0 w b S O) (i : Int) (hi : I64 i) : Calls Try.prog 20 #[.pointer (some ⟨b, 0, none⟩), .int .i64 i] w fun e w' => e = .returned (.int .i64 (thrE S i)) ∧ Sx w0 w' b (wakS S i) O ∧ FrO w0 O w w' := by
  obtain ⟨p, rfl, q1, q2, q3, q4, q5⟩ := h
  exact (wake_any w p S q1 i hi q5.q.sh).mono fun _ _ ⟨h1, p', h2, h3⟩ => ⟨h1, sx_chg q2 q3 q4 h2 h3 (ok_wake q5 i)⟩
theorem xstop (h : Sx w0 w b S O) (i : Int) (hi : I64 i) : Calls Try.prog 22 #[.pointer (some ⟨b, 0, none⟩), .int .i64 i] w fun e w' => e = .returned (.int .i64 (thrE S i)) ∧ Sx w0 w' b (stoS S i) O ∧ FrO w0 O w w' := by
  obtain ⟨p, rfl, q1, q2, q3, q4, q5⟩ := h
  exact (stop_any w p S q1 q5.q.cur i hi q5.q.sh).mono fun _ _ ⟨h1, p', h2, h3, _⟩ => ⟨h1, sx_chg q2 q3 q4 h2 h3 (ok_stop q5 i)⟩
theorem xpri (h : Sx w0 w b S O) (i q : Int) (hi : I64 i) : Calls Try.prog 31 #[.pointer (some ⟨b, 0, none⟩), .int .i64 i, .int .i64 q] w fun e w' => e = .returned (.int .i64 (priE S i q)) ∧ Sx w0 w' b (priS S i q) O ∧ FrO w0 O w w' := by
  obtain ⟨p, rfl, q1, q2, q3, q4, q5⟩ := h
  exact (setpri_any w p S q1 q5.q.cur i q hi q5.q.sh).mono fun _ _ ⟨h1, p', h2, h3⟩ => ⟨h1, sx_chg q2 q3 q4 h2 h3 (ok_pri q5 i q)⟩
theorem xdom (h : Sx w0 w b S O) (i d : Int) (hi : I64 i) : Calls Try.prog 33 #[.pointer (some ⟨b, 0, none⟩), .int .i64 i, .int .i64 d] w fun e w' => e = .returned (.int .i64 (domE S i d)) ∧ Sx w0 w' b (domS S i d) O ∧ FrO w0 O w w' := by
  obtain ⟨p, rfl, q1, q2, q3, q4, q5⟩ := h
  exact (setdom_any w p S q1 q5.q.cur i d hi q5.q.sh).mono fun _ _ ⟨h1, p', h2, h3⟩ => ⟨h1, sx_chg q2 q3 q4 h2 h3 (ok_dom q5 i d)⟩
theorem xyield (h : Sx w0 w b S O) : Calls Try.prog 23 #[.pointer (some ⟨b, 0, none⟩)] w fun e w' => e = .returned (.int .i64 (yieE S)) ∧ Sx w0 w' b (yieS S) O ∧ FrO w0 O w w' := by
  obtain ⟨p, rfl, q1, q2, q3, q4, q5⟩ := h
  exact (yield_any w p S q1 q5.q.cur q5.q.sh).mono fun _ _ ⟨h1, p', h2, h3⟩ => ⟨h1, sx_chg q2 q3 q4 h2 h3 (ok_yield q5)⟩
theorem xtick (h : Sx w0 w b S O) : Calls Try.prog 21 #[.pointer (some ⟨b, 0, none⟩)] w fun e w' => ∃ v, e = .returned v ∧ Sx w0 w' b (ticS S) O ∧ FrO w0 O w w' := by
  obtain ⟨p, rfl, q1, q2, q3, q4, q5⟩ := h
  exact (tick_any w p S q1 q5).mono fun _ _ ⟨v, h1, p', h2, h3⟩ => ⟨v, h1, sx_chg q2 q3 q4 h2 h3 (ok_tick q5)⟩
theorem xsettle (h : Sx w0 w b S O) : Calls Try.prog 14 #[.pointer (some ⟨b, 0, none⟩)] w fun e w' => ∃ v, e = .returned v ∧ Sx w0 w' b (setS S) O ∧ FrO w0 O w w' := by
  obtain ⟨p, rfl, q1, q2, q3, q4, q5⟩ := h
  exact (settle_any w p S q1 q5).mono fun _ _ ⟨v, h1, p', h2, h3⟩ => ⟨v, h1, sx_chg q2 q3 q4 h2 h3 (ok_settle q5)⟩
theorem xcur (h : Sx w0 w b S O) : Calls Try.prog 16 #[.pointer (some ⟨b, 0, none⟩)] w fun e w' => e = .returned (.int .i64 S.c) ∧ w' = w := by
  obtain ⟨p, rfl, q1, q2, q3, q4, q5⟩ := h
  exact current_any w p S q1 q5.q.cur
theorem xpe (h : Sx w0 w b S O) : Calls Try.prog 15 #[.pointer (some ⟨b, 0, none⟩)] w fun e w' => e = .returned (.int .i64 (pe S)) ∧ ∃ n, w' = w.drewN n := by
  obtain ⟨p, rfl, q1, q2, q3, q4, q5⟩ := h
  exact domain_any w p S q1 q5.t
theorem xthr (h : Sx w0 w b S O) (k : Int) (hk : I64 k) : Calls Try.prog 17 #[.pointer (some ⟨b, 0, none⟩), .int .i64 k] w fun e w' => e = .returned (.tuple #[tkV (thrC S k), .int .i64 (thrE S k)]) ∧ Fr none' w w' := by
  obtain ⟨p, rfl, q1, q2, q3, q4, q5⟩ := h
  exact thread_any w p S q1 k hk
/-- A list of numbers, as a slice that is newer than w0. -/
def NmS (w0 w : World) (v : Value) (l : List Int) : Prop := ∃ (a : Option Addr) (cap : Nat), v = .slice a l.length cap ∧ ∀ (j : Nat) (x : Int), l[j]? = some x → ∃ g, a = some ⟨g, 0, none⟩ ∧ w0.heap.size ≤ g ∧ w.cell? ⟨g, j, none⟩ = some (.int .i64 x)
theorem nms_own {v : Value} {l : List Int} (h : w.ownsRow 0 3 1 v l.length (vI l)) (hn : ∀ k, some k = v.ownBlock → w0.heap.size ≤ k) : NmS w0 w v l := by
  rcases own_form h with ⟨rfl, rfl⟩ | ⟨g, cap, rfl⟩
  · exact ⟨none, 0, rfl, fun j x hj => by simp at hj⟩
  · obtain ⟨_, hlc, hcm, cur, hr, hs, hx⟩ := own_cells h
    exact ⟨_, cap, rfl, fun j x hj => ⟨g, rfl, hn g rfl, by rw [hr.cell]; exact hx j x hj⟩⟩
theorem NmS.keep {v : Value} {l : List Int} (h : NmS w0 w v l) (f : Fr none' w w') : NmS w0 w' v l := by
  obtain ⟨a, cap, e, hx⟩ := h
  refine ⟨a, cap, e, fun j x hj => ?_⟩
  obtain ⟨g, e, hg, c⟩ := hx j x hj
  exact ⟨g, e, hg, cell_keep f c (fun h => h)⟩
theorem xrea (h : Sx w0 w b S O) (d q : Int) : Calls Try.prog 18 #[.pointer (some ⟨b, 0, none⟩), .int .i64 d, .int .i64 q] w fun e w' => ∃ v', e = .returned v' ∧ Fr none' w w' ∧ NmS w w' v' (reaL S d q) := by
  obtain ⟨p, rfl, q1, q2, q3, q4, q5⟩ := h
  exact (rea_any w p S q1 d q q5.q.sh).mono fun _ _ ⟨v, h1, h2, h3, h4⟩ => ⟨v, h1, h2, nms_own h3 h4⟩
theorem reaL_len (h : Ok S) (d q : Int) : (reaL S d q).length ≤ 1024 := by
  unfold reaL
  split
  · exact h.q.len _
  · simp
theorem xnew (w : World) (v : Value) (L : List Tn) (hv : TnI w v L) (hb : newB L = true) : Calls Try.prog 10 #[v] w fun e w' => ∃ b, e = .returned (.tuple #[.pointer (some ⟨b, 0, none⟩), .int .i64 0]) ∧ Sx w w' b (newSd L) (fun _ => False) := by
  refine (new_any w v L hv).mono ?_
  rintro e w' (⟨h, _⟩ | ⟨_, p, rfl, h1, h2, h3⟩)
  · rw [h] at hb; cases hb
  · exact ⟨p.b, rfl, p, rfl, h1, fun k hk => ⟨h3 k hk, fun h => h⟩, fun _ h => h.elim, h2, ok_new hb⟩
theorem xnew_no (w : World) (v : Value) (L : List Tn) (hv : TnI w v L) (hb : newB L = false) : Calls Try.prog 10 #[v] w fun e w' => e = .returned (.tuple #[.pointer none, .int .i64 1]) ∧ Fr none' w w' := by
  refine (new_any w v L hv).mono ?_
  rintro e w' (⟨_, rfl, f⟩ | ⟨h, _⟩)
  · exact ⟨rfl, f⟩
  · rw [h] at hb; cases hb
end
theorem i64_of {x : Int} (h0 : -1000000 ≤ x) (h1 : x ≤ 1000000) : I64 x := by unfold I64; omega

end Go.Proofs.Ytipfgenbfnkpfaa
