/-
  A chain of package ipc's inner calls: where it stands ('In'), which block is whose ('Tg'), and each call as a step of it. No statement is proved here.
-/
import Derived.Test.YtjobdfkfongjaaaIpLea
namespace Go.Proofs.Ytjobdfkfongjaaa
open Go.RowKit Go.Maps Go.WideMaps

/-- From (w0, p0, S0) to (w, p, S), at the struct in block b. -/
structure In (w0 : World) (p0 : Pb) (S0 : Ip) (b : Nat) (w : World) (p : Pb) (S : Ip) : Prop where
  chg : Chg w0 p0 S0 w p S
  ok : Ok S
  eb : p.b = b
/-- Thread t lies in block g. -/
structure Tg (p : Pb) (S : Ip) (t : Int) (g : Nat) : Prop where
  is : (fnd S.L t).isSome = true
  eq : p.B t = g
/-- Whose block was whose still is. -/
def Kp (p : Pb) (S : Ip) (p' : Pb) (S' : Ip) : Prop := ∀ x g, Tg p S x g → Tg p' S' x g

section
variable {w0 w w' : World} {p0 p p' : Pb} {S0 S S' : Ip} {b g : Nat} {t : Int}
theorem In.start (h : IsI w p S) (ok : Ok S) : In w p S p.b w p S := ⟨Chg.same h (Fr.refl _ _), ok, rfl⟩
theorem In.keep0 (h : In w0 p0 S0 b w p S) (f : Fr none' w w') : In w0 p0 S0 b w' p S := ⟨h.chg.after f, h.ok, h.eb⟩
theorem In.go (h : In w0 p0 S0 b w p S) (c : Chg w p S w' p' S') (ok : Ok S') : In w0 p0 S0 b w' p' S' := ⟨h.chg.trans c, ok, c.eb.trans h.eb⟩
theorem kp_chg (c : Chg w p S w' p' S') : Kp p S p' S' := fun x _ k => ⟨c.kp x k.is, (c.eB x k.is).trans k.eq⟩
theorem Tg.get (k : Tg p S t g) : ∃ u, fnd S.L t = some u := Option.isSome_iff_exists.1 k.is
theorem tg_of {u : Th} (h : fnd S.L t = some u) : Tg p S t (p.B t) := ⟨by rw [h]; rfl, rfl⟩
theorem thrT_of {u : Th} (h : fnd S.L t = some u) : thrT S t = u := by unfold thrT; rw [h]; rfl
theorem Tg.thrT (k : Tg p S t g) : fnd S.L t = some (thrT S t) := by
  obtain ⟨u, h⟩ := k.get
  rw [thrT_of h]
  exact h
/-- A block that is none of an Ipc's stays. -/
theorem In.row (h : In w0 p0 S0 b w p S) {k : Nat} {cs : Array Value} {ty : TypeId} (r : Row w0 k cs ty) (hk : ¬ p0.s S0 k) : Row w k cs ty := r.keep h.chg.fr hk

theorem In.leave (h : In w0 p0 S0 b w p S) (k : Tg p S t g) (hst : (thrT S t).st ≠ 0) : Calls Try.prog 55 #[pv b, pv g] w fun e w' => ∃ v p', e = .returned v ∧ In w0 p0 S0 b w' p' (leaS S t) ∧ Kp p S p' (leaS S t) := by
  have := leave_any w p S h.chg.is h.ok t k.thrT hst
  rw [h.eb, k.eq] at this
  refine this.mono ?_
  rintro e w' ⟨v, p', rfl, c⟩
  exact ⟨v, p', rfl, h.go c (ok_lea h.ok k.thrT), kp_chg c⟩
theorem In.enter (h : In w0 p0 S0 b w p S) (k : Tg p S t g) {s o : Int} (h0 : (thrT S t).st = 0) (hP : okP s o) (hs : s ≠ 0) : Calls Try.prog 62 #[pv b, pv g, plV s o] w fun e w' => ∃ v p', e = .returned v ∧ In w0 p0 S0 b w' p' (entS S t s o) ∧ Kp p S p' (entS S t s o) := by
  have := enter_any w p S h.chg.is h.ok t s o k.thrT hP hs
  rw [h.eb, k.eq] at this
  refine this.mono ?_
  rintro e w' ⟨v, p', rfl, c⟩
  exact ⟨v, p', rfl, h.go c (ok_ent h.ok k.thrT h0 hP hs), kp_chg c⟩
theorem In.deliver (h : In w0 p0 S0 b w p S) (k : Tg p S t g) {m : Ms} (hm : mayM m = true) : Calls Try.prog 61 #[pv g, msV m] w fun e w' => ∃ v, e = .returned v ∧ In w0 p0 S0 b w' p (delS S t m) ∧ Kp p S p (delS S t m) := by
  have r := h.chg.is.look k.thrT
  have eq := k.eq
  rw [eq] at r
  refine (deliver_any r m).mono ?_
  rintro e w' ⟨⟨v, rfl⟩, f, r'⟩
  have c : Chg w p S w' p (delS S t m) := h.chg.is.setTk k.thrT (f := setI m true) (fun _ => rfl) (by rw [eq]; exact f) (by rw [eq]; exact r')
  exact ⟨v, rfl, h.go c (ok_del h.ok t hm), kp_chg c⟩
theorem In.thread (h : In w0 p0 S0 b w p S) (ht : numB t = true) : Calls Try.prog 60 #[pv b, .int .i64 t] w fun e w' => ∃ g p', e = .returned (pv g) ∧ In w0 p0 S0 b w' p' (thrS S t) ∧ Tg p' (thrS S t) t g ∧ Kp p S p' (thrS S t) := by
  have := thread_any w p S h.chg.is h.ok t ht
  rw [h.eb] at this
  refine this.mono ?_
  rintro e w' ⟨p', rfl, c⟩
  exact ⟨_, p', rfl, h.go c (ok_thr h.ok ht), ⟨by rw [thr_at]; rfl, rfl⟩, kp_chg c⟩
theorem In.waits (h : In w0 p0 S0 b w p S) (ht : I64 t) : Calls Try.prog 54 #[pv b, .int .i64 t] w fun e w' => e = .returned (.bool (waiB S t)) ∧ Fr none' w w' := by
  have := waits_any w p S h.chg.is t ht
  rw [h.eb] at this
  exact this
theorem In.place (h : In w0 p0 S0 b w p S) (ht : I64 t) : Calls Try.prog 50 #[pv b, .int .i64 t] w fun e w' => e = .returned (plV (plcS S t) (plcO S t)) ∧ Fr none' w w' := by
  have := place_any w p S h.chg.is t ht
  rw [h.eb] at this
  exact this
theorem firO_tg {s o x : Int} (ok : Ok S) (e : firO S s o = some x) : ∃ g, Tg p S x g ∧ ptO p (some x) = pv g := by
  obtain ⟨u, hu, _⟩ := ok.first e
  exact ⟨p.B x, tg_of hu, rfl⟩
theorem In.first_none (h : In w0 p0 S0 b w p S) {s o : Int} (hs : I64 s) (ho : I64 o) (e : firO S s o = none) : Calls Try.prog 58 #[pv b, plV s o] w fun e w' => e = .returned (.pointer none) ∧ Fr none' w w' := by
  have := first_any w p S h.chg.is h.ok s o hs ho
  rw [h.eb, e] at this
  exact this
theorem In.first_some (h : In w0 p0 S0 b w p S) {s o x : Int} (hs : I64 s) (ho : I64 o) (e : firO S s o = some x) : Calls Try.prog 58 #[pv b, plV s o] w fun e w' => ∃ g, e = .returned (pv g) ∧ Fr none' w w' ∧ Tg p S x g := by
  have := first_any w p S h.chg.is h.ok s o hs ho
  rw [h.eb, e] at this
  obtain ⟨u, hu, _⟩ := h.ok.first e
  exact this.mono fun e w' ⟨h1, h2⟩ => ⟨_, h1, h2, tg_of hu⟩
theorem In.caller_none (h : In w0 p0 S0 b w p S) (e : calO S t = none) : Calls Try.prog 49 #[pv b, .int .i64 t] w fun e w' => e = .returned (.pointer none) ∧ Fr none' w w' := by
  have := caller_any w p S h.chg.is h.ok t
  rw [h.eb, e] at this
  exact this
theorem calO_fir {x : Int} (e : calO S t = some x) : numB t = true ∧ firO S 4 t = some x := by
  unfold calO at e
  split at e
  · rename_i h; exact ⟨h, e⟩
  · cases e
theorem In.caller_some (h : In w0 p0 S0 b w p S) {x : Int} (e : calO S t = some x) : Calls Try.prog 49 #[pv b, .int .i64 t] w fun e w' => ∃ g, e = .returned (pv g) ∧ Fr none' w w' ∧ Tg p S x g := by
  have := caller_any w p S h.chg.is h.ok t
  rw [h.eb, e] at this
  obtain ⟨u, hu, _⟩ := h.ok.first (calO_fir e).2
  exact this.mono fun e w' ⟨h1, h2⟩ => ⟨_, h1, h2, tg_of hu⟩
/-- What a thread's block says. -/
theorem In.th (h : In w0 p0 S0 b w p S) (k : Tg p S t g) : ThR w g (thrT S t) := by
  have := h.chg.is.look k.thrT
  rw [k.eq] at this
  exact this
theorem Tg.i (k : Tg p S t g) : (Go.Proofs.Ytjobdfkfongjaaa.thrT S t).i = t := fnd_i k.thrT
theorem In.id (h : In w0 p0 S0 b w p S) (k : Tg p S t g) : w.cell? ⟨g, 0, none⟩ = some (.int .i64 t) := by
  have := (h.th k).ci
  rw [k.i] at this
  exact this
theorem num64 (h : numB t = true) : I64 t := by
  have := num_iff.1 h
  exact ⟨by omega, by omega⟩
theorem i64s {s : Int} (h0 : -1 ≤ s) (h1 : s ≤ 1023) : I64 s := ⟨by omega, by omega⟩
end

/-- A message's box. -/
theorem box7 {w : World} {k : Nat} {m : Ms} {ty : TypeId} (r : Row w k (msA m) ty) : w.cell? ⟨k, 0, none⟩ = some (.int .i64 m.l) ∧ w.cell? ⟨k, 1, none⟩ = some (.int .i64 m.b) ∧ w.cell? ⟨k, 2, none⟩ = some (.int .i64 m.n) ∧ w.cell? ⟨k, 3, none⟩ = some (.int .u32 m.w0) ∧ w.cell? ⟨k, 4, none⟩ = some (.int .u32 m.w1) ∧ w.cell? ⟨k, 5, none⟩ = some (.int .u32 m.w2) ∧ w.cell? ⟨k, 6, none⟩ = some (.int .u32 m.w3) :=
  ⟨r.cell 0, r.cell 1, r.cell 2, r.cell 3, r.cell 4, r.cell 5, r.cell 6⟩

/-! ### Forget -/
theorem forS_some {S : Ip} {t c : Int} (e : calO S t = some c) : forS S t = entS (leaS S c) c 4 (-1) := by unfold forS; rw [e]
theorem lea_st {S : Ip} {k : Int} {u : Th} (hu : fnd S.L k = some u) : (thrT (leaS S k) k).st = 0 := by rw [thrT_of (lea_at hu)]; rfl

set_option maxHeartbeats 1000000 in
theorem In.forget {w0 w : World} {p0 p : Pb} {S0 S : Ip} {b : Nat} (h : In w0 p0 S0 b w p S) (t : Int) : Calls Try.prog 26 #[pv b, .int .i64 t] w fun e w' => ∃ p', e = .returned (.int .i64 (forN S t)) ∧ In w0 p0 S0 b w' p' (forS S t) ∧ Kp p S p' (forS S t) := by
  cases e : calO S t with
  | none =>
    have e1 : forN S t = -1 := by unfold forN; rw [e]; rfl
    have e2 : forS S t = S := by unfold forS; rw [e]
    rw [e1, e2]
    have HH : Hid (In w0 p0 S0 b w p S) := h
    have HI : Hid (Calls Try.prog 49 #[pv b, .int .i64 t] w fun e w' => e = .returned (.pointer none) ∧ Fr none' w w') := h.caller_none e
    clear e1 e2 e h
    go_enter Try.func26, Try.ntmps26
    go_wp2_with (first | (go_at_call 49; refine (Calls.mono HI.out ?_); rintro e w1 ⟨rfl, f1⟩) | (go_at_call 48; refine (number_nil _).mono ?_; rintro e w2 ⟨rfl, rfl⟩))
    go_ret
    exact ⟨p, rfl, HH.out.keep0 f1, fun _ _ k => k⟩
  | some c =>
    have e1 : forN S t = c := by unfold forN; rw [e]; rfl
    have e2 := forS_some e
    have hf := calO_fir e
    obtain ⟨u, hu, hst, _⟩ := h.ok.first hf.2
    have hst' : (thrT S c).st ≠ 0 := by rw [thrT_of hu, hst]; omega
    have hl := lea_st hu
    have hP : okP 4 (-1) := okP_an (by omega) (by omega)
    have HI : Hid (Calls Try.prog 49 #[pv b, .int .i64 t] w fun e w' => ∃ g, e = .returned (pv g) ∧ Fr none' w w' ∧ Tg p S c g) := h.caller_some e
    rw [e1, e2]
    clear e1 e2 e hf hu hst
    go_enter Try.func26, Try.ntmps26
    go_wp2_with (first | (go_at_call 49; refine (Calls.mono HI.out ?_); rintro e w1 ⟨g, rfl, f1, k0⟩) | (go_at_call 55; refine ((h.keep0 f1).leave k0 hst').mono ?_; rintro e w2 ⟨v, p1, rfl, h1, q1⟩) | (go_at_call 63; refine (answer_any _ _).mono ?_; rintro e w3 ⟨rfl, f3⟩) | (go_at_call 62; refine ((h1.keep0 f3).enter (q1 _ _ k0) hl hP (by omega)).mono ?_; rintro e w4 ⟨v, p2, rfl, h2, q2⟩) | (go_at_call 48; refine (number_at (h2.th (q2 _ _ (q1 _ _ k0)))).mono ?_; rintro e w5 ⟨rfl, rfl⟩))
    go_ret
    refine ⟨p2, ?_, h2, fun x g' k => q2 _ _ (q1 _ _ k)⟩
    rw [(q2 _ _ (q1 _ _ k0)).i]
    rfl

end Go.Proofs.Ytjobdfkfongjaaa
