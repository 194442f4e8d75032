/-
  The walk of VcpuSwitches. No statement is proved here.
-/
import Derived.Test.YthkieoedidpkaaaVcAlike
import Derived.Test.YthkieoedidpkaaaVcAwake
import Derived.Below
namespace Go.Proofs.Ythkieoedidpkaaa
open Go.RowKit Go.Maps Go.WideMaps

theorem bel_of {w w' : World} (h : Fr none' w w') : Below w.heap.size w w' := ⟨h.os, h.tape, h.output, h.size, fun i hi => h.block i hi (fun h => h)⟩
def adN : Nat → Vp
  | 0 => ⟨[], -1, 2⟩
  | k + 1 => addS (adN k) (k : Int)
theorem adN_ok {k : Nat} (h : k < 4) : addE (adN k) (k : Int) = 0 := by
  have : k = 0 ∨ k = 1 ∨ k = 2 ∨ k = 3 := by omega
  rcases this with rfl | rfl | rfl | rfl <;> decide +kernel
structure Inv (S : Vp) : Prop where
  h : ∀ k : Nat, k < 4 → hasB S (k : Int) = true
  l : S.ld = 0
theorem inv_start : entE (adN 4) 0 = 0 ∧ Inv (entS (adN 4) 0) := by
  refine ⟨by decide +kernel, ⟨fun k hk => ?_, by decide +kernel⟩⟩
  have : k = 0 ∨ k = 1 ∨ k = 2 ∨ k = 3 := by omega
  rcases this with rfl | rfl | rfl | rfl <;> decide +kernel
theorem inv_upd {S : Vp} (h : Inv S) (k : Int) {f : Vc → Vc} (hf : ∀ t, (f t).id = t.id) : Inv { S with L := upd S.L k f } := by
  refine ⟨fun j hj => ?_, h.l⟩
  have := h.h j hj
  unfold hasB at this ⊢
  show (fnd (upd S.L k f) (j : Int)).isSome = true
  rw [fnd_upd hf, Option.isSome_map]
  exact this
theorem inv_ij {S : Vp} (h : Inv S) (i n p : Int) (l : Bool) : Inv (ijS S i n p l) := by
  unfold ijS
  split
  · exact inv_upd h _ (fun _ => rfl)
  · exact h
theorem inv_stp {S : Vp} (h : Inv S) (A : Ac) (h7 : ¬ A.d < 7) (h12 : A.d ≠ 12) : Inv (stp A S) := by
  unfold stp
  rw [if_neg (by omega), if_neg (by omega), if_neg (by omega), if_neg (by omega), if_neg (by omega), if_neg (by omega)]
  split
  · unfold setS
    split
    · exact h
    · exact inv_upd h _ (fun _ => rfl)
  · split
    · exact h
    · split
      · unfold wriS
        split
        · exact inv_upd h _ (fun _ => rfl)
        · exact h
      · split
        · exact inv_ij h _ _ _ _
        · split
          · unfold tckS
            split
            · exact h
            · have h1 : Inv (tick1 S) := inv_upd h _ (fun _ => rfl)
              split
              · exact inv_ij h1 _ _ _ _
              · exact h1
          · exact h
theorem ent_ld (S : Vp) (k : Int) : ∃ v, entS S k = { S with ld := v } := by
  unfold entS
  split
  · exact ⟨k, rfl⟩
  · exact ⟨S.ld, rfl⟩
theorem ent_back {S : Vp} (h : Inv S) (v : Int) : entS { S with ld := v } 0 = S := by
  have hh : hasB { S with ld := v } 0 = true := h.h 0 (by omega)
  unfold entS
  rw [if_pos hh]
  obtain ⟨L, ld, lrs⟩ := S
  have : ld = 0 := h.l
  subst this
  rfl
theorem ent1 {S : Vp} (h : Inv S) (k : Int) : entS (entS S k) 0 = S := by
  obtain ⟨v, e⟩ := ent_ld S k
  rw [e]
  exact ent_back h v
theorem ent2 {S : Vp} (h : Inv S) (k : Int) : entS (leaS (entS S k)) 0 = S := by
  obtain ⟨v, e⟩ := ent_ld S k
  rw [e]
  exact ent_back h (-1)

section
variable {w0 w w1 : World} {p p' q : Pp} {r r' : Qd} {S S' T R R' : Vp} {g : Nat} {cs : Array Value} {ty : TypeId}
/-- Three machines, and a block of others. -/
structure Tw (w0 w : World) (p q : Pp) (r : Qd) (S T R : Vp) (g : Nat) (cs : Array Value) (ty : TypeId) : Prop where
  ip : IsP w p S
  iq : IsP w q T
  d : IsD w r R
  row : Row w g cs ty
  ph : ∀ k, p.s S k → w0.heap.size ≤ k ∧ k ≠ g ∧ ¬ q.s T k
  qh : ∀ k, q.s T k → w0.heap.size ≤ k ∧ k ≠ g
  rh : ∀ k, r.s k → w0.heap.size ≤ k ∧ k ≠ g ∧ ¬ p.s S k ∧ ¬ q.s T k
  fr : Fr none' w0 w
theorem Tw.start (h : Tr w0 w p q r S T R) (cs : Array Value) (ty : TypeId) : Tw w0 (w.alloc (.cells cs ty)) p q r S T R w.heap.size cs ty := by
  have f := (Fr.refl none' w).alloc (.cells cs ty)
  have h2 := h.keep0 f
  refine ⟨h2.b.vx.is, h2.iq, h2.b.d, row_alloc _ _ _, fun k hk => ⟨(h.b.vx.hi k hk).1, ?_, (h.b.vx.hi k hk).2⟩, fun k hk => ⟨h.qhi k hk, ?_⟩, fun k hk => ⟨(h.b.qhi k hk).1, ?_, (h.b.qhi k hk).2.2, (h.b.qhi k hk).2.1⟩, h2.b.vx.fr⟩
  · have := h.b.vx.is.lt k hk; omega
  · have := h.iq.lt k hk; omega
  · have := h.b.d.lt k hk; omega
theorem Tw.end (h : Tw w0 w p q r S T R g cs ty) : Tr w0 w p q r S T R :=
  ⟨⟨⟨h.ip, fun k hk => ⟨(h.ph k hk).1, (h.ph k hk).2.2⟩, fun k hk => h.iq.lt k hk, h.fr⟩, h.d, fun k hk => ⟨(h.rh k hk).1, (h.rh k hk).2.2.2, (h.rh k hk).2.2.1⟩⟩, h.iq, fun k hk => (h.qh k hk).1⟩
theorem Tw.swap (h : Tw w0 w p q r S T R g cs ty) : Tw w0 w q p r T S R g cs ty :=
  ⟨h.iq, h.ip, h.d, h.row, fun k hk => ⟨(h.qh k hk).1, (h.qh k hk).2, fun hp => (h.ph k hp).2.2 hk⟩, fun k hk => ⟨(h.ph k hk).1, (h.ph k hk).2.1⟩, fun k hk => ⟨(h.rh k hk).1, (h.rh k hk).2.1, (h.rh k hk).2.2.2, (h.rh k hk).2.2.1⟩, h.fr⟩
def Tw.O (q : Pp) (T : Vp) (g : Nat) : Nat → Prop := fun k => q.s T k ∨ k = g
theorem Tw.bx (h : Tw w0 w p q r S T R g cs ty) : Bx w0 w p r S R (Tw.O q T g) := by
  refine ⟨⟨h.ip, fun k hk => ⟨(h.ph k hk).1, fun e => ?_⟩, fun k hk => ?_, h.fr⟩, h.d, fun k hk => ⟨(h.rh k hk).1, fun e => ?_, (h.rh k hk).2.2.1⟩⟩
  · rcases e with e | e
    · exact (h.ph k hk).2.2 e
    · exact (h.ph k hk).2.1 e
  · rcases hk with e | e
    · exact h.iq.lt k e
    · rw [e]; exact h.row.lt
  · rcases e with e | e
    · exact (h.rh k hk).2.2.2 e
    · exact (h.rh k hk).2.1 e
theorem Tw.step (h : Tw w0 w p q r S T R g cs ty) (b : Bx w0 w1 p' r' S' R' (Tw.O q T g)) (f : FrO w0 (Tw.O q T g) w w1) : Tw w0 w1 p' q r' S' T R' g cs ty :=
  ⟨b.vx.is, h.iq.keep f (fun _ hk hf => hf.2 (Or.inl hk)), b.d, h.row.keep f (fun hf => hf.2 (Or.inr rfl)), fun k hk => ⟨(b.vx.hi k hk).1, fun e => (b.vx.hi k hk).2 (Or.inr e), fun e => (b.vx.hi k hk).2 (Or.inl e)⟩, h.qh, fun k hk => ⟨(b.qhi k hk).1, fun e => (b.qhi k hk).2.1 (Or.inr e), (b.qhi k hk).2.2, fun e => (b.qhi k hk).2.1 (Or.inl e)⟩, b.vx.fr⟩
theorem Tw.onP (h : Tw w0 w p q r S T R g cs ty) (c : ChP w p S w1 p' S') : Tw w0 w1 p' q r S' T R g cs ty := by
  obtain ⟨b, f⟩ := h.bx.onP c
  exact h.step b f
theorem Tw.does (h : Tw w0 w p q r S T R g cs ty) (A : Ac) (hA : OkAc A) (h12 : A.d ≠ 12) : Calls Try.prog 8 #[pv p.b, pv r.b, .agg (acA A)] w fun e w' => ∃ v, e = .returned (.bool v) ∧ ∃ p' r', p'.b = p.b ∧ r'.b = r.b ∧ Tw w0 w' p' q r' (stp A S) T (stp A R) g cs ty :=
  (does_any w0 w p r S R _ h.bx A hA (fun e => absurd e h12)).mono fun _ _ ⟨v, h1, _, p', r', b, e1, e2, f⟩ => ⟨v, h1, p', r', e1, e2, h.step b f⟩
theorem Tw.enter (h : Tw w0 w p q r S T R g cs ty) (id : Int) (hi : I64 id) : Calls Try.prog 11 #[pv p.b, .int .i64 id] w fun e w' => e = .returned (.int .i64 (entE S id)) ∧ Tw w0 w' p q r (entS S id) T R g cs ty :=
  (enter_any w p S h.ip id hi).mono fun _ _ ⟨h1, h2⟩ => ⟨h1, h.onP h2⟩
theorem Tw.leave (h : Tw w0 w p q r S T R g cs ty) : Calls Try.prog 12 #[pv p.b] w fun e w' => ∃ v, e = .returned v ∧ Tw w0 w' p q r (leaS S) T R g cs ty :=
  (leave_any w p S h.ip).mono fun _ _ ⟨v, h1, h2⟩ => ⟨v, h1, h.onP h2⟩
end

/-- What a round of the law keeps. -/
structure Rd (w0 : World) (bp bq br : Nat) (w : World) : Prop where
  ex : ∃ p q r S R, p.b = bp ∧ q.b = bq ∧ r.b = br ∧ Inv S ∧ Tr w0 w p q r S S R
/-- Within a round: the block of the act beside. -/
structure Rw (w0 : World) (bp bq br : Nat) (S T : Vp) (g : Nat) (cs : Array Value) (ty : TypeId) (w : World) : Prop where
  ex : ∃ p q r R, p.b = bp ∧ q.b = bq ∧ r.b = br ∧ Tw w0 w p q r S T R g cs ty
theorem Rw.doP {w0 w : World} {bp bq br : Nat} {S T : Vp} {g : Nat} {cs : Array Value} {ty : TypeId} (h : Rw w0 bp bq br S T g cs ty w) (A : Ac) (hA : OkAc A) (h12 : A.d ≠ 12) : Calls Try.prog 8 #[pv bp, pv br, .agg (acA A)] w fun e w' => ∃ v, e = .returned (.bool v) ∧ Rw w0 bp bq br (stp A S) T g cs ty w' := by
  obtain ⟨p, q, r, R, rfl, rfl, rfl, t⟩ := h
  exact (t.does A hA h12).mono fun _ _ ⟨v, h1, p', r', e1, e2, h2⟩ => ⟨v, h1, p', q, r', _, e1, rfl, e2, h2⟩
theorem Rw.doQ {w0 w : World} {bp bq br : Nat} {S T : Vp} {g : Nat} {cs : Array Value} {ty : TypeId} (h : Rw w0 bp bq br S T g cs ty w) (A : Ac) (hA : OkAc A) (h12 : A.d ≠ 12) : Calls Try.prog 8 #[pv bq, pv br, .agg (acA A)] w fun e w' => ∃ v, e = .returned (.bool v) ∧ Rw w0 bp bq br S (stp A T) g cs ty w' := by
  obtain ⟨p, q, r, R, rfl, rfl, rfl, t⟩ := h
  exact (t.swap.does A hA h12).mono fun _ _ ⟨v, h1, p', r', e1, e2, h2⟩ => ⟨v, h1, p, p', r', _, rfl, e1, e2, h2.swap⟩
theorem Rw.enter {w0 w : World} {bp bq br : Nat} {S T : Vp} {g : Nat} {cs : Array Value} {ty : TypeId} (h : Rw w0 bp bq br S T g cs ty w) (id : Int) (hi : I64 id) : Calls Try.prog 11 #[pv bq, .int .i64 id] w fun e w' => e = .returned (.int .i64 (entE T id)) ∧ Rw w0 bp bq br S (entS T id) g cs ty w' := by
  obtain ⟨p, q, r, R, rfl, rfl, rfl, t⟩ := h
  exact (t.swap.enter id hi).mono fun _ _ ⟨h1, h2⟩ => ⟨h1, p, q, r, R, rfl, rfl, rfl, h2.swap⟩
theorem Rw.leave {w0 w : World} {bp bq br : Nat} {S T : Vp} {g : Nat} {cs : Array Value} {ty : TypeId} (h : Rw w0 bp bq br S T g cs ty w) : Calls Try.prog 12 #[pv bq] w fun e w' => ∃ v, e = .returned v ∧ Rw w0 bp bq br S (leaS T) g cs ty w' := by
  obtain ⟨p, q, r, R, rfl, rfl, rfl, t⟩ := h
  exact (t.swap.leave).mono fun _ _ ⟨v, h1, h2⟩ => ⟨v, h1, p, q, r, R, rfl, rfl, rfl, h2.swap⟩
theorem Rw.row {w0 w : World} {bp bq br : Nat} {S T : Vp} {g : Nat} {cs : Array Value} {ty : TypeId} (h : Rw w0 bp bq br S T g cs ty w) : Row w g cs ty := by
  obtain ⟨_, _, _, _, _, _, _, t⟩ := h
  exact t.row
theorem Rw.fr {w0 w : World} {bp bq br : Nat} {S T : Vp} {g : Nat} {cs : Array Value} {ty : TypeId} (h : Rw w0 bp bq br S T g cs ty w) : Fr none' w0 w := by
  obtain ⟨_, _, _, _, _, _, _, t⟩ := h
  exact t.fr
theorem Rw.rd {w0 w : World} {bp bq br : Nat} {S : Vp} {g : Nat} {cs : Array Value} {ty : TypeId} (h : Rw w0 bp bq br S S g cs ty w) (hi : Inv S) : Rd w0 bp bq br w := by
  obtain ⟨p, q, r, R, e1, e2, e3, t⟩ := h
  exact ⟨p, q, r, S, R, e1, e2, e3, hi, t.end⟩
theorem Rd.rw {w0 w : World} {bp bq br : Nat} (h : Rd w0 bp bq br w) (cs : Array Value) (ty : TypeId) : ∃ S, Inv S ∧ Rw w0 bp bq br S S w.heap.size cs ty (w.alloc (.cells cs ty)) := by
  obtain ⟨p, q, r, S, R, e1, e2, e3, hi, t⟩ := h
  exact ⟨S, hi, p, q, r, R, e1, e2, e3, Tw.start t cs ty⟩
theorem Rd.fr {w0 w : World} {bp bq br : Nat} (h : Rd w0 bp bq br w) : Fr none' w0 w := by
  obtain ⟨_, _, _, _, _, _, _, _, _, t⟩ := h
  exact t.b.vx.fr
theorem Rd.keep {w0 w w1 : World} {bp bq br : Nat} (h : Rd w0 bp bq br w) (f : Fr none' w w1) : Rd w0 bp bq br w1 := by
  obtain ⟨p, q, r, S, R, e1, e2, e3, hi, t⟩ := h
  exact ⟨p, q, r, S, R, e1, e2, e3, hi, t.keep0 f⟩
theorem Rd.alike {w0 w : World} {bp bq br : Nat} (h : Rd w0 bp bq br w) : Calls Try.prog 13 #[pv bp, pv bq] w fun e w' => e = .returned (.bool true) ∧ Fr none' w0 w' := by
  obtain ⟨p, q, r, S, R, rfl, rfl, rfl, hi, t⟩ := h
  exact (alike_any w p q S t.b.vx.is t.iq hi.h).mono fun _ _ ⟨h1, h2⟩ => ⟨h1, t.b.vx.fr.trans h2⟩
/-- What the first loop keeps. -/
structure Ra (w0 : World) (bp bq br : Nat) (S T : Vp) (w : World) : Prop where
  ex : ∃ p q r R, p.b = bp ∧ q.b = bq ∧ r.b = br ∧ Tr w0 w p q r S T R
theorem Ra.addP {w0 w : World} {bp bq br : Nat} {S T : Vp} (h : Ra w0 bp bq br S T w) (id : Int) : Calls Try.prog 10 #[pv bp, .int .i64 id] w fun e w' => e = .returned (.int .i64 (addE S id)) ∧ Ra w0 bp bq br (addS S id) T w' := by
  obtain ⟨p, q, r, R, rfl, rfl, rfl, t⟩ := h
  exact (add_any w p S t.b.vx.is id).mono fun _ _ ⟨p', h1, h2⟩ => ⟨h1, p', q, r, R, h2.eb, rfl, rfl, t.onP h2⟩
theorem Ra.addQ {w0 w : World} {bp bq br : Nat} {S T : Vp} (h : Ra w0 bp bq br S T w) (id : Int) : Calls Try.prog 10 #[pv bq, .int .i64 id] w fun e w' => e = .returned (.int .i64 (addE T id)) ∧ Ra w0 bp bq br S (addS T id) w' := by
  obtain ⟨p, q, r, R, rfl, rfl, rfl, t⟩ := h
  exact (add_any w q T t.iq id).mono fun _ _ ⟨q', h1, h2⟩ => ⟨h1, p, q', r, R, rfl, h2.eb, rfl, (t.swap.onP h2).swap⟩
theorem Ra.entP {w0 w : World} {bp bq br : Nat} {S T : Vp} (h : Ra w0 bp bq br S T w) (id : Int) (hi : I64 id) : Calls Try.prog 11 #[pv bp, .int .i64 id] w fun e w' => e = .returned (.int .i64 (entE S id)) ∧ Ra w0 bp bq br (entS S id) T w' := by
  obtain ⟨p, q, r, R, rfl, rfl, rfl, t⟩ := h
  exact (enter_any w p S t.b.vx.is id hi).mono fun _ _ ⟨h1, h2⟩ => ⟨h1, p, q, r, R, rfl, rfl, rfl, t.onP h2⟩
theorem Ra.entQ {w0 w : World} {bp bq br : Nat} {S T : Vp} (h : Ra w0 bp bq br S T w) (id : Int) (hi : I64 id) : Calls Try.prog 11 #[pv bq, .int .i64 id] w fun e w' => e = .returned (.int .i64 (entE T id)) ∧ Ra w0 bp bq br S (entS T id) w' := by
  obtain ⟨p, q, r, R, rfl, rfl, rfl, t⟩ := h
  exact (enter_any w q T t.iq id hi).mono fun _ _ ⟨h1, h2⟩ => ⟨h1, p, q, r, R, rfl, rfl, rfl, (t.swap.onP h2).swap⟩
theorem Ra.rd {w0 w : World} {bp bq br : Nat} {S : Vp} (h : Ra w0 bp bq br S S w) (hi : Inv S) : Rd w0 bp bq br w := by
  obtain ⟨p, q, r, R, e1, e2, e3, t⟩ := h
  exact ⟨p, q, r, S, R, e1, e2, e3, hi, t⟩

set_option maxRecDepth 100000 in
set_option maxHeartbeats 8000000 in
theorem lsw_any (a0 : Option Addr) (len cap : Nat) (a1 : Option Addr) (len1 cap1 : Nat) (W : World) (hl : len ≤ 9223372036854775807) (hA : ∃ A, Acs W a0 len A) (_hl1 : len1 ≤ 9223372036854775807) (hN : ∃ A, Nums W a1 len1 A) :
    Calls Try.prog 4 #[.slice a0 len cap, .slice a1 len1 cap1] W fun e W' => e = .returned (.bool true) ∧ Below W.heap.size W W' := by
  obtain ⟨A, hA⟩ := hA
  have HA : Hid (Acs W a0 len A) := hA
  clear hA
  obtain ⟨B, hN⟩ := hN
  have HN : Hid (Nums W a1 len1 B) := hN
  clear hN
  go_enter Try.func4, Try.ntmps4
  go_wp2_with fail
  refine (awake_any W).mono ?_
  rintro e w1 ⟨rfl, F0⟩
  have HF : Hid (Fr none' W w1) := F0
  clear F0
  go_wp2_with fail
  refine (xnew w1 2 (by decide)).mono ?_
  rintro e w2 ⟨p, rfl, P⟩
  go_wp2_with fail
  refine (xnew w2 2 (by decide)).mono ?_
  rintro e w3 ⟨q, rfl, Q⟩
  go_wp2_with fail
  refine (dnew_ok w3 2 (by decide)).mono ?_
  rintro e w4 ⟨r, rfl, f4, D, hr⟩
  have HR : Hid (Ra w1 p.b q.b r.b (adN 0) (adN 0) w4) := ⟨p, q, r, _, rfl, rfl, rfl, Tr.start P Q f4 D hr⟩
  clear P Q f4 D hr
  generalize p.b = bp at *
  generalize q.b = bq at *
  generalize r.b = br at *
  go_wp2_with fail
  go_loopw [12] (fun i wr => ∃ k : Nat, k ≤ 4 ∧ i = .int .i64 (k : Int) ∧ Hid (Ra w1 bp bq br (adN k) (adN k) wr)) (fun i _ => 4 - (intOf i).toNat)
  case atStart => exact ⟨0, by omega, rfl, HR.out⟩
  case round =>
    clear HR
    obtain ⟨k, hk, rfl, HI⟩ := hrel
    by_cases h4 : k < 4
    · have d4 : decide ((k : Int) < 4) = true := decide_eq_true (by omega)
      have X := HI.out.addP (k : Int)
      rw [adN_ok h4] at X
      go_wp2_with fail
      refine X.mono ?_
      clear X
      rintro e w5 ⟨rfl, h5⟩
      have X := h5.addQ (k : Int)
      rw [adN_ok h4] at X
      clear h5 HI
      go_wp2_with fail
      refine X.mono ?_
      clear X
      rintro e w6 ⟨rfl, h6⟩
      have H6 : Hid _ := h6
      clear h6
      go_wp2_with fail
      go_roundw
      case rel => exact ⟨k + 1, by omega, by go_num, H6.out⟩
      case measure => simp [intOf]; omega
    · have d4 : decide ((k : Int) < 4) = false := decide_eq_false (by omega)
      have hk4 : k = 4 := by omega
      have X := HI.out.entP 0 ⟨by omega, by omega⟩
      rw [hk4, inv_start.1] at X
      clear hk4 HI
      go_wp2_with fail
      refine X.mono ?_
      clear X
      rintro e w5 ⟨rfl, h5⟩
      have X := h5.entQ 0 ⟨by omega, by omega⟩
      rw [inv_start.1] at X
      clear h5
      go_wp2_with fail
      refine X.mono ?_
      clear X
      rintro e w6 ⟨rfl, h6⟩
      have H6 : Hid (Rd w1 bp bq br w6) := h6.rd inv_start.2
      clear h6
      go_wp2_with fail
      go_loopw [17] (fun i wr => ∃ k : Nat, k ≤ len ∧ k ≤ 80 ∧ i = .int .i64 (k : Int) ∧ Hid (Rd w1 bp bq br wr)) (fun i _ => 80 - (intOf i).toNat)
      case atStart => exact ⟨0, by omega, by omega, rfl, H6.out⟩
      case round =>
        clear H6 d4 h4
        obtain ⟨k, hk, hk2, rfl, HI⟩ := hrel
        by_cases hlt : k < len
        · by_cases hlt2 : k < 80
          · obtain ⟨bb, o, rfl, ak, ok⟩ := (HA.out.keep' (HF.out.trans HI.out.fr)) k hlt
            have HO : Hid (OkAc (A k)) := ok
            have i1 : 0 ≤ (k : Int) ∧ (k : Int) < (len : Int) := by omega
            have uk1 : decide ((k : Int) < (len : Int)) = true := decide_eq_true (by omega)
            have uk2 : decide ((k : Int) < 80) = true := decide_eq_true (by omega)
            have c0 : wr.cell? ⟨bb, o + k * 13, none⟩ = some (.int .i64 (A k).d) := ak 0 (by omega)
            have c1 : wr.cell? ⟨bb, o + k * 13 + 1, none⟩ = some (.int .i64 (A k).i) := ak 1 (by omega)
            have c2 : wr.cell? ⟨bb, o + k * 13 + 2, none⟩ = some (.int .i64 (A k).n) := ak 2 (by omega)
            have c3 : wr.cell? ⟨bb, o + k * 13 + 3, none⟩ = some (.int .i64 (A k).m) := ak 3 (by omega)
            have c4 : wr.cell? ⟨bb, o + k * 13 + 4, none⟩ = some (.int .u32 ((A k).b 0)) := ak 4 (by omega)
            have c5 : wr.cell? ⟨bb, o + k * 13 + 5, none⟩ = some (.int .u32 ((A k).b 1)) := ak 5 (by omega)
            have c6 : wr.cell? ⟨bb, o + k * 13 + 6, none⟩ = some (.int .u32 ((A k).b 2)) := ak 6 (by omega)
            have c7 : wr.cell? ⟨bb, o + k * 13 + 7, none⟩ = some (.int .u32 ((A k).b 3)) := ak 7 (by omega)
            have c8 : wr.cell? ⟨bb, o + k * 13 + 8, none⟩ = some (.int .u32 ((A k).b 4)) := ak 8 (by omega)
            have c9 : wr.cell? ⟨bb, o + k * 13 + 9, none⟩ = some (.int .u32 ((A k).b 5)) := ak 9 (by omega)
            have c10 : wr.cell? ⟨bb, o + k * 13 + 10, none⟩ = some (.int .u32 ((A k).b 6)) := ak 10 (by omega)
            have c11 : wr.cell? ⟨bb, o + k * 13 + 11, none⟩ = some (.int .u32 ((A k).b 7)) := ak 11 (by omega)
            have c12 : wr.cell? ⟨bb, o + k * 13 + 12, none⟩ = some (.bool (A k).on) := ak 12 (by omega)
            have HS : Hid (∃ S, Inv S ∧ Rw w1 bp bq br S S wr.heap.size #[.int .i64 (A k).d, .int .i64 (A k).i, .int .i64 (A k).n, .int .i64 (A k).m, .int .u32 ((A k).b 0), .int .u32 ((A k).b 1), .int .u32 ((A k).b 2), .int .u32 ((A k).b 3), .int .u32 ((A k).b 4), .int .u32 ((A k).b 5), .int .u32 ((A k).b 6), .int .u32 ((A k).b 7), .bool (A k).on] 35 (wr.alloc (.cells #[.int .i64 (A k).d, .int .i64 (A k).i, .int .i64 (A k).n, .int .i64 (A k).m, .int .u32 ((A k).b 0), .int .u32 ((A k).b 1), .int .u32 ((A k).b 2), .int .u32 ((A k).b 3), .int .u32 ((A k).b 4), .int .u32 ((A k).b 5), .int .u32 ((A k).b 6), .int .u32 ((A k).b 7), .bool (A k).on] 35))) := HI.out.rw _ _
            have HK : Hid (Rd w1 bp bq br (wr.alloc (.cells #[.int .i64 (A k).d, .int .i64 (A k).i, .int .i64 (A k).n, .int .i64 (A k).m, .int .u32 ((A k).b 0), .int .u32 ((A k).b 1), .int .u32 ((A k).b 2), .int .u32 ((A k).b 3), .int .u32 ((A k).b 4), .int .u32 ((A k).b 5), .int .u32 ((A k).b 6), .int .u32 ((A k).b 7), .bool (A k).on] 35))) := HI.out.keep ((Fr.refl none' wr).alloc _)
            clear ok ak HI
            by_cases h7 : (A k).d < 7
            · have u7 : decide ((A k).d < 7) = true := decide_eq_true h7
              go_wp2_with fail
              go_roundw
              case rel => exact ⟨k + 1, by omega, by omega, by go_num, HK.out⟩
              case measure => simp [intOf]; omega
            · have u7 : decide ((A k).d < 7) = false := decide_eq_false h7
              by_cases h12 : (A k).d = 12
              · have u12 : ((A k).d == 12) = true := by simpa using h12
                clear h12
                go_wp2_with fail
                go_roundw
                case rel => exact ⟨k + 1, by omega, by omega, by go_num, HK.out⟩
                case measure => simp [intOf]; omega
              · have u12 : ((A k).d == 12) = false := by simpa using h12
                by_cases hi0 : (A k).i < 0
                · have v0 : decide ((A k).i < 0) = true := decide_eq_true hi0
                  go_wp2_with fail
                  go_roundw
                  case rel => exact ⟨k + 1, by omega, by omega, by go_num, HK.out⟩
                  case measure => simp [intOf]; omega
                · have v0 : decide ((A k).i < 0) = false := decide_eq_false hi0
                  by_cases hi3 : 3 < (A k).i
                  · have v3 : decide (3 < (A k).i) = true := decide_eq_true hi3
                    go_wp2_with fail
                    go_roundw
                    case rel => exact ⟨k + 1, by omega, by omega, by go_num, HK.out⟩
                    case measure => simp [intOf]; omega
                  · have v3 : decide (3 < (A k).i) = false := decide_eq_false hi3
                    obtain ⟨S, hI, hS⟩ := HS.out
                    have HJ : Hid (Inv S ∧ Inv (stp (A k) S)) := ⟨hI, inv_stp hI (A k) h7 h12⟩
                    have X := hS.doP (A k) HO.out h12
                    have H12 : Hid ((A k).d ≠ 12) := h12
                    unfold acA at X
                    clear hI hS HS HK
                    go_wp2_with fail
                    refine X.mono ?_
                    clear X c0 c1 c2 c3 c4 c5 c6 c7 c8 c9 c10 c11 c12 u7 u12 v0 v3 h7 h12 hi0 hi3
                    rintro e w7 ⟨z7, rfl, h7⟩
                    generalize wr.heap.size = g at *
                    have H7 : Hid _ := h7
                    clear h7
                    by_cases hk3 : k < len1
                    · have um : decide ((k : Int) < (len1 : Int)) = true := decide_eq_true (by omega)
                      obtain ⟨b2, o2, rfl, a2, ok2⟩ := (HN.out.keep' (HF.out.trans H7.out.fr)) k hk3
                      have i2 : 0 ≤ (k : Int) ∧ (k : Int) < (len1 : Int) := by omega
                      have y0 : w7.cell? ⟨b2, o2 + k, none⟩ = some (.int .i64 (B k)) := by
                        have := a2 0 (by omega)
                        rw [Nat.mul_one, Nat.add_zero] at this
                        exact this
                      have HB2 : Hid (Nums W (some ⟨b2, o2, none⟩) len1 B) := HN.out
                      obtain ⟨x, hx⟩ : ∃ x, B k = x := ⟨_, rfl⟩
                      have HX : Hid (B k = x) := hx
                      have HX2 : Hid (Nums W (some ⟨b2, o2, none⟩) len1 B) := HB2.out
                      rw [hx] at y0
                      have hx2 : I64 x := by rw [← hx]; exact ok2
                      clear hx
                      have hx64 : -9223372036854775808 ≤ x ∧ x ≤ 9223372036854775807 := hx2
                      clear a2 ok2 hx2 HB2
                      by_cases hp : 0 ≤ x
                      · obtain ⟨z, hz⟩ : ∃ z, x % 4 = z := ⟨_, rfl⟩
                        have z1 : 0 ≤ z ∧ z < 4 := by omega
                        have z0 : decide (z < 0) = false := decide_eq_false (by omega)
                        have Y := H7.out.enter (z) ⟨by omega, by omega⟩
                        clear H7
                        go_wp2_with fail
                        refine Y.mono ?_
                        clear Y
                        rintro e w8 ⟨rfl, h8⟩
                        have H8 : Hid _ := h8
                        have y0 : w8.cell? ⟨b2, o2 + k, none⟩ = some (.int .i64 x) := by
                          have := (HX2.out.keep' (HF.out.trans h8.fr)) k hk3
                          obtain ⟨b2', o2', e2, a2, _⟩ := this
                          have e2 := Option.some.inj e2
                          simp only [Addr.mk.injEq, and_true] at e2
                          obtain ⟨rfl, rfl⟩ := e2
                          have := a2 0 (by omega)
                          rw [Nat.mul_one, Nat.add_zero] at this
                          rw [HX.out] at this
                          exact this
                        clear h8
                        cases e3 : (x % 3 == 0) with
                        | true =>
                          have Y := H8.out.leave
                          clear H8
                          go_wp2_with fail
                          refine Y.mono ?_
                          clear Y e3 y0
                          rintro e wb ⟨zb, rfl, hb⟩
                          have Y := hb.enter 0 ⟨by omega, by omega⟩
                          clear hb
                          go_wp2_with fail
                          refine Y.mono ?_
                          clear Y
                          rintro e wc ⟨rfl, hc⟩
                          rw [ent2 HJ.out.1] at hc
                          have HC : Hid _ := hc
                          clear hc
                          have rw9 := HC.out.row
                          have x0 := rw9.cell 0
                          have x1 := rw9.cell 1
                          have x2 := rw9.cell 2
                          have x3 := rw9.cell 3
                          have x4 := rw9.cell 4
                          have x5 := rw9.cell 5
                          have x6 := rw9.cell 6
                          have x7 := rw9.cell 7
                          have x8 := rw9.cell 8
                          have x9 := rw9.cell 9
                          have x10 := rw9.cell 10
                          have x11 := rw9.cell 11
                          have x12 := rw9.cell 12
                          dsimp at x0 x1 x2 x3 x4 x5 x6 x7 x8 x9 x10 x11 x12
                          have Y := HC.out.doQ (A k) HO.out H12.out
                          unfold acA at Y
                          clear rw9 HC
                          go_wp2_with fail
                          refine Y.mono ?_
                          clear Y x0 x1 x2 x3 x4 x5 x6 x7 x8 x9 x10 x11 x12
                          rintro e w9 ⟨z9, rfl, h9⟩
                          have H9 : Hid (Rd w1 bp bq br w9) := h9.rd HJ.out.2
                          clear h9
                          go_wp2_with fail
                          go_roundw
                          case rel => exact ⟨k + 1, by omega, by omega, by go_num, H9.out⟩
                          case measure => simp [intOf]; omega
                        | false =>
                          have Y := H8.out.enter 0 ⟨by omega, by omega⟩
                          clear H8
                          go_wp2_with fail
                          refine Y.mono ?_
                          clear Y e3 y0
                          rintro e wc ⟨rfl, hc⟩
                          rw [ent1 HJ.out.1] at hc
                          have HC : Hid _ := hc
                          clear hc
                          have rw9 := HC.out.row
                          have x0 := rw9.cell 0
                          have x1 := rw9.cell 1
                          have x2 := rw9.cell 2
                          have x3 := rw9.cell 3
                          have x4 := rw9.cell 4
                          have x5 := rw9.cell 5
                          have x6 := rw9.cell 6
                          have x7 := rw9.cell 7
                          have x8 := rw9.cell 8
                          have x9 := rw9.cell 9
                          have x10 := rw9.cell 10
                          have x11 := rw9.cell 11
                          have x12 := rw9.cell 12
                          dsimp at x0 x1 x2 x3 x4 x5 x6 x7 x8 x9 x10 x11 x12
                          have Y := HC.out.doQ (A k) HO.out H12.out
                          unfold acA at Y
                          clear rw9 HC
                          go_wp2_with fail
                          refine Y.mono ?_
                          clear Y x0 x1 x2 x3 x4 x5 x6 x7 x8 x9 x10 x11 x12
                          rintro e w9 ⟨z9, rfl, h9⟩
                          have H9 : Hid (Rd w1 bp bq br w9) := h9.rd HJ.out.2
                          clear h9
                          go_wp2_with fail
                          go_roundw
                          case rel => exact ⟨k + 1, by omega, by omega, by go_num, H9.out⟩
                          case measure => simp [intOf]; omega
                      · obtain ⟨z, hz⟩ : ∃ z, x.tmod 4 = z := ⟨_, rfl⟩
                        have z1 : -4 < z ∧ z ≤ 0 := by
                          have h1 := Int.tmod_nonneg (a := -x) 4 (by omega)
                          rw [Int.neg_tmod] at h1
                          have h2 := Int.lt_tmod_of_pos x (b := 4) (by omega)
                          omega
                        by_cases hz0 : z < 0
                        · have z0 : decide (z < 0) = true := decide_eq_true hz0
                          have Y := H7.out.enter (-z) ⟨by omega, by omega⟩
                          clear H7
                          go_wp2_with fail
                          refine Y.mono ?_
                          clear Y
                          rintro e w8 ⟨rfl, h8⟩
                          have H8 : Hid _ := h8
                          have y0 : w8.cell? ⟨b2, o2 + k, none⟩ = some (.int .i64 x) := by
                            have := (HX2.out.keep' (HF.out.trans h8.fr)) k hk3
                            obtain ⟨b2', o2', e2, a2, _⟩ := this
                            have e2 := Option.some.inj e2
                            simp only [Addr.mk.injEq, and_true] at e2
                            obtain ⟨rfl, rfl⟩ := e2
                            have := a2 0 (by omega)
                            rw [Nat.mul_one, Nat.add_zero] at this
                            rw [HX.out] at this
                            exact this
                          clear h8
                          cases e3 : (x.tmod 3 == 0) with
                          | true =>
                            have Y := H8.out.leave
                            clear H8
                            go_wp2_with fail
                            refine Y.mono ?_
                            clear Y e3 y0
                            rintro e wb ⟨zb, rfl, hb⟩
                            have Y := hb.enter 0 ⟨by omega, by omega⟩
                            clear hb
                            go_wp2_with fail
                            refine Y.mono ?_
                            clear Y
                            rintro e wc ⟨rfl, hc⟩
                            rw [ent2 HJ.out.1] at hc
                            have HC : Hid _ := hc
                            clear hc
                            have rw9 := HC.out.row
                            have x0 := rw9.cell 0
                            have x1 := rw9.cell 1
                            have x2 := rw9.cell 2
                            have x3 := rw9.cell 3
                            have x4 := rw9.cell 4
                            have x5 := rw9.cell 5
                            have x6 := rw9.cell 6
                            have x7 := rw9.cell 7
                            have x8 := rw9.cell 8
                            have x9 := rw9.cell 9
                            have x10 := rw9.cell 10
                            have x11 := rw9.cell 11
                            have x12 := rw9.cell 12
                            dsimp at x0 x1 x2 x3 x4 x5 x6 x7 x8 x9 x10 x11 x12
                            have Y := HC.out.doQ (A k) HO.out H12.out
                            unfold acA at Y
                            clear rw9 HC
                            go_wp2_with fail
                            refine Y.mono ?_
                            clear Y x0 x1 x2 x3 x4 x5 x6 x7 x8 x9 x10 x11 x12
                            rintro e w9 ⟨z9, rfl, h9⟩
                            have H9 : Hid (Rd w1 bp bq br w9) := h9.rd HJ.out.2
                            clear h9
                            go_wp2_with fail
                            go_roundw
                            case rel => exact ⟨k + 1, by omega, by omega, by go_num, H9.out⟩
                            case measure => simp [intOf]; omega
                          | false =>
                            have Y := H8.out.enter 0 ⟨by omega, by omega⟩
                            clear H8
                            go_wp2_with fail
                            refine Y.mono ?_
                            clear Y e3 y0
                            rintro e wc ⟨rfl, hc⟩
                            rw [ent1 HJ.out.1] at hc
                            have HC : Hid _ := hc
                            clear hc
                            have rw9 := HC.out.row
                            have x0 := rw9.cell 0
                            have x1 := rw9.cell 1
                            have x2 := rw9.cell 2
                            have x3 := rw9.cell 3
                            have x4 := rw9.cell 4
                            have x5 := rw9.cell 5
                            have x6 := rw9.cell 6
                            have x7 := rw9.cell 7
                            have x8 := rw9.cell 8
                            have x9 := rw9.cell 9
                            have x10 := rw9.cell 10
                            have x11 := rw9.cell 11
                            have x12 := rw9.cell 12
                            dsimp at x0 x1 x2 x3 x4 x5 x6 x7 x8 x9 x10 x11 x12
                            have Y := HC.out.doQ (A k) HO.out H12.out
                            unfold acA at Y
                            clear rw9 HC
                            go_wp2_with fail
                            refine Y.mono ?_
                            clear Y x0 x1 x2 x3 x4 x5 x6 x7 x8 x9 x10 x11 x12
                            rintro e w9 ⟨z9, rfl, h9⟩
                            have H9 : Hid (Rd w1 bp bq br w9) := h9.rd HJ.out.2
                            clear h9
                            go_wp2_with fail
                            go_roundw
                            case rel => exact ⟨k + 1, by omega, by omega, by go_num, H9.out⟩
                            case measure => simp [intOf]; omega
                        · have z0 : decide (z < 0) = false := decide_eq_false hz0
                          have Y := H7.out.enter (z) ⟨by omega, by omega⟩
                          clear H7
                          go_wp2_with fail
                          refine Y.mono ?_
                          clear Y
                          rintro e w8 ⟨rfl, h8⟩
                          have H8 : Hid _ := h8
                          have y0 : w8.cell? ⟨b2, o2 + k, none⟩ = some (.int .i64 x) := by
                            have := (HX2.out.keep' (HF.out.trans h8.fr)) k hk3
                            obtain ⟨b2', o2', e2, a2, _⟩ := this
                            have e2 := Option.some.inj e2
                            simp only [Addr.mk.injEq, and_true] at e2
                            obtain ⟨rfl, rfl⟩ := e2
                            have := a2 0 (by omega)
                            rw [Nat.mul_one, Nat.add_zero] at this
                            rw [HX.out] at this
                            exact this
                          clear h8
                          cases e3 : (x.tmod 3 == 0) with
                          | true =>
                            have Y := H8.out.leave
                            clear H8
                            go_wp2_with fail
                            refine Y.mono ?_
                            clear Y e3 y0
                            rintro e wb ⟨zb, rfl, hb⟩
                            have Y := hb.enter 0 ⟨by omega, by omega⟩
                            clear hb
                            go_wp2_with fail
                            refine Y.mono ?_
                            clear Y
                            rintro e wc ⟨rfl, hc⟩
                            rw [ent2 HJ.out.1] at hc
                            have HC : Hid _ := hc
                            clear hc
                            have rw9 := HC.out.row
                            have x0 := rw9.cell 0
                            have x1 := rw9.cell 1
                            have x2 := rw9.cell 2
                            have x3 := rw9.cell 3
                            have x4 := rw9.cell 4
                            have x5 := rw9.cell 5
                            have x6 := rw9.cell 6
                            have x7 := rw9.cell 7
                            have x8 := rw9.cell 8
                            have x9 := rw9.cell 9
                            have x10 := rw9.cell 10
                            have x11 := rw9.cell 11
                            have x12 := rw9.cell 12
                            dsimp at x0 x1 x2 x3 x4 x5 x6 x7 x8 x9 x10 x11 x12
                            have Y := HC.out.doQ (A k) HO.out H12.out
                            unfold acA at Y
                            clear rw9 HC
                            go_wp2_with fail
                            refine Y.mono ?_
                            clear Y x0 x1 x2 x3 x4 x5 x6 x7 x8 x9 x10 x11 x12
                            rintro e w9 ⟨z9, rfl, h9⟩
                            have H9 : Hid (Rd w1 bp bq br w9) := h9.rd HJ.out.2
                            clear h9
                            go_wp2_with fail
                            go_roundw
                            case rel => exact ⟨k + 1, by omega, by omega, by go_num, H9.out⟩
                            case measure => simp [intOf]; omega
                          | false =>
                            have Y := H8.out.enter 0 ⟨by omega, by omega⟩
                            clear H8
                            go_wp2_with fail
                            refine Y.mono ?_
                            clear Y e3 y0
                            rintro e wc ⟨rfl, hc⟩
                            rw [ent1 HJ.out.1] at hc
                            have HC : Hid _ := hc
                            clear hc
                            have rw9 := HC.out.row
                            have x0 := rw9.cell 0
                            have x1 := rw9.cell 1
                            have x2 := rw9.cell 2
                            have x3 := rw9.cell 3
                            have x4 := rw9.cell 4
                            have x5 := rw9.cell 5
                            have x6 := rw9.cell 6
                            have x7 := rw9.cell 7
                            have x8 := rw9.cell 8
                            have x9 := rw9.cell 9
                            have x10 := rw9.cell 10
                            have x11 := rw9.cell 11
                            have x12 := rw9.cell 12
                            dsimp at x0 x1 x2 x3 x4 x5 x6 x7 x8 x9 x10 x11 x12
                            have Y := HC.out.doQ (A k) HO.out H12.out
                            unfold acA at Y
                            clear rw9 HC
                            go_wp2_with fail
                            refine Y.mono ?_
                            clear Y x0 x1 x2 x3 x4 x5 x6 x7 x8 x9 x10 x11 x12
                            rintro e w9 ⟨z9, rfl, h9⟩
                            have H9 : Hid (Rd w1 bp bq br w9) := h9.rd HJ.out.2
                            clear h9
                            go_wp2_with fail
                            go_roundw
                            case rel => exact ⟨k + 1, by omega, by omega, by go_num, H9.out⟩
                            case measure => simp [intOf]; omega
                    · have um : decide ((k : Int) < (len1 : Int)) = false := decide_eq_false (by omega)
                      have rw9 := H7.out.row
                      have x0 := rw9.cell 0
                      have x1 := rw9.cell 1
                      have x2 := rw9.cell 2
                      have x3 := rw9.cell 3
                      have x4 := rw9.cell 4
                      have x5 := rw9.cell 5
                      have x6 := rw9.cell 6
                      have x7 := rw9.cell 7
                      have x8 := rw9.cell 8
                      have x9 := rw9.cell 9
                      have x10 := rw9.cell 10
                      have x11 := rw9.cell 11
                      have x12 := rw9.cell 12
                      dsimp at x0 x1 x2 x3 x4 x5 x6 x7 x8 x9 x10 x11 x12
                      have Y := H7.out.doQ (A k) HO.out H12.out
                      unfold acA at Y
                      clear rw9 H7
                      go_wp2_with fail
                      refine Y.mono ?_
                      clear Y x0 x1 x2 x3 x4 x5 x6 x7 x8 x9 x10 x11 x12
                      rintro e w9 ⟨z9, rfl, h9⟩
                      have H9 : Hid (Rd w1 bp bq br w9) := h9.rd HJ.out.2
                      clear h9
                      go_wp2_with fail
                      go_roundw
                      case rel => exact ⟨k + 1, by omega, by omega, by go_num, H9.out⟩
                      case measure => simp [intOf]; omega
          · have uk1 : decide ((k : Int) < (len : Int)) = true := decide_eq_true (by omega)
            have uk2 : decide ((k : Int) < 80) = false := decide_eq_false (by omega)
            have Y := HI.out.alike
            go_wp2_with fail
            refine Y.mono ?_
            clear Y
            rintro e w7 ⟨rfl, f7⟩
            have HZ : Hid _ := f7
            clear f7
            go_wp2_with fail
            go_ret
            exact ⟨rfl, bel_of (HF.out.trans HZ.out)⟩
        · have uk1 : decide ((k : Int) < (len : Int)) = false := decide_eq_false (by omega)
          have Y := HI.out.alike
          go_wp2_with fail
          refine Y.mono ?_
          clear Y
          rintro e w7 ⟨rfl, f7⟩
          have HZ : Hid _ := f7
          clear f7
          go_wp2_with fail
          go_ret
          exact ⟨rfl, bel_of (HF.out.trans HZ.out)⟩

end Go.Proofs.Ythkieoedidpkaaa
