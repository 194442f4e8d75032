/-
  Package ipc's Send over the translation. No statement is proved here.
-/
import Derived.Test.YtjobdfkfongjaaaIpIn
namespace Go.Proofs.Ytjobdfkfongjaaa
open Go.RowKit Go.Maps Go.WideMaps

section
variable {S : Ip} {ep t : Int} {m : Ms} {call block : Bool}
theorem sen_bad (h : (numB ep && (numB t && mayM m)) = false) : senE S ep t m = 1 ∧ senN S ep t m = -1 ∧ senS S ep t m call block = S := by
  have e : senE S ep t m = 1 := by unfold senE; rw [h]; rfl
  refine ⟨e, ?_, ?_⟩
  · unfold senN; rw [if_neg (by omega)]
  · unfold senS; rw [if_neg (by omega)]
theorem sen_wait (h : (numB ep && (numB t && mayM m)) = true) (hw : waiB S t = true) : senE S ep t m = 150 ∧ senN S ep t m = -1 ∧ senS S ep t m call block = S := by
  have e : senE S ep t m = 150 := by unfold senE; rw [h, hw]; rfl
  refine ⟨e, ?_, ?_⟩
  · unfold senN; rw [if_neg (by omega)]
  · unfold senS; rw [if_neg (by omega)]
theorem sen_e0 (h : (numB ep && (numB t && mayM m)) = true) (hw : waiB S t = false) : senE S ep t m = 0 := by unfold senE; rw [h, hw]; rfl
theorem sen_none (e : senE S ep t m = 0) (hf : firO S 3 ep = none) : senN S ep t m = -1 ∧ senS S ep t m call false = S ∧ senS S ep t m call true = entS { thrS S t with L := upd (thrS S t).L t (setD m call) } t 2 ep := by
  refine ⟨?_, ?_, ?_⟩
  · unfold senN; rw [if_pos e, hf]; rfl
  · unfold senS; rw [if_pos e, hf]; rfl
  · unfold senS; rw [if_pos e, hf]; rfl
theorem sen_some {r : Int} (e : senE S ep t m = 0) (hf : firO S 3 ep = some r) : senN S ep t m = r ∧ senS S ep t m false block = delS (leaS S r) r m ∧ senS S ep t m true block = entS (thrS (delS (leaS S r) r m) t) t 4 r := by
  refine ⟨?_, ?_, ?_⟩
  · unfold senN; rw [if_pos e, hf]; rfl
  · unfold senS; rw [if_pos e, hf]; rfl
  · unfold senS; rw [if_pos e, hf]; rfl
/-- Who calls waits nowhere, also when the receiver has left. -/
theorem sen_h0 {r : Int} (ok : Ok S) (hw : waiB S t = false) (hf : firO S 3 ep = some r) : (thrT (thrS (delS (leaS S r) r m) t) t).st = 0 := by
  obtain ⟨u, hu, r1, _⟩ := ok.first hf
  have hne : t ≠ r := fun e => by
    subst e
    have := (wai_iff ok hu).1 hw
    omega
  have hx : ∀ x, fnd (delS (leaS S r) r m).L t = some x → x.st = 0 := fun x hx => by
    have : fnd (upd (upd S.L r (setP 0 (-1))) r (setI m true)) t = some x := hx
    rw [fnd_upd1 _ r (f := setI m true) (fun _ => rfl), if_neg hne, fnd_upd1 S.L r (f := setP 0 (-1)) (fun _ => rfl), if_neg hne] at this
    exact (wai_iff ok this).1 hw
  have e : thrT (thrS (delS (leaS S r) r m) t) t = thrT (delS (leaS S r) r m) t := thrT_of (thr_at _ _)
  rw [e]
  unfold thrT
  cases h : fnd (delS (leaS S r) r m).L t with
  | some x => exact hx x h
  | none => rfl
end
theorem In.join {w0 w w' : World} {p0 p p' : Pb} {S0 S S' : Ip} {b : Nat} (h : In w0 p0 S0 b w p S) (i : In w p S b w' p' S') : In w0 p0 S0 b w' p' S' := h.go i.chg i.ok
theorem In.self {w0 w : World} {p0 p : Pb} {S0 S : Ip} {b : Nat} (h : In w0 p0 S0 b w p S) : In w p S b w p S := ⟨Chg.same h.chg.is (Fr.refl _ _), h.ok, h.eb⟩

/-- What a thread sends laid into its block. -/
def sdW (w : World) (b : Nat) (m : Ms) (c : Bool) : World := (World.setCell (World.setCell (World.setCell (World.setCell (World.setCell (World.setCell (World.setCell (World.setCell w ⟨b, 3, none⟩ (.int .i64 m.l)) ⟨b, 4, none⟩ (.int .i64 m.b)) ⟨b, 5, none⟩ (.int .i64 m.n)) ⟨b, 6, none⟩ (.int .u32 m.w0)) ⟨b, 7, none⟩ (.int .u32 m.w1)) ⟨b, 8, none⟩ (.int .u32 m.w2)) ⟨b, 9, none⟩ (.int .u32 m.w3)) ⟨b, 10, none⟩ (.bool c))
section
variable {w : World} {b : Nat} {x : Th}
theorem ThR.sd0 (h : ThR w b x) (v : Int) : ThR (w.setCell ⟨b, 3, none⟩ (.int .i64 v)) b { x with sd := { x.sd with l := v } } := Row.setCell h 3 (.int .i64 v)
theorem ThR.sd1 (h : ThR w b x) (v : Int) : ThR (w.setCell ⟨b, 4, none⟩ (.int .i64 v)) b { x with sd := { x.sd with b := v } } := Row.setCell h 4 (.int .i64 v)
theorem ThR.sd2 (h : ThR w b x) (v : Int) : ThR (w.setCell ⟨b, 5, none⟩ (.int .i64 v)) b { x with sd := { x.sd with n := v } } := Row.setCell h 5 (.int .i64 v)
theorem ThR.sd3 (h : ThR w b x) (v : Int) : ThR (w.setCell ⟨b, 6, none⟩ (.int .u32 v)) b { x with sd := { x.sd with w0 := v } } := Row.setCell h 6 (.int .u32 v)
theorem ThR.sd4 (h : ThR w b x) (v : Int) : ThR (w.setCell ⟨b, 7, none⟩ (.int .u32 v)) b { x with sd := { x.sd with w1 := v } } := Row.setCell h 7 (.int .u32 v)
theorem ThR.sd5 (h : ThR w b x) (v : Int) : ThR (w.setCell ⟨b, 8, none⟩ (.int .u32 v)) b { x with sd := { x.sd with w2 := v } } := Row.setCell h 8 (.int .u32 v)
theorem ThR.sd6 (h : ThR w b x) (v : Int) : ThR (w.setCell ⟨b, 9, none⟩ (.int .u32 v)) b { x with sd := { x.sd with w3 := v } } := Row.setCell h 9 (.int .u32 v)
theorem ThR.sd7 (h : ThR w b x) (v : Bool) : ThR (w.setCell ⟨b, 10, none⟩ (.bool v)) b { x with ca := v } := Row.setCell h 10 (.bool v)
theorem ThR.sds (h : ThR w b x) (m : Ms) (c : Bool) : ThR (sdW w b m c) b (setD m c x) :=
  ThR.sd7 (ThR.sd6 (ThR.sd5 (ThR.sd4 (ThR.sd3 (ThR.sd2 (ThR.sd1 (ThR.sd0 h m.l) m.b) m.n) m.w0) m.w1) m.w2) m.w3) c
theorem sd_fr (w : World) (b : Nat) (m : Ms) (c : Bool) : Fr (at' b) w (sdW w b m c) := (Fr.setCell (Fr.setCell (Fr.setCell (Fr.setCell (Fr.setCell (Fr.setCell (Fr.setCell (Fr.setCell (Fr.refl (at' b) w) (p := ⟨b, 3, none⟩) (Or.inr rfl) (.int .i64 m.l)) (p := ⟨b, 4, none⟩) (Or.inr rfl) (.int .i64 m.b)) (p := ⟨b, 5, none⟩) (Or.inr rfl) (.int .i64 m.n)) (p := ⟨b, 6, none⟩) (Or.inr rfl) (.int .u32 m.w0)) (p := ⟨b, 7, none⟩) (Or.inr rfl) (.int .u32 m.w1)) (p := ⟨b, 8, none⟩) (Or.inr rfl) (.int .u32 m.w2)) (p := ⟨b, 9, none⟩) (Or.inr rfl) (.int .u32 m.w3)) (p := ⟨b, 10, none⟩) (Or.inr rfl) (.bool c))
end

set_option maxRecDepth 100000 in
set_option maxHeartbeats 2000000 in
theorem In.later {w0 w : World} {p0 p : Pb} {S0 S : Ip} {b g : Nat} {t ep : Int} (h : In w0 p0 S0 b w p S) (k : Tg p S t g) (h0 : (thrT S t).st = 0) (hep : numB ep = true) {m : Ms} (hm : mayM m = true) (c : Bool) :
    Calls Try.prog 59 #[pv b, .int .i64 ep, pv g, msV m, .bool c] w fun e w' => ∃ v p', e = .returned v ∧ In w0 p0 S0 b w' p' (entS { S with L := upd S.L t (setD m c) } t 2 ep) ∧ Kp p S p' (entS { S with L := upd S.L t (setD m c) } t 2 ep) := by
  have r := h.th k
  have C : Chg w p S (sdW w g m c) p { S with L := upd S.L t (setD m c) } := h.chg.is.setTk k.thrT (f := setD m c) (fun _ => rfl) (by rw [k.eq]; exact sd_fr w g m c) (by rw [k.eq]; exact r.sds m c)
  have HE : Hid (∀ w1, Fr none' ((sdW w g m c).alloc (.cells (msA m) 36)) w1 → Calls Try.prog 62 #[pv b, pv g, plV 2 ep] w1 fun e w' => ∃ v p', e = .returned v ∧ In w0 p0 S0 b w' p' (entS { S with L := upd S.L t (setD m c) } t 2 ep) ∧ Kp p S p' (entS { S with L := upd S.L t (setD m c) } t 2 ep)) := fun w1 f1 => by
    have h1 : In w0 p0 S0 b w1 p { S with L := upd S.L t (setD m c) } := (h.go C (ok_sd h.ok t c hm)).keep0 (((Fr.refl none' _).alloc _).trans f1)
    have k1 := kp_chg C _ _ k
    have h01 : (thrT { S with L := upd S.L t (setD m c) } t).st = 0 := by
      rw [thrT_of (u := setD m c (thrT S t)) (by show fnd (upd S.L t (setD m c)) t = _; rw [fnd_upd1 S.L t (f := setD m c) (fun _ => rfl), if_pos rfl, k.thrT]; rfl)]
      exact h0
    refine (h1.enter k1 h01 (okP_ep (Or.inl rfl) hep) (by omega)).mono ?_
    rintro e w' ⟨v, p', rfl, h2, q2⟩
    exact ⟨v, p', rfl, h2, fun x g' kx => q2 _ _ (kp_chg C _ _ kx)⟩
  have hb := r.lt
  have c3 : w.cell? ⟨g, 3, none⟩ = some (.int .i64 (thrT S t).sd.l) := Row.cell r 3
  have z3 : w.frozen? ⟨g, 3, none⟩ = false := r.frozen 3
  have c4 : w.cell? ⟨g, 4, none⟩ = some (.int .i64 (thrT S t).sd.b) := Row.cell r 4
  have z4 : w.frozen? ⟨g, 4, none⟩ = false := r.frozen 4
  have c5 : w.cell? ⟨g, 5, none⟩ = some (.int .i64 (thrT S t).sd.n) := Row.cell r 5
  have z5 : w.frozen? ⟨g, 5, none⟩ = false := r.frozen 5
  have c6 : w.cell? ⟨g, 6, none⟩ = some (.int .u32 (thrT S t).sd.w0) := Row.cell r 6
  have z6 : w.frozen? ⟨g, 6, none⟩ = false := r.frozen 6
  have c7 : w.cell? ⟨g, 7, none⟩ = some (.int .u32 (thrT S t).sd.w1) := Row.cell r 7
  have z7 : w.frozen? ⟨g, 7, none⟩ = false := r.frozen 7
  have c8 : w.cell? ⟨g, 8, none⟩ = some (.int .u32 (thrT S t).sd.w2) := Row.cell r 8
  have z8 : w.frozen? ⟨g, 8, none⟩ = false := r.frozen 8
  have c9 : w.cell? ⟨g, 9, none⟩ = some (.int .u32 (thrT S t).sd.w3) := Row.cell r 9
  have z9 : w.frozen? ⟨g, 9, none⟩ = false := r.frozen 9
  have c10 : w.cell? ⟨g, 10, none⟩ = some (.bool (thrT S t).ca) := Row.cell r 10
  have z10 : w.frozen? ⟨g, 10, none⟩ = false := r.frozen 10
  have HW : Hid (∀ w1, Fr none' (World.alloc (World.setCell (World.setCell (World.setCell (World.setCell (World.setCell (World.setCell (World.setCell (World.setCell w ⟨g, 3, none⟩ (.int .i64 m.l)) ⟨g, 4, none⟩ (.int .i64 m.b)) ⟨g, 5, none⟩ (.int .i64 m.n)) ⟨g, 6, none⟩ (.int .u32 m.w0)) ⟨g, 7, none⟩ (.int .u32 m.w1)) ⟨g, 8, none⟩ (.int .u32 m.w2)) ⟨g, 9, none⟩ (.int .u32 m.w3)) ⟨g, 10, none⟩ (.bool c)) (.cells (msA m) 36)) w1 → Fr none' ((sdW w g m c).alloc (.cells (msA m) 36)) w1) := fun w1 f => f
  clear C r h k h0 hep hm
  go_enter Try.func59, Try.ntmps59
  go_wp2_with (first | (go_at_call 51; refine (senders_any _ _).mono ?_; rintro e w1 ⟨rfl, f1⟩; have F1 : Hid _ := HW.out _ f1; clear f1) | (go_at_call 62; refine (HE.out _ F1.out).mono ?_; rintro e w2 ⟨v, p', rfl, h2, q2⟩))
  refine post_void rfl rfl fun v => ?_
  exact ⟨v, p', rfl, h2, q2⟩

end Go.Proofs.Ytjobdfkfongjaaa
