/-
  Package ipc's Inbox over the translation. No statement is proved here.
-/
import Derived.Test.YtjobdfkfongjaaaIpAns
namespace Go.Proofs.Ytjobdfkfongjaaa
open Go.RowKit Go.Maps Go.WideMaps

/-- An inbox emptied. -/
def inb0 (w : World) (b : Nat) : World := (World.setCell (World.setCell (World.setCell (World.setCell (World.setCell (World.setCell (World.setCell (World.setCell w ⟨b, 11, none⟩ (.int .i64 0)) ⟨b, 12, none⟩ (.int .i64 0)) ⟨b, 13, none⟩ (.int .i64 0)) ⟨b, 14, none⟩ (.int .u32 0)) ⟨b, 15, none⟩ (.int .u32 0)) ⟨b, 16, none⟩ (.int .u32 0)) ⟨b, 17, none⟩ (.int .u32 0)) ⟨b, 18, none⟩ (.bool false))
theorem ThR.inb0 {w : World} {b : Nat} {x : Th} (h : ThR w b x) : ThR (inb0 w b) b (setI M0 false x) :=
  ThR.ib7 (ThR.ib6 (ThR.ib5 (ThR.ib4 (ThR.ib3 (ThR.ib2 (ThR.ib1 (ThR.ib0 h 0) 0) 0) 0) 0) 0) 0) false
theorem inb0_fr (w : World) (b : Nat) : Fr (at' b) w (inb0 w b) := (Fr.setCell (Fr.setCell (Fr.setCell (Fr.setCell (Fr.setCell (Fr.setCell (Fr.setCell (Fr.setCell (Fr.refl (at' b) w) (p := ⟨b, 11, none⟩) (Or.inr rfl) (.int .i64 0)) (p := ⟨b, 12, none⟩) (Or.inr rfl) (.int .i64 0)) (p := ⟨b, 13, none⟩) (Or.inr rfl) (.int .i64 0)) (p := ⟨b, 14, none⟩) (Or.inr rfl) (.int .u32 0)) (p := ⟨b, 15, none⟩) (Or.inr rfl) (.int .u32 0)) (p := ⟨b, 16, none⟩) (Or.inr rfl) (.int .u32 0)) (p := ⟨b, 17, none⟩) (Or.inr rfl) (.int .u32 0)) (p := ⟨b, 18, none⟩) (Or.inr rfl) (.bool false))

/-- A message laid into a box. -/
def bx7 (w : World) (k : Nat) (m : Ms) : World := (World.setCell (World.setCell (World.setCell (World.setCell (World.setCell (World.setCell (World.setCell w ⟨k, 0, none⟩ (.int .i64 m.l)) ⟨k, 1, none⟩ (.int .i64 m.b)) ⟨k, 2, none⟩ (.int .i64 m.n)) ⟨k, 3, none⟩ (.int .u32 m.w0)) ⟨k, 4, none⟩ (.int .u32 m.w1)) ⟨k, 5, none⟩ (.int .u32 m.w2)) ⟨k, 6, none⟩ (.int .u32 m.w3))
def MsR (w : World) (k : Nat) (m : Ms) : Prop := Row w k (msA m) 36
section
variable {w : World} {k : Nat} {x : Ms}
theorem MsR.s0 (h : MsR w k x) (v : Int) : MsR (w.setCell ⟨k, 0, none⟩ (.int .i64 v)) k { x with l := v } := Row.setCell h 0 (.int .i64 v)
theorem MsR.s1 (h : MsR w k x) (v : Int) : MsR (w.setCell ⟨k, 1, none⟩ (.int .i64 v)) k { x with b := v } := Row.setCell h 1 (.int .i64 v)
theorem MsR.s2 (h : MsR w k x) (v : Int) : MsR (w.setCell ⟨k, 2, none⟩ (.int .i64 v)) k { x with n := v } := Row.setCell h 2 (.int .i64 v)
theorem MsR.s3 (h : MsR w k x) (v : Int) : MsR (w.setCell ⟨k, 3, none⟩ (.int .u32 v)) k { x with w0 := v } := Row.setCell h 3 (.int .u32 v)
theorem MsR.s4 (h : MsR w k x) (v : Int) : MsR (w.setCell ⟨k, 4, none⟩ (.int .u32 v)) k { x with w1 := v } := Row.setCell h 4 (.int .u32 v)
theorem MsR.s5 (h : MsR w k x) (v : Int) : MsR (w.setCell ⟨k, 5, none⟩ (.int .u32 v)) k { x with w2 := v } := Row.setCell h 5 (.int .u32 v)
theorem MsR.s6 (h : MsR w k x) (v : Int) : MsR (w.setCell ⟨k, 6, none⟩ (.int .u32 v)) k { x with w3 := v } := Row.setCell h 6 (.int .u32 v)
theorem MsR.set (h : MsR w k x) (m : Ms) : MsR (bx7 w k m) k m := MsR.s6 (MsR.s5 (MsR.s4 (MsR.s3 (MsR.s2 (MsR.s1 (MsR.s0 h m.l) m.b) m.n) m.w0) m.w1) m.w2) m.w3
theorem bx7_fr (w : World) (k : Nat) (m : Ms) : Fr (at' k) w (bx7 w k m) := (Fr.setCell (Fr.setCell (Fr.setCell (Fr.setCell (Fr.setCell (Fr.setCell (Fr.setCell (Fr.refl (at' k) w) (p := ⟨k, 0, none⟩) (Or.inr rfl) (.int .i64 m.l)) (p := ⟨k, 1, none⟩) (Or.inr rfl) (.int .i64 m.b)) (p := ⟨k, 2, none⟩) (Or.inr rfl) (.int .i64 m.n)) (p := ⟨k, 3, none⟩) (Or.inr rfl) (.int .u32 m.w0)) (p := ⟨k, 4, none⟩) (Or.inr rfl) (.int .u32 m.w1)) (p := ⟨k, 5, none⟩) (Or.inr rfl) (.int .u32 m.w2)) (p := ⟨k, 6, none⟩) (Or.inr rfl) (.int .u32 m.w3))
end
theorem size_ms : (Try.prog.info? 36).map (·.size) = some 7 := by kernel_rfl
theorem load_ms {w : World} {g : Nat} {m : Ms} (hr : Row w g (msA m) 36) : (loadVar 36 ⟨g, 0, none⟩).run Try.prog w = .ok (msV m) w :=
  run_loadVar_row w g _ 36 (msA m) (0, 0) _ hr Try.underlying36 rfl size_ms
theorem ret_mb {fn : Func} {p t : Tmp} {tmps : Array Value} {g : Nat} {m : Ms} {w : World} (h : fn.results = #[.cell p 36, .tmp t]) (hp : tmps.getD p undef = .pointer (some ⟨g, 0, none⟩)) (hr : Row w g (msA m) 36) :
    (results fn tmps).run Try.prog w = .ok (.tuple #[msV m, tmps.getD t undef]) w := by
  have hl := load_ms hr
  have hp' : tmps[p]?.getD undef = .pointer (some ⟨g, 0, none⟩) := by simpa using hp
  simp only [results, h]
  simp [Result.andThen, hp', asAddr, hl]

set_option maxRecDepth 100000 in
set_option maxHeartbeats 2000000 in
theorem In.inbox {w0 w : World} {p0 p : Pb} {S0 S : Ip} {b : Nat} (h : In w0 p0 S0 b w p S) (t : Int) (ht : I64 t) :
    Calls Try.prog 21 #[pv b, .int .i64 t] w fun e w' => e = .returned (.tuple #[msV (inbM S t), .bool (inbG S t)]) ∧ In w0 p0 S0 b w' p (inbS S t) ∧ Kp p S p (inbS S t) := by
  have f0 := (Fr.refl none' w).alloc (.cells (msA M0) 36)
  have r0 := row_alloc w (msA M0) 36
  have c0 := h.chg.is.c0
  rw [h.eb] at c0
  have c0' : (w.alloc (.cells (msA M0) 36)).cell? ⟨b, 0, none⟩ = some (.map (some p.m)) := cell_keep f0 c0 (fun h => h)
  have hm := h.chg.is.mt
  have hm' := hm.keep f0 (fun h => h)
  dsimp only [msA, M0] at *
  cases hf : fnd S.L t with
  | none =>
    have e1 : inbG S t = false := by unfold inbG; rw [hf]
    have e2 : inbM S t = M0 := by unfold inbM; rw [hf]
    have e3 : inbS S t = S := by unfold inbS; rw [e1]; rfl
    rw [e1, e2, e3]
    have hL := hm'.look_none ht (map_none hf)
    have HH : Hid (In w0 p0 S0 b (w.alloc (.cells #[.int .i64 0, .int .i64 0, .int .i64 0, .int .u32 0, .int .u32 0, .int .u32 0, .int .u32 0] 36)) p S) := h.keep0 f0
    have R0 : Hid (Row (w.alloc (.cells #[.int .i64 0, .int .i64 0, .int .i64 0, .int .u32 0, .int .u32 0, .int .u32 0, .int .u32 0] 36)) w.heap.size (msA M0) 36) := r0
    clear h hf e1 e2 e3 hm hm' f0 r0
    go_enter Try.func21, Try.ntmps21
    go_wp2
    refine bodyPost_ret (ret_mb rfl rfl R0.out) rfl ?_
    exact ⟨rfl, HH.out, fun _ _ k => k⟩
  | some u =>
    have hL := hm'.look_some ht (map_some hf)
    have r1 := (h.keep0 f0).chg.is.look hf
    have hlt := (h.chg.is.look hf).lt
    have hne : p.B t ≠ w.heap.size := by omega
    have c18 := r1.cfu
    cases hfu : u.fu with
    | false =>
      have e1 : inbG S t = false := by unfold inbG; rw [hf]; exact hfu
      have e2 : inbM S t = M0 := by unfold inbM; rw [hf]; simp only; rw [hfu]; rfl
      have e3 : inbS S t = S := by unfold inbS; rw [e1]; rfl
      rw [e1, e2, e3]
      rw [hfu] at c18
      have HH : Hid (In w0 p0 S0 b (w.alloc (.cells #[.int .i64 0, .int .i64 0, .int .i64 0, .int .u32 0, .int .u32 0, .int .u32 0, .int .u32 0] 36)) p S) := h.keep0 f0
      have R0 : Hid (Row (w.alloc (.cells #[.int .i64 0, .int .i64 0, .int .i64 0, .int .u32 0, .int .u32 0, .int .u32 0, .int .u32 0] 36)) w.heap.size (msA M0) 36) := r0
      clear h hf e1 e2 e3 hm hm' f0 r0 r1 hfu hlt
      generalize p.B t = g at *
      go_enter Try.func21, Try.ntmps21
      go_wp2
      refine bodyPost_ret (ret_mb rfl rfl R0.out) rfl ?_
      exact ⟨rfl, HH.out, fun _ _ k => k⟩
    | true =>
      have e1 : inbG S t = true := by unfold inbG; rw [hf]; exact hfu
      have e2 : inbM S t = u.ib := by unfold inbM; rw [hf]; simp only; rw [hfu]; rfl
      have e3 : inbS S t = { S with L := upd S.L t (setI M0 false) } := by unfold inbS; rw [e1]; rfl
      have okI := ok_inb h.ok t
      rw [e3] at okI
      rw [e1, e2, e3]
      rw [hfu] at c18
      have r := h.chg.is.look hf
      have hnb : ¬ p.s S w.heap.size := fun hk => by have := h.chg.is.lt _ hk; omega
      have HE : Hid (∀ W, W = bx7 (inb0 ((w.alloc (.cells #[.int .i64 0, .int .i64 0, .int .i64 0, .int .u32 0, .int .u32 0, .int .u32 0, .int .u32 0] 36)).alloc (.cells #[.int .i64 u.ib.l, .int .i64 u.ib.b, .int .i64 u.ib.n, .int .u32 u.ib.w0, .int .u32 u.ib.w1, .int .u32 u.ib.w2, .int .u32 u.ib.w3] 36)) (p.B t)) w.heap.size u.ib → Row W w.heap.size (msA u.ib) 36 ∧ In w0 p0 S0 b W p { S with L := upd S.L t (setI M0 false) } ∧ Kp p S p { S with L := upd S.L t (setI M0 false) }) := fun W e => by
        subst e
        have f1 := f0.alloc (.cells #[.int .i64 u.ib.l, .int .i64 u.ib.b, .int .i64 u.ib.n, .int .u32 u.ib.w0, .int .u32 u.ib.w1, .int .u32 u.ib.w2, .int .u32 u.ib.w3] 36)
        have h2 := h.keep0 f1
        have r2 := h2.chg.is.look hf
        have C := h2.chg.is.setTk hf (f := setI M0 false) (fun _ => rfl) (inb0_fr _ (p.B t)) r2.inb0
        have h3 := h2.go C okI
        have rb : MsR (inb0 ((w.alloc (.cells #[.int .i64 0, .int .i64 0, .int .i64 0, .int .u32 0, .int .u32 0, .int .u32 0, .int .u32 0] 36)).alloc (.cells #[.int .i64 u.ib.l, .int .i64 u.ib.b, .int .i64 u.ib.n, .int .u32 u.ib.w0, .int .u32 u.ib.w1, .int .u32 u.ib.w2, .int .u32 u.ib.w3] 36)) (p.B t)) w.heap.size M0 := Row.keep (r0.alloc _) (inb0_fr _ (p.B t)) (fun e => hne (Eq.symm e))
        have h4 := h3.off (k := w.heap.size) (fun hk => (C.new _ hk).elim hnb (fun e => by rw [World.size_alloc, World.size_alloc] at e; omega)) (bx7_fr _ w.heap.size u.ib) (Or.inl h.chg.fr.size)
        exact ⟨rb.set u.ib, h4, kp_chg C⟩
      have z11 : w.frozen? ⟨p.B t, 11, none⟩ = false := r.frozen 11
      have z12 : w.frozen? ⟨p.B t, 12, none⟩ = false := r.frozen 12
      have z13 : w.frozen? ⟨p.B t, 13, none⟩ = false := r.frozen 13
      have z14 : w.frozen? ⟨p.B t, 14, none⟩ = false := r.frozen 14
      have z15 : w.frozen? ⟨p.B t, 15, none⟩ = false := r.frozen 15
      have z16 : w.frozen? ⟨p.B t, 16, none⟩ = false := r.frozen 16
      have z17 : w.frozen? ⟨p.B t, 17, none⟩ = false := r.frozen 17
      have z18 : w.frozen? ⟨p.B t, 18, none⟩ = false := r.frozen 18
      have x11 : w.cell? ⟨p.B t, 11, none⟩ = some (.int .i64 u.ib.l) := Row.cell r 11
      have x12 : w.cell? ⟨p.B t, 12, none⟩ = some (.int .i64 u.ib.b) := Row.cell r 12
      have x13 : w.cell? ⟨p.B t, 13, none⟩ = some (.int .i64 u.ib.n) := Row.cell r 13
      have x14 : w.cell? ⟨p.B t, 14, none⟩ = some (.int .u32 u.ib.w0) := Row.cell r 14
      have x15 : w.cell? ⟨p.B t, 15, none⟩ = some (.int .u32 u.ib.w1) := Row.cell r 15
      have x16 : w.cell? ⟨p.B t, 16, none⟩ = some (.int .u32 u.ib.w2) := Row.cell r 16
      have x17 : w.cell? ⟨p.B t, 17, none⟩ = some (.int .u32 u.ib.w3) := Row.cell r 17
      have x18 : w.cell? ⟨p.B t, 18, none⟩ = some (.bool u.fu) := Row.cell r 18
      rw [hfu] at x18
      have y11 := cell_keep f0 x11 (fun h => h)
      have y12 := cell_keep f0 x12 (fun h => h)
      have y13 := cell_keep f0 x13 (fun h => h)
      have y14 := cell_keep f0 x14 (fun h => h)
      have y15 := cell_keep f0 x15 (fun h => h)
      have y16 := cell_keep f0 x16 (fun h => h)
      have y17 := cell_keep f0 x17 (fun h => h)
      have f1 := f0.alloc (.cells #[.int .i64 u.ib.l, .int .i64 u.ib.b, .int .i64 u.ib.n, .int .u32 u.ib.w0, .int .u32 u.ib.w1, .int .u32 u.ib.w2, .int .u32 u.ib.w3] 36)
      have r2 : ThR _ (p.B t) u := r.keep f1 (fun h => h)
      have v11 := cell_keep f1 x11 (fun h => h)
      have q11 := r2.frozen 11
      have v12 := cell_keep f1 x12 (fun h => h)
      have q12 := r2.frozen 12
      have v13 := cell_keep f1 x13 (fun h => h)
      have q13 := r2.frozen 13
      have v14 := cell_keep f1 x14 (fun h => h)
      have q14 := r2.frozen 14
      have v15 := cell_keep f1 x15 (fun h => h)
      have q15 := r2.frozen 15
      have v16 := cell_keep f1 x16 (fun h => h)
      have q16 := r2.frozen 16
      have v17 := cell_keep f1 x17 (fun h => h)
      have q17 := r2.frozen 17
      have v18 := cell_keep f1 x18 (fun h => h)
      have q18 := r2.frozen 18
      have hne2 : w.heap.size ≠ p.B t := fun e => hne e.symm
      have hne3 : p.B t ≠ w.heap.size + 1 := by omega
      clear h hf e1 e2 e3 hm hm' f0 r0 r1 hfu hlt r okI f1 r2 hnb
      generalize p.B t = g at *
      go_enter Try.func21, Try.ntmps21
      go_wp2
      obtain ⟨q1, q2, q3⟩ := HE.out _ rfl
      refine bodyPost_ret (ret_mb rfl rfl (by exact q1)) rfl ?_
      exact ⟨rfl, q2, q3⟩

end Go.Proofs.Ytjobdfkfongjaaa
