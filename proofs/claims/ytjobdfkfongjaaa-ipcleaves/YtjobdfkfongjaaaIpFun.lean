/-
  Contracts of package ipc's functions on one thread's block. No statement is proved here.
-/
import Derived.Test.YtjobdfkfongjaaaIpMap
import Derived.Test.YtjobdfkfongjaaaIpOkC
namespace Go.Proofs.Ytjobdfkfongjaaa
open Go.RowKit Go.Maps Go.WideMaps

theorem number_nil (w : World) : Calls Try.prog 48 #[.pointer none] w fun e w' => e = .returned (.int .i64 (-1)) ∧ w' = w := by
  go_enter Try.func48, Try.ntmps48
  go_wp2
  go_ret
  exact ⟨rfl, rfl⟩
theorem number_at {w : World} {b : Nat} {x : Th} (h : ThR w b x) : Calls Try.prog 48 #[pv b] w fun e w' => e = .returned (.int .i64 x.i) ∧ w' = w := by
  have c := h.ci
  go_enter Try.func48, Try.ntmps48
  go_wp2
  go_ret
  exact ⟨rfl, rfl⟩

theorem post_void {fn : Func} {R : Ending → World → Prop} {a : Act} {w : World} (hd : a.defers = []) (hr : fn.results = #[]) (h : ∀ v, R (.returned v) w) : bodyPost Try.prog fn R .normal a w :=
  ⟨hd, .tuple #[], by simp [results, hr], h _⟩

/-- A message laid into a thread's inbox. -/
def inbW (w : World) (b : Nat) (m : Ms) : World := (World.setCell (World.setCell (World.setCell (World.setCell (World.setCell (World.setCell (World.setCell (World.setCell w ⟨b, 11, none⟩ (.int .i64 m.l)) ⟨b, 12, none⟩ (.int .i64 m.b)) ⟨b, 13, none⟩ (.int .i64 m.n)) ⟨b, 14, none⟩ (.int .u32 m.w0)) ⟨b, 15, none⟩ (.int .u32 m.w1)) ⟨b, 16, none⟩ (.int .u32 m.w2)) ⟨b, 17, none⟩ (.int .u32 m.w3)) ⟨b, 18, none⟩ (.bool true))
theorem ThR.ib0 {w : World} {b : Nat} {x : Th} (h : ThR w b x) (v : Int) : ThR (w.setCell ⟨b, 11, none⟩ (.int .i64 v)) b { x with ib := { x.ib with l := v } } := Row.setCell h 11 (.int .i64 v)
theorem ThR.ib1 {w : World} {b : Nat} {x : Th} (h : ThR w b x) (v : Int) : ThR (w.setCell ⟨b, 12, none⟩ (.int .i64 v)) b { x with ib := { x.ib with b := v } } := Row.setCell h 12 (.int .i64 v)
theorem ThR.ib2 {w : World} {b : Nat} {x : Th} (h : ThR w b x) (v : Int) : ThR (w.setCell ⟨b, 13, none⟩ (.int .i64 v)) b { x with ib := { x.ib with n := v } } := Row.setCell h 13 (.int .i64 v)
theorem ThR.ib3 {w : World} {b : Nat} {x : Th} (h : ThR w b x) (v : Int) : ThR (w.setCell ⟨b, 14, none⟩ (.int .u32 v)) b { x with ib := { x.ib with w0 := v } } := Row.setCell h 14 (.int .u32 v)
theorem ThR.ib4 {w : World} {b : Nat} {x : Th} (h : ThR w b x) (v : Int) : ThR (w.setCell ⟨b, 15, none⟩ (.int .u32 v)) b { x with ib := { x.ib with w1 := v } } := Row.setCell h 15 (.int .u32 v)
theorem ThR.ib5 {w : World} {b : Nat} {x : Th} (h : ThR w b x) (v : Int) : ThR (w.setCell ⟨b, 16, none⟩ (.int .u32 v)) b { x with ib := { x.ib with w2 := v } } := Row.setCell h 16 (.int .u32 v)
theorem ThR.ib6 {w : World} {b : Nat} {x : Th} (h : ThR w b x) (v : Int) : ThR (w.setCell ⟨b, 17, none⟩ (.int .u32 v)) b { x with ib := { x.ib with w3 := v } } := Row.setCell h 17 (.int .u32 v)
theorem ThR.ib7 {w : World} {b : Nat} {x : Th} (h : ThR w b x) (v : Bool) : ThR (w.setCell ⟨b, 18, none⟩ (.bool v)) b { x with fu := v } := Row.setCell h 18 (.bool v)
theorem ThR.inb {w : World} {b : Nat} {x : Th} (h : ThR w b x) (m : Ms) : ThR (inbW w b m) b (setI m true x) :=
  ThR.ib7 (ThR.ib6 (ThR.ib5 (ThR.ib4 (ThR.ib3 (ThR.ib2 (ThR.ib1 (ThR.ib0 h m.l) m.b) m.n) m.w0) m.w1) m.w2) m.w3) true
theorem inb_fr (w : World) (b : Nat) (m : Ms) : Fr (at' b) w (inbW w b m) := (Fr.setCell (Fr.setCell (Fr.setCell (Fr.setCell (Fr.setCell (Fr.setCell (Fr.setCell (Fr.setCell (Fr.refl (at' b) w) (p := ⟨b, 11, none⟩) (Or.inr rfl) (.int .i64 m.l)) (p := ⟨b, 12, none⟩) (Or.inr rfl) (.int .i64 m.b)) (p := ⟨b, 13, none⟩) (Or.inr rfl) (.int .i64 m.n)) (p := ⟨b, 14, none⟩) (Or.inr rfl) (.int .u32 m.w0)) (p := ⟨b, 15, none⟩) (Or.inr rfl) (.int .u32 m.w1)) (p := ⟨b, 16, none⟩) (Or.inr rfl) (.int .u32 m.w2)) (p := ⟨b, 17, none⟩) (Or.inr rfl) (.int .u32 m.w3)) (p := ⟨b, 18, none⟩) (Or.inr rfl) (.bool true))

set_option maxHeartbeats 400000 in
theorem deliver_any {w : World} {b : Nat} {x : Th} (h : ThR w b x) (m : Ms) : Calls Try.prog 61 #[pv b, msV m] w fun e w' => (∃ v, e = .returned v) ∧ Fr (at' b) w w' ∧ ThR w' b (setI m true x) := by
  have hb := h.lt
  have HR : Hid (ThR ((inbW w b m).alloc (.cells (msA m) 36)) b (setI m true x)) := ThR.keep (ThR.inb h m) ((Fr.refl none' _).alloc _) (fun h => h)
  have HF : Hid (Fr (at' b) w ((inbW w b m).alloc (.cells (msA m) 36))) := (inb_fr w b m).alloc _
  have c11 : w.cell? ⟨b, 11, none⟩ = some (.int .i64 x.ib.l) := Row.cell h 11
  have z11 : w.frozen? ⟨b, 11, none⟩ = false := h.frozen 11
  have c12 : w.cell? ⟨b, 12, none⟩ = some (.int .i64 x.ib.b) := Row.cell h 12
  have z12 : w.frozen? ⟨b, 12, none⟩ = false := h.frozen 12
  have c13 : w.cell? ⟨b, 13, none⟩ = some (.int .i64 x.ib.n) := Row.cell h 13
  have z13 : w.frozen? ⟨b, 13, none⟩ = false := h.frozen 13
  have c14 : w.cell? ⟨b, 14, none⟩ = some (.int .u32 x.ib.w0) := Row.cell h 14
  have z14 : w.frozen? ⟨b, 14, none⟩ = false := h.frozen 14
  have c15 : w.cell? ⟨b, 15, none⟩ = some (.int .u32 x.ib.w1) := Row.cell h 15
  have z15 : w.frozen? ⟨b, 15, none⟩ = false := h.frozen 15
  have c16 : w.cell? ⟨b, 16, none⟩ = some (.int .u32 x.ib.w2) := Row.cell h 16
  have z16 : w.frozen? ⟨b, 16, none⟩ = false := h.frozen 16
  have c17 : w.cell? ⟨b, 17, none⟩ = some (.int .u32 x.ib.w3) := Row.cell h 17
  have z17 : w.frozen? ⟨b, 17, none⟩ = false := h.frozen 17
  have c18 : w.cell? ⟨b, 18, none⟩ = some (.bool x.fu) := Row.cell h 18
  have z18 : w.frozen? ⟨b, 18, none⟩ = false := h.frozen 18
  clear h
  go_enter Try.func61, Try.ntmps61
  go_wp2
  refine post_void rfl rfl fun v => ?_
  exact ⟨⟨v, rfl⟩, HF.out, HR.out⟩

end Go.Proofs.Ytjobdfkfongjaaa
