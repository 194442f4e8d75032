/-
  The contract of viceroylaw16.awake over the translation. No statement is proved here.
-/
import Derived.Test.YtjobdfkfongjaaaIpPr
namespace Go.Proofs.Ytjobdfkfongjaaa
open Go.RowKit Go.Maps Go.WideMaps

def m5 : Ms := ⟨5, 0, 0, 0, 0, 0, 0⟩
def m6 : Ms := ⟨6, 0, 0, 0, 0, 0, 0⟩
def A0 : Ip := ip0
def A1 : Ip := recS A0 9 1 true
def A2 : Ip := senS A1 9 2 m5 true true
def A3 : Ip := inbS A2 1
def A4 : Ip := repS A3 1 m6
def A5 : Ip := repS A4 1 M0
def A6 : Ip := sigS A5 7 1
def A7 : Ip := sigS A6 7 4
def A8 : Ip := watS A7 7 5 true
def A9 : Ip := inbS A8 5

set_option maxRecDepth 100000 in
set_option maxHeartbeats 4000000 in
theorem awake_any (w : World) : Calls Try.prog 8 #[] w fun e w' => e = .returned (.bool true) ∧ Fr none' w w' := by
  have hE1 : ∀ w, (binOp .eql 36 (.agg #[.int .i64 5, .int .i64 0, .int .i64 0, .int .u32 0, .int .u32 0, .int .u32 0, .int .u32 0]) (.agg #[.int .i64 5, .int .i64 0, .int .i64 0, .int .u32 0, .int .u32 0, .int .u32 0, .int .u32 0])).run Try.prog w = .ok (.bool true) w := fun w => eql_ms m5 m5 w
  have hE2 : ∀ w, (binOp .eql 36 (.agg #[.int .i64 0, .int .i64 5, .int .i64 0, .int .u32 0, .int .u32 0, .int .u32 0, .int .u32 0]) (.agg #[.int .i64 0, .int .i64 5, .int .i64 0, .int .u32 0, .int .u32 0, .int .u32 0, .int .u32 0])).run Try.prog w = .ok (.bool true) w := fun w => eql_ms (badM 5) (badM 5) w
  go_enter Try.func8, Try.ntmps8
  go_wp2_with fail
  refine (xnew w).mono ?_
  rintro e w1 ⟨b, rfl, P⟩
  replace P : Ix w w1 b A0 _ := P
  go_wp2_with fail
  refine (xrecv P 9 1 true (i64_of (by omega) (by omega)) (i64_of (by omega) (by omega))).mono ?_
  rintro e w2 ⟨rfl, Q, f⟩
  rw [show recN A0 9 1 = -1 by decide +kernel]
  rw [show recG A0 9 1 = false by decide +kernel]
  rw [show recE A0 9 1 = 0 by decide +kernel]
  replace P : Ix w w2 b A1 (fun _ => False) := Q
  clear Q f
  go_wp2_with fail
  refine (xsend P 9 2 m5 true true (i64_of (by omega) (by omega)) (i64_of (by omega) (by omega))).mono ?_
  rintro e w3 ⟨rfl, Q, f⟩
  rw [show senN A1 9 2 m5 = 1 by decide +kernel]
  rw [show senE A1 9 2 m5 = 0 by decide +kernel]
  replace P : Ix w w3 b A2 (fun _ => False) := Q
  clear Q f
  go_wp2_with fail
  refine (xinbox P 1 (i64_of (by omega) (by omega))).mono ?_
  rintro e w4 ⟨rfl, Q, f⟩
  rw [show inbM A2 1 = ⟨5, 0, 0, 0, 0, 0, 0⟩ by rfl]
  rw [show inbG A2 1 = true by decide +kernel]
  replace P : Ix w w4 b A3 (fun _ => False) := Q
  clear Q f
  have rb := row_alloc w4 #[.int .i64 5, .int .i64 0, .int .i64 0, .int .u32 0, .int .u32 0, .int .u32 0, .int .u32 0] 36
  replace P : Ix w (w4.alloc (.cells #[.int .i64 5, .int .i64 0, .int .i64 0, .int .u32 0, .int .u32 0, .int .u32 0, .int .u32 0] 36)) b A3 (at' w4.heap.size) := P.more ((Fr.refl none' _).alloc _) (fun j hj => by have hj' : j = w4.heap.size := hj; exact ⟨Or.inr (by omega), by rw [World.size_alloc]; omega⟩)
  go_wp2_with fail
  generalize w4.alloc (.cells #[.int .i64 5, .int .i64 0, .int .i64 0, .int .u32 0, .int .u32 0, .int .u32 0, .int .u32 0] 36) = w4b at *
  generalize w4.heap.size = nb at *
  go_wp2_with fail
  refine (xstate P 2 (i64_of (by omega) (by omega))).mono ?_
  rintro e w5 ⟨rfl, f⟩
  rw [show plcS A3 2 = 4 by decide +kernel]
  rw [show plcO A3 2 = 1 by decide +kernel]
  replace rb := Row.keep rb f (fun h => h)
  replace P := P.keep0 f
  clear f
  go_wp2_with fail
  refine (xcaller P 1).mono ?_
  rintro e w6 ⟨rfl, f⟩
  rw [show forN A3 1 = 2 by decide +kernel]
  replace rb := Row.keep rb f (fun h => h)
  replace P := P.keep0 f
  clear f
  go_wp2_with fail
  refine (xreply P 1 m6).mono ?_
  rintro e w7 ⟨rfl, Q, f⟩
  rw [show repN A3 1 m6 = 2 by decide +kernel]
  rw [show repE A3 1 m6 = 0 by decide +kernel]
  replace rb := Row.keep rb f (fun h => h.2 rfl)
  replace P : Ix w w7 b A4 (at' nb) := Q
  clear Q f
  go_wp2_with fail
  refine (xreply P 1 M0).mono ?_
  rintro e w8 ⟨rfl, Q, f⟩
  rw [show repN A4 1 M0 = -1 by decide +kernel]
  rw [show repE A4 1 M0 = 161 by decide +kernel]
  replace rb := Row.keep rb f (fun h => h.2 rfl)
  replace P : Ix w w8 b A5 (at' nb) := Q
  clear Q f
  go_wp2_with fail
  refine (xsignal P 7 1).mono ?_
  rintro e w9 ⟨rfl, Q, f⟩
  rw [show sigN A5 7 1 = -1 by decide +kernel]
  rw [show sigE 7 1 = 0 by decide +kernel]
  replace rb := Row.keep rb f (fun h => h.2 rfl)
  replace P : Ix w w9 b A6 (at' nb) := Q
  clear Q f
  go_wp2_with fail
  refine (xsignal P 7 4).mono ?_
  rintro e w10 ⟨rfl, Q, f⟩
  rw [show sigN A6 7 4 = -1 by decide +kernel]
  rw [show sigE 7 4 = 0 by decide +kernel]
  replace rb := Row.keep rb f (fun h => h.2 rfl)
  replace P : Ix w w10 b A7 (at' nb) := Q
  clear Q f
  go_wp2_with fail
  refine (xwait P 7 5 true (i64_of (by omega) (by omega))).mono ?_
  rintro e w11 ⟨rfl, Q, f⟩
  rw [show watG A7 7 5 = true by decide +kernel]
  rw [show watE A7 7 5 = 0 by decide +kernel]
  replace rb := Row.keep rb f (fun h => h.2 rfl)
  replace P : Ix w w11 b A8 (at' nb) := Q
  clear Q f
  go_wp2_with fail
  refine (xinbox P 5 (i64_of (by omega) (by omega))).mono ?_
  rintro e w12 ⟨rfl, Q, f⟩
  rw [show inbM A8 5 = ⟨0, 5, 0, 0, 0, 0, 0⟩ by rfl]
  rw [show inbG A8 5 = true by decide +kernel]
  replace rb := Row.keep rb f (fun h => h.2 rfl)
  replace P : Ix w w12 b A9 (at' nb) := Q
  clear Q f
  have F9 := P.old.alloc (.cells #[.int .i64 0, .int .i64 5, .int .i64 0, .int .u32 0, .int .u32 0, .int .u32 0, .int .u32 0] 36)
  have rb2 := rb.alloc (.cells #[.int .i64 0, .int .i64 5, .int .i64 0, .int .u32 0, .int .u32 0, .int .u32 0, .int .u32 0] 36)
  have c0 := rb2.cell 0
  have c1 := rb2.cell 1
  have c2 := rb2.cell 2
  have c3 := rb2.cell 3
  have c4 := rb2.cell 4
  have c5 := rb2.cell 5
  have c6 := rb2.cell 6
  dsimp at c0 c1 c2 c3 c4 c5 c6
  clear rb rb2 P
  go_wp2_with fail
  go_ret
  exact ⟨rfl, F9⟩

end Go.Proofs.Ytjobdfkfongjaaa
