/-
  The walk of VcpuPlays. No statement is proved here.
-/
import Derived.Test.YthkieoedidpkaaaVcSame
import Derived.Test.YthkieoedidpkaaaVcAwake
import Derived.Below
namespace Go.Proofs.Ythkieoedidpkaaa
open Go.RowKit Go.Maps Go.WideMaps

theorem bel_of {w w' : World} (h : Fr none' w w') : Below w.heap.size w w' := ⟨h.os, h.tape, h.output, h.size, fun i hi => h.block i hi (fun h => h)⟩
theorem Bx.start {w0 w1 w2 : World} {p : Pp} {q : Qd} {S R : Vp} (h : Vx w0 w1 p S none') (f : Fr none' w1 w2) (d : IsD w2 q R) (hq : ∀ k, q.s k → w1.heap.size ≤ k) : Bx w0 w2 p q S R none' :=
  ⟨h.keep0 f, d, fun k hk => ⟨Nat.le_trans h.fr.size (hq k hk), fun h => h, fun hp => by have := h.is.lt k hp; have := hq k hk; omega⟩⟩
set_option maxRecDepth 100000 in
set_option maxHeartbeats 4000000 in
theorem lplays_any (lrs : Int) (a0 : Option Addr) (len cap : Nat) (W : World) (hl : len ≤ 9223372036854775807) (hA : ∃ A, Acs W a0 len A) :
    Calls Try.prog 3 #[.int .i64 lrs, .slice a0 len cap] W fun e W' => e = .returned (.bool true) ∧ Below W.heap.size W W' := by
  obtain ⟨A, hA⟩ := hA
  have HA : Hid (Acs W a0 len A) := hA
  clear hA
  cases hr : rgB lrs 1 16 with
  | false =>
    go_enter Try.func3, Try.ntmps3
    go_wp2_with fail
    refine (awake_any W).mono ?_
    rintro e w1 ⟨rfl, F0⟩
    have HF : Hid (Fr none' W w1) := F0
    clear F0
    go_wp2_with fail
    refine (newV_bad w1 lrs hr).mono ?_
    rintro e w2 ⟨rfl, rfl⟩
    go_wp2_with fail
    refine (dnew_bad w2 lrs hr).mono ?_
    rintro e w3 ⟨rfl, rfl⟩
    clear hr
    go_wp2_with fail
    go_ret
    exact ⟨rfl, bel_of HF.out⟩
  | true =>
    go_enter Try.func3, Try.ntmps3
    go_wp2_with fail
    refine (awake_any W).mono ?_
    rintro e w1 ⟨rfl, F0⟩
    have HF : Hid (Fr none' W w1) := F0
    clear F0
    go_wp2_with fail
    refine (xnew w1 lrs hr).mono ?_
    rintro e w2 ⟨p, rfl, P⟩
    go_wp2_with fail
    refine (dnew_ok w2 lrs hr).mono ?_
    rintro e w3 ⟨q, rfl, f3, D, hq⟩
    have HB : Hid (∃ p' q' S, p'.b = p.b ∧ q'.b = q.b ∧ Bx w1 w3 p' q' S S none') := ⟨p, q, _, rfl, rfl, Bx.start P f3 D hq⟩
    clear P f3 D hq hr
    generalize p.b = bp at *
    generalize q.b = bq at *
    go_wp2_with fail
    go_loopw [10] (fun i wr => ∃ k : Nat, k ≤ len ∧ k ≤ 100 ∧ i = .int .i64 (k : Int) ∧ Hid (∃ p' q' S, p'.b = bp ∧ q'.b = bq ∧ Bx w1 wr p' q' S S none')) (fun i _ => 100 - (intOf i).toNat)
    case atStart => exact ⟨0, by omega, by omega, rfl, HB.out⟩
    case round =>
      clear HB p q
      obtain ⟨k, hk, hk2, rfl, hb⟩ := hrel
      obtain ⟨p, q, S, ep, eq, hB⟩ := hb.out
      by_cases hlt : k < len
      · by_cases hlt2 : k < 100
        · obtain ⟨bb, o, rfl, ak, ok⟩ := (HA.out.keep' (HF.out.trans hB.vx.fr)) k hlt
          have i1 : 0 ≤ (k : Int) ∧ (k : Int) < (len : Int) := by omega
          have uk1 : decide ((k : Int) < (len : Int)) = true := decide_eq_true (by omega)
          have uk2 : decide ((k : Int) < 100) = true := decide_eq_true (by omega)
          have c0 : wr.cell? ⟨bb, o + k * 13, none⟩ = some (.int .i64 (A k).d) := ak 0 (by omega)
          have c1 : wr.cell? ⟨bb, o + k * 13 + 1, none⟩ = some (.int .i64 (A k).i) := ak 1 (by omega)
          have c2 : wr.cell? ⟨bb, o + k * 13 + 2, none⟩ = some (.int .i64 (A k).n) := ak 2 (by omega)
          have c3 : wr.cell? ⟨bb, o + k * 13 + 3, none⟩ = some (.int .i64 (A k).m) := ak 3 (by omega)
          have c4 : wr.cell? ⟨bb, o + k * 13 + 4, none⟩ = some (.int .u32 ((A k).b 0)) := ak 4 (by omega)
          have c5 : wr.cell? ⟨bb, o + k * 13 + 5, none⟩ = some (.int .u32 ((A k).b 1)) := ak 5 (by omega)
          have c6 : wr.cell? ⟨bb, o + k * 13 + 6, none⟩ = some (.int .u32 ((A k).b 2)) := ak 6 (by omega)
          have c7 : wr.cell? ⟨bb, o + k * 13 + 7, none⟩ = some (.int .u32 ((A k).b 3)) := ak 7 (by omega)
          have c8 : wr.cell? ⟨bb, o + k * 13 + 8, none⟩ = some (.int .u32 ((A k).b 4)) := ak 8 (by omega)
          have c9 : wr.cell? ⟨bb, o + k * 13 + 9, none⟩ = some (.int .u32 ((A k).b 5)) := ak 9 (by omega)
          have c10 : wr.cell? ⟨bb, o + k * 13 + 10, none⟩ = some (.int .u32 ((A k).b 6)) := ak 10 (by omega)
          have c11 : wr.cell? ⟨bb, o + k * 13 + 11, none⟩ = some (.int .u32 ((A k).b 7)) := ak 11 (by omega)
          have c12 : wr.cell? ⟨bb, o + k * 13 + 12, none⟩ = some (.bool (A k).on) := ak 12 (by omega)
          have X := does_any w1 wr p q S S none' hB (A k) ok (fun _ => rfl)
          rw [ep, eq] at X
          unfold acA at X
          have HE : Hid (p.b = bp ∧ q.b = bq) := ⟨ep, eq⟩
          clear ok ak hB hb ep eq
          go_wp2_with fail
          refine X.mono ?_
          clear X c0 c1 c2 c3 c4 c5 c6 c7 c8 c9 c10 c11 c12
          rintro e w4 ⟨v, rfl, hv, p', q', b4, e1, e2, _⟩
          obtain rfl : v = true := hv rfl
          have HP4 : Hid (p'.b = bp ∧ q'.b = bq ∧ Bx w1 w4 p' q' _ _ none') := ⟨e1.trans HE.out.1, e2.trans HE.out.2, b4⟩
          have Y := same_any w1 w4 p' q' _ b4
          rw [HP4.out.1, HP4.out.2.1] at Y
          clear b4 e1 e2 hv
          go_wp2_with fail
          refine Y.mono ?_
          clear Y
          rintro e w5 ⟨rfl, f5⟩
          have HB : Hid (∃ p' q' S, p'.b = bp ∧ q'.b = bq ∧ Bx w1 w5 p' q' S S none') := ⟨p', q', _, HP4.out.1, HP4.out.2.1, HP4.out.2.2.keep0 f5⟩
          clear f5
          go_wp2_with fail
          go_roundw
          case rel => exact ⟨k + 1, by omega, by omega, by go_num, HB⟩
          case measure => simp [intOf]; omega
        · have uk1 : decide ((k : Int) < (len : Int)) = true := decide_eq_true (by omega)
          have uk2 : decide ((k : Int) < 100) = false := decide_eq_false (by omega)
          have HP : Hid (Vx w1 wr p S none') := hB.vx
          clear hB hb eq ep
          go_wp2_with fail
          go_ret
          exact ⟨rfl, bel_of (HF.out.trans HP.out.fr)⟩
      · have uk1 : decide ((k : Int) < (len : Int)) = false := decide_eq_false (by omega)
        have HP : Hid (Vx w1 wr p S none') := hB.vx
        clear hB hb eq ep
        go_wp2_with fail
        go_ret
        exact ⟨rfl, bel_of (HF.out.trans HP.out.fr)⟩

end Go.Proofs.Ythkieoedidpkaaa
