/-
  Proved: the statement IpcLeavesSaid: for every list of acts, an endpoint, a thread, a message and either call the law IpcLeaves of the Go text returns true, and each argument reads afterwards as it read before. No condition but the form's own.
-/
import Derived.Test.YtjobdfkfongjaaaIpIn2
import Derived.Test.YtjobdfkfongjaaaIpBo
/- IpLvsW -/
namespace Go.Proofs.Ytjobdfkfongjaaa
open Go.RowKit Go.Maps Go.WideMaps Go.Shelf

/-- Two Ipcs of the law's own, apart. -/
structure Tw (w0 w : World) (p1 p2 : Pb) (S1 S2 : Ip) : Prop where
  i1 : IsI w p1 S1
  i2 : IsI w p2 S2
  o1 : Ok S1
  o2 : Ok S2
  ap : ∀ k, p1.s S1 k → ¬ p2.s S2 k
  h1 : ∀ k, p1.s S1 k → w0.heap.size ≤ k
  h2 : ∀ k, p2.s S2 k → w0.heap.size ≤ k
  fr : Fr none' w0 w
section
variable {w0 w w1 : World} {p1 p2 p1' p2' : Pb} {S1 S2 S1' S2' : Ip}
theorem Tw.keep0 (h : Tw w0 w p1 p2 S1 S2) (f : Fr none' w w1) : Tw w0 w1 p1 p2 S1 S2 := ⟨h.i1.keep0 f, h.i2.keep0 f, h.o1, h.o2, h.ap, h.h1, h.h2, h.fr.trans f⟩
theorem Tw.in1 (h : Tw w0 w p1 p2 S1 S2) (c : In w p1 S1 p1.b w1 p1' S1') : Tw w0 w1 p1' p2 S1' S2 := by
  refine ⟨c.chg.is, h.i2.keep c.chg.fr (fun k hk hS => h.ap k hS hk), c.ok, h.o2, fun k hk h2 => ?_, fun k hk => ?_, h.h2, fr_high h.fr c.chg.fr h.h1⟩
  · rcases c.chg.new k hk with e | e
    · exact h.ap k e h2
    · have := h.i2.lt k h2; omega
  · rcases c.chg.new k hk with e | e
    · exact h.h1 k e
    · exact Nat.le_trans h.fr.size e
theorem Tw.in2 (h : Tw w0 w p1 p2 S1 S2) (c : In w p2 S2 p2.b w1 p2' S2') : Tw w0 w1 p1 p2' S1 S2' := by
  refine ⟨h.i1.keep c.chg.fr (fun k hk hS => h.ap k hk hS), c.chg.is, h.o1, c.ok, fun k hk h2 => ?_, h.h1, fun k hk => ?_, fr_high h.fr c.chg.fr h.h2⟩
  · rcases c.chg.new k h2 with e | e
    · exact h.ap k hk e
    · have := h.i1.lt k hk; omega
  · rcases c.chg.new k hk with e | e
    · exact h.h2 k e
    · exact Nat.le_trans h.fr.size e
theorem Tw.start {w2 : World} {b1 b2 : Nat} {S : Ip} (h1 : Ix w0 w b1 S (fun _ => False)) (h2 : Ix w w2 b2 S (fun _ => False)) : ∃ p1 p2, p1.b = b1 ∧ p2.b = b2 ∧ Tw w0 w2 p1 p2 S S := by
  obtain ⟨p1, e1, a1, a2, _, a4, a5⟩ := h1
  obtain ⟨p2, e2, c1, c2, _, c4, _⟩ := h2
  refine ⟨p1, p2, e1, e2, a1.keep0 c4, c1, a5, a5, fun k hk hk2 => ?_, fun k hk => (a2 k hk).1, fun k hk => Nat.le_trans a4.size (c2 k hk).1, a4.trans c4⟩
  have := a1.lt k hk
  have := (c2 k hk2).1
  omega
end
theorem sen_leaves {S : Ip} (ok : Ok S) (ep t : Int) (m : Ms) (call : Bool) : (senE S ep t m = 0 ∧ 0 ≤ senN S ep t m) ∨ (senE S ep t m = 0 ∧ senN S ep t m = -1 ∧ senS S ep t m call false = S) ∨ ((senE S ep t m == 0) = false ∧ senN S ep t m = -1 ∧ senS S ep t m call false = S) := by
  unfold senN senS
  by_cases e : senE S ep t m = 0
  · rw [if_pos e, if_pos e]
    cases hf : firO S 3 ep with
    | none => exact Or.inr (Or.inl ⟨e, rfl, rfl⟩)
    | some r =>
      obtain ⟨u, hu, _⟩ := ok.first hf
      exact Or.inl ⟨e, (fnd_pos ok.gl hu).1⟩
  · rw [if_neg e, if_neg e]
    exact Or.inr (Or.inr ⟨by simpa using e, rfl, rfl⟩)

set_option maxRecDepth 100000 in
set_option maxHeartbeats 8000000 in
theorem lleaves_any (a0 : Option Addr) (len cap : Nat) (ep t : Int) (m : Ms) (call : Bool) (W : World) (hl : len ≤ 9223372036854775807) (hA : ∃ A, Acs W a0 len A) (he : I64 ep) (ht : I64 t) :
    Calls Try.prog 7 #[.slice a0 len cap, .int .i64 ep, .int .i64 t, msV m, .bool call] W fun e W' => e = .returned (.bool true) ∧ Below W.heap.size W W' := by
  obtain ⟨A, hA⟩ := hA
  have f0 := (Fr.refl none' W).alloc (.cells (msA m) 36)
  have r0 := row_alloc W (msA m) 36
  have HA : Hid (Acs (W.alloc (.cells (msA m) 36)) a0 len A ∧ Row (W.alloc (.cells (msA m) 36)) W.heap.size (msA m) 36 ∧ Fr none' W (W.alloc (.cells (msA m) 36))) := ⟨hA.keep' f0, r0, f0⟩
  have HT : Hid (I64 ep ∧ I64 t) := ⟨he, ht⟩
  dsimp only [msA] at HA
  clear hA he ht f0 r0
  go_enter Try.func7, Try.ntmps7
  go_wp2_with fail
  generalize hW0 : (W.alloc (.cells #[.int .i64 m.l, .int .i64 m.b, .int .i64 m.n, .int .u32 m.w0, .int .u32 m.w1, .int .u32 m.w2, .int .u32 m.w3] 36)) = W0 at *
  clear hW0
  refine (awake_any W0).mono ?_
  rintro e w1 ⟨rfl, F0⟩
  have HP : Hid _ := played_any w1 a0 len cap A (HA.out.1.keep' F0) hl
  have HF : Hid (Fr none' W0 w1) := F0
  clear F0
  go_wp2_with fail
  refine Calls.mono HP.out ?_
  clear HP
  rintro e w2 ⟨b1, r1, K1, rfl, k1, x1, _⟩
  have HP : Hid _ := played_any w2 a0 len cap A (HA.out.1.keep' (HF.out.trans x1.old)) hl
  have HX : Hid (Ix w1 w2 b1 (plS A K1) (fun _ => False)) := x1
  clear x1
  go_wp2_with fail
  refine Calls.mono HP.out ?_
  clear HP
  rintro e w3 ⟨b2, r2, K2, rfl, k2, x2, _⟩
  obtain rfl : K1 = K2 := by omega
  obtain ⟨p1, p2, e1, e2, tw⟩ := Tw.start HX.out x2
  have ok : Ok (plS A K1) := tw.o1
  generalize plS A K1 = S at *
  have HW : Hid (p1.b = b1 ∧ p2.b = b2 ∧ Tw w1 w3 p1 p2 S S) := ⟨e1, e2, tw⟩
  have R3 := Row.keep HA.out.2.1 (HF.out.trans tw.fr) (fun h => h)
  obtain ⟨y0, y1, y2, y3, y4, y5, y6⟩ := box7 (m := m) R3
  have X := (In.start tw.i1 tw.o1).send ep t m call false HT.out.1 HT.out.2
  rw [e1] at X
  have HB : Hid (Below W.heap.size W w3) := (HA.out.2.2.trans (HF.out.trans tw.fr)).below (Nat.le_refl _) (fun _ h => h.elim)
  have HSL : Hid _ := sen_leaves ok ep t m call
  clear x2 e1 e2 tw ok R3 HX k1 k2
  go_wp2_with fail
  refine X.mono ?_
  clear X y0 y1 y2 y3 y4 y5 y6
  rintro e w4 ⟨p1', rfl, c4, _⟩
  have tw4 := HW.out.2.2.in1 (by rw [HW.out.1]; exact c4)
  have HW4 : Hid (p1'.b = b1 ∧ p2.b = b2 ∧ Tw w1 w4 p1' p2 (senS S ep t m call false) S) := ⟨c4.eb, HW.out.2.1, tw4⟩
  clear c4 tw4 HW HB
  have HBT : Hid (∀ (wz : World) (q1 q2 : Pb) (T1 T2 : Ip), Tw w1 wz q1 q2 T1 T2 → Below W.heap.size W wz) := fun wz q1 q2 T1 T2 h => (HA.out.2.2.trans (HF.out.trans h.fr)).below (Nat.le_refl _) (fun _ h => h.elim)
  rcases HSL.out with ⟨s1, s2⟩ | ⟨s1, s2, s3⟩ | ⟨s1, s2, s3⟩
  · have d2 : decide (0 ≤ senN S ep t m) = true := decide_eq_true s2
    rw [s1]
    have HB : Hid (Below W.heap.size W w4) := HBT.out _ _ _ _ _ HW4.out.2.2
    clear s1 s2 HSL
    go_wp2_with fail
    go_ret
    exact ⟨rfl, HB.out⟩
  · rw [s1, s2]
    rw [s3] at HW4
    clear s1 s2 s3 HSL
    go_wp2_with fail
    go_loopw [18] (fun i wr => ∃ n : Nat, n ≤ 8 ∧ i = .int .i64 (n : Int) ∧ Hid (∃ q1 q2 T, q1.b = b1 ∧ q2.b = b2 ∧ Tw w1 wr q1 q2 T T)) (fun i _ => 8 - (intOf i).toNat)
    case atStart => exact ⟨0, by omega, rfl, _, _, _, HW4.out⟩
    case round =>
      clear HW4
      obtain ⟨n, hn, rfl, hL⟩ := hrel
      obtain ⟨q1, q2, T, b1e, b2e, tw⟩ := hL.out
      by_cases h8 : n < 8
      · have d8 : decide ((n : Int) < 8) = true := decide_eq_true (by omega)
        have n64 : I64 (n : Int) := i64_of (by omega) (by omega)
        have X := (In.start tw.i1 tw.o1).state n n64
        rw [b1e] at X
        have H : Hid (q1.b = b1 ∧ q2.b = b2 ∧ Tw w1 wr q1 q2 T T ∧ I64 (n : Int)) := ⟨b1e, b2e, tw, n64⟩
        clear hL b1e b2e tw n64
        go_wp2_with fail
        refine X.mono ?_
        clear X
        rintro e w5 ⟨rfl, f5⟩
        have H5 : Hid (Tw w1 w5 q1 q2 T T) := H.out.2.2.1.keep0 f5
        have X := (In.start H5.out.i2 H5.out.o2).state n H.out.2.2.2
        rw [H.out.2.1] at X
        clear f5
        generalize plcS T (n : Int) = vs at *
        generalize plcO T (n : Int) = vo at *
        go_wp2_with fail
        refine X.mono ?_
        clear X
        rintro e w6 ⟨rfl, f6⟩
        have H6 : Hid (Tw w1 w6 q1 q2 T T) := H5.out.keep0 f6
        have X := waiting_any w6 q1 T H6.out.i1 H6.out.o1 n H.out.2.2.2
        rw [H.out.1] at X
        clear f6 H5
        go_wp2_with fail
        refine X.mono ?_
        clear X
        rintro e w7 ⟨v1, rfl, f7, o7⟩
        have H7 : Hid (Tw w1 w7 q1 q2 T T) := H6.out.keep0 f7
        have X := waiting_any w7 q2 T H7.out.i2 H7.out.o2 n H.out.2.2.2
        rw [H.out.2.1] at X
        have HO7 : Hid (OI w6.heap.size w7 v1 (waiL T (n : Int))) := o7
        clear f7 o7 H6
        go_wp2_with fail
        refine X.mono ?_
        clear X
        rintro e w8 ⟨v2, rfl, f8, o8⟩
        have H8 : Hid (Tw w1 w8 q1 q2 T T) := H7.out.keep0 f8
        have hlen : (waiL T (n : Int)).length ≤ 100000 := by
          unfold waiL
          have h1 := H8.out.o1.len 2 (n : Int)
          have h2 := H8.out.o1.len 3 (n : Int)
          rw [List.length_append]
          omega
        have X := ints_any (HO7.out.keep0 f8) o8 hlen
        clear f8 o8 H7 HO7 hlen
        go_wp2_with fail
        refine X.mono ?_
        clear X
        rintro e w9 ⟨rfl, f9⟩
        have H9 : Hid (Tw w1 w9 q1 q2 T T) := H8.out.keep0 f9
        have X := (In.start H9.out.i1 H9.out.o1).callr n
        obtain ⟨vc, hvc⟩ : ∃ vc, vc = forN T (n : Int) := ⟨_, rfl⟩
        rw [H.out.1, ← hvc] at X
        have HVC : Hid (vc = forN T (n : Int)) := hvc
        clear f9 H8 hvc
        go_wp2_with fail
        refine X.mono ?_
        clear X
        rintro e w10 ⟨rfl, f10⟩
        have H10 : Hid (Tw w1 w10 q1 q2 T T) := H9.out.keep0 f10
        have X := (In.start H10.out.i2 H10.out.o2).callr n
        rw [H.out.2.1, ← HVC.out] at X
        clear f10 H9
        go_wp2_with fail
        refine X.mono ?_
        clear X
        rintro e w11 ⟨rfl, f11⟩
        have H11 : Hid (Tw w1 w11 q1 q2 T T) := H10.out.keep0 f11
        have X := (In.start H11.out.i1 H11.out.o1).inbox n H.out.2.2.2
        rw [H.out.1] at X
        obtain ⟨mi, hmi⟩ : ∃ mi, mi = inbM T (n : Int) := ⟨_, rfl⟩
        obtain ⟨gi, hgi⟩ : ∃ gi, gi = inbG T (n : Int) := ⟨_, rfl⟩
        rw [← hmi, ← hgi] at X
        have HM : Hid (mi = inbM T (n : Int) ∧ gi = inbG T (n : Int)) := ⟨hmi, hgi⟩
        clear f11 H10 hmi hgi
        go_wp2_with fail
        refine X.mono ?_
        clear X
        rintro e w12 ⟨rfl, c12, _⟩
        have H12 : Hid (Tw w1 w12 q1 q2 (inbS T (n : Int)) T) := H11.out.in1 (by rw [H.out.1]; exact c12)
        have tw13 := H12.out.keep0 ((Fr.refl none' w12).alloc (.cells (msA mi) 36))
        have r13 := row_alloc w12 (msA mi) 36
        have X := (In.start tw13.i2 tw13.o2).inbox n H.out.2.2.2
        rw [H.out.2.1, ← HM.out.1, ← HM.out.2] at X
        have H13 : Hid (Tw w1 (w12.alloc (.cells (msA mi) 36)) q1 q2 (inbS T (n : Int)) T ∧ Row (w12.alloc (.cells (msA mi) 36)) w12.heap.size (msA mi) 36) := ⟨tw13, r13⟩
        dsimp only [msA] at X H13
        clear c12 H11 tw13 r13
        go_wp2_with fail
        refine X.mono ?_
        clear X
        rintro e w14 ⟨rfl, c14, _⟩
        have tw14 := H13.out.1.in2 (by rw [H.out.2.1]; exact c14)
        have r14 : Row w14 w12.heap.size (msA mi) 36 := H13.out.2.keep c14.chg.fr (fun hk => by have := H12.out.i2.lt _ hk; omega)
        have r15 := r14.alloc (.cells (msA mi) 36)
        have r16 := row_alloc w14 (msA mi) 36
        have HE : Hid (∃ q1 q2 T, q1.b = b1 ∧ q2.b = b2 ∧ Tw w1 (w14.alloc (.cells (msA mi) 36)) q1 q2 T T) := ⟨_, _, _, H.out.1, c14.eb, tw14.keep0 ((Fr.refl none' w14).alloc _)⟩
        obtain ⟨y0, y1, y2, y3, y4, y5, y6⟩ := box7 (m := mi) r15
        obtain ⟨z0, z1, z2, z3, z4, z5, z6⟩ := box7 (m := mi) r16
        have HN : ∀ w, (binOp .neq 36 (msV mi) (msV mi)).run Try.prog w = .ok (.bool false) w := fun w => by rw [neq_ms, eqM_iff.2 rfl]; rfl
        dsimp only [msA] at HE y0 y1 y2 y3 y4 y5 y6 z0 z1 z2 z3 z4 z5 z6
        dsimp only [msV] at HN
        clear c14 tw14 r14 r15 r16 H12 H13
        go_wp2_with fail
        go_roundw
        case rel => exact ⟨n + 1, by omega, by go_num, HE⟩
        case measure => simp [intOf]; omega
      · obtain rfl : n = 8 := by omega
        have HB : Hid (Below W.heap.size W wr) := HBT.out _ _ _ _ _ tw
        clear hL tw
        go_wp2_with fail
        go_ret
        exact ⟨rfl, HB.out⟩
  · rw [s2]
    rw [s3] at HW4
    clear  s2 s3 HSL
    go_wp2_with fail
    go_loopw [18] (fun i wr => ∃ n : Nat, n ≤ 8 ∧ i = .int .i64 (n : Int) ∧ Hid (∃ q1 q2 T, q1.b = b1 ∧ q2.b = b2 ∧ Tw w1 wr q1 q2 T T)) (fun i _ => 8 - (intOf i).toNat)
    case atStart => exact ⟨0, by omega, rfl, _, _, _, HW4.out⟩
    case round =>
      clear HW4
      obtain ⟨n, hn, rfl, hL⟩ := hrel
      obtain ⟨q1, q2, T, b1e, b2e, tw⟩ := hL.out
      by_cases h8 : n < 8
      · have d8 : decide ((n : Int) < 8) = true := decide_eq_true (by omega)
        have n64 : I64 (n : Int) := i64_of (by omega) (by omega)
        have X := (In.start tw.i1 tw.o1).state n n64
        rw [b1e] at X
        have H : Hid (q1.b = b1 ∧ q2.b = b2 ∧ Tw w1 wr q1 q2 T T ∧ I64 (n : Int)) := ⟨b1e, b2e, tw, n64⟩
        clear hL b1e b2e tw n64
        go_wp2_with fail
        refine X.mono ?_
        clear X
        rintro e w5 ⟨rfl, f5⟩
        have H5 : Hid (Tw w1 w5 q1 q2 T T) := H.out.2.2.1.keep0 f5
        have X := (In.start H5.out.i2 H5.out.o2).state n H.out.2.2.2
        rw [H.out.2.1] at X
        clear f5
        generalize plcS T (n : Int) = vs at *
        generalize plcO T (n : Int) = vo at *
        go_wp2_with fail
        refine X.mono ?_
        clear X
        rintro e w6 ⟨rfl, f6⟩
        have H6 : Hid (Tw w1 w6 q1 q2 T T) := H5.out.keep0 f6
        have X := waiting_any w6 q1 T H6.out.i1 H6.out.o1 n H.out.2.2.2
        rw [H.out.1] at X
        clear f6 H5
        go_wp2_with fail
        refine X.mono ?_
        clear X
        rintro e w7 ⟨v1, rfl, f7, o7⟩
        have H7 : Hid (Tw w1 w7 q1 q2 T T) := H6.out.keep0 f7
        have X := waiting_any w7 q2 T H7.out.i2 H7.out.o2 n H.out.2.2.2
        rw [H.out.2.1] at X
        have HO7 : Hid (OI w6.heap.size w7 v1 (waiL T (n : Int))) := o7
        clear f7 o7 H6
        go_wp2_with fail
        refine X.mono ?_
        clear X
        rintro e w8 ⟨v2, rfl, f8, o8⟩
        have H8 : Hid (Tw w1 w8 q1 q2 T T) := H7.out.keep0 f8
        have hlen : (waiL T (n : Int)).length ≤ 100000 := by
          unfold waiL
          have h1 := H8.out.o1.len 2 (n : Int)
          have h2 := H8.out.o1.len 3 (n : Int)
          rw [List.length_append]
          omega
        have X := ints_any (HO7.out.keep0 f8) o8 hlen
        clear f8 o8 H7 HO7 hlen
        go_wp2_with fail
        refine X.mono ?_
        clear X
        rintro e w9 ⟨rfl, f9⟩
        have H9 : Hid (Tw w1 w9 q1 q2 T T) := H8.out.keep0 f9
        have X := (In.start H9.out.i1 H9.out.o1).callr n
        obtain ⟨vc, hvc⟩ : ∃ vc, vc = forN T (n : Int) := ⟨_, rfl⟩
        rw [H.out.1, ← hvc] at X
        have HVC : Hid (vc = forN T (n : Int)) := hvc
        clear f9 H8 hvc
        go_wp2_with fail
        refine X.mono ?_
        clear X
        rintro e w10 ⟨rfl, f10⟩
        have H10 : Hid (Tw w1 w10 q1 q2 T T) := H9.out.keep0 f10
        have X := (In.start H10.out.i2 H10.out.o2).callr n
        rw [H.out.2.1, ← HVC.out] at X
        clear f10 H9
        go_wp2_with fail
        refine X.mono ?_
        clear X
        rintro e w11 ⟨rfl, f11⟩
        have H11 : Hid (Tw w1 w11 q1 q2 T T) := H10.out.keep0 f11
        have X := (In.start H11.out.i1 H11.out.o1).inbox n H.out.2.2.2
        rw [H.out.1] at X
        obtain ⟨mi, hmi⟩ : ∃ mi, mi = inbM T (n : Int) := ⟨_, rfl⟩
        obtain ⟨gi, hgi⟩ : ∃ gi, gi = inbG T (n : Int) := ⟨_, rfl⟩
        rw [← hmi, ← hgi] at X
        have HM : Hid (mi = inbM T (n : Int) ∧ gi = inbG T (n : Int)) := ⟨hmi, hgi⟩
        clear f11 H10 hmi hgi
        go_wp2_with fail
        refine X.mono ?_
        clear X
        rintro e w12 ⟨rfl, c12, _⟩
        have H12 : Hid (Tw w1 w12 q1 q2 (inbS T (n : Int)) T) := H11.out.in1 (by rw [H.out.1]; exact c12)
        have tw13 := H12.out.keep0 ((Fr.refl none' w12).alloc (.cells (msA mi) 36))
        have r13 := row_alloc w12 (msA mi) 36
        have X := (In.start tw13.i2 tw13.o2).inbox n H.out.2.2.2
        rw [H.out.2.1, ← HM.out.1, ← HM.out.2] at X
        have H13 : Hid (Tw w1 (w12.alloc (.cells (msA mi) 36)) q1 q2 (inbS T (n : Int)) T ∧ Row (w12.alloc (.cells (msA mi) 36)) w12.heap.size (msA mi) 36) := ⟨tw13, r13⟩
        dsimp only [msA] at X H13
        clear c12 H11 tw13 r13
        go_wp2_with fail
        refine X.mono ?_
        clear X
        rintro e w14 ⟨rfl, c14, _⟩
        have tw14 := H13.out.1.in2 (by rw [H.out.2.1]; exact c14)
        have r14 : Row w14 w12.heap.size (msA mi) 36 := H13.out.2.keep c14.chg.fr (fun hk => by have := H12.out.i2.lt _ hk; omega)
        have r15 := r14.alloc (.cells (msA mi) 36)
        have r16 := row_alloc w14 (msA mi) 36
        have HE : Hid (∃ q1 q2 T, q1.b = b1 ∧ q2.b = b2 ∧ Tw w1 (w14.alloc (.cells (msA mi) 36)) q1 q2 T T) := ⟨_, _, _, H.out.1, c14.eb, tw14.keep0 ((Fr.refl none' w14).alloc _)⟩
        obtain ⟨y0, y1, y2, y3, y4, y5, y6⟩ := box7 (m := mi) r15
        obtain ⟨z0, z1, z2, z3, z4, z5, z6⟩ := box7 (m := mi) r16
        have HN : ∀ w, (binOp .neq 36 (msV mi) (msV mi)).run Try.prog w = .ok (.bool false) w := fun w => by rw [neq_ms, eqM_iff.2 rfl]; rfl
        dsimp only [msA] at HE y0 y1 y2 y3 y4 y5 y6 z0 z1 z2 z3 z4 z5 z6
        dsimp only [msV] at HN
        clear c14 tw14 r14 r15 r16 H12 H13
        go_wp2_with fail
        go_roundw
        case rel => exact ⟨n + 1, by omega, by go_num, HE⟩
        case measure => simp [intOf]; omega
      · obtain rfl : n = 8 := by omega
        have HB : Hid (Below W.heap.size W wr) := HBT.out _ _ _ _ _ tw
        clear hL tw
        go_wp2_with fail
        go_ret
        exact ⟨rfl, HB.out⟩

end Go.Proofs.Ytjobdfkfongjaaa

/- IpLvsP -/
namespace Go.Proofs.Ytjobdfkfongjaaa
open Go.ChangeShapes Go.WideShapes Go.ChangeAt Go.RowKit Go.Deep

set_option maxRecDepth 100000 in
theorem lleaves_lifted (os : Os) (started : os.Started) (H : Type) (enc : TypeId × Value → H) :
    ReturnsInHanded {} Try.checked os 7 .any (Rows.ipcLeavesSpec.pre6 enc Try.prog Try.f7 Rows.ipcLeavesRow.domain false) (Rows.ipcLeavesSpec.post enc Try.prog Try.f7 false true false false) := by
  refine returnsInHanded_of_change (C := Try.checked) own_knob started (by kernel_rfl) Try.func7
    (ChangeSpec.witness6 (enc := enc) (C := Try.checked) false ⟨#[], #[.slice none 0 0, .int .i64 0, .int .i64 0, .agg #[.int .i64 0, .int .i64 0, .int .i64 0, .int .u32 0, .int .u32 0, .int .u32 0, .int .u32 0], .bool false], []⟩ 8 (by kernel_rfl) (by kernel_rfl) (by kernel_rfl) (by kernel_rfl)) ?_
  intro W base args ds gs before hval0 hW hcnd _
  have hval : ∀ (j : Nat) t v, Try.f7.params[j]? = some t → args[j]? = some v → Value.okWide Try.prog W .any base t v := hval0
  have hW' := hW
  obtain ⟨p, q, hA0, hV, rfl, hfz, hnd⟩ := hW
  have hA : DataW.TrodAll enc Try.prog W 0 (fun _ => true) true Try.f7.params.toList args.toList ds p := hA0
  rw [Try.params7] at hA hval
  obtain ⟨v0, vs0, d0, ds0, p0, q0, hargs, rfl, rfl, h0, r0⟩ := trodAll_cons hA
  obtain ⟨v1, vs1, d1, ds1, p1, q1, rfl, rfl, rfl, h1, r1⟩ := trodAll_cons r0
  obtain ⟨v2, vs2, d2, ds2, p2, q2, rfl, rfl, rfl, h2, r2⟩ := trodAll_cons r1
  obtain ⟨v3, vs3, d3, ds3, p3, q3, rfl, rfl, rfl, h3, r3⟩ := trodAll_cons r2
  obtain ⟨v4, vs4, d4, ds4, p4, q4, rfl, rfl, rfl, h4, r4⟩ := trodAll_cons r3
  obtain ⟨rfl, rfl, rfl⟩ := trodAll_nil r4
  obtain rfl : args = #[v0, v1, v2, v3, v4] := by cases args; simp_all
  obtain ⟨rfl, rfl⟩ := trodVars_none hV
  have k0 := h0
  have lt0 : ∀ x ∈ p0, x.block < W.heap.size := by obtain ⟨m, hm⟩ := k0; exact DataW.trod_lt m _ _ _ hm
  obtain ⟨l0, len0, cap0, rfl⟩ := okWide_slice Try.underlying22 (hval 0 22 v0 rfl rfl)
  obtain ⟨hl0, hacts0⟩ : len0 ≤ 9223372036854775807 ∧ (∃ A, Acs W l0 len0 A) := by
    obtain ⟨fuel, hf⟩ := h0
    exact acs_open (by simpa [Value.cells] using hf)
  obtain ⟨a1, rfl, rfl, rfl, w1⟩ := open_int Try.underlying3 (hval 1 3 v1 rfl rfl) h1
  obtain ⟨a2, rfl, rfl, rfl, w2⟩ := open_int Try.underlying3 (hval 2 3 v2 rfl rfl) h2
  have k3 := h3
  have lt3 : ∀ x ∈ p3, x.block < W.heap.size := by obtain ⟨m, hm⟩ := k3; exact DataW.trod_lt m _ _ _ hm
  obtain ⟨x3, rfl⟩ := ms_open (hval 3 36 v3 rfl rfl) h3
  obtain ⟨a4, rfl, rfl, rfl⟩ := open_bool Try.underlying4 (hval 4 4 v4 rfl rfl) h4
  clear hA0 hval0
  refine (lleaves_any l0 len0 cap0 a1 a2 x3 a4 W hl0 hacts0 (bounds_i64 w1) (bounds_i64 w2)).mono fun e W' ⟨he, bel⟩ => ?_
  subst he
  exact ⟨_, rfl, _, _, _, [], _, [], hW', trodAll_mk1 (shut_bool Try.underlying4 _), (trodAll_cons_mk (Below.trod laid_out (by kernel_rfl) (of_decide_eq_true (by kernel_rfl)) k0 bel lt0) (trodAll_cons_mk (shut_int Try.underlying3 w1) (trodAll_cons_mk (shut_int Try.underlying3 w2) (trodAll_cons_mk (Below.trod laid_out (by kernel_rfl) (of_decide_eq_true (by kernel_rfl)) k3 bel lt3) (trodAll_cons_mk (shut_bool Try.underlying4 a4) trodAll_mk0))))), rfl, bel.frame _, fun h => by cases h⟩

theorem ipcLeaves_holds : Rows.IpcLeavesSaid :=
  OpenClaim.holds_of_wide 7 Try.f7 rfl rfl rfl rfl rfl rfl rfl ⟨rfl, rfl, rfl, rfl, rfl⟩ rfl rfl rfl rfl rfl (by kernel_rfl) Try.func7 (by kernel_rfl)
    (of_decide_eq_true (by kernel_rfl)) (by unfold Func.isWrapper; first | (rw [if_pos (by decide +kernel)]; kernel_rfl) | (rw [if_neg (by decide +kernel)]; exact ⟨rfl, rfl⟩))
    (fun os started H enc _ => lleaves_lifted os started H enc)
#print axioms ipcLeaves_holds

end Go.Proofs.Ytjobdfkfongjaaa

