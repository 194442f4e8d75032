/-
  Proved: the statement IpcPlaysSaid: for every list of acts the law IpcPlays of the Go text returns true, and each argument reads afterwards as it read before. No condition but the form's own.
-/
import Derived.Test.YtjobdfkfongjaaaIpIn2
import Derived.Test.YtjobdfkfongjaaaIpBo
/- IpSame -/
namespace Go.Proofs.Ytjobdfkfongjaaa
open Go.RowKit Go.Maps Go.WideMaps Go.Shelf

theorem OI.row {B : Nat} {w : World} {v : Value} {l : List Int} (h : OI B w v l) (hn : 0 < l.length) : ∃ g cap cur, v = .slice (some ⟨g, 0, none⟩) l.length cap ∧ B ≤ g ∧ Row w g cur 3 ∧ l.length ≤ cur.size := by
  obtain ⟨_, hh | ⟨g, cap, cur, hv, hb, hg, hc, hm, hs, ht⟩⟩ := h
  · omega
  · exact ⟨g, cap, cur, hv, hb, hg, by omega⟩
/-- Both, newer than w0, alike: what the questions ask. -/
structure Qst (w0 w : World) (b : Nat) (q : Db) (S : Ip) (D : Dc) (n : Nat) : Prop where
  bx : Bx w0 w b q S D n
  le : n ≤ 100000
theorem Qst.keep0 {w0 w w1 : World} {b : Nat} {q : Db} {S : Ip} {D : Dc} {n : Nat} (h : Qst w0 w b q S D n) (f : Fr none' w w1) : Qst w0 w1 b q S D n := ⟨h.bx.keep0 f, h.le⟩
theorem Qst.wl {w0 w : World} {b : Nat} {q : Db} {S : Ip} {D : Dc} {n : Nat} (h : Qst w0 w b q S D n) (x : Int) : (waiL S x).length ≤ 100000 := by
  unfold waiL
  have h1 := h.bx.rl.ok.len 2 x
  have h2 := h.bx.rl.ok.len 3 x
  rw [List.length_append]
  omega

set_option maxRecDepth 100000 in
set_option maxHeartbeats 8000000 in
theorem same_any {w0 w : World} {b : Nat} {q : Db} {S : Ip} {D : Dc} {nn : Nat} (h : Qst w0 w b q S D nn) (more : Int) (hm : I64 more) : Calls Try.prog 13 #[pv b, pv q.b, .int .i64 more] w fun e w' => e = .returned (.bool true) ∧ Fr none' w w' := by
  have H : Hid (Qst w0 w b q S D nn ∧ I64 more) := ⟨h, hm⟩
  clear h hm
  go_enter Try.func13, Try.ntmps13
  go_wp2_with fail
  go_loopw [7] (fun i wr => ∃ j : Nat, j ≤ 8 ∧ i = .int .i64 (j : Int) ∧ Hid (Fr none' w wr)) (fun i _ => 8 - (intOf i).toNat)
  case atStart => exact ⟨0, by omega, rfl, Fr.refl _ _⟩
  case round =>
    obtain ⟨j, hj, rfl, hF⟩ := hrel
    by_cases h8 : j < 8
    · have d8 : decide ((j : Int) ≤ 7) = true := decide_eq_true (by omega)
      have HQ : Hid (Qst w0 wr b q S D nn) := H.out.1.keep0 hF.out
      by_cases h7 : j = 7
      · have d7 : ((j : Int) == 7) = true := by
          have : (j : Int) = 7 := by omega
          simpa using this
        have HN : Hid (I64 more) := H.out.2
        clear h7
        have X := xstate HQ.out.bx.ix more HN.out
        obtain ⟨vs, hvs⟩ : ∃ vs, vs = plcS S more := ⟨_, rfl⟩
        obtain ⟨vo, hvo⟩ : ∃ vo, vo = plcO S more := ⟨_, rfl⟩
        obtain ⟨vc, hvc⟩ : ∃ vc, vc = forN S more := ⟨_, rfl⟩
        obtain ⟨ln, hln⟩ : ∃ ln, ln = (S.lt more).getD 0 := ⟨_, rfl⟩
        obtain ⟨lb, hlb⟩ : ∃ lb, lb = (S.lt more).isSome := ⟨_, rfl⟩
        obtain ⟨l, hl⟩ : ∃ l, l = waiL S more := ⟨_, rfl⟩
        have HE : Hid (vs = plcS S more ∧ vo = plcO S more ∧ vc = forN S more ∧ ln = (S.lt more).getD 0 ∧ lb = (S.lt more).isSome ∧ l = waiL S more ∧ l.length ≤ 100000) := ⟨hvs, hvo, hvc, hln, hlb, hl, by rw [hl]; exact HQ.out.wl _⟩
        have HD : Hid (vs = dStS D more ∧ vo = dStO D more ∧ vc = witI D.C more ∧ ln = dLitN D more ∧ lb = dLitB D more ∧ l = dWai D more) := ⟨hvs.trans (HQ.out.bx.rl.stS _), hvo.trans (HQ.out.bx.rl.stO _), hvc.trans (HQ.out.bx.rl.forN _), hln.trans (HQ.out.bx.rl.litN _).1, hlb.trans (HQ.out.bx.rl.litN _).2, hl.trans (HQ.out.bx.rl.wait _)⟩
        rw [← HE.out.1, ← HE.out.2.1] at X
        clear hvs hvo hvc hln hlb hl
        go_wp2_with fail
        refine X.mono ?_
        clear X
        rintro e w1 ⟨rfl, f1⟩
        have Q1 : Hid (Qst w0 w1 b q S D nn) := HQ.out.keep0 f1
        have X := dstate_any w1 q D Q1.out.bx.d (Nat.le_trans Q1.out.bx.sm.l Q1.out.le) more
        rw [← HD.out.1, ← HD.out.2.1] at X
        have F1 : Hid (Fr none' w w1) := hF.out.trans f1
        clear f1 hF HQ
        go_wp2_with fail
        refine X.mono ?_
        clear X
        rintro e w2 ⟨rfl, f2⟩
        have Q2 : Hid (Qst w0 w2 b q S D nn) := Q1.out.keep0 f2
        have X := xcaller Q2.out.bx.ix more
        rw [← HE.out.2.2.1] at X
        have F2 : Hid (Fr none' w w2) := F1.out.trans f2
        clear f2 F1 Q1
        go_wp2_with fail
        refine X.mono ?_
        clear X
        rintro e w3 ⟨rfl, f3⟩
        have Q3 : Hid (Qst w0 w3 b q S D nn) := Q2.out.keep0 f3
        have X := dcaller_any w3 q D Q3.out.bx.d (Nat.le_trans Q3.out.bx.sm.c Q3.out.le) more
        rw [← HD.out.2.2.1] at X
        have F3 : Hid (Fr none' w w3) := F2.out.trans f3
        clear f3 F2 Q2
        go_wp2_with fail
        refine X.mono ?_
        clear X
        rintro e w4 ⟨rfl, rfl⟩
        have X := xwaiting Q3.out.bx.ix more HN.out
        rw [← HE.out.2.2.2.2.2.1] at X
        go_wp2_with fail
        refine X.mono ?_
        clear X
        rintro e w5 ⟨v1, rfl, f5, o5⟩
        have Q5 : Hid (Qst w0 w5 b q S D nn) := Q3.out.keep0 f5
        have HO5 : Hid (OI w4.heap.size w5 v1 l) := o5
        have X := dwaiting_any w5 q D Q5.out.bx.d (Nat.le_trans Q5.out.bx.sm.l Q5.out.le) more
        rw [← HD.out.2.2.2.2.2] at X
        have F5 : Hid (Fr none' w w5 ∧ w.heap.size ≤ w4.heap.size) := ⟨F3.out.trans f5, F3.out.size⟩
        clear f5 o5 F3 Q3
        go_wp2_with fail
        refine X.mono ?_
        clear X
        rintro e w6 ⟨xa, xn, xc, rfl, f6, o6⟩
        have Q6 : Hid (Qst w0 w6 b q S D nn) := Q5.out.keep0 f6
        have HO6 : Hid (OI w4.heap.size w6 v1 l) := HO5.out.keep0 f6
        have X := ints_any HO6.out o6 HE.out.2.2.2.2.2.2
        have F6 : Hid (Fr none' w w6) := F5.out.1.trans f6
        clear f6 o6 HO5 Q5
        go_wp2_with fail
        refine X.mono ?_
        clear X
        rintro e w7 ⟨rfl, f7⟩
        have Q7 : Hid (Qst w0 w7 b q S D nn) := Q6.out.keep0 f7
        have HO7 : Hid (OI w4.heap.size w7 v1 l) := HO6.out.keep0 f7
        have F7 : Hid (Fr none' w w7) := F6.out.trans f7
        have X := xlit Q7.out.bx.ix more HN.out
        rw [← HE.out.2.2.2.1, ← HE.out.2.2.2.2.1] at X
        clear f7 F6 HO6 Q6
        go_wp2_with fail
        refine X.mono ?_
        clear X
        rintro e w8 ⟨rfl, rfl⟩
        have X := dlit_any w8 q D Q7.out.bx.d (Nat.le_trans Q7.out.bx.sm.g Q7.out.le) more
        rw [← HD.out.2.2.2.1, ← HD.out.2.2.2.2.1] at X
        go_wp2_with fail
        refine X.mono ?_
        clear X
        rintro e w9 ⟨rfl, rfl⟩
        obtain ⟨N, hN⟩ : ∃ N, N = l.length := ⟨_, rfl⟩
        have hlen : N ≤ 100000 := by rw [hN]; exact HE.out.2.2.2.2.2.2
        obtain ⟨ya, yc, hv, _⟩ := HO7.out.form
        rw [← hN] at hv
        subst hv
        have HW : Hid (0 < N → ∃ g, ya = some ⟨g, 0, none⟩ ∧ w.heap.size ≤ g ∧ ∃ cur, Row w9 g cur 3 ∧ N ≤ cur.size) := fun h0 => by
          obtain ⟨g, cap, cur, hv, hb, hr, hs⟩ := HO7.out.row (by omega)
          simp only [Value.slice.injEq] at hv
          exact ⟨g, hv.1, Nat.le_trans F5.out.2 hb, cur, hr, by omega⟩
        clear hN Q7 HO7 F5
        go_wp2_with fail
        go_loopw [22] (fun i wq => ∃ k : Nat, k ≤ N ∧ i = .int .i64 (k : Int) ∧ Hid (Fr none' w wq ∧ (0 < N → ∃ g, ya = some ⟨g, 0, none⟩ ∧ w.heap.size ≤ g ∧ ∃ cur, Row wq g cur 3 ∧ N ≤ cur.size))) (fun i _ => N - (intOf i).toNat)
        case atStart => exact ⟨0, by omega, rfl, F7.out, HW.out⟩
        case round =>
          clear F7 HW
          obtain ⟨k, hk, rfl, hI⟩ := hrel
          by_cases hkN : k < N
          · obtain ⟨g, rfl, hg, cur, hr, hs⟩ := hI.out.2 (by omega)
            have dk : decide ((k : Int) < (N : Int)) = true := decide_eq_true (by omega)
            have ik : 0 ≤ (k : Int) ∧ (k : Int) < (N : Int) := by omega
            obtain ⟨u, hu⟩ : ∃ u, wr.cell? ⟨g, k, none⟩ = some u := ⟨_, by rw [Row.cell hr]; exact Array.getElem?_eq_getElem (by omega)⟩
            have z0 := Row.frozen hr k
            have HX : Hid (Fr none' w (wr.setCell ⟨g, k, none⟩ (.int .i64 (-7))) ∧ (0 < N → ∃ g', some (⟨g, 0, none⟩ : Addr) = some ⟨g', 0, none⟩ ∧ w.heap.size ≤ g' ∧ ∃ cur, Row (wr.setCell ⟨g, k, none⟩ (.int .i64 (-7))) g' cur 3 ∧ N ≤ cur.size)) := ⟨fr_high hI.out.1 (fr_set wr g k _ (Fr.refl (at' g) wr)) (fun k hk => by have e : k = g := hk; omega), fun _ => ⟨g, rfl, hg, _, Row.setCell hr k _, by simpa using hs⟩⟩
            clear hI hr hs hg
            go_wp2_with fail
            go_roundw
            case rel => exact ⟨k + 1, by omega, by go_num, HX⟩
            case measure => simp [intOf]; omega
          · obtain rfl : k = N := by omega
            have dk : decide ((k : Int) < (k : Int)) = false := decide_eq_false (by omega)
            have HX : Hid (Fr none' w wr) := hI.out.1
            clear hI
            go_wp2_with fail
            go_roundw
            case rel => exact ⟨j + 1, by omega, by go_num, HX⟩
            case measure => simp [intOf]; omega
      · have d7 : ((j : Int) == 7) = false := by
          have : (j : Int) ≠ 7 := by omega
          simpa using this
        have HN : Hid (I64 (j : Int)) := i64_of (by omega) (by omega)
        clear h7
        have X := xstate HQ.out.bx.ix (j : Int) HN.out
        obtain ⟨vs, hvs⟩ : ∃ vs, vs = plcS S (j : Int) := ⟨_, rfl⟩
        obtain ⟨vo, hvo⟩ : ∃ vo, vo = plcO S (j : Int) := ⟨_, rfl⟩
        obtain ⟨vc, hvc⟩ : ∃ vc, vc = forN S (j : Int) := ⟨_, rfl⟩
        obtain ⟨ln, hln⟩ : ∃ ln, ln = (S.lt (j : Int)).getD 0 := ⟨_, rfl⟩
        obtain ⟨lb, hlb⟩ : ∃ lb, lb = (S.lt (j : Int)).isSome := ⟨_, rfl⟩
        obtain ⟨l, hl⟩ : ∃ l, l = waiL S (j : Int) := ⟨_, rfl⟩
        have HE : Hid (vs = plcS S (j : Int) ∧ vo = plcO S (j : Int) ∧ vc = forN S (j : Int) ∧ ln = (S.lt (j : Int)).getD 0 ∧ lb = (S.lt (j : Int)).isSome ∧ l = waiL S (j : Int) ∧ l.length ≤ 100000) := ⟨hvs, hvo, hvc, hln, hlb, hl, by rw [hl]; exact HQ.out.wl _⟩
        have HD : Hid (vs = dStS D (j : Int) ∧ vo = dStO D (j : Int) ∧ vc = witI D.C (j : Int) ∧ ln = dLitN D (j : Int) ∧ lb = dLitB D (j : Int) ∧ l = dWai D (j : Int)) := ⟨hvs.trans (HQ.out.bx.rl.stS _), hvo.trans (HQ.out.bx.rl.stO _), hvc.trans (HQ.out.bx.rl.forN _), hln.trans (HQ.out.bx.rl.litN _).1, hlb.trans (HQ.out.bx.rl.litN _).2, hl.trans (HQ.out.bx.rl.wait _)⟩
        rw [← HE.out.1, ← HE.out.2.1] at X
        clear hvs hvo hvc hln hlb hl
        go_wp2_with fail
        refine X.mono ?_
        clear X
        rintro e w1 ⟨rfl, f1⟩
        have Q1 : Hid (Qst w0 w1 b q S D nn) := HQ.out.keep0 f1
        have X := dstate_any w1 q D Q1.out.bx.d (Nat.le_trans Q1.out.bx.sm.l Q1.out.le) (j : Int)
        rw [← HD.out.1, ← HD.out.2.1] at X
        have F1 : Hid (Fr none' w w1) := hF.out.trans f1
        clear f1 hF HQ
        go_wp2_with fail
        refine X.mono ?_
        clear X
        rintro e w2 ⟨rfl, f2⟩
        have Q2 : Hid (Qst w0 w2 b q S D nn) := Q1.out.keep0 f2
        have X := xcaller Q2.out.bx.ix (j : Int)
        rw [← HE.out.2.2.1] at X
        have F2 : Hid (Fr none' w w2) := F1.out.trans f2
        clear f2 F1 Q1
        go_wp2_with fail
        refine X.mono ?_
        clear X
        rintro e w3 ⟨rfl, f3⟩
        have Q3 : Hid (Qst w0 w3 b q S D nn) := Q2.out.keep0 f3
        have X := dcaller_any w3 q D Q3.out.bx.d (Nat.le_trans Q3.out.bx.sm.c Q3.out.le) (j : Int)
        rw [← HD.out.2.2.1] at X
        have F3 : Hid (Fr none' w w3) := F2.out.trans f3
        clear f3 F2 Q2
        go_wp2_with fail
        refine X.mono ?_
        clear X
        rintro e w4 ⟨rfl, rfl⟩
        have X := xwaiting Q3.out.bx.ix (j : Int) HN.out
        rw [← HE.out.2.2.2.2.2.1] at X
        go_wp2_with fail
        refine X.mono ?_
        clear X
        rintro e w5 ⟨v1, rfl, f5, o5⟩
        have Q5 : Hid (Qst w0 w5 b q S D nn) := Q3.out.keep0 f5
        have HO5 : Hid (OI w4.heap.size w5 v1 l) := o5
        have X := dwaiting_any w5 q D Q5.out.bx.d (Nat.le_trans Q5.out.bx.sm.l Q5.out.le) (j : Int)
        rw [← HD.out.2.2.2.2.2] at X
        have F5 : Hid (Fr none' w w5 ∧ w.heap.size ≤ w4.heap.size) := ⟨F3.out.trans f5, F3.out.size⟩
        clear f5 o5 F3 Q3
        go_wp2_with fail
        refine X.mono ?_
        clear X
        rintro e w6 ⟨xa, xn, xc, rfl, f6, o6⟩
        have Q6 : Hid (Qst w0 w6 b q S D nn) := Q5.out.keep0 f6
        have HO6 : Hid (OI w4.heap.size w6 v1 l) := HO5.out.keep0 f6
        have X := ints_any HO6.out o6 HE.out.2.2.2.2.2.2
        have F6 : Hid (Fr none' w w6) := F5.out.1.trans f6
        clear f6 o6 HO5 Q5
        go_wp2_with fail
        refine X.mono ?_
        clear X
        rintro e w7 ⟨rfl, f7⟩
        have Q7 : Hid (Qst w0 w7 b q S D nn) := Q6.out.keep0 f7
        have HO7 : Hid (OI w4.heap.size w7 v1 l) := HO6.out.keep0 f7
        have F7 : Hid (Fr none' w w7) := F6.out.trans f7
        have X := xlit Q7.out.bx.ix (j : Int) HN.out
        rw [← HE.out.2.2.2.1, ← HE.out.2.2.2.2.1] at X
        clear f7 F6 HO6 Q6
        go_wp2_with fail
        refine X.mono ?_
        clear X
        rintro e w8 ⟨rfl, rfl⟩
        have X := dlit_any w8 q D Q7.out.bx.d (Nat.le_trans Q7.out.bx.sm.g Q7.out.le) (j : Int)
        rw [← HD.out.2.2.2.1, ← HD.out.2.2.2.2.1] at X
        go_wp2_with fail
        refine X.mono ?_
        clear X
        rintro e w9 ⟨rfl, rfl⟩
        obtain ⟨N, hN⟩ : ∃ N, N = l.length := ⟨_, rfl⟩
        have hlen : N ≤ 100000 := by rw [hN]; exact HE.out.2.2.2.2.2.2
        obtain ⟨ya, yc, hv, _⟩ := HO7.out.form
        rw [← hN] at hv
        subst hv
        have HW : Hid (0 < N → ∃ g, ya = some ⟨g, 0, none⟩ ∧ w.heap.size ≤ g ∧ ∃ cur, Row w9 g cur 3 ∧ N ≤ cur.size) := fun h0 => by
          obtain ⟨g, cap, cur, hv, hb, hr, hs⟩ := HO7.out.row (by omega)
          simp only [Value.slice.injEq] at hv
          exact ⟨g, hv.1, Nat.le_trans F5.out.2 hb, cur, hr, by omega⟩
        clear hN Q7 HO7 F5
        go_wp2_with fail
        go_loopw [22] (fun i wq => ∃ k : Nat, k ≤ N ∧ i = .int .i64 (k : Int) ∧ Hid (Fr none' w wq ∧ (0 < N → ∃ g, ya = some ⟨g, 0, none⟩ ∧ w.heap.size ≤ g ∧ ∃ cur, Row wq g cur 3 ∧ N ≤ cur.size))) (fun i _ => N - (intOf i).toNat)
        case atStart => exact ⟨0, by omega, rfl, F7.out, HW.out⟩
        case round =>
          clear F7 HW
          obtain ⟨k, hk, rfl, hI⟩ := hrel
          by_cases hkN : k < N
          · obtain ⟨g, rfl, hg, cur, hr, hs⟩ := hI.out.2 (by omega)
            have dk : decide ((k : Int) < (N : Int)) = true := decide_eq_true (by omega)
            have ik : 0 ≤ (k : Int) ∧ (k : Int) < (N : Int) := by omega
            obtain ⟨u, hu⟩ : ∃ u, wr.cell? ⟨g, k, none⟩ = some u := ⟨_, by rw [Row.cell hr]; exact Array.getElem?_eq_getElem (by omega)⟩
            have z0 := Row.frozen hr k
            have HX : Hid (Fr none' w (wr.setCell ⟨g, k, none⟩ (.int .i64 (-7))) ∧ (0 < N → ∃ g', some (⟨g, 0, none⟩ : Addr) = some ⟨g', 0, none⟩ ∧ w.heap.size ≤ g' ∧ ∃ cur, Row (wr.setCell ⟨g, k, none⟩ (.int .i64 (-7))) g' cur 3 ∧ N ≤ cur.size)) := ⟨fr_high hI.out.1 (fr_set wr g k _ (Fr.refl (at' g) wr)) (fun k hk => by have e : k = g := hk; omega), fun _ => ⟨g, rfl, hg, _, Row.setCell hr k _, by simpa using hs⟩⟩
            clear hI hr hs hg
            go_wp2_with fail
            go_roundw
            case rel => exact ⟨k + 1, by omega, by go_num, HX⟩
            case measure => simp [intOf]; omega
          · obtain rfl : k = N := by omega
            have dk : decide ((k : Int) < (k : Int)) = false := decide_eq_false (by omega)
            have HX : Hid (Fr none' w wr) := hI.out.1
            clear hI
            go_wp2_with fail
            go_roundw
            case rel => exact ⟨j + 1, by omega, by go_num, HX⟩
            case measure => simp [intOf]; omega
    · obtain rfl : j = 8 := by omega
      go_wp2_with fail
      go_ret
      exact ⟨rfl, hF.out⟩

end Go.Proofs.Ytjobdfkfongjaaa

/- IpPlaW -/
namespace Go.Proofs.Ytjobdfkfongjaaa
open Go.RowKit Go.Maps Go.WideMaps Go.Shelf

set_option maxRecDepth 100000 in
set_option maxHeartbeats 8000000 in
theorem lplays_any (a0 : Option Addr) (len cap : Nat) (W : World) (hl : len ≤ 9223372036854775807) (hA : ∃ A, Acs W a0 len A) :
    Calls Try.prog 3 #[.slice a0 len cap] W fun e W' => e = .returned (.bool true) ∧ Below W.heap.size W W' := by
  obtain ⟨A, hA⟩ := hA
  have HA : Hid (Acs W a0 len A) := hA
  clear hA
  go_enter Try.func3, Try.ntmps3
  go_wp2_with fail
  refine (awake_any W).mono ?_
  rintro e w ⟨rfl, F0⟩
  have HA2 : Hid (Acs w a0 len A) := HA.out.keep' F0
  have HF : Hid (Fr none' W w) := F0
  clear F0 HA
  go_wp2_with fail
  refine (xnew w).mono ?_
  rintro e w1 ⟨b, rfl, h1⟩
  have HB : Hid (Bx w (w1.alloc (.cells #[.slice none 0 0, .slice none 0 0, .slice none 0 0, .slice none 0 0, .slice none 0 0] 31)) b _ ip0 ⟨[], [], [], [], []⟩ 0) := Bx.start h1
  clear h1
  go_wp2_with fail
  generalize (w1.alloc (.cells #[.slice none 0 0, .slice none 0 0, .slice none 0 0, .slice none 0 0, .slice none 0 0] 31)) = v at *
  generalize hq : Db.mk w1.heap.size _ _ _ _ _ = q at HB
  have hr : w1.heap.size = q.b := by rw [← hq]
  rw [hr]
  generalize hrr : q.b = r at *
  have HR : Hid (q.b = r) := hrr
  clear hr hq hrr
  go_loopw [6] (fun i wr => ∃ k : Nat, k ≤ len ∧ k ≤ 120 ∧ i = .int .i64 (k : Int) ∧ Hid (∃ q S D, q.b = r ∧ Bx w wr b q S D k)) (fun i _ => 120 - (intOf i).toNat)
  case atStart => exact ⟨0, by omega, by omega, rfl, ⟨q, _, _, HR.out, HB.out⟩⟩
  case round =>
    clear HB HR q
    obtain ⟨k, hk, hk2, rfl, hb⟩ := hrel
    obtain ⟨q, S, D, hqb, hB⟩ := hb.out
    by_cases hlt : k < len
    · by_cases hlt2 : k < 120
      · obtain ⟨bb, o, rfl, ak, ok⟩ := (HA2.out.keep' hB.old) k hlt
        have i1 : 0 ≤ (k : Int) ∧ (k : Int) < (len : Int) := by omega
        have uk1 : decide ((k : Int) < (len : Int)) = true := decide_eq_true (by omega)
        have uk2 : decide ((k : Int) < 120) = true := decide_eq_true (by omega)
        have c0 : wr.cell? ⟨bb, o + k * 13, none⟩ = some (.int .i64 (A k).d) := ak 0 (by omega)
        have c1 : wr.cell? ⟨bb, o + k * 13 + 1, none⟩ = some (.int .i64 (A k).a) := ak 1 (by omega)
        have c2 : wr.cell? ⟨bb, o + k * 13 + 2, none⟩ = some (.int .i64 (A k).t) := ak 2 (by omega)
        have c3 : wr.cell? ⟨bb, o + k * 13 + 3, none⟩ = some (.int .i64 (A k).x) := ak 3 (by omega)
        have c4 : wr.cell? ⟨bb, o + k * 13 + 4, none⟩ = some (.int .i64 (A k).m.l) := ak 4 (by omega)
        have c5 : wr.cell? ⟨bb, o + k * 13 + 5, none⟩ = some (.int .i64 (A k).m.b) := ak 5 (by omega)
        have c6 : wr.cell? ⟨bb, o + k * 13 + 6, none⟩ = some (.int .i64 (A k).m.n) := ak 6 (by omega)
        have c7 : wr.cell? ⟨bb, o + k * 13 + 7, none⟩ = some (.int .u32 (A k).m.w0) := ak 7 (by omega)
        have c8 : wr.cell? ⟨bb, o + k * 13 + 8, none⟩ = some (.int .u32 (A k).m.w1) := ak 8 (by omega)
        have c9 : wr.cell? ⟨bb, o + k * 13 + 9, none⟩ = some (.int .u32 (A k).m.w2) := ak 9 (by omega)
        have c10 : wr.cell? ⟨bb, o + k * 13 + 10, none⟩ = some (.int .u32 (A k).m.w3) := ak 10 (by omega)
        have c11 : wr.cell? ⟨bb, o + k * 13 + 11, none⟩ = some (.bool (A k).c) := ak 11 (by omega)
        have c12 : wr.cell? ⟨bb, o + k * 13 + 12, none⟩ = some (.bool (A k).bl) := ak 12 (by omega)
        have X := does_any hB.ix (A k) ok.2.1 ok.2.2.1
        obtain ⟨a1, a2, a3, a4, a5, a6⟩ := hB.rl.act (A k)
        have HX : Hid (Bx w wr b q S D k ∧ q.b = r ∧ I64 (A k).t) := ⟨hB, hqb, ok.2.2.1⟩
        unfold DoPost at X
        obtain ⟨N, hN⟩ : ∃ N, N = doesN S (A k) := ⟨_, rfl⟩
        obtain ⟨G, hG⟩ : ∃ G, G = doesG S (A k) := ⟨_, rfl⟩
        obtain ⟨E, hE⟩ : ∃ E, E = doesE S (A k) := ⟨_, rfl⟩
        obtain ⟨M, hM⟩ : ∃ M, M = doesM S (A k) := ⟨_, rfl⟩
        obtain ⟨l, hl2⟩ : ∃ l, l = doesL S (A k) := ⟨_, rfl⟩
        have HM : Hid (N = meanN D (A k) ∧ G = meanG D (A k) ∧ E = meanE D (A k) ∧ M = meanM D (A k) ∧ l = meanL D (A k) ∧ Rl (doesS S (A k)) (meanS D (A k))) := ⟨hN.trans a1, hG.trans a2, hE.trans a3, hM.trans a4, hl2.trans a5, a6⟩
        have HL : Hid (l.length ≤ 100000) := by
          show l.length ≤ 100000
          rw [hl2, a5]
          unfold meanL
          split
          · unfold dWai
            rw [List.length_map]
            exact Nat.le_trans (List.length_filter_le _ _) (Nat.le_trans hB.sm.l (by omega))
          · split
            · unfold dCbaL
              refine Nat.le_trans (List.length_filter_le _ _) ?_
              unfold dWai
              rw [List.length_map]
              exact Nat.le_trans (List.length_filter_le _ _) (Nat.le_trans hB.sm.l (by omega))
            · simp
        rw [← hN, ← hG, ← hE, ← hM, ← hl2] at X
        unfold acV acA anA at X
        clear ok ak hB hb hqb a1 a2 a3 a4 a5 a6 hN hG hE hM hl2
        go_wp2_with fail
        refine X.mono ?_
        clear X c0 c1 c2 c3 c4 c5 c6 c7 c8 c9 c10 c11 c12
        rintro e w3 ⟨va, rfl, ov, i3, f3⟩
        obtain ⟨sa, sn, sc, rfl⟩ := oi_shape ov
        have fa := (Fr.refl none' w3).alloc (.cells #[.int .i64 N, .bool G, .int .i64 E, .int .i64 M.l, .int .i64 M.b, .int .i64 M.n, .int .u32 M.w0, .int .u32 M.w1, .int .u32 M.w2, .int .u32 M.w3, .slice sa sn sc] 39)
        have hd := (HX.out.1.prog f3).keep0 fa
        have fit := HX.out.1.rl.fit HX.out.1.sm (by omega)
        have Y := means_any hd fit (A k)
        unfold MeanPost at Y
        rw [HX.out.2.1, ← HM.out.1, ← HM.out.2.1, ← HM.out.2.2.1, ← HM.out.2.2.2.1, ← HM.out.2.2.2.2.1] at Y
        unfold acV acA anA at Y
        have i4 := i3.keep0 fa
        have r4 := row_alloc w3 #[.int .i64 N, .bool G, .int .i64 E, .int .i64 M.l, .int .i64 M.b, .int .i64 M.n, .int .u32 M.w0, .int .u32 M.w1, .int .u32 M.w2, .int .u32 M.w3, .slice sa sn sc] 39
        have o4 : OI wr.heap.size (w3.alloc (.cells #[.int .i64 N, .bool G, .int .i64 E, .int .i64 M.l, .int .i64 M.b, .int .i64 M.n, .int .u32 M.w0, .int .u32 M.w1, .int .u32 M.w2, .int .u32 M.w3, .slice sa sn sc] 39)) (.slice sa sn sc) l := ov.keep0 fa
        obtain ⟨bb', o', eb, ak3, _⟩ := (HA2.out.keep' i4.old) k hlt
        simp only [Option.some.injEq, Addr.mk.injEq, and_true] at eb
        obtain ⟨rfl, rfl⟩ := eb
        have d0 : (w3.alloc (.cells #[.int .i64 N, .bool G, .int .i64 E, .int .i64 M.l, .int .i64 M.b, .int .i64 M.n, .int .u32 M.w0, .int .u32 M.w1, .int .u32 M.w2, .int .u32 M.w3, .slice sa sn sc] 39)).cell? ⟨bb, o + k * 13, none⟩ = some (.int .i64 (A k).d) := ak3 0 (by omega)
        have d1 : (w3.alloc (.cells #[.int .i64 N, .bool G, .int .i64 E, .int .i64 M.l, .int .i64 M.b, .int .i64 M.n, .int .u32 M.w0, .int .u32 M.w1, .int .u32 M.w2, .int .u32 M.w3, .slice sa sn sc] 39)).cell? ⟨bb, o + k * 13 + 1, none⟩ = some (.int .i64 (A k).a) := ak3 1 (by omega)
        have d2 : (w3.alloc (.cells #[.int .i64 N, .bool G, .int .i64 E, .int .i64 M.l, .int .i64 M.b, .int .i64 M.n, .int .u32 M.w0, .int .u32 M.w1, .int .u32 M.w2, .int .u32 M.w3, .slice sa sn sc] 39)).cell? ⟨bb, o + k * 13 + 2, none⟩ = some (.int .i64 (A k).t) := ak3 2 (by omega)
        have d3 : (w3.alloc (.cells #[.int .i64 N, .bool G, .int .i64 E, .int .i64 M.l, .int .i64 M.b, .int .i64 M.n, .int .u32 M.w0, .int .u32 M.w1, .int .u32 M.w2, .int .u32 M.w3, .slice sa sn sc] 39)).cell? ⟨bb, o + k * 13 + 3, none⟩ = some (.int .i64 (A k).x) := ak3 3 (by omega)
        have d4 : (w3.alloc (.cells #[.int .i64 N, .bool G, .int .i64 E, .int .i64 M.l, .int .i64 M.b, .int .i64 M.n, .int .u32 M.w0, .int .u32 M.w1, .int .u32 M.w2, .int .u32 M.w3, .slice sa sn sc] 39)).cell? ⟨bb, o + k * 13 + 4, none⟩ = some (.int .i64 (A k).m.l) := ak3 4 (by omega)
        have d5 : (w3.alloc (.cells #[.int .i64 N, .bool G, .int .i64 E, .int .i64 M.l, .int .i64 M.b, .int .i64 M.n, .int .u32 M.w0, .int .u32 M.w1, .int .u32 M.w2, .int .u32 M.w3, .slice sa sn sc] 39)).cell? ⟨bb, o + k * 13 + 5, none⟩ = some (.int .i64 (A k).m.b) := ak3 5 (by omega)
        have d6 : (w3.alloc (.cells #[.int .i64 N, .bool G, .int .i64 E, .int .i64 M.l, .int .i64 M.b, .int .i64 M.n, .int .u32 M.w0, .int .u32 M.w1, .int .u32 M.w2, .int .u32 M.w3, .slice sa sn sc] 39)).cell? ⟨bb, o + k * 13 + 6, none⟩ = some (.int .i64 (A k).m.n) := ak3 6 (by omega)
        have d7 : (w3.alloc (.cells #[.int .i64 N, .bool G, .int .i64 E, .int .i64 M.l, .int .i64 M.b, .int .i64 M.n, .int .u32 M.w0, .int .u32 M.w1, .int .u32 M.w2, .int .u32 M.w3, .slice sa sn sc] 39)).cell? ⟨bb, o + k * 13 + 7, none⟩ = some (.int .u32 (A k).m.w0) := ak3 7 (by omega)
        have d8 : (w3.alloc (.cells #[.int .i64 N, .bool G, .int .i64 E, .int .i64 M.l, .int .i64 M.b, .int .i64 M.n, .int .u32 M.w0, .int .u32 M.w1, .int .u32 M.w2, .int .u32 M.w3, .slice sa sn sc] 39)).cell? ⟨bb, o + k * 13 + 8, none⟩ = some (.int .u32 (A k).m.w1) := ak3 8 (by omega)
        have d9 : (w3.alloc (.cells #[.int .i64 N, .bool G, .int .i64 E, .int .i64 M.l, .int .i64 M.b, .int .i64 M.n, .int .u32 M.w0, .int .u32 M.w1, .int .u32 M.w2, .int .u32 M.w3, .slice sa sn sc] 39)).cell? ⟨bb, o + k * 13 + 9, none⟩ = some (.int .u32 (A k).m.w2) := ak3 9 (by omega)
        have d10 : (w3.alloc (.cells #[.int .i64 N, .bool G, .int .i64 E, .int .i64 M.l, .int .i64 M.b, .int .i64 M.n, .int .u32 M.w0, .int .u32 M.w1, .int .u32 M.w2, .int .u32 M.w3, .slice sa sn sc] 39)).cell? ⟨bb, o + k * 13 + 10, none⟩ = some (.int .u32 (A k).m.w3) := ak3 10 (by omega)
        have d11 : (w3.alloc (.cells #[.int .i64 N, .bool G, .int .i64 E, .int .i64 M.l, .int .i64 M.b, .int .i64 M.n, .int .u32 M.w0, .int .u32 M.w1, .int .u32 M.w2, .int .u32 M.w3, .slice sa sn sc] 39)).cell? ⟨bb, o + k * 13 + 11, none⟩ = some (.bool (A k).c) := ak3 11 (by omega)
        have d12 : (w3.alloc (.cells #[.int .i64 N, .bool G, .int .i64 E, .int .i64 M.l, .int .i64 M.b, .int .i64 M.n, .int .u32 M.w0, .int .u32 M.w1, .int .u32 M.w2, .int .u32 M.w3, .slice sa sn sc] 39)).cell? ⟨bb, o + k * 13 + 12, none⟩ = some (.bool (A k).bl) := ak3 12 (by omega)
        have HI : Hid (Ix w (w3.alloc (.cells #[.int .i64 N, .bool G, .int .i64 E, .int .i64 M.l, .int .i64 M.b, .int .i64 M.n, .int .u32 M.w0, .int .u32 M.w1, .int .u32 M.w2, .int .u32 M.w3, .slice sa sn sc] 39)) b (doesS S (A k)) q.s ∧ IsD (w3.alloc (.cells #[.int .i64 N, .bool G, .int .i64 E, .int .i64 M.l, .int .i64 M.b, .int .i64 M.n, .int .u32 M.w0, .int .u32 M.w1, .int .u32 M.w2, .int .u32 M.w3, .slice sa sn sc] 39)) q D ∧ Row (w3.alloc (.cells #[.int .i64 N, .bool G, .int .i64 E, .int .i64 M.l, .int .i64 M.b, .int .i64 M.n, .int .u32 M.w0, .int .u32 M.w1, .int .u32 M.w2, .int .u32 M.w3, .slice sa sn sc] 39)) w3.heap.size #[.int .i64 N, .bool G, .int .i64 E, .int .i64 M.l, .int .i64 M.b, .int .i64 M.n, .int .u32 M.w0, .int .u32 M.w1, .int .u32 M.w2, .int .u32 M.w3, .slice sa sn sc] 39 ∧ OI wr.heap.size (w3.alloc (.cells #[.int .i64 N, .bool G, .int .i64 E, .int .i64 M.l, .int .i64 M.b, .int .i64 M.n, .int .u32 M.w0, .int .u32 M.w1, .int .u32 M.w2, .int .u32 M.w3, .slice sa sn sc] 39)) (.slice sa sn sc) l ∧ ¬ q.s w3.heap.size) := ⟨i4, hd, r4, o4, fun hk => by have := (HX.out.1.prog f3).lt _ hk; omega⟩
        clear ak3 i3 f3 hd fit fa i4 r4 o4 ov
        go_wp2_with fail
        refine Y.mono ?_
        clear Y d0 d1 d2 d3 d4 d5 d6 d7 d8 d9 d10 d11 d12
        rintro e w5 ⟨vb, q5, rfl, ob, C5⟩
        obtain ⟨ta, tn, tc, rfl⟩ := oi_shape ob
        have fb := (Fr.refl none' w5).alloc (.cells #[.int .i64 N, .bool G, .int .i64 E, .int .i64 M.l, .int .i64 M.b, .int .i64 M.n, .int .u32 M.w0, .int .u32 M.w1, .int .u32 M.w2, .int .u32 M.w3, .slice ta tn tc] 39)
        have B5 : Bx w w5 b q5 (doesS S (A k)) (meanS D (A k)) (k + 1) := HX.out.1.both HI.out.1 C5 HM.out.2.2.2.2.2 (HX.out.1.sm.act (A k))
        have ra := (HI.out.2.2.1.keep C5.fr HI.out.2.2.2.2).alloc (.cells #[.int .i64 N, .bool G, .int .i64 E, .int .i64 M.l, .int .i64 M.b, .int .i64 M.n, .int .u32 M.w0, .int .u32 M.w1, .int .u32 M.w2, .int .u32 M.w3, .slice ta tn tc] 39)
        have rb := row_alloc w5 #[.int .i64 N, .bool G, .int .i64 E, .int .i64 M.l, .int .i64 M.b, .int .i64 M.n, .int .u32 M.w0, .int .u32 M.w1, .int .u32 M.w2, .int .u32 M.w3, .slice ta tn tc] 39
        have Z := like_any ((HI.out.2.2.2.1.chgD HI.out.2.1 C5).keep0 fb) (ob.keep0 fb) HL.out N G E M
        have HN : Hid (Bx w (w5.alloc (.cells #[.int .i64 N, .bool G, .int .i64 E, .int .i64 M.l, .int .i64 M.b, .int .i64 M.n, .int .u32 M.w0, .int .u32 M.w1, .int .u32 M.w2, .int .u32 M.w3, .slice ta tn tc] 39)) b q5 (doesS S (A k)) (meanS D (A k)) (k + 1) ∧ q5.b = r ∧ I64 (A k).t) := ⟨B5.keep0 fb, C5.eb.trans HX.out.2.1, HX.out.2.2⟩
        unfold anA at Z
        have x0 := ra.cell 0
        have y0 := rb.cell 0
        have x1 := ra.cell 1
        have y1 := rb.cell 1
        have x2 := ra.cell 2
        have y2 := rb.cell 2
        have x3 := ra.cell 3
        have y3 := rb.cell 3
        have x4 := ra.cell 4
        have y4 := rb.cell 4
        have x5 := ra.cell 5
        have y5 := rb.cell 5
        have x6 := ra.cell 6
        have y6 := rb.cell 6
        have x7 := ra.cell 7
        have y7 := rb.cell 7
        have x8 := ra.cell 8
        have y8 := rb.cell 8
        have x9 := ra.cell 9
        have y9 := rb.cell 9
        have x10 := ra.cell 10
        have y10 := rb.cell 10
        dsimp at x0 y0 x1 y1 x2 y2 x3 y3 x4 y4 x5 y5 x6 y6 x7 y7 x8 y8 x9 y9 x10 y10
        clear C5 fb B5 ra rb ob HI HX HM HL
        go_wp2_with fail
        refine Z.mono ?_
        clear Z x0 y0 x1 y1 x2 y2 x3 y3 x4 y4 x5 y5 x6 y6 x7 y7 x8 y8 x9 y9 x10 y10
        rintro e w7 ⟨rfl, f7⟩
        have B7 := HN.out.1.keep0 f7
        have Z := same_any ⟨B7, by omega⟩ (A k).t HN.out.2.2
        rw [HN.out.2.1] at Z
        obtain ⟨bb', o', eb, ak3, _⟩ := (HA2.out.keep' B7.old) k hlt
        simp only [Option.some.injEq, Addr.mk.injEq, and_true] at eb
        obtain ⟨rfl, rfl⟩ := eb
        have d2 : w7.cell? ⟨bb, o + k * 13 + 2, none⟩ = some (.int .i64 (A k).t) := ak3 2 (by omega)
        have HN7 : Hid (Bx w w7 b q5 (doesS S (A k)) (meanS D (A k)) (k + 1) ∧ q5.b = r) := ⟨B7, HN.out.2.1⟩
        clear ak3 f7 B7 HN
        go_wp2_with fail
        refine Z.mono ?_
        clear Z d2
        rintro e w8 ⟨rfl, f8⟩
        have HE : Hid (∃ q S D, q.b = r ∧ Bx w w8 b q S D (k + 1)) := ⟨_, _, _, HN7.out.2, HN7.out.1.keep0 f8⟩
        clear f8 HN7
        go_wp2_with fail
        go_roundw
        case rel => exact ⟨k + 1, by omega, by omega, by go_num, HE.out⟩
        case measure => simp [intOf]; omega
      · obtain rfl : k = 120 := by omega
        have uk1 : decide (((120 : Nat) : Int) < (len : Int)) = true := decide_eq_true (by omega)
        have uk1' : decide ((120 : Int) < (len : Int)) = true := decide_eq_true (by omega)
        have HP : Hid (Below W.heap.size W wr) := bel_of' (HF.out.trans hB.old)
        clear hb hB hqb
        go_wp2_with fail
        go_ret
        exact ⟨rfl, HP.out⟩
    · obtain rfl : k = len := by omega
      have uk1 : decide ((k : Int) < (k : Int)) = false := decide_eq_false (by omega)
      have HP : Hid (Below W.heap.size W wr) := bel_of' (HF.out.trans hB.old)
      clear hb hB hqb
      go_wp2_with fail
      go_ret
      exact ⟨rfl, HP.out⟩

end Go.Proofs.Ytjobdfkfongjaaa

/- IpPlaP -/
namespace Go.Proofs.Ytjobdfkfongjaaa
open Go.ChangeShapes Go.WideShapes Go.ChangeAt Go.RowKit Go.Deep

set_option maxRecDepth 100000 in
theorem lplays_lifted (os : Os) (started : os.Started) (H : Type) (enc : TypeId × Value → H) :
    ReturnsInHanded {} Try.checked os 3 .any (Rows.ipcPlaysSpec.pre6 enc Try.prog Try.f3 Rows.ipcPlaysRow.domain false) (Rows.ipcPlaysSpec.post enc Try.prog Try.f3 false true false false) := by
  refine returnsInHanded_of_change (C := Try.checked) own_knob started (by kernel_rfl) Try.func3
    (ChangeSpec.witness6 (enc := enc) (C := Try.checked) false ⟨#[], #[.slice none 0 0], []⟩ 8 (by kernel_rfl) (by kernel_rfl) (by kernel_rfl) (by kernel_rfl)) ?_
  intro W base args ds gs before hval0 hW hcnd _
  have hval : ∀ (j : Nat) t v, Try.f3.params[j]? = some t → args[j]? = some v → Value.okWide Try.prog W .any base t v := hval0
  have hW' := hW
  obtain ⟨p, q, hA0, hV, rfl, hfz, hnd⟩ := hW
  have hA : DataW.TrodAll enc Try.prog W 0 (fun _ => true) true Try.f3.params.toList args.toList ds p := hA0
  rw [Try.params3] at hA hval
  obtain ⟨v0, vs0, d0, ds0, p0, q0, hargs, rfl, rfl, h0, r0⟩ := trodAll_cons hA
  obtain ⟨rfl, rfl, rfl⟩ := trodAll_nil r0
  obtain rfl : args = #[v0] := by cases args; simp_all
  obtain ⟨rfl, rfl⟩ := trodVars_none hV
  have k0 := h0
  have lt0 : ∀ x ∈ p0, x.block < W.heap.size := by obtain ⟨m, hm⟩ := k0; exact DataW.trod_lt m _ _ _ hm
  obtain ⟨l0, len0, cap0, rfl⟩ := okWide_slice Try.underlying22 (hval 0 22 v0 rfl rfl)
  obtain ⟨hl0, hacts0⟩ : len0 ≤ 9223372036854775807 ∧ (∃ A, Acs W l0 len0 A) := by
    obtain ⟨fuel, hf⟩ := h0
    exact acs_open (by simpa [Value.cells] using hf)
  clear hA0 hval0
  refine (lplays_any l0 len0 cap0 W hl0 hacts0).mono fun e W' ⟨he, bel⟩ => ?_
  subst he
  exact ⟨_, rfl, _, _, _, [], _, [], hW', trodAll_mk1 (shut_bool Try.underlying4 _), (trodAll_cons_mk (Below.trod laid_out (by kernel_rfl) (of_decide_eq_true (by kernel_rfl)) k0 bel lt0) trodAll_mk0), rfl, bel.frame _, fun h => by cases h⟩

theorem ipcPlays_holds : Rows.IpcPlaysSaid :=
  OpenClaim.holds_of_wide 3 Try.f3 rfl rfl rfl rfl rfl rfl rfl ⟨rfl, rfl, rfl, rfl, rfl⟩ rfl rfl rfl rfl rfl (by kernel_rfl) Try.func3 (by kernel_rfl)
    (of_decide_eq_true (by kernel_rfl)) (by unfold Func.isWrapper; first | (rw [if_pos (by decide +kernel)]; kernel_rfl) | (rw [if_neg (by decide +kernel)]; exact ⟨rfl, rfl⟩))
    (fun os started H enc _ => lplays_lifted os started H enc)
#print axioms ipcPlays_holds

end Go.Proofs.Ytjobdfkfongjaaa

