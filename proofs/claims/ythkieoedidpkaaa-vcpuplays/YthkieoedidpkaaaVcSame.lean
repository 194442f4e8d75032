/-
  The contract of viceroylaw18.same over the translation. No statement is proved here.
-/
import Derived.Test.YthkieoedidpkaaaVcSameD
import Derived.Test.YthkieoedidpkaaaVgAll
import Derived.Deep.RegionWith
import Derived.Deep.CutRange
namespace Go.Proofs.Ythkieoedidpkaaa
open Go.RowKit Go.Maps Go.WideMaps

/-- Both alike, and nothing older than w has turned. -/
structure Bs (w0 w : World) (p : Pp) (q : Qd) (S : Vp) (wx : World) : Prop where
  b : Bx w0 wx p q S S none'
  f : Fr none' w wx
theorem Bs.keep {w0 w wx wy : World} {p : Pp} {q : Qd} {S : Vp} (h : Bs w0 w p q S wx) (f : Fr none' wx wy) : Bs w0 w p q S wy := ⟨h.b.keep0 f, h.f.trans f⟩
set_option maxRecDepth 100000 in
set_option maxHeartbeats 8000000 in
theorem same_any (w0 w : World) (p : Pp) (q : Qd) (S : Vp) (h : Bx w0 w p q S S none') : Calls Try.prog 9 #[pv p.b, pv q.b] w fun e w' => e = .returned (.bool true) ∧ Fr none' w w' := by
  have HB : Hid (Bs w0 w p q S w) := ⟨h, Fr.refl _ _⟩
  have X := xloaded h.vx
  have Y := xbank h.vx
  clear h
  have hbk : ∃ f, f = bkF S := ⟨_, rfl⟩
  obtain ⟨f, hf⟩ := hbk
  have HF : Hid (bkF S = f) := hf.symm
  rw [← hf] at Y
  clear hf
  have q8 : ∀ w, (Op.equalIn 10000 33 (.agg #[.int .u32 (f 0), .int .u32 (f 1), .int .u32 (f 2), .int .u32 (f 3), .int .u32 (f 4), .int .u32 (f 5), .int .u32 (f 6), .int .u32 (f 7)]) (.agg #[.int .u32 (f 0), .int .u32 (f 1), .int .u32 (f 2), .int .u32 (f 3), .int .u32 (f 4), .int .u32 (f 5), .int .u32 (f 6), .int .u32 (f 7)])).run Try.prog w = .ok true w := fun w => (eq8_in f f w).trans (by rw [eq8B_same])
  dsimp only [r8] at Y
  go_enter Try.func9, Try.ntmps9
  go_wp2_with fail
  refine X.mono ?_
  clear X
  rintro e w1 ⟨rfl, hw⟩
  have hw := hw.symm
  subst hw
  go_wp2_with fail
  refine Y.mono ?_
  clear Y
  rintro e w2 ⟨rfl, f2⟩
  have r1 := row_alloc w2 #[.int .u32 (f 0), .int .u32 (f 1), .int .u32 (f 2), .int .u32 (f 3), .int .u32 (f 4), .int .u32 (f 5), .int .u32 (f 6), .int .u32 (f 7)] 33
  have H2 : Hid _ := HB.out.keep (f2.alloc (.cells #[.int .u32 (f 0), .int .u32 (f 1), .int .u32 (f 2), .int .u32 (f 3), .int .u32 (f 4), .int .u32 (f 5), .int .u32 (f 6), .int .u32 (f 7)] 33))
  have cq := H2.out.b.d.row.cell 2
  dsimp at cq
  have a0 := r1.cell 0
  have a1 := r1.cell 1
  have a2 := r1.cell 2
  have a3 := r1.cell 3
  have a4 := r1.cell 4
  have a5 := r1.cell 5
  have a6 := r1.cell 6
  have a7 := r1.cell 7
  dsimp at a0 a1 a2 a3 a4 a5 a6 a7
  have R1 : Hid _ := r1
  clear HB f2 r1
  go_upto_region 3 with fail
  generalize hW : (w2.alloc (.cells #[.int .u32 (f 0), .int .u32 (f 1), .int .u32 (f 2), .int .u32 (f 3), .int .u32 (f 4), .int .u32 (f 5), .int .u32 (f 6), .int .u32 (f 7)] 33)) = W at *
  clear hW
  have Z : ∀ V, Fr none' W V → Calls Try.prog 39 #[pv q.b] V fun e w' => e = .returned (.agg #[.int .u32 (f 0), .int .u32 (f 1), .int .u32 (f 2), .int .u32 (f 3), .int .u32 (f 4), .int .u32 (f 5), .int .u32 (f 6), .int .u32 (f 7)]) ∧ Fr none' W w' := fun V hV => by
    have h := dbank_any V q S (H2.out.keep hV).b.d
    rw [HF.out] at h
    exact h.mono fun e w' ⟨h1, h2⟩ => ⟨h1, hV.trans h2⟩
  go_cut [35] from 24 to 35 (fun s wx => s = .bool false ∧ Hid (Bs w0 w p q S wx))
  case first =>
    go_region_with (go_at_call 39; refine (Z _ (Fr.refl none' W).drew).mono ?_; rintro e w3 ⟨rfl, f3⟩; have r3 := Row.keep R1.out f3 (fun h => h); have b0 := r3.cell 0; have b1 := r3.cell 1; have b2 := r3.cell 2; have b3 := r3.cell 3; have b4 := r3.cell 4; have b5 := r3.cell 5; have b6 := r3.cell 6; have b7 := r3.cell 7; dsimp at b0 b1 b2 b3 b4 b5 b6 b7)
    all_goals (go_wp2_with fail; go_meet; exact ⟨rfl, H2.out.keep (by first | exact f3 | exact f3.drew)⟩)
  case rest =>
    obtain ⟨rfl, HC⟩ := hcut
    clear a0 a1 a2 a3 a4 a5 a6 a7 cq H2 R1 Z q8
    go_wp2_with fail
    go_loopw [7] (fun i wr => ∃ k : Nat, k ≤ 6 ∧ i = .int .i64 (k : Int) ∧ Hid (Bs w0 w p q S wr)) (fun i _ => 6 - (intOf i).toNat)
    case atStart => exact ⟨0, by omega, rfl, HC.out⟩
    case round =>
      clear HC
      obtain ⟨k, hk, rfl, HI⟩ := hrel
      by_cases h6 : k < 6
      · have d6 : decide ((k : Int) < 6) = true := decide_eq_true (by omega)
        have X1 := xof HI.out.b.vx (k : Int)
        go_wp2_with fail
        refine X1.mono ?_
        clear X1
        rintro e w3 ⟨rfl, f3⟩
        have H3 : Hid (Bs w0 w p q S w3) := HI.out.keep f3
        have X2 := xthread H3.out.b.vx (k : Int) (i64_of (by omega) (by omega))
        have X3 := dofq_any w3 q S H3.out.b.d (k : Int)
        have X4 := dthread_any w3 q S H3.out.b.d (k : Int)
        generalize ofI S (k : Int) = o1 at *
        generalize thrI S (k : Int) = o2 at *
        have n1 : (o1 != o1) = false := by simp
        have n2 : (o2 != o2) = false := by simp
        clear HI f3
        go_wp2_with fail
        refine X2.mono ?_
        clear X2
        rintro e w4 ⟨rfl, rfl⟩
        go_wp2_with fail
        refine X3.mono ?_
        clear X3
        rintro e w5 ⟨rfl, rfl⟩
        go_wp2_with fail
        refine X4.mono ?_
        clear X4
        rintro e w6 ⟨rfl, rfl⟩
        go_wp2_with fail
        go_loopw [10] (fun i wr => ∃ n : Nat, n ≤ 8 ∧ i = .int .i64 (n : Int) ∧ Hid (Bs w0 w p q S wr)) (fun i _ => 8 - (intOf i).toNat)
        case atStart => exact ⟨0, by omega, rfl, H3.out⟩
        case round =>
          clear H3
          obtain ⟨n, hn, rfl, HI⟩ := hrel
          by_cases h8 : n < 8
          · have d8 : decide ((n : Int) < 8) = true := decide_eq_true (by omega)
            have X1 := xread HI.out.b.vx (k : Int) (n : Int) (i64_of (by omega) (by omega))
            have X2 := dread_any wr q S HI.out.b.d (k : Int) (n : Int)
            generalize reaW S (k : Int) (n : Int) = x1 at *
            generalize reaE S (k : Int) (n : Int) = x2 at *
            have m1 : (x1 != x1) = false := by simp
            have m2 : (x2 != x2) = false := by simp
            go_wp2_with fail
            refine X1.mono ?_
            clear X1
            rintro e w7 ⟨rfl, rfl⟩
            go_wp2_with fail
            refine X2.mono ?_
            clear X2
            rintro e w8 ⟨rfl, rfl⟩
            go_wp2_with fail
            go_roundw
            case rel => exact ⟨n + 1, by omega, by go_num, HI⟩
            case measure => simp [intOf]; omega
          · have d8 : decide ((n : Int) < 8) = false := decide_eq_false (by omega)
            have X1 := xvgic HI.out.b.vx (k : Int) (i64_of (by omega) (by omega))
            have X2 := dat_any wr q S HI.out.b.d (k : Int)
            have hlen := HI.out.b.d.dlen
            cases hs : hasB S (k : Int) with
            | false =>
              have HS : Hid (hasB S (k : Int) = false) := hs
              rw [hs] at X1
              clear hs hlen
              go_wp2_with fail
              refine X1.mono ?_
              clear X1
              rintro e w7 ⟨rfl, rfl⟩
              go_wp2_with fail
              refine X2.mono ?_
              clear X2
              rintro e w8 ⟨rfl, i, rfl, hp⟩
              rcases hp with ⟨hn, rfl⟩ | ⟨j, y, hj, hid, hf, rfl⟩
              · clear hn
                go_wp2_with fail
                go_roundw
                case rel => exact ⟨k + 1, by omega, by go_num, HI⟩
                case measure => simp [intOf]; omega
              · exact absurd (has_iff.2 ⟨_, hf⟩) (by rw [HS.out]; decide)
            | true =>
              obtain ⟨x, hx⟩ := has_iff.1 hs
              have HX : Hid (fnd S.L (k : Int) = some x) := hx
              rw [hs, if_pos rfl] at X1
              have cL := HI.out.b.d.row.cell 0
              obtain ⟨aL, cap, hv, hnL⟩ := HI.out.b.d.fl.form encO_len
              dsimp at cL
              rw [hv] at cL
              have HV : Hid _ := hnL
              generalize hND : q.D.length = N at cL hlen
              have HN : Hid (q.D.length = N) := hND
              clear hs hx hnL hv hND
              go_wp2_with fail
              refine X1.mono ?_
              clear X1
              rintro e w7 ⟨rfl, rfl⟩
              go_wp2_with fail
              refine X2.mono ?_
              clear X2
              rintro e w8 ⟨rfl, i, rfl, hp⟩
              rcases hp with ⟨hn, rfl⟩ | ⟨j, y, hj, hid, hf, rfl⟩
              · rw [HX.out] at hn
                cases hn
              · have hxy : x = y.1 := by
                  rw [HX.out] at hf
                  exact Option.some.inj hf
                have hjN : j < N := by
                  rw [← HN.out]
                  rcases Nat.lt_or_ge j q.D.length with h' | h'
                  · exact h'
                  · rw [List.getElem?_eq_none h'] at hj; cases hj
                obtain ⟨g, rfl, hc, _⟩ := HV.out j y hj
                have j0 : decide ((j : Int) < 0) = false := decide_eq_false (by omega)
                have jN : 0 ≤ (j : Int) ∧ (j : Int) < (N : Int) := by omega
                have Z1 := all_any _ (p.K (k : Int)) x.vg (HI.out.b.vx.vg HX.out)
                have HRV : Hid (IsRv w8 y.2 x.vg) := by
                  rw [hxy]
                  exact HI.out.b.d.vs y (List.mem_of_getElem? hj)
                have d10 : Hid (w8.cell? ⟨g, j * 11 + 10, none⟩ = some (pv y.2)) := hc 10 _ rfl
                have HLN : Hid ((allL x.vg).length ≤ 1000) := by
                  have := len_all (HI.out.b.vx.vg HX.out).good
                  show _ ≤ _
                  omega
                have CL : Hid _ := cL
                generalize y.2 = yb at *
                generalize hLL : allL x.vg = L at *
                have HLE : Hid (allL x.vg = L) := hLL
                clear hLL
                clear hc hj hid hf hxy cL
                go_wp2_with fail
                refine Z1.mono ?_
                clear Z1
                rintro e w9 ⟨v1, rfl, L1, f9⟩
                have H9 : Hid (Bs w0 w p q S w9) := HI.out.keep f9
                have cL := cell_keep f9 CL.out (fun h => h)
                have d10 := cell_keep f9 d10.out (fun h => h)
                have Z2 := rall_v w9 yb _ (HRV.out.keep0 f9)
                rw [HLE.out] at Z2
                obtain ⟨a1, c1, rfl, A1⟩ := L1.open
                have HA1 : Hid (LrA w9 a1 L) := A1
                clear L1 A1 f9 HI CL
                go_wp2_with fail
                refine Z2.mono ?_
                clear Z2
                rintro e wa ⟨v2, rfl, L2, fa⟩
                have Ha : Hid (Bs w0 w p q S wa) := H9.out.keep fa
                have HB1 : Hid (LrA wa a1 L) := HA1.out.keep0 fa
                obtain ⟨a2, c2, rfl, A2⟩ := L2.open
                have HB2 : Hid (LrA wa a2 L) := A2
                clear L2 A2 fa H9 HA1 cL d10
                obtain ⟨nl, hnl⟩ : ∃ nl, nl = L.length := ⟨_, rfl⟩
                have HNL : Hid (nl = L.length) := hnl
                have hnb : nl ≤ 1000 := by rw [hnl]; exact HLN.out
                rw [← hnl]
                have n0 : ((nl : Int) != (nl : Int)) = false := by simp
                clear hnl
                go_wp2_with fail
                go_loopw [19] (fun i wr => ∃ m : Nat, m ≤ nl ∧ i = .int .i64 (m : Int) ∧ Hid (Bs w0 w p q S wr ∧ LrA wr a1 L ∧ LrA wr a2 L)) (fun i _ => nl - (intOf i).toNat)
                case atStart => exact ⟨0, by omega, rfl, Ha.out, HB1.out, HB2.out⟩
                case round =>
                  clear Ha HB1 HB2
                  obtain ⟨m, hm, rfl, HM⟩ := hrel
                  by_cases hml : m < nl
                  · obtain ⟨x, hx⟩ : ∃ x, L[m]? = some x := ⟨_, List.getElem?_eq_getElem (by rw [← HNL.out]; exact hml)⟩
                    obtain ⟨g1, rfl, p0, p1, p2, p3, p4⟩ := HM.out.2.1 m x hx
                    obtain ⟨g2, rfl, q0, q1, q2, q3, q4⟩ := HM.out.2.2 m x hx
                    have i1 : 0 ≤ (m : Int) ∧ (m : Int) < (nl : Int) := by omega
                    have u1 : decide ((m : Int) < (nl : Int)) = true := decide_eq_true (by omega)
                    have u2 : decide (m < nl) = true := decide_eq_true hml
                    have hcmp := neq_lr x.id x.p x.lv x.pe x.ac
                    generalize x.id = xi at *; generalize x.p = xp at *; generalize x.lv = xl at *; generalize x.pe = xe at *; generalize x.ac = xa at *
                    clear hx
                    go_wp2_with fail
                    go_quiet (fail)
                    go_wp2_with fail
                    go_roundw
                    case rel => exact ⟨m + 1, by omega, by go_num, HM.out.1.keep (fr_drewN _ _), HM.out.2.1.keep0 (fr_drewN _ _), HM.out.2.2.keep0 (fr_drewN _ _)⟩
                    case measure => simp [intOf]; omega
                  · have u1 : decide ((m : Int) < (nl : Int)) = false := decide_eq_false (by omega)
                    have u2 : decide (m < nl) = false := decide_eq_false hml
                    go_wp2_with fail
                    go_roundw
                    case rel => exact ⟨k + 1, by omega, by go_num, HM.out.1⟩
                    case measure => simp [intOf]; omega
      · have d6 : decide ((k : Int) < 6) = false := decide_eq_false (by omega)
        go_wp2_with fail
        go_ret
        exact ⟨rfl, HI.out.f⟩

end Go.Proofs.Ythkieoedidpkaaa
