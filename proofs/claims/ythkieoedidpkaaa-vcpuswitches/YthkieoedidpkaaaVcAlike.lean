/-
  Three machines beside one another; the contract of viceroylaw18.alike. No statement is proved here.
-/
import Derived.Test.YthkieoedidpkaaaVcSameD
import Derived.Test.YthkieoedidpkaaaVgAll
namespace Go.Proofs.Ythkieoedidpkaaa
open Go.RowKit Go.Maps Go.WideMaps

/-- Two of the program's and the document's, all newer than w0, apart. -/
structure Tr (w0 w : World) (p q : Pp) (r : Qd) (S T R : Vp) : Prop where
  b : Bx w0 w p r S R (q.s T)
  iq : IsP w q T
  qhi : ∀ k, q.s T k → w0.heap.size ≤ k
section
variable {w0 w w1 : World} {p p' q : Pp} {r r' : Qd} {S S' T R R' : Vp}
theorem Tr.swap (h : Tr w0 w p q r S T R) : Tr w0 w q p r T S R :=
  ⟨⟨⟨h.iq, fun k hk => ⟨h.qhi k hk, fun hp => (h.b.vx.hi k hp).2 hk⟩, fun k hk => h.b.vx.is.lt k hk, h.b.vx.fr⟩, h.b.d, fun k hk => ⟨(h.b.qhi k hk).1, (h.b.qhi k hk).2.2, (h.b.qhi k hk).2.1⟩⟩, h.b.vx.is, fun k hk => (h.b.vx.hi k hk).1⟩
theorem Tr.step (h : Tr w0 w p q r S T R) (b : Bx w0 w1 p' r' S' R' (q.s T)) (f : FrO w0 (q.s T) w w1) : Tr w0 w1 p' q r' S' T R' :=
  ⟨b, h.iq.keep f (fun _ hk hf => hf.2 hk), h.qhi⟩
theorem Tr.keep0 (h : Tr w0 w p q r S T R) (f : Fr none' w w1) : Tr w0 w1 p q r S T R := ⟨h.b.keep0 f, h.iq.keep0 f, h.qhi⟩
theorem Tr.onP (h : Tr w0 w p q r S T R) (c : ChP w p S w1 p' S') : Tr w0 w1 p' q r S' T R := by
  obtain ⟨b, f⟩ := h.b.onP c
  exact h.step b f
theorem Tr.start {w1 w2 w3 : World} (h1 : Vx w0 w1 p S none') (h2 : Vx w1 w2 q T none') (f : Fr none' w2 w3) (d : IsD w3 r R) (hr : ∀ k, r.s k → w2.heap.size ≤ k) : Tr w0 w3 p q r S T R := by
  have hs := h1.fr.size
  have hs2 := h2.fr.size
  refine ⟨⟨⟨(h1.is.keep0 h2.fr).keep0 f, fun k hk => ⟨(h1.hi k hk).1, fun hq => ?_⟩, fun k hk => Nat.lt_of_lt_of_le (h2.is.lt k hk) f.size, (h1.fr.trans h2.fr).trans f⟩, d, fun k hk => ⟨?_, fun hq => ?_, fun hp => ?_⟩⟩, h2.is.keep0 f, fun k hk => Nat.le_trans hs (h2.hi k hk).1⟩
  · have a := h1.is.lt k hk
    have b := (h2.hi k hq).1
    omega
  · have := hr k hk; omega
  · have a := h2.is.lt k hq
    have b := hr k hk
    omega
  · have a := h1.is.lt k hp
    have b := hr k hk
    omega
end

/-- Both of the program's hold the same. -/
structure Al (w : World) (p q : Pp) (S : Vp) (wx : World) : Prop where
  ip : IsP wx p S
  iq : IsP wx q S
  f : Fr none' w wx
theorem Al.keep {w wx wy : World} {p q : Pp} {S : Vp} (h : Al w p q S wx) (f : Fr none' wx wy) : Al w p q S wy := ⟨h.ip.keep0 f, h.iq.keep0 f, h.f.trans f⟩
theorem IsP.vg {w : World} {p : Pp} {S : Vp} (h : IsP w p S) {id : Int} {x : Vc} (hx : fnd S.L id = some x) : IsVg w (p.K id) x.vg := by
  obtain ⟨⟨_, hv⟩, hid, _⟩ := h.has hx
  rw [hid] at hv
  exact hv
theorem I64.of {i : Int} (h1 : -9223372036854775808 ≤ i) (h2 : i ≤ 9223372036854775807) : I64 i := ⟨h1, h2⟩
theorem rea_ok {S : Vp} {id : Int} (h : hasB S id = true) {n : Nat} (hn : n < 8) : reaE S id (n : Int) = 0 := by
  unfold reaE
  rw [h, if_pos rfl, if_pos (rg_iff.2 (by omega))]
set_option maxRecDepth 100000 in
set_option maxHeartbeats 8000000 in
theorem alike_any (w : World) (p q : Pp) (S : Vp) (hp : IsP w p S) (hq : IsP w q S) (hh : ∀ k : Nat, k < 4 → hasB S (k : Int) = true) : Calls Try.prog 13 #[pv p.b, pv q.b] w fun e w' => e = .returned (.bool true) ∧ Fr none' w w' := by
  have HB : Hid (Al w p q S w) := ⟨hp, hq, Fr.refl _ _⟩
  have HH : Hid (∀ k : Nat, k < 4 → hasB S (k : Int) = true) := hh
  clear hp hq hh
  go_enter Try.func13, Try.ntmps13
  go_wp2_with fail
  go_loopw [5] (fun i wr => ∃ k : Nat, k ≤ 4 ∧ i = .int .i64 (k : Int) ∧ Hid (Al w p q S wr)) (fun i _ => 4 - (intOf i).toNat)
  case atStart => exact ⟨0, by omega, rfl, HB.out⟩
  case round =>
    clear HB
    obtain ⟨k, hk, rfl, HI⟩ := hrel
    by_cases h4 : k < 4
    · have d4 : decide ((k : Int) < 4) = true := decide_eq_true (by omega)
      go_wp2_with fail
      go_loopw [6] (fun i wr => ∃ n : Nat, n ≤ 8 ∧ i = .int .i64 (n : Int) ∧ Hid (Al w p q S wr)) (fun i _ => 8 - (intOf i).toNat)
      case atStart => exact ⟨0, by omega, rfl, HI.out⟩
      case round =>
        clear HI
        obtain ⟨n, hn, rfl, HI⟩ := hrel
        by_cases h8 : n < 8
        · have d8 : decide ((n : Int) < 8) = true := decide_eq_true (by omega)
          have X1 := read_any wr p S HI.out.ip (k : Int) (n : Int) (I64.of (by omega) (by omega))
          have X2 := read_any wr q S HI.out.iq (k : Int) (n : Int) (I64.of (by omega) (by omega))
          rw [rea_ok (HH.out k h4) h8] at X1 X2
          generalize reaW S (k : Int) (n : Int) = x1 at *
          have m1 : (x1 != x1) = false := by simp
          go_wp2_with fail
          refine X1.mono ?_
          clear X1
          rintro e w7 ⟨rfl, rfl⟩
          go_wp2_with fail
          refine X2.mono ?_
          clear X2
          rintro e w8 ⟨rfl, rfl⟩
          go_wp2_with fail
          go_roundw
          case rel => exact ⟨n + 1, by omega, by go_num, HI⟩
          case measure => simp [intOf]; omega
        · have d8 : decide ((n : Int) < 8) = false := decide_eq_false (by omega)
          have X1 := vgic_any wr p S HI.out.ip (k : Int) (I64.of (by omega) (by omega))
          have X2 := vgic_any wr q S HI.out.iq (k : Int) (I64.of (by omega) (by omega))
          rw [if_pos (HH.out k h4)] at X1 X2
          obtain ⟨x, hx⟩ := has_iff.1 (HH.out k h4)
          have Z1 := all_any _ (p.K (k : Int)) x.vg (HI.out.ip.vg hx)
          have HLN : Hid ((allL x.vg).length ≤ 1000) := by
            have := len_all (HI.out.ip.vg hx).good
            show _ ≤ _
            omega
          have HV2 : Hid (IsVg wr (q.K (k : Int)) x.vg) := HI.out.iq.vg hx
          generalize hL : allL x.vg = L at *
          have HLE : Hid (allL x.vg = L) := hL
          clear hx hL
          go_wp2_with fail
          refine X1.mono ?_
          clear X1
          rintro e w7 ⟨rfl, rfl⟩
          go_wp2_with fail
          refine X2.mono ?_
          clear X2
          rintro e w8 ⟨rfl, rfl⟩
          go_wp2_with fail
          refine Z1.mono ?_
          clear Z1
          rintro e w9 ⟨v1, rfl, L1, f9⟩
          have H9 : Hid (Al w p q S w9) := HI.out.keep f9
          have Z2 := all_any w9 (q.K (k : Int)) x.vg (HV2.out.keep0 f9)
          rw [HLE.out] at Z2
          obtain ⟨a1, c1, rfl, A1⟩ := L1.open
          have HA1 : Hid (LrA w9 a1 L) := A1
          clear L1 A1 f9 HI
          go_wp2_with fail
          refine Z2.mono ?_
          clear Z2
          rintro e wa ⟨v2, rfl, L2, fa⟩
          have Ha : Hid (Al w p q S wa) := H9.out.keep fa
          have HB1 : Hid (LrA wa a1 L) := HA1.out.keep0 fa
          obtain ⟨a2, c2, rfl, A2⟩ := L2.open
          have HB2 : Hid (LrA wa a2 L) := A2
          clear L2 A2 fa H9 HA1
          obtain ⟨nl, hnl⟩ : ∃ nl, nl = L.length := ⟨_, rfl⟩
          have HNL : Hid (nl = L.length) := hnl
          have hnb : nl ≤ 1000 := by rw [hnl]; exact HLN.out
          rw [← hnl]
          have n0 : ((nl : Int) != (nl : Int)) = false := by simp
          clear hnl
          go_wp2_with fail
          go_loopw [15] (fun i wr => ∃ m : Nat, m ≤ nl ∧ i = .int .i64 (m : Int) ∧ Hid (Al w p q S wr ∧ LrA wr a1 L ∧ LrA wr a2 L)) (fun i _ => nl - (intOf i).toNat)
          case atStart => exact ⟨0, by omega, rfl, Ha.out, HB1.out, HB2.out⟩
          case round =>
            clear Ha HB1 HB2
            obtain ⟨m, hm, rfl, HM⟩ := hrel
            by_cases hml : m < nl
            · obtain ⟨x, hx⟩ : ∃ x, L[m]? = some x := ⟨_, List.getElem?_eq_getElem (by rw [← HNL.out]; exact hml)⟩
              obtain ⟨g1, rfl, p0, p1, p2, p3, p4⟩ := HM.out.2.1 m x hx
              obtain ⟨g2, rfl, q0, q1, q2, q3, q4⟩ := HM.out.2.2 m x hx
              have i1 : 0 ≤ (m : Int) ∧ (m : Int) < (nl : Int) := by omega
              have u1 : decide ((m : Int) < (nl : Int)) = true := decide_eq_true (by omega)
              have u2 : decide (m < nl) = true := decide_eq_true hml
              have hcmp := neq_lr x.id x.p x.lv x.pe x.ac
              generalize x.id = xi at *; generalize x.p = xp at *; generalize x.lv = xl at *; generalize x.pe = xe at *; generalize x.ac = xa at *
              clear hx
              go_wp2_with fail
              go_quiet (fail)
              go_wp2_with fail
              go_roundw
              case rel => exact ⟨m + 1, by omega, by go_num, HM.out.1.keep (fr_drewN _ _), HM.out.2.1.keep0 (fr_drewN _ _), HM.out.2.2.keep0 (fr_drewN _ _)⟩
              case measure => simp [intOf]; omega
            · have u1 : decide ((m : Int) < (nl : Int)) = false := decide_eq_false (by omega)
              have u2 : decide (m < nl) = false := decide_eq_false hml
              go_wp2_with fail
              go_roundw
              case rel => exact ⟨k + 1, by omega, by go_num, HM.out.1⟩
              case measure => simp [intOf]; omega
    · have d4 : decide ((k : Int) < 4) = false := decide_eq_false (by omega)
      go_wp2_with fail
      go_ret
      exact ⟨rfl, HI.out.f⟩

end Go.Proofs.Ythkieoedidpkaaa
