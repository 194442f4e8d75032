/-
  The law UntypedResets walked. No statement is proved here.
-/
import Derived.Test.YtcmhndkbcfpbbaaUtResA
import Derived.Deep.CutBlock
import Derived.Deep.CutRange
namespace Go.Proofs.Ytcmhndkbcfpbbaa
open Go.RowKit

theorem getC_one' (x : Rg) : getC [x] x.f = x := by unfold getC; rw [fnd_one]; rfl
theorem getE_one' (x : Rg) : getE [x] x.f = 0 := by unfold getE; rw [fnd_one]; rfl
/-- A turn of the reset. -/
theorem rst_turn {x : Rg} (hx : okR x = true) (j : Nat) (hj : (j : Int) ≤ x.m) (u : Int) (hu : 1 ≤ u) (bs : List UInt8) : ∃ k : Nat, ((k : Int) = min u (x.m - j)) ∧ rstE [⟨x.f, x.n, x.m - j, x.d⟩] x.f u = (if x.m - j ≤ u then 0 else 3) ∧ rstU [⟨x.f, x.n, x.m - j, x.d⟩] x.f u = u - k ∧ rstS [⟨x.f, x.n, x.m - j, x.d⟩] x.f u = [⟨x.f, x.n, x.m - ((j + k : Nat) : Int), x.d⟩] ∧ rstB [⟨x.f, x.n, x.m - j, x.d⟩] x.f u 32 (clrN 32 x.d (x.f + x.m) bs j) = clrN 32 x.d (x.f + x.m) bs (j + k) := by
  have hg := okR_iff.1 hx
  have hf := fnd_one (⟨x.f, x.n, x.m - j, x.d⟩ : Rg)
  have hN : rstN u (x.m - j) = min u (x.m - j) := by unfold rstN; omega
  refine ⟨(min u (x.m - j)).toNat, by omega, ?_, ?_, ?_, ?_⟩
  · unfold rstE
    rw [show fnd [(⟨x.f, x.n, x.m - j, x.d⟩ : Rg)] x.f = _ from hf]
    show (if x.m - j ≤ max 0 u then _ else _) = _
    rw [show max 0 u = u by omega]
  · unfold rstU
    rw [show fnd [(⟨x.f, x.n, x.m - j, x.d⟩ : Rg)] x.f = _ from hf]
    show u - rstN u (x.m - j) = _
    rw [hN]; omega
  · unfold rstS
    rw [show fnd [(⟨x.f, x.n, x.m - j, x.d⟩ : Rg)] x.f = _ from hf]
    show setM [(⟨x.f, x.n, x.m - j, x.d⟩ : Rg)] x.f (x.m - j - rstN u (x.m - j)) = _
    rw [show setM [(⟨x.f, x.n, x.m - j, x.d⟩ : Rg)] x.f (x.m - j - rstN u (x.m - j)) = _ from setM_one (⟨x.f, x.n, x.m - j, x.d⟩ : Rg) _, hN]
    rw [show x.m - (j : Int) - min u (x.m - j) = x.m - ((j + (min u (x.m - j)).toNat : Nat) : Int) by omega]
  · unfold rstB
    rw [show fnd [(⟨x.f, x.n, x.m - j, x.d⟩ : Rg)] x.f = _ from hf]
    show clrN 32 x.d (x.f + (x.m - j)) (clrN 32 x.d (x.f + x.m) bs j) (rstN u (x.m - j)).toNat = _
    rw [hN, show x.f + (x.m - (j : Int)) = x.f + x.m - j by omega, clrN_add]

set_option maxRecDepth 100000 in
set_option maxHeartbeats 4000000 in
theorem lresets_any (x : Rg) (a0 : Option Addr) (len cap : Nat) (un : Int) (w : World) (hx : OkG x) (hl : len ≤ 9223372036854775807) (hA : ∃ A, Bys w a0 len A) (hu : I64 un) : Calls Try.prog 6 #[rgV x, .slice a0 len cap, .int .i64 un] w fun e w' => e = .returned (.bool true) ∧ Below w.heap.size w w' := by
  obtain ⟨A, hA⟩ := hA
  have HA : Hid (Bys w a0 len A) := hA
  have r0 : RgR (w.alloc (.cells (rgA x) 39)) w.heap.size x := row_alloc w (rgA x) 39
  have f0 := (Fr.refl none' w).alloc (.cells (rgA x) 39)
  have hxf := hx.1
  clear hx hA
  dsimp only [rgV, rgA] at *
  go_enter Try.func6, Try.ntmps6
  go_wp2_with fail
  refine (awake_any _).mono ?_
  rintro e w1 ⟨rfl, f1⟩
  replace r0 := r0.keep f1 (fun h => h)
  replace f0 := f0.trans f1
  clear f1
  go_wp2_with fail
  refine (pnew w1).mono ?_
  rintro e w2 ⟨b, rfl, P⟩
  go_wp2_with fail
  refine (new_nat 32 w2 (by omega) (by omega)).mono ?_
  rintro e w3 ⟨rfl, f3, m3⟩
  have B0 : w1.heap.size ≤ w2.heap.size := P.old.size
  replace P := P.keep0 f3
  generalize List.replicate (64 * 32) (0 : UInt8) = bz at *
  have r2 := r0.keep P.old (fun h => h)
  obtain ⟨d0, d1, d2, d3⟩ := r2.cells
  clear f3
  go_wp2_with fail
  refine (padd P.types x hxf).mono ?_
  rintro e w4 ⟨rfl, Q, f4⟩
  replace m3 := m3.keep f4 (fun h => h.2 ⟨_, _, m3.head, by decide, by decide⟩) (fun h => h.2 ⟨_, _, m3.row, by decide, by decide⟩)
  clear d0 d1 d2 d3 r2 P f4
  cases ho : okR x with
  | false =>
    rw [addE_not ho]
    have HB : Hid (Below w.heap.size w w4) := (f0.trans Q.old).below (Nat.le_refl _) (fun _ h => h.elim)
    clear Q f0 r0 ho m3
    go_wp2_with fail
    go_ret
    exact ⟨rfl, HB.out⟩
  | true =>
    obtain ⟨e1, e2⟩ := addE_one ho
    rw [e1]
    rw [e2] at Q
    have hg := okR_iff.1 ho
    have HO : Hid (okR x = true) := ho
    clear e1 e2 ho
    by_cases h1 : un < 1
    · have HB : Hid (Below w.heap.size w w4) := (f0.trans Q.old).below (Nat.le_refl _) (fun _ h => h.elim)
      clear Q f0 r0 m3
      go_wp2_with fail
      go_ret
      exact ⟨rfl, HB.out⟩
    · have HS : Hid (∃ bs, RsS w1 w4 b (w2.heap.size + 1) w2.heap.size [x] bs) := ⟨bz, Q.less, m3, B0⟩
      have HR : Hid (RgR w1 w.heap.size x ∧ Fr none' w w1) := ⟨r0, f0⟩
      clear Q f0 r0 m3 B0
      generalize w2.heap.size = bm at *
      go_upto_block 0 with fail
      go_cut [12] from 50 to 70 (fun i wc => Hid (∃ bs, RsS w1 wc b (bm + 1) bm [x] bs))
      case first =>
        go_wp2_with fail
        go_loopw [12] (fun i wr => ∃ k : Nat, k ≤ 2048 ∧ i = .int .i64 (k : Int) ∧ Hid (∃ bs, RsS w1 wr b (bm + 1) bm [x] bs)) (fun i _ => 2048 - (intOf i).toNat)
        case atStart => exact ⟨0, by omega, rfl, HS⟩
        case round =>
          obtain ⟨k, hk, rfl, HI⟩ := hrel
          clear HS
          by_cases hk2 : k < 2048
          · have u1 : decide ((k : Int) < 2048) = true := decide_eq_true (by omega)
            by_cases hz : len = 0
            · subst hz
              go_wp2_with fail
              go_meet
              case rel => exact HI
            · obtain ⟨bs, S⟩ := HI.out
              have hpos : 0 < (len : Int) := by omega
              have u2 : decide (0 < (len : Int)) = true := decide_eq_true hpos
              have n0 : (len : Int) ≠ 0 := by omega
              obtain ⟨g, o, rfl, c⟩ := (HA.out.keep (HR.out.2.trans S.po.old)) (k % len) (Nat.mod_lt _ (by omega))
              have hmod : (k : Int).tmod (len : Int) = ((k % len : Nat) : Int) := rfl
              have hlt := Nat.mod_lt k (show 0 < len by omega)
              generalize k % len = km at *
              have i1 : 0 ≤ (km : Int) ∧ (km : Int) < (len : Int) := by omega
              have hb := (A km).toNat_lt
              unfold U8 at c
              generalize (A km).toNat = v at *
              have T := S.store (k : Int) (by omega) (v + 1) (by omega)
              rw [show ((v + 1 : Nat) : Int) = (v : Int) + 1 by omega] at T
              clear S HI
              go_wp2_with fail
              refine T.mono ?_
              rintro e wa ⟨⟨z, rfl⟩, hS⟩
              have HS : Hid (∃ bs, RsS w1 wa b (bm + 1) bm [x] bs) := hS
              clear hS T
              go_wp2_with fail
              go_roundw
              case rel => exact ⟨k + 1, by omega, by go_num, HS⟩
              case measure => simp [intOf]; omega
          · obtain rfl : k = 2048 := by omega
            have u1 : decide (((2048 : Nat) : Int) < 2048) = false := decide_eq_false (by omega)
            go_wp2_with fail
            go_meet
            case rel => exact HI
      case rest =>
        obtain ⟨bs, S⟩ := hcut.out
        clear hcut HS HA
        have HBb : Hid (bs.length = 64 * 32) := S.ram.len
        have rb := row_alloc wc #[.slice none 0 0, .slice none 0 0, .slice none 0 0, .slice none 0 0, .slice none 0 0, .slice none 0 0, .slice none 0 0, .slice none 0 0, .slice none 0 0, .slice none 0 0, .slice none 0 0, .slice none 0 0, .slice none 0 0, .slice none 0 0, .slice none 0 0, .slice none 0 0, .slice none 0 0, .slice none 0 0, .slice none 0 0, .slice none 0 0, .slice none 0 0, .slice none 0 0, .slice none 0 0, .slice none 0 0, .slice none 0 0, .slice none 0 0, .slice none 0 0, .slice none 0 0, .slice none 0 0, .slice none 0 0, .slice none 0 0, .slice none 0 0] 58
        have fb := (Fr.refl none' wc).alloc (.cells #[.slice none 0 0, .slice none 0 0, .slice none 0 0, .slice none 0 0, .slice none 0 0, .slice none 0 0, .slice none 0 0, .slice none 0 0, .slice none 0 0, .slice none 0 0, .slice none 0 0, .slice none 0 0, .slice none 0 0, .slice none 0 0, .slice none 0 0, .slice none 0 0, .slice none 0 0, .slice none 0 0, .slice none 0 0, .slice none 0 0, .slice none 0 0, .slice none 0 0, .slice none 0 0, .slice none 0 0, .slice none 0 0, .slice none 0 0, .slice none 0 0, .slice none 0 0, .slice none 0 0, .slice none 0 0, .slice none 0 0, .slice none 0 0] 58)
        have HS : Hid (RsS w1 (wc.alloc (.cells #[.slice none 0 0, .slice none 0 0, .slice none 0 0, .slice none 0 0, .slice none 0 0, .slice none 0 0, .slice none 0 0, .slice none 0 0, .slice none 0 0, .slice none 0 0, .slice none 0 0, .slice none 0 0, .slice none 0 0, .slice none 0 0, .slice none 0 0, .slice none 0 0, .slice none 0 0, .slice none 0 0, .slice none 0 0, .slice none 0 0, .slice none 0 0, .slice none 0 0, .slice none 0 0, .slice none 0 0, .slice none 0 0, .slice none 0 0, .slice none 0 0, .slice none 0 0, .slice none 0 0, .slice none 0 0, .slice none 0 0, .slice none 0 0] 58)) b (bm + 1) bm [x] bs ∧ Bf (wc.alloc (.cells #[.slice none 0 0, .slice none 0 0, .slice none 0 0, .slice none 0 0, .slice none 0 0, .slice none 0 0, .slice none 0 0, .slice none 0 0, .slice none 0 0, .slice none 0 0, .slice none 0 0, .slice none 0 0, .slice none 0 0, .slice none 0 0, .slice none 0 0, .slice none 0 0, .slice none 0 0, .slice none 0 0, .slice none 0 0, .slice none 0 0, .slice none 0 0, .slice none 0 0, .slice none 0 0, .slice none 0 0, .slice none 0 0, .slice none 0 0, .slice none 0 0, .slice none 0 0, .slice none 0 0, .slice none 0 0, .slice none 0 0, .slice none 0 0] 58)) wc.heap.size 0 bs) := ⟨S.keep0 fb, _, rb, rfl, fun i hi => by omega⟩
        have HL : Hid (w1.heap.size ≤ wc.heap.size) := S.po.old.size
        clear S rb fb
        go_wp2_with fail
        generalize wc.alloc (.cells #[.slice none 0 0, .slice none 0 0, .slice none 0 0, .slice none 0 0, .slice none 0 0, .slice none 0 0, .slice none 0 0, .slice none 0 0, .slice none 0 0, .slice none 0 0, .slice none 0 0, .slice none 0 0, .slice none 0 0, .slice none 0 0, .slice none 0 0, .slice none 0 0, .slice none 0 0, .slice none 0 0, .slice none 0 0, .slice none 0 0, .slice none 0 0, .slice none 0 0, .slice none 0 0, .slice none 0 0, .slice none 0 0, .slice none 0 0, .slice none 0 0, .slice none 0 0, .slice none 0 0, .slice none 0 0, .slice none 0 0, .slice none 0 0] 58) = v0 at *
        generalize wc.heap.size = gb at *
        go_loopw [14] (fun i wr => ∃ k : Nat, k ≤ 32 ∧ i = .int .i64 (k : Int) ∧ Hid (RsS w1 wr b (bm + 1) bm [x] bs ∧ Bf wr gb k bs)) (fun i _ => 32 - (intOf i).toNat)
        case atStart => exact ⟨0, by omega, rfl, HS⟩
        case round =>
          obtain ⟨k, hk, rfl, HI⟩ := hrel
          clear HS
          by_cases hk2 : k < 32
          · obtain ⟨S, Bq⟩ := HI.out
            have T := S.frame k hk2
            clear HI
            have i1 : 0 ≤ (k : Int) ∧ (k : Int) < 32 := by omega
            go_wp2_with fail
            refine T.mono ?_
            rintro e wa ⟨rfl, Sa, ra, fa⟩
            replace Bq := Bq.keep0 fa
            have HB : Hid (Bf (wa.setCell ⟨gb, k, none⟩ (.slice (some ⟨wr.heap.size, 0, none⟩) 64 64)) gb (k + 1) bs) := Bq.next hk2 ra
            obtain ⟨cs, rc, hs, _⟩ := Bq
            have HS : Hid (RsS w1 (wa.setCell ⟨gb, k, none⟩ (.slice (some ⟨wr.heap.size, 0, none⟩) 64 64)) b (bm + 1) bm [x] bs) := Sa.put rc (by decide) (by decide) (by decide) (by decide) HL.out k _
            obtain ⟨ck, c⟩ : ∃ ck, wa.cell? ⟨gb, k, none⟩ = some ck := ⟨cs[k]'(by omega), by rw [rc.cell, Array.getElem?_eq_getElem (by omega)]⟩
            have z := rc.frozen k
            clear T S Sa ra fa rc hs
            go_wp2_with fail
            go_roundw
            case rel => exact ⟨k + 1, by omega, by go_num, HS.out, HB.out⟩
            case measure => simp [intOf]; omega
          · have hk32 : k = 32 := by omega
            replace HI : Hid (RsS w1 wr b (bm + 1) bm [x] bs ∧ Bf wr gb 32 bs) := by rw [← hk32]; exact HI.out
            clear hk hk32
            go_wp2_with fail
            clear hk2
            have HI2 : Hid (RsS w1 wr b (bm + 1) bm [⟨x.f, x.n, x.m - ((0 : Nat) : Int), x.d⟩] (clrN 32 x.d (x.f + x.m) bs 0) ∧ Bf wr gb 32 bs) := by
              have h0 : (⟨x.f, x.n, x.m - ((0 : Nat) : Int), x.d⟩ : Rg) = x := by obtain ⟨a, b, c, d⟩ := x; simp
              rw [h0]
              exact HI.out
            clear HI
            have hun : (un < 1) = False := by simp; omega
            simp only [hun, decide_false]
            clear hun
            go_loopw [17, 18, 19] (fun us er tu wx => ∃ (t j : Nat) (E : Int), us = .int .i64 (j : Int) ∧ er = .int .i64 E ∧ tu = .int .i64 (t : Int) ∧ (j : Int) ≤ x.m ∧ t ≤ 1024 ∧ Hid ((E = 3 ∧ t ≤ j ∧ (t = 0 ∨ (j : Int) < x.m)) ∨ (E = 0 ∧ (j : Int) = x.m)) ∧ Hid (RsS w1 wx b (bm + 1) bm [⟨x.f, x.n, x.m - (j : Int), x.d⟩] (clrN 32 x.d (x.f + x.m) bs j) ∧ Bf wx gb 32 bs)) (fun _ _ tu _ => 1025 - (intOf tu).toNat)
            case atStart => exact ⟨0, 0, 3, rfl, rfl, rfl, by omega, by omega, Or.inl ⟨rfl, by omega, Or.inl rfl⟩, HI2⟩
            case round =>
              rename_i wq
              obtain ⟨t, j, E, rfl, rfl, rfl, hj, ht, HE, HI⟩ := hrel
              clear HI2
              have ut : decide ((t : Int) ≤ 1024) = true := decide_eq_true (by omega)
              rcases HE.out with ⟨rfl, htj, ht0⟩ | ⟨rfl, hjm⟩
              · obtain ⟨S, Bq⟩ := HI.out
                clear HE HI
                by_cases h100 : 100 < un
                · have fA := (Fr.refl none' wr).alloc (.cells #[.int .i64 100] 3)
                  have SA := S.keep0 fA
                  have BA := Bq.keep0 fA
                  have rU := row_alloc wr #[.int .i64 100] 3
                  have rx := HR.out.1.keep SA.po.old (fun h => h)
                  obtain ⟨d0, d1, d2, d3⟩ := rx.cells
                  obtain ⟨k, hk, e1, e2, e3, e4⟩ := rst_turn HO.out j hj 100 (by omega) bs
                  have HK : Hid ((k : Int) = min 100 (x.m - j)) := hk
                  clear hk
                  have T := SA.reset x.f 100 hxf (by unfold I64; obtain ⟨q1, q2⟩ := hu; omega) wr.heap.size rU S.po.old.size
                  rw [e1, e2, e3, e4] at T
                  clear e1 e2 e3 e4 S Bq rx fA SA rU
                  go_wp2_with fail
                  refine T.mono ?_
                  rintro e wa ⟨rfl, Sa, ua, ka⟩
                  have HN : Hid (RsS w1 wa b (bm + 1) bm [⟨x.f, x.n, x.m - ((j + k : Nat) : Int), x.d⟩] (clrN 32 x.d (x.f + x.m) bs (j + k)) ∧ Bf wa gb 32 bs) := ⟨Sa, BA.keep ka⟩
                  have cu : wa.cell? ⟨wr.heap.size, 0, none⟩ = some (.int .i64 (100 - k)) := ua.cell 0
                  have hu1 := hu.1
                  have hu2 := hu.2
                  have q1 : IntKind.i64.wrap ((j : Int) + 100) = (j : Int) + 100 := w64 (by omega) (by omega)
                  have q2 : IntKind.i64.wrap ((j : Int) + 100 - (100 - k)) = ((j + k : Nat) : Int) := by have := HK.out; rw [show (j : Int) + 100 - (100 - k) = ((j + k : Nat) : Int) by omega]; exact w64 (by omega) (by omega)
                  have q3 : IntKind.i64.wrap ((t : Int) + 1) = ((t + 1 : Nat) : Int) := by rw [show (t : Int) + 1 = ((t + 1 : Nat) : Int) by omega]; exact w64 (by omega) (by omega)
                  clear T Sa ua ka BA d0 d1 d2 d3
                  by_cases hfin : x.m - (j : Int) ≤ 100
                  · rw [if_pos hfin]
                    have hb1 : ((j + k : Nat) : Int) ≤ x.m := by have := HK.out; omega
                    have hb2 : t + 1 ≤ 1024 := by omega
                    go_wp2_with fail
                    go_roundw
                    case rel => exact ⟨t + 1, j + k, 0, by first | rfl | go_num, rfl, by go_num, hb1, hb2, Or.inr ⟨rfl, by have := HK.out; omega⟩, HN⟩
                    case measure => simp [intOf]; omega
                  · rw [if_neg hfin]
                    have hb1 : ((j + k : Nat) : Int) ≤ x.m := by have := HK.out; omega
                    have hb2 : t + 1 ≤ 1024 := by omega
                    go_wp2_with fail
                    go_roundw
                    case rel => exact ⟨t + 1, j + k, 3, by first | rfl | go_num, rfl, by go_num, hb1, hb2, Or.inl ⟨rfl, by have := HK.out; omega, Or.inr (by have := HK.out; omega)⟩, HN⟩
                    case measure => simp [intOf]; omega
                · have fA := (Fr.refl none' wr).alloc (.cells #[.int .i64 un] 3)
                  have SA := S.keep0 fA
                  have BA := Bq.keep0 fA
                  have rU := row_alloc wr #[.int .i64 un] 3
                  have rx := HR.out.1.keep SA.po.old (fun h => h)
                  obtain ⟨d0, d1, d2, d3⟩ := rx.cells
                  obtain ⟨k, hk, e1, e2, e3, e4⟩ := rst_turn HO.out j hj un (by omega) bs
                  have HK : Hid ((k : Int) = min un (x.m - j)) := hk
                  clear hk
                  have T := SA.reset x.f un hxf (by unfold I64; obtain ⟨q1, q2⟩ := hu; omega) wr.heap.size rU S.po.old.size
                  rw [e1, e2, e3, e4] at T
                  clear e1 e2 e3 e4 S Bq rx fA SA rU
                  go_wp2_with fail
                  refine T.mono ?_
                  rintro e wa ⟨rfl, Sa, ua, ka⟩
                  have HN : Hid (RsS w1 wa b (bm + 1) bm [⟨x.f, x.n, x.m - ((j + k : Nat) : Int), x.d⟩] (clrN 32 x.d (x.f + x.m) bs (j + k)) ∧ Bf wa gb 32 bs) := ⟨Sa, BA.keep ka⟩
                  have cu : wa.cell? ⟨wr.heap.size, 0, none⟩ = some (.int .i64 (un - k)) := ua.cell 0
                  have hu1 := hu.1
                  have hu2 := hu.2
                  have q1 : IntKind.i64.wrap ((j : Int) + un) = (j : Int) + un := w64 (by omega) (by omega)
                  have q2 : IntKind.i64.wrap ((j : Int) + un - (un - k)) = ((j + k : Nat) : Int) := by have := HK.out; rw [show (j : Int) + un - (un - k) = ((j + k : Nat) : Int) by omega]; exact w64 (by omega) (by omega)
                  have q3 : IntKind.i64.wrap ((t : Int) + 1) = ((t + 1 : Nat) : Int) := by rw [show (t : Int) + 1 = ((t + 1 : Nat) : Int) by omega]; exact w64 (by omega) (by omega)
                  clear T Sa ua ka BA d0 d1 d2 d3
                  by_cases hfin : x.m - (j : Int) ≤ un
                  · rw [if_pos hfin]
                    have hb1 : ((j + k : Nat) : Int) ≤ x.m := by have := HK.out; omega
                    have hb2 : t + 1 ≤ 1024 := by omega
                    go_wp2_with fail
                    go_roundw
                    case rel => exact ⟨t + 1, j + k, 0, by first | rfl | go_num, rfl, by go_num, hb1, hb2, Or.inr ⟨rfl, by have := HK.out; omega⟩, HN⟩
                    case measure => simp [intOf]; omega
                  · rw [if_neg hfin]
                    have hb1 : ((j + k : Nat) : Int) ≤ x.m := by have := HK.out; omega
                    have hb2 : t + 1 ≤ 1024 := by omega
                    go_wp2_with fail
                    go_roundw
                    case rel => exact ⟨t + 1, j + k, 3, by first | rfl | go_num, rfl, by go_num, hb1, hb2, Or.inl ⟨rfl, by have := HK.out; omega, Or.inr (by have := HK.out; omega)⟩, HN⟩
                    case measure => simp [intOf]; omega
              · obtain ⟨S, Bq⟩ := HI.out
                clear HE HI
                have HJ : Hid ((j : Int) = x.m) := hjm
                have HF : Hid (∀ i, i < 32 → frameOf (clrN 32 x.d (x.f + x.m) bs j) i = if x.d = false ∧ x.f ≤ (i : Int) ∧ (i : Int) < x.f + x.m then List.replicate 64 0 else frameOf bs i) := fun i hi => by
                  rw [frame_clr HBb.out x.d (x.f + x.m) i hi j, show x.f + x.m - (j : Int) = x.f by omega]
                have e0 : x.m - (j : Int) = 0 := by omega
                rw [e0] at S
                have HW : Hid ((clrN 32 x.d (x.f + x.m) bs j).length = 64 * 32) := S.ram.len
                generalize clrN 32 x.d (x.f + x.m) bs j = bF at *
                have rx := HR.out.1.keep S.po.old (fun h => h)
                obtain ⟨d0, d1, d2, d3⟩ := rx.cells
                have T := pget S.po x.f hxf
                rw [show getC [(⟨x.f, x.n, 0, x.d⟩ : Rg)] x.f = _ from getC_one' (⟨x.f, x.n, 0, x.d⟩ : Rg), show getE [(⟨x.f, x.n, 0, x.d⟩ : Rg)] x.f = _ from getE_one' (⟨x.f, x.n, 0, x.d⟩ : Rg)] at T
                clear rx e0 hjm
                go_wp2_with fail
                refine T.mono ?_
                rintro e wa ⟨rfl, fa⟩
                have fy := fa.alloc (.cells #[.int .i64 x.f, .int .i64 x.n, .int .i64 0, .bool x.d] 39)
                have ry := row_alloc wa #[.int .i64 x.f, .int .i64 x.n, .int .i64 0, .bool x.d] 39
                have HI : Hid (RsS w1 (wa.alloc (.cells #[.int .i64 x.f, .int .i64 x.n, .int .i64 0, .bool x.d] 39)) b (bm + 1) bm [⟨x.f, x.n, 0, x.d⟩] bF ∧ Bf (wa.alloc (.cells #[.int .i64 x.f, .int .i64 x.n, .int .i64 0, .bool x.d] 39)) gb 32 bs ∧ Row (wa.alloc (.cells #[.int .i64 x.f, .int .i64 x.n, .int .i64 0, .bool x.d] 39)) wa.heap.size #[.int .i64 x.f, .int .i64 x.n, .int .i64 0, .bool x.d] 39) := ⟨S.keep0 fy, Bq.keep0 fy, ry⟩
                clear T S Bq fa fy ry d0 d1 d2 d3
                go_wp2_with fail
                generalize wa.alloc (.cells #[.int .i64 x.f, .int .i64 x.n, .int .i64 0, .bool x.d] 39) = v1 at *
                generalize wa.heap.size = gy at *
                go_loopw [23] (fun i wx => ∃ k : Nat, k ≤ 32 ∧ i = .int .i64 (k : Int) ∧ Hid (RsS w1 wx b (bm + 1) bm [⟨x.f, x.n, 0, x.d⟩] bF ∧ Bf wx gb 32 bs ∧ Row wx gy #[.int .i64 x.f, .int .i64 x.n, .int .i64 0, .bool x.d] 39)) (fun i _ => 32 - (intOf i).toNat)
                case atStart => exact ⟨0, by omega, rfl, HI⟩
                case round =>
                  obtain ⟨k, hk, rfl, HQ⟩ := hrel
                  clear HI
                  obtain ⟨S, Bq, ry⟩ := HQ.out
                  have rx := HR.out.1.keep S.po.old (fun h => h)
                  by_cases hk2 : k < 32
                  · have T := S.frame k hk2
                    clear HQ
                    go_wp2_with fail
                    refine T.mono ?_
                    rintro e wa ⟨rfl, Sa, rF, fa⟩
                    have HQ : Hid (RsS w1 wa b (bm + 1) bm [⟨x.f, x.n, 0, x.d⟩] bF ∧ Bf wa gb 32 bs ∧ Row wa gy #[.int .i64 x.f, .int .i64 x.n, .int .i64 0, .bool x.d] 39 ∧ Row wa wr.heap.size (byteVals (frameOf bF k)) 5) := ⟨Sa, Bq.keep0 fa, ry.keep fa (fun h => h), rF⟩
                    obtain ⟨d0, d1, d2, d3⟩ := (HR.out.1.keep Sa.po.old (fun h => h)).cells
                    have w7 : IntKind.i64.wrap (x.f + x.m) = x.f + x.m := w64 (by omega) (by omega)
                    clear T S Sa Bq ry rx fa rF
                    generalize wr.heap.size = gF at *
                    obtain ⟨G, hG⟩ : ∃ G : Bool, G = decide (x.d = false ∧ x.f ≤ (k : Int) ∧ (k : Int) < x.f + x.m) := ⟨_, rfl⟩
                    have HE : Hid (G = true → frameOf bF k = List.replicate 64 0) := fun h => by rw [HF.out k hk2, if_pos (by rw [hG] at h; simpa using h)]
                    have HN : Hid (G = false → frameOf bF k = frameOf bs k) := fun h => by rw [HF.out k hk2, if_neg (by rw [hG] at h; simpa using h)]
                    go_upto_region 32 with fail
                    go_cut [26] from 122 to 139 (fun s wx => s = .bool G ∧ wx = wa)
                    case first =>
                      by_cases g1 : x.f ≤ (k : Int)
                      · by_cases g2 : (k : Int) < x.f + x.m
                        · by_cases g3 : x.d = true
                          · obtain rfl : G = false := by rw [hG]; simp [g3]
                            rw [g3] at d3
                            clear hG g3
                            go_wp2_with fail
                            go_meet
                            case rel => exact ⟨by first | rfl | simp, rfl⟩
                          · have g4 : x.d = false := by simpa using g3
                            obtain rfl : G = true := by rw [hG]; simp [g4, g1, g2]
                            rw [g4] at d3
                            clear hG g3 g4
                            go_wp2_with fail
                            go_meet
                            case rel => exact ⟨by first | rfl | simp, rfl⟩
                        · obtain rfl : G = false := by rw [hG]; simp; intros; omega
                          clear hG
                          go_wp2_with fail
                          go_meet
                          case rel => exact ⟨by first | rfl | simp, rfl⟩
                      · obtain rfl : G = false := by rw [hG]; simp; intros; omega
                        clear hG
                        go_wp2_with fail
                        go_meet
                        case rel => exact ⟨by first | rfl | simp, rfl⟩
                    case rest =>
                      obtain ⟨rfl, rfl⟩ := hcut
                      clear d0 d1 d2 d3 hG
                      cases G with
                      | true =>
                        replace HE : Hid (frameOf bF k = List.replicate 64 0) := HE.out rfl
                        clear HN
                        go_wp2_with fail
                        go_loopw [27] (fun i wx => ∃ q : Nat, q ≤ 64 ∧ i = .int .i64 (q : Int) ∧ Hid (RsS w1 wx b (bm + 1) bm [⟨x.f, x.n, 0, x.d⟩] bF ∧ Bf wx gb 32 bs ∧ Row wx gy #[.int .i64 x.f, .int .i64 x.n, .int .i64 0, .bool x.d] 39 ∧ Row wx gF (byteVals (frameOf bF k)) 5)) (fun i _ => 64 - (intOf i).toNat)
                        case atStart => exact ⟨0, by omega, rfl, HQ⟩
                        case round =>
                          obtain ⟨q, hq, rfl, HZ⟩ := hrel
                          clear HQ
                          by_cases hq2 : q < 64
                          · obtain ⟨_, ⟨cs, rc, hs, hi⟩, _, rF⟩ := HZ.out
                            obtain ⟨g', ec, rg⟩ := hi k hk2
                            have l1 : (frameOf bF k).length = 64 := length_frameOf bF k 32 HW.out hk2
                            have l2 : (frameOf bs k).length = 64 := length_frameOf bs k 32 HBb.out hk2
                            have c0 : wr.cell? ⟨gb, k, none⟩ = some (.slice (some ⟨g', 0, none⟩) 64 64) := by rw [rc.cell]; exact ec
                            have i0 : 0 ≤ (k : Int) ∧ (k : Int) < 32 := by omega
                            have i1 : 0 ≤ (q : Int) ∧ (q : Int) < 64 := by omega
                            have c1 : wr.cell? ⟨gF, q, none⟩ = some (.int .u8 0) := by
                              rw [rF.cell, HE.out, byteVals_get _ _ (by simp; omega), List.getElem_replicate]
                              rfl
                            clear rc ec rF rg hs hi l1 l2
                            go_wp2_with fail
                            go_quiet (fail)
                            have HZ2 : Hid (RsS w1 (wr.drewN nq) b (bm + 1) bm [⟨x.f, x.n, 0, x.d⟩] bF ∧ Bf (wr.drewN nq) gb 32 bs ∧ Row (wr.drewN nq) gy #[.int .i64 x.f, .int .i64 x.n, .int .i64 0, .bool x.d] 39 ∧ Row (wr.drewN nq) gF (byteVals (frameOf bF k)) 5) := ⟨HZ.out.1.keep0 (fr_drewN _ _), HZ.out.2.1.keep0 (fr_drewN _ _), HZ.out.2.2.1.keep (fr_drewN _ _) (fun h => h), HZ.out.2.2.2.keep (fr_drewN _ _) (fun h => h)⟩
                            go_wp2_with fail
                            go_roundw
                            case rel => exact ⟨q + 1, by omega, by go_num, HZ2⟩
                            case measure => simp [intOf]; omega
                          · have hq3 : ¬ (q : Int) < 64 := by omega
                            go_wp2_with fail
                            go_roundw
                            case rel => exact ⟨k + 1, by omega, by go_num, HZ.out.1, HZ.out.2.1, HZ.out.2.2.1⟩
                            case measure => simp [intOf]; omega
                      | false =>
                        replace HE : Hid (frameOf bF k = frameOf bs k) := HN.out rfl
                        clear HN
                        go_wp2_with fail
                        go_loopw [27] (fun i wx => ∃ q : Nat, q ≤ 64 ∧ i = .int .i64 (q : Int) ∧ Hid (RsS w1 wx b (bm + 1) bm [⟨x.f, x.n, 0, x.d⟩] bF ∧ Bf wx gb 32 bs ∧ Row wx gy #[.int .i64 x.f, .int .i64 x.n, .int .i64 0, .bool x.d] 39 ∧ Row wx gF (byteVals (frameOf bF k)) 5)) (fun i _ => 64 - (intOf i).toNat)
                        case atStart => exact ⟨0, by omega, rfl, HQ⟩
                        case round =>
                          obtain ⟨q, hq, rfl, HZ⟩ := hrel
                          clear HQ
                          by_cases hq2 : q < 64
                          · obtain ⟨_, ⟨cs, rc, hs, hi⟩, _, rF⟩ := HZ.out
                            obtain ⟨g', ec, rg⟩ := hi k hk2
                            have l1 : (frameOf bF k).length = 64 := length_frameOf bF k 32 HW.out hk2
                            have l2 : (frameOf bs k).length = 64 := length_frameOf bs k 32 HBb.out hk2
                            have c0 : wr.cell? ⟨gb, k, none⟩ = some (.slice (some ⟨g', 0, none⟩) 64 64) := by rw [rc.cell]; exact ec
                            have i0 : 0 ≤ (k : Int) ∧ (k : Int) < 32 := by omega
                            have i1 : 0 ≤ (q : Int) ∧ (q : Int) < 64 := by omega
                            obtain ⟨v, c1, c2⟩ : ∃ v : Int, wr.cell? ⟨gF, q, none⟩ = some (.int .u8 v) ∧ wr.cell? ⟨g', q, none⟩ = some (.int .u8 v) :=
                              ⟨(((frameOf bs k)[q]'(by omega)).toNat : Int), by rw [rF.cell, HE.out, byteVals_get _ _ (by omega)]; rfl, by rw [rg.cell, byteVals_get _ _ (by omega)]; rfl⟩
                            clear rc ec rF rg hs hi l1 l2
                            go_wp2_with fail
                            go_quiet (fail)
                            have HZ2 : Hid (RsS w1 (wr.drewN nq) b (bm + 1) bm [⟨x.f, x.n, 0, x.d⟩] bF ∧ Bf (wr.drewN nq) gb 32 bs ∧ Row (wr.drewN nq) gy #[.int .i64 x.f, .int .i64 x.n, .int .i64 0, .bool x.d] 39 ∧ Row (wr.drewN nq) gF (byteVals (frameOf bF k)) 5) := ⟨HZ.out.1.keep0 (fr_drewN _ _), HZ.out.2.1.keep0 (fr_drewN _ _), HZ.out.2.2.1.keep (fr_drewN _ _) (fun h => h), HZ.out.2.2.2.keep (fr_drewN _ _) (fun h => h)⟩
                            go_wp2_with fail
                            go_roundw
                            case rel => exact ⟨q + 1, by omega, by go_num, HZ2⟩
                            case measure => simp [intOf]; omega
                          · have hq3 : ¬ (q : Int) < 64 := by omega
                            go_wp2_with fail
                            go_roundw
                            case rel => exact ⟨k + 1, by omega, by go_num, HZ.out.1, HZ.out.2.1, HZ.out.2.2.1⟩
                            case measure => simp [intOf]; omega
                  · obtain ⟨d0, d1, d2, d3⟩ := rx.cells
                    have y1 : wr.cell? ⟨gy, 1, none⟩ = some (.int .i64 x.n) := ry.cell 1
                    have y2 : wr.cell? ⟨gy, 2, none⟩ = some (.int .i64 0) := ry.cell 2
                    have HB : Hid (Below w.heap.size w wr) := (HR.out.2.trans S.po.old).below (Nat.le_refl _) (fun _ h => h.elim)
                    have ej : ((j : Int) == x.m) = true := by simpa using HJ.out
                    clear S Bq ry HQ rx
                    go_wp2_with fail
                    go_ret
                    exact ⟨by first | rfl | simp [HJ.out], HB.out⟩

end Go.Proofs.Ytcmhndkbcfpbbaa
