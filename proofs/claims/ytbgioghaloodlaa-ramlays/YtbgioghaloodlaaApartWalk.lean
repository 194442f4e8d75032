/-
  The walk of the law RamApart: a store changes its own bytes alone: for every list of acts, every address, size and word the law returns true and nothing old turns.
-/
import Derived.Test.YtbgioghaloodlaaApartBase
namespace Go.Proofs.Ytbgioghaloodlaa
open Go.RowKit

theorem ap_new (w : World) : Calls Try.prog 9 #[.int .i64 4] w fun e w' => e = .returned (.tuple #[.pointer (some ⟨w.heap.size + 1, 0, none⟩), .int .i64 0]) ∧
    Fr none' w w' ∧ IsRam w' (w.heap.size + 1) w.heap.size 4 (List.replicate (64 * 4) 0) := new_any 4 w (by omega)
theorem ap_rnew (w : World) : Calls Try.prog 10 #[.int .i64 4] w fun e w' => e = .returned (.tuple #[.pointer (some ⟨w.heap.size + 1, 0, none⟩), .int .i64 0]) ∧
    Fr none' w w' ∧ IsRef w' (w.heap.size + 1) w.heap.size 4 (List.replicate (64 * 4) 0) := rnew_any 4 w (by omega)
theorem ap_frame (w : World) (p bf n : Nat) (x : Int) (bs : List UInt8) (h : IsRam w p bf 4 bs) (hx : x = (n : Int)) (hn : n < 4) :
    Calls Try.prog 14 #[.pointer (some ⟨p, 0, none⟩), .int .i64 x] w fun e w' => e = .returned (.tuple #[.slice (some ⟨w.heap.size, 0, none⟩) 64 64, .int .i64 0]) ∧
      Fr none' w w' ∧ Row w' w.heap.size (byteVals (frameOf bs n)) 5 := by
  subst hx; exact frame_ok w p bf 4 bs n h hn

set_option maxRecDepth 100000 in
set_option maxHeartbeats 4000000 in
theorem apart_nil (a0 : Option Addr) (cap : Nat) (at_ size : Int) (v : Nat) (w : World) (hm : at_ ≤ 9223372036854775807) (hv : v < 4294967296) :
    Calls Try.prog 5 #[.slice a0 0 cap, .int .i64 at_, .int .i64 size, .int .u32 (v : Int)] w fun e w' => e = .returned (.bool true) ∧ Fr none' w w' := by
  go_enter Try.func5, Try.ntmps5
  go_wp2_with fail
  refine (awake_any _).mono ?_
  rintro e w1 ⟨rfl, f1⟩
  have z1 := f1.size
  go_wp2_with fail
  refine (ap_new _).mono ?_
  rintro e w2 ⟨rfl, f2, r2⟩
  go_wp2_with fail
  refine (ap_rnew _).mono ?_
  rintro e w3 ⟨rfl, f3, r3⟩
  have t3 := twin_new (B := w.heap.size) z1 r2 f3 r3
  have z2 := r2.head.lt
  replace f3 := (f1.trans f2).trans f3
  clear f1 f2 r2 r3
  generalize List.replicate (64 * 4) (0 : UInt8) = bs0 at *
  go_wp2_with fail
  refine wp_loop_rounds 1 ?_
  rw [rounds_succ]
  have tk := t3
  have fk := f3
  clear t3 f3
  have R := tk.ram
  have F := fk
  have zw := F.size
  have zp := R.head.lt
  have hlen := R.len
  clear tk fk
  go_wp2_with fail
  refine wp_loop_rounds 5 ?_
  rw [rounds_succ]; go_wp2_with fail
  refine (ap_frame _ _ _ 0 _ _ R (by omega) (by omega)).mono ?_
  rintro e pa0 ⟨rfl, fA, xA⟩
  have zpa0 := fA.size
  have lA := length_frameOf bs0 0 4 R.len (by omega)
  replace R := R.keep fA id id
  replace F := F.trans fA
  clear fA
  obtain ⟨pg0, pc0, pb0, hr, GB, fB⟩ := gath_first pa0 w3.heap.size _ _ lA xA (by omega)
  have HR : Hid ((Builtin.append_ #[33, 33] 33 #[.slice none 0 0, .slice (some ⟨w3.heap.size, 0, none⟩) 64 64]).run Try.prog pa0 = .ok (.slice (some ⟨pg0, 0, none⟩) 64 pc0) pb0) := hr
  clear hr
  replace R := R.keep fB id id
  have zpb0 := fB.size
  replace F := F.trans fB
  clear fB xA lA
  go_wp2_with (at_builtin; refine wpList_append_run rfl _ _ _ rfl _ _ rfl rfl _ _ HR ?_)
  clear HR
  rw [rounds_succ]; go_wp2_with fail
  refine (ap_frame _ _ _ 1 _ _ R (by omega) (by omega)).mono ?_
  rintro e pa1 ⟨rfl, fA, xA⟩
  have zpa1 := fA.size
  have lA := length_frameOf bs0 1 4 R.len (by omega)
  replace R := R.keep fA id id
  replace GB := GB.keep fA id
  replace F := F.trans fA
  clear fA
  have opa1 := GB.own
  obtain ⟨pg1, pc1, pb1, hr, G', fB⟩ := gath_next pa1 w3.heap.size _ _ _ _ 128 _ _ GB lA xA (by omega) (by omega) (by omega)
  replace GB := G'
  clear G'
  have HR : Hid ((Builtin.append_ #[33, 33] 33 #[.slice (some ⟨pg0, 0, none⟩) 64 pc0, .slice (some ⟨pb0.heap.size, 0, none⟩) 64 64]).run Try.prog pa1 = .ok (.slice (some ⟨pg1, 0, none⟩) 128 pc1) pb1) := hr
  clear hr
  replace R := R.keep fB (by unfold at'; omega) (by unfold at'; omega)
  have zpb1 := fB.size
  replace F := F.newer fB (by omega)
  clear fB xA lA
  go_wp2_with (at_builtin; refine wpList_append_run rfl _ _ _ rfl _ _ rfl rfl _ _ HR ?_)
  clear HR
  rw [rounds_succ]; go_wp2_with fail
  refine (ap_frame _ _ _ 2 _ _ R (by omega) (by omega)).mono ?_
  rintro e pa2 ⟨rfl, fA, xA⟩
  have zpa2 := fA.size
  have lA := length_frameOf bs0 2 4 R.len (by omega)
  replace R := R.keep fA id id
  replace GB := GB.keep fA id
  replace F := F.trans fA
  clear fA
  have opa2 := GB.own
  obtain ⟨pg2, pc2, pb2, hr, G', fB⟩ := gath_next pa2 w3.heap.size _ _ _ _ 192 _ _ GB lA xA (by omega) (by omega) (by omega)
  replace GB := G'
  clear G'
  have HR : Hid ((Builtin.append_ #[33, 33] 33 #[.slice (some ⟨pg1, 0, none⟩) 128 pc1, .slice (some ⟨pb1.heap.size, 0, none⟩) 64 64]).run Try.prog pa2 = .ok (.slice (some ⟨pg2, 0, none⟩) 192 pc2) pb2) := hr
  clear hr
  replace R := R.keep fB (by unfold at'; omega) (by unfold at'; omega)
  have zpb2 := fB.size
  replace F := F.newer fB (by omega)
  clear fB xA lA
  go_wp2_with (at_builtin; refine wpList_append_run rfl _ _ _ rfl _ _ rfl rfl _ _ HR ?_)
  clear HR
  rw [rounds_succ]; go_wp2_with fail
  refine (ap_frame _ _ _ 3 _ _ R (by omega) (by omega)).mono ?_
  rintro e pa3 ⟨rfl, fA, xA⟩
  have zpa3 := fA.size
  have lA := length_frameOf bs0 3 4 R.len (by omega)
  replace R := R.keep fA id id
  replace GB := GB.keep fA id
  replace F := F.trans fA
  clear fA
  have opa3 := GB.own
  obtain ⟨pg3, pc3, pb3, hr, G', fB⟩ := gath_next pa3 w3.heap.size _ _ _ _ 256 _ _ GB lA xA (by omega) (by omega) (by omega)
  replace GB := G'
  clear G'
  have HR : Hid ((Builtin.append_ #[33, 33] 33 #[.slice (some ⟨pg2, 0, none⟩) 192 pc2, .slice (some ⟨pb2.heap.size, 0, none⟩) 64 64]).run Try.prog pa3 = .ok (.slice (some ⟨pg3, 0, none⟩) 256 pc3) pb3) := hr
  clear hr
  replace R := R.keep fB (by unfold at'; omega) (by unfold at'; omega)
  have zpb3 := fB.size
  replace F := F.newer fB (by omega)
  clear fB xA lA
  go_wp2_with (at_builtin; refine wpList_append_run rfl _ _ _ rfl _ _ rfl rfl _ _ HR ?_)
  clear HR
  rw [rounds_succ]; go_wp2_with fail
  rw [frames_all bs0 hlen] at GB
  have zg := GB.row.lt
  refine (store_any _ _ _ _ _ _ _ _ R hm hv).mono ?_
  rintro e ws ⟨rfl, fs, R'⟩
  have ob := GB.own
  replace GB := GB.keep fs (by unfold at'; omega)
  have zs := fs.size
  replace F := F.newer fs (by omega)
  clear fs
  replace R := R'
  clear R'
  have hlen' : (storeB bs0 at_ size 4 v).length = 64 * 4 := by rw [length_storeB, hlen]
  have HS : Hid (∀ k : Nat, ¬ (errOf at_ size 4 = 0 ∧ at_ ≤ (k : Int) ∧ (k : Int) < at_ + size) → (storeB bs0 at_ size 4 v)[k]? = bs0[k]?) := fun k hk => store_leaves bs0 at_ size 4 v k hlen hk
  generalize storeB bs0 at_ size 4 v = bt at *
  go_wp2_with fail
  refine wp_loop_rounds 5 ?_
  rw [rounds_succ]; go_wp2_with fail
  refine (ap_frame _ _ _ 0 _ _ R (by omega) (by omega)).mono ?_
  rintro e qa0 ⟨rfl, fA, xA⟩
  have zqa0 := fA.size
  have lA := length_frameOf bt 0 4 R.len (by omega)
  replace R := R.keep fA id id
  replace GB := GB.keep fA id
  replace F := F.trans fA
  clear fA
  obtain ⟨qg0, qc0, qb0, hr, GA, fB⟩ := gath_first qa0 ws.heap.size _ _ lA xA (by omega)
  have HR : Hid ((Builtin.append_ #[33, 33] 33 #[.slice none 0 0, .slice (some ⟨ws.heap.size, 0, none⟩) 64 64]).run Try.prog qa0 = .ok (.slice (some ⟨qg0, 0, none⟩) 64 qc0) qb0) := hr
  clear hr
  replace R := R.keep fB id id
  replace GB := GB.keep fB id
  have zqb0 := fB.size
  replace F := F.trans fB
  clear fB xA lA
  go_wp2_with (at_builtin; refine wpList_append_run rfl _ _ _ rfl _ _ rfl rfl _ _ HR ?_)
  clear HR
  rw [rounds_succ]; go_wp2_with fail
  refine (ap_frame _ _ _ 1 _ _ R (by omega) (by omega)).mono ?_
  rintro e qa1 ⟨rfl, fA, xA⟩
  have zqa1 := fA.size
  have lA := length_frameOf bt 1 4 R.len (by omega)
  replace R := R.keep fA id id
  replace GA := GA.keep fA id
  replace GB := GB.keep fA id
  replace F := F.trans fA
  clear fA
  have oqa1 := GA.own
  obtain ⟨qg1, qc1, qb1, hr, G', fB⟩ := gath_next qa1 ws.heap.size _ _ _ _ 128 _ _ GA lA xA (by omega) (by omega) (by omega)
  replace GA := G'
  clear G'
  have HR : Hid ((Builtin.append_ #[33, 33] 33 #[.slice (some ⟨qg0, 0, none⟩) 64 qc0, .slice (some ⟨qb0.heap.size, 0, none⟩) 64 64]).run Try.prog qa1 = .ok (.slice (some ⟨qg1, 0, none⟩) 128 qc1) qb1) := hr
  clear hr
  replace R := R.keep fB (by unfold at'; omega) (by unfold at'; omega)
  replace GB := GB.keep fB (by unfold at'; omega)
  have zqb1 := fB.size
  replace F := F.newer fB (by omega)
  clear fB xA lA
  go_wp2_with (at_builtin; refine wpList_append_run rfl _ _ _ rfl _ _ rfl rfl _ _ HR ?_)
  clear HR
  rw [rounds_succ]; go_wp2_with fail
  refine (ap_frame _ _ _ 2 _ _ R (by omega) (by omega)).mono ?_
  rintro e qa2 ⟨rfl, fA, xA⟩
  have zqa2 := fA.size
  have lA := length_frameOf bt 2 4 R.len (by omega)
  replace R := R.keep fA id id
  replace GA := GA.keep fA id
  replace GB := GB.keep fA id
  replace F := F.trans fA
  clear fA
  have oqa2 := GA.own
  obtain ⟨qg2, qc2, qb2, hr, G', fB⟩ := gath_next qa2 ws.heap.size _ _ _ _ 192 _ _ GA lA xA (by omega) (by omega) (by omega)
  replace GA := G'
  clear G'
  have HR : Hid ((Builtin.append_ #[33, 33] 33 #[.slice (some ⟨qg1, 0, none⟩) 128 qc1, .slice (some ⟨qb1.heap.size, 0, none⟩) 64 64]).run Try.prog qa2 = .ok (.slice (some ⟨qg2, 0, none⟩) 192 qc2) qb2) := hr
  clear hr
  replace R := R.keep fB (by unfold at'; omega) (by unfold at'; omega)
  replace GB := GB.keep fB (by unfold at'; omega)
  have zqb2 := fB.size
  replace F := F.newer fB (by omega)
  clear fB xA lA
  go_wp2_with (at_builtin; refine wpList_append_run rfl _ _ _ rfl _ _ rfl rfl _ _ HR ?_)
  clear HR
  rw [rounds_succ]; go_wp2_with fail
  refine (ap_frame _ _ _ 3 _ _ R (by omega) (by omega)).mono ?_
  rintro e qa3 ⟨rfl, fA, xA⟩
  have zqa3 := fA.size
  have lA := length_frameOf bt 3 4 R.len (by omega)
  replace R := R.keep fA id id
  replace GA := GA.keep fA id
  replace GB := GB.keep fA id
  replace F := F.trans fA
  clear fA
  have oqa3 := GA.own
  obtain ⟨qg3, qc3, qb3, hr, G', fB⟩ := gath_next qa3 ws.heap.size _ _ _ _ 256 _ _ GA lA xA (by omega) (by omega) (by omega)
  replace GA := G'
  clear G'
  have HR : Hid ((Builtin.append_ #[33, 33] 33 #[.slice (some ⟨qg2, 0, none⟩) 192 qc2, .slice (some ⟨qb2.heap.size, 0, none⟩) 64 64]).run Try.prog qa3 = .ok (.slice (some ⟨qg3, 0, none⟩) 256 qc3) qb3) := hr
  clear hr
  replace R := R.keep fB (by unfold at'; omega) (by unfold at'; omega)
  replace GB := GB.keep fB (by unfold at'; omega)
  have zqb3 := fB.size
  replace F := F.newer fB (by omega)
  clear fB xA lA
  go_wp2_with (at_builtin; refine wpList_append_run rfl _ _ _ rfl _ _ rfl rfl _ _ HR ?_)
  clear HR
  rw [rounds_succ]; go_wp2_with fail
  rw [frames_all bt hlen'] at GA
  have HB := GB.row
  have HA := GA.row
  clear GB GA R
  replace HB : Hid (Begins qb3 pg3 bs0 pc3) := HB
  replace HA : Hid (Begins qb3 qg3 bt qc3) := HA
  go_loopw [24] (fun i wr => ∃ k : Nat, k ≤ 256 ∧ i = .int .i64 k ∧ ∃ n, wr = qb3.drewN n) (fun i _ => 256 - (intOf i).toNat)
  case atStart => exact ⟨0, by omega, rfl, 0, rfl⟩
  case round =>
    obtain ⟨k, hk, rfl, nd, rfl⟩ := hrel
    by_cases hlt : k < 256
    · have i1 : decide ((k : Int) < 256) = true := by simp; omega
      have i2 : 0 ≤ (k : Int) ∧ (k : Int) < 256 := by omega
      have e0 := HB.out.at k (by omega)
      have e1 := HA.out.at k (by omega)
      have HS' := HS.out k
      rw [List.getElem?_eq_getElem (by omega), List.getElem?_eq_getElem (by omega)] at HS'
      generalize bs0[k]'(by omega) = x0 at *
      generalize bt[k]'(by omega) = x1 at *
      by_cases he : errOf at_ size 4 = 0
      · have hb : (errOf at_ size 4 == 0) = true := by simpa using he
        obtain ⟨hs, _, h0, h4⟩ := err_zero he
        have hsum : at_ + size ≤ 300 := by omega
        have hsum0 : 0 ≤ at_ + size := by omega
        have HE : Hid (errOf at_ size 4 = 0) := he
        clear he hs
        by_cases h1 : at_ ≤ (k : Int)
        · have t1 : decide (at_ ≤ (k : Int)) = true := by simpa using h1
          by_cases h2 : (k : Int) < at_ + size
          · have t2 : decide ((k : Int) < at_ + size) = true := by simpa using h2
            clear HS'
            go_wp2
            go_quiet (fail)
            go_wp2
            go_roundw
            case rel => exact ⟨k + 1, by omega, by go_num, _, rfl⟩
            case measure => simp [intOf]; omega
          · have t2 : decide ((k : Int) < at_ + size) = false := by simpa using h2
            obtain rfl : x1 = x0 := Option.some.inj (HS' (fun h => h2 h.2.2))
            clear HS'
            go_wp2
            go_quiet (fail)
            go_wp2
            go_roundw
            case rel => exact ⟨k + 1, by omega, by go_num, _, rfl⟩
            case measure => simp [intOf]; omega
        · have t1 : decide (at_ ≤ (k : Int)) = false := by simpa using h1
          obtain rfl : x1 = x0 := Option.some.inj (HS' (fun h => h1 h.2.1))
          clear HS'
          go_wp2
          go_quiet (fail)
          go_wp2
          go_roundw
          case rel => exact ⟨k + 1, by omega, by go_num, _, rfl⟩
          case measure => simp [intOf]; omega
      · have hb : (errOf at_ size 4 == 0) = false := by simpa using he
        obtain rfl : x1 = x0 := Option.some.inj (HS' (fun h => he h.1))
        clear HS' he
        go_wp2
        go_quiet (fail)
        go_wp2
        go_roundw
        case rel => exact ⟨k + 1, by omega, by go_num, _, rfl⟩
        case measure => simp [intOf]; omega
    · obtain rfl : k = 256 := by omega
      go_wp2
      go_ret
      exact ⟨rfl, F.trans (fr_drewN _ _)⟩

end Go.Proofs.Ytbgioghaloodlaa
