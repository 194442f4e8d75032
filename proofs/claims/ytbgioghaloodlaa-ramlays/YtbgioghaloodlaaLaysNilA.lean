/-
  The walk of the law RamLays, case by case: no act comes in, the frame is there. No statement is proved here.
-/
import Derived.Test.YtbgioghaloodlaaLaysBase
namespace Go.Proofs.Ytbgioghaloodlaa
open Go.RowKit

set_option maxRecDepth 100000 in
set_option maxHeartbeats 4000000 in
theorem lays_in_some_in_nil (w : World) (a0 : Option Addr) (cap : Nat) (n : Nat) (hn : n < 4) (b2 o2 m c : Nat) (data : List UInt8) (hb : Bytes w (some ⟨b2, o2, none⟩) m c data) (hsp : 0 < m → ∀ x, some (⟨b2, o2, none⟩ : Addr) = some x → x.block < w.heap.size) (hmm : m ≤ 64) (other : Nat) (ho : other < 4) :
    Calls Try.prog 7 #[.slice a0 0 cap, .int .i64 (n : Int), .slice (some ⟨b2, o2, none⟩) m c, .int .i64 (other : Int)] w fun e w' => e = .returned (.bool true) ∧ Fr none' w w' := by
  have u1 : decide (0 ≤ (n : Int)) = true := by simp
  have u2 : decide ((n : Int) < 4) = true := by simp; omega
  have u3 : decide ((m : Int) ≤ 64) = true := by simp; omega
  have HSP : Hid (0 < m → ∀ x, some (⟨b2, o2, none⟩ : Addr) = some x → x.block < w.heap.size) := hsp
  clear hsp
  have u4 : decide (0 ≤ (other : Int)) = true := by simp
  have u5 : decide ((other : Int) < 4) = true := by simp; omega
  go_enter Try.func7, Try.ntmps7
  go_wp2_with fail
  refine (awake_any _).mono ?_
  rintro e w1 ⟨rfl, f1⟩
  have z1 := f1.size
  go_wp2_with fail
  refine (ap_new _).mono ?_
  rintro e w2 ⟨rfl, f2, r2⟩
  go_wp2_with fail
  refine (ap_rnew _).mono ?_
  rintro e w3 ⟨rfl, f3, r3⟩
  have t3 := twin_new (B := w.heap.size) z1 r2 f3 r3
  have z2 := r2.head.lt
  replace f3 := (f1.trans f2).trans f3
  clear f1 f2 r2 r3
  generalize List.replicate (64 * 4) (0 : UInt8) = bs0 at *
  go_wp2_with fail
  refine wp_loop_rounds 1 ?_
  rw [rounds_succ]
  have tk := t3
  have fk := f3
  clear t3 f3
  have R := tk.ram
  have F := fk
  have zw := F.size
  have zp := R.head.lt
  have hlen := R.len
  clear tk fk
  have BB := hb.keep F (fun _ _ _ h => h)
  go_wp2_with fail
  refine (ap_frame _ _ _ n _ _ R rfl hn).mono ?_
  rintro e wa ⟨rfl, fa, xa⟩
  have za := xa.lt
  replace R := R.keep fa id id
  replace BB := BB.keep fa (fun _ _ _ h => h)
  replace F := F.trans fa
  clear fa
  go_wp2_with fail
  refine (lay_ok _ _ _ _ _ _ R hn _ _ _ _ BB.len BB.src hmm).mono ?_
  rintro e wb ⟨rfl, fb, R'⟩
  have zb := fb.size
  replace xa := xa.keep fb (by unfold at'; omega)
  replace BB := BB.keep fb (fun hp x hx e => by have := HSP.out hp x hx; unfold at' at e; omega)
  replace F := F.newer fb z1
  replace R := R'
  clear R' fb
  have hl1 : (putAt bs0 (n * 64) data).length = 64 * 4 := by rw [length_putAt, hlen]
  have HO : Hid (∀ k, k < data.length → (frameOf (putAt bs0 (n * 64) data) n)[k]? = data[k]?) := fun k hk => lay_own bs0 data n k hlen hn (by have := BB.len; omega) hk
  have HT : Hid (∀ k, data.length ≤ k → k < 64 → (frameOf (putAt bs0 (n * 64) data) n)[k]? = (frameOf bs0 n)[k]?) := fun k hk hk' => lay_rest bs0 data n k hlen hn (by have := BB.len; omega) hk hk'
  generalize putAt bs0 (n * 64) data = bs1 at *
  go_wp2_with fail
  refine (ap_frame _ _ _ n _ _ R rfl hn).mono ?_
  rintro e wc ⟨rfl, fc, xc⟩
  have zc := xc.lt
  replace R := R.keep fc id id
  replace xa := xa.keep fc id
  replace BB := BB.keep fc (fun _ _ _ h => h)
  replace F := F.trans fc
  clear fc
  have la := length_frameOf bs0 n 4 hlen hn
  have lc := length_frameOf bs1 n 4 hl1 hn
  have XA : Hid (Row wc w3.heap.size (byteVals (frameOf bs0 n)) 5) := xa
  have XC : Hid (Row wc wb.heap.size (byteVals (frameOf bs1 n)) 5) := xc
  clear xa xc
  go_wp2_with fail
  go_loopw [20] (fun i wr => ∃ k : Nat, k ≤ 64 ∧ i = .int .i64 k ∧ ∃ nd, wr = wc.drewN nd) (fun i _ => 64 - (intOf i).toNat)
  case atStart => exact ⟨0, by omega, rfl, 0, rfl⟩
  case round =>
    obtain ⟨k, hk, rfl, nd, rfl⟩ := hrel
    by_cases hlt : k < 64
    · have i1 : decide ((k : Int) < 64) = true := by simp; omega
      have i2 : 0 ≤ (k : Int) ∧ (k : Int) < 64 := by omega
      have ea := row_at XA.out k (by omega)
      have ec := row_at XC.out k (by omega)
      by_cases hkm : k < m
      · have t1 : decide ((k : Int) < (m : Int)) = true := by simp; omega
        have i3 : 0 ≤ (k : Int) ∧ (k : Int) < (m : Int) := by omega
        have hkd : k < data.length := by rw [BB.len]; exact hkm
        have eb : wc.cell? ⟨b2, o2 + k, none⟩ = some (.int .u8 ((data[k].toNat : Nat) : Int)) := by
          obtain ⟨x, hx, hc⟩ := BB.src (by omega)
          obtain rfl := Option.some.inj hx
          have := hc k hkd
          rw [add_lit'] at this
          exact this
        have hv := HO.out k hkd
        rw [List.getElem?_eq_getElem (by omega), List.getElem?_eq_getElem hkd] at hv
        generalize (frameOf bs1 n)[k]'(by omega) = x1 at *
        generalize data[k] = x2 at *
        obtain rfl : x1 = x2 := Option.some.inj hv
        clear ea
        go_wp2
        go_quiet (fail)
        go_wp2
        go_roundw
        case rel => exact ⟨k + 1, by omega, by go_num, _, rfl⟩
        case measure => simp [intOf]; omega
      · have t1 : decide ((k : Int) < (m : Int)) = false := by simp; omega
        have hv := HT.out k (by rw [BB.len]; omega) hlt
        rw [List.getElem?_eq_getElem (by omega), List.getElem?_eq_getElem (by omega)] at hv
        generalize (frameOf bs1 n)[k]'(by omega) = x1 at *
        generalize (frameOf bs0 n)[k]'(by omega) = x2 at *
        obtain rfl : x1 = x2 := Option.some.inj hv
        go_wp2
        go_quiet (fail)
        go_wp2
        go_roundw
        case rel => exact ⟨k + 1, by omega, by go_num, _, rfl⟩
        case measure => simp [intOf]; omega
    · obtain rfl : k = 64 := by omega
      have hd := fr_drewN wc nd
      replace R := R.keep hd id id
      have xc := XC.out.keep hd id
      replace F := F.trans hd
      have zd : (wc.drewN nd).heap.size = wc.heap.size := rfl
      clear hd XA XC
      go_wp2_with fail
      refine (clear_ok _ _ _ _ _ _ R ho).mono ?_
      rintro e we ⟨rfl, fe, R'⟩
      have ze := fe.size
      replace xc := xc.keep fe (by unfold at'; omega)
      replace F := F.newer fe z1
      replace R := R'
      clear R' fe
      have HZ : Hid (frameOf (putAt bs1 (other * 64) (List.replicate 64 0)) other = List.replicate 64 0) := clear_own bs1 other hl1 ho
      have HY : Hid (other ≠ n → frameOf (putAt bs1 (other * 64) (List.replicate 64 0)) n = frameOf bs1 n) := fun hne => clear_other bs1 other n hl1 ho hn hne
      have hl2 : (putAt bs1 (other * 64) (List.replicate 64 0)).length = 64 * 4 := by rw [length_putAt, hl1]
      generalize putAt bs1 (other * 64) (List.replicate 64 0) = bs2 at *
      go_wp2_with fail
      refine (ap_frame _ _ _ n _ _ R rfl hn).mono ?_
      rintro e wf ⟨rfl, ff, xf⟩
      have zf := xf.lt
      replace R := R.keep ff id id
      replace xc := xc.keep ff id
      replace F := F.trans ff
      clear ff
      go_wp2_with fail
      refine (ap_frame _ _ _ other _ _ R rfl ho).mono ?_
      rintro e wg ⟨rfl, fg, xg⟩
      have zg := xg.lt
      replace xc := xc.keep fg id
      replace xf := xf.keep fg id
      replace F := F.trans fg
      clear fg
      rw [HZ.out] at xg
      have XG := zeros_all xg
      clear xg
      go_wp2_with fail
      go_loopw [27] (fun i wr => ∃ k : Nat, k ≤ 64 ∧ i = .int .i64 k ∧ wr = wg) (fun i _ => 64 - (intOf i).toNat)
      case atStart => exact ⟨0, by omega, rfl, rfl⟩
      case round =>
        obtain ⟨k, hk, rfl, rfl⟩ := hrel
        by_cases hlt : k < 64
        · have i1 : decide ((k : Int) < 64) = true := by simp; omega
          have i2 : 0 ≤ (k : Int) ∧ (k : Int) < 64 := by omega
          have eg := XG.out k hlt
          go_wp2
          go_roundw
          case rel => exact ⟨k + 1, by omega, by go_num, trivial⟩
          case measure => simp [intOf]; omega
        · obtain rfl : k = 64 := by omega
          go_wp2_with fail
          have l2 := length_frameOf bs2 n 4 hl2 hn
          refine (same_any _ _ _ _ _ _ _ _ _ l2 lc (by omega) (begins_row xf).src (begins_row xc).src).mono ?_
          rintro e wh ⟨rfl, fh⟩
          replace F := F.trans fh
          clear fh xf xc
          by_cases hq : frameOf bs2 n = frameOf bs1 n
          · rw [decide_eq_true hq]
            clear hq HY HZ
            go_wp2_with fail
            go_ret
            exact ⟨rfl, F⟩
          · have hon : ((other : Int) == (n : Int)) = true := by
              by_cases h' : other = n
              · simp [h']
              · exact absurd (HY.out h') hq
            rw [decide_eq_false hq]
            clear hq HY HZ
            go_wp2_with fail
            go_ret
            exact ⟨rfl, F⟩

set_option maxRecDepth 100000 in
set_option maxHeartbeats 4000000 in
theorem lays_in_some_out_nil (w : World) (a0 : Option Addr) (cap : Nat) (n : Nat) (hn : n < 4) (b2 o2 m c : Nat) (data : List UInt8) (hb : Bytes w (some ⟨b2, o2, none⟩) m c data) (hsp : 0 < m → ∀ x, some (⟨b2, o2, none⟩ : Addr) = some x → x.block < w.heap.size) (hmm : m ≤ 64) (other : Int) (ho : ¬ (0 ≤ other ∧ other < ((4 : Nat) : Int))) :
    Calls Try.prog 7 #[.slice a0 0 cap, .int .i64 (n : Int), .slice (some ⟨b2, o2, none⟩) m c, .int .i64 other] w fun e w' => e = .returned (.bool true) ∧ Fr none' w w' := by
  have u1 : decide (0 ≤ (n : Int)) = true := by simp
  have u2 : decide ((n : Int) < 4) = true := by simp; omega
  have u3 : decide ((m : Int) ≤ 64) = true := by simp; omega
  have HSP : Hid (0 < m → ∀ x, some (⟨b2, o2, none⟩ : Addr) = some x → x.block < w.heap.size) := hsp
  clear hsp
  have HO' : Hid (¬ (0 ≤ other ∧ other < ((4 : Nat) : Int))) := ho
  clear ho
  go_enter Try.func7, Try.ntmps7
  go_wp2_with fail
  refine (awake_any _).mono ?_
  rintro e w1 ⟨rfl, f1⟩
  have z1 := f1.size
  go_wp2_with fail
  refine (ap_new _).mono ?_
  rintro e w2 ⟨rfl, f2, r2⟩
  go_wp2_with fail
  refine (ap_rnew _).mono ?_
  rintro e w3 ⟨rfl, f3, r3⟩
  have t3 := twin_new (B := w.heap.size) z1 r2 f3 r3
  have z2 := r2.head.lt
  replace f3 := (f1.trans f2).trans f3
  clear f1 f2 r2 r3
  generalize List.replicate (64 * 4) (0 : UInt8) = bs0 at *
  go_wp2_with fail
  refine wp_loop_rounds 1 ?_
  rw [rounds_succ]
  have tk := t3
  have fk := f3
  clear t3 f3
  have R := tk.ram
  have F := fk
  have zw := F.size
  have zp := R.head.lt
  have hlen := R.len
  clear tk fk
  have BB := hb.keep F (fun _ _ _ h => h)
  go_wp2_with fail
  refine (ap_frame _ _ _ n _ _ R rfl hn).mono ?_
  rintro e wa ⟨rfl, fa, xa⟩
  have za := xa.lt
  replace R := R.keep fa id id
  replace BB := BB.keep fa (fun _ _ _ h => h)
  replace F := F.trans fa
  clear fa
  go_wp2_with fail
  refine (lay_ok _ _ _ _ _ _ R hn _ _ _ _ BB.len BB.src hmm).mono ?_
  rintro e wb ⟨rfl, fb, R'⟩
  have zb := fb.size
  replace xa := xa.keep fb (by unfold at'; omega)
  replace BB := BB.keep fb (fun hp x hx e => by have := HSP.out hp x hx; unfold at' at e; omega)
  replace F := F.newer fb z1
  replace R := R'
  clear R' fb
  have hl1 : (putAt bs0 (n * 64) data).length = 64 * 4 := by rw [length_putAt, hlen]
  have HO : Hid (∀ k, k < data.length → (frameOf (putAt bs0 (n * 64) data) n)[k]? = data[k]?) := fun k hk => lay_own bs0 data n k hlen hn (by have := BB.len; omega) hk
  have HT : Hid (∀ k, data.length ≤ k → k < 64 → (frameOf (putAt bs0 (n * 64) data) n)[k]? = (frameOf bs0 n)[k]?) := fun k hk hk' => lay_rest bs0 data n k hlen hn (by have := BB.len; omega) hk hk'
  generalize putAt bs0 (n * 64) data = bs1 at *
  go_wp2_with fail
  refine (ap_frame _ _ _ n _ _ R rfl hn).mono ?_
  rintro e wc ⟨rfl, fc, xc⟩
  have zc := xc.lt
  replace R := R.keep fc id id
  replace xa := xa.keep fc id
  replace BB := BB.keep fc (fun _ _ _ h => h)
  replace F := F.trans fc
  clear fc
  have la := length_frameOf bs0 n 4 hlen hn
  have lc := length_frameOf bs1 n 4 hl1 hn
  have XA : Hid (Row wc w3.heap.size (byteVals (frameOf bs0 n)) 5) := xa
  have XC : Hid (Row wc wb.heap.size (byteVals (frameOf bs1 n)) 5) := xc
  clear xa xc
  go_wp2_with fail
  go_loopw [20] (fun i wr => ∃ k : Nat, k ≤ 64 ∧ i = .int .i64 k ∧ ∃ nd, wr = wc.drewN nd) (fun i _ => 64 - (intOf i).toNat)
  case atStart => exact ⟨0, by omega, rfl, 0, rfl⟩
  case round =>
    obtain ⟨k, hk, rfl, nd, rfl⟩ := hrel
    by_cases hlt : k < 64
    · have i1 : decide ((k : Int) < 64) = true := by simp; omega
      have i2 : 0 ≤ (k : Int) ∧ (k : Int) < 64 := by omega
      have ea := row_at XA.out k (by omega)
      have ec := row_at XC.out k (by omega)
      by_cases hkm : k < m
      · have t1 : decide ((k : Int) < (m : Int)) = true := by simp; omega
        have i3 : 0 ≤ (k : Int) ∧ (k : Int) < (m : Int) := by omega
        have hkd : k < data.length := by rw [BB.len]; exact hkm
        have eb : wc.cell? ⟨b2, o2 + k, none⟩ = some (.int .u8 ((data[k].toNat : Nat) : Int)) := by
          obtain ⟨x, hx, hc⟩ := BB.src (by omega)
          obtain rfl := Option.some.inj hx
          have := hc k hkd
          rw [add_lit'] at this
          exact this
        have hv := HO.out k hkd
        rw [List.getElem?_eq_getElem (by omega), List.getElem?_eq_getElem hkd] at hv
        generalize (frameOf bs1 n)[k]'(by omega) = x1 at *
        generalize data[k] = x2 at *
        obtain rfl : x1 = x2 := Option.some.inj hv
        clear ea
        go_wp2
        go_quiet (fail)
        go_wp2
        go_roundw
        case rel => exact ⟨k + 1, by omega, by go_num, _, rfl⟩
        case measure => simp [intOf]; omega
      · have t1 : decide ((k : Int) < (m : Int)) = false := by simp; omega
        have hv := HT.out k (by rw [BB.len]; omega) hlt
        rw [List.getElem?_eq_getElem (by omega), List.getElem?_eq_getElem (by omega)] at hv
        generalize (frameOf bs1 n)[k]'(by omega) = x1 at *
        generalize (frameOf bs0 n)[k]'(by omega) = x2 at *
        obtain rfl : x1 = x2 := Option.some.inj hv
        go_wp2
        go_quiet (fail)
        go_wp2
        go_roundw
        case rel => exact ⟨k + 1, by omega, by go_num, _, rfl⟩
        case measure => simp [intOf]; omega
    · obtain rfl : k = 64 := by omega
      have hd := fr_drewN wc nd
      replace R := R.keep hd id id
      have xc := XC.out.keep hd id
      replace F := F.trans hd
      have zd : (wc.drewN nd).heap.size = wc.heap.size := rfl
      clear hd XA XC
      go_wp2_with fail
      refine (clear_bad _ _ _ _ _ _ R HO').mono ?_
      rintro e we ⟨rfl, rfl⟩
      have hl2 := hl1
      go_wp2_with fail
      refine (ap_frame _ _ _ n _ _ R rfl hn).mono ?_
      rintro e wf ⟨rfl, ff, xf⟩
      have zf := xf.lt
      replace R := R.keep ff id id
      replace xc := xc.keep ff id
      replace F := F.trans ff
      clear ff
      go_wp2_with fail
      refine (frame_bad _ _ _ _ _ _ R HO').mono ?_
      rintro e wg ⟨rfl, rfl⟩
      go_wp2_with fail
      refine wp_loop_rounds 1 ?_
      rw [rounds_succ]
      go_wp2_with fail
      refine (same_frame _ _ _ _ _ _ lc (lc ▸ begins_row xf) (lc ▸ begins_row xc)).mono ?_
      rintro e wh ⟨rfl, fh⟩
      replace F := F.trans fh
      clear fh xf xc
      by_cases hneg : 0 ≤ other
      · have u4 : decide (0 ≤ other) = true := by simpa using hneg
        have u5 : decide (other < 4) = false := by have := HO'.out; simp; omega
        go_wp2_with fail
        go_ret
        exact ⟨rfl, F⟩
      · have u4 : decide (0 ≤ other) = false := by simpa using hneg
        go_wp2_with fail
        go_ret
        exact ⟨rfl, F⟩

set_option maxRecDepth 100000 in
set_option maxHeartbeats 4000000 in
theorem lays_in_zero_in_nil (w : World) (a0 : Option Addr) (cap : Nat) (n : Nat) (hn : n < 4) (sp : Option Addr) (c : Nat) (data : List UInt8) (hb : Bytes w sp 0 c data) (hsp : 0 < 0 → ∀ x, sp = some x → x.block < w.heap.size) (other : Nat) (ho : other < 4) :
    Calls Try.prog 7 #[.slice a0 0 cap, .int .i64 (n : Int), .slice sp 0 c, .int .i64 (other : Int)] w fun e w' => e = .returned (.bool true) ∧ Fr none' w w' := by
  have u1 : decide (0 ≤ (n : Int)) = true := by simp
  have u2 : decide ((n : Int) < 4) = true := by simp; omega
  have hmm : 0 ≤ 64 := by omega
  have HSP : Hid (0 < 0 → ∀ x, sp = some x → x.block < w.heap.size) := hsp
  clear hsp
  have u4 : decide (0 ≤ (other : Int)) = true := by simp
  have u5 : decide ((other : Int) < 4) = true := by simp; omega
  go_enter Try.func7, Try.ntmps7
  go_wp2_with fail
  refine (awake_any _).mono ?_
  rintro e w1 ⟨rfl, f1⟩
  have z1 := f1.size
  go_wp2_with fail
  refine (ap_new _).mono ?_
  rintro e w2 ⟨rfl, f2, r2⟩
  go_wp2_with fail
  refine (ap_rnew _).mono ?_
  rintro e w3 ⟨rfl, f3, r3⟩
  have t3 := twin_new (B := w.heap.size) z1 r2 f3 r3
  have z2 := r2.head.lt
  replace f3 := (f1.trans f2).trans f3
  clear f1 f2 r2 r3
  generalize List.replicate (64 * 4) (0 : UInt8) = bs0 at *
  go_wp2_with fail
  refine wp_loop_rounds 1 ?_
  rw [rounds_succ]
  have tk := t3
  have fk := f3
  clear t3 f3
  have R := tk.ram
  have F := fk
  have zw := F.size
  have zp := R.head.lt
  have hlen := R.len
  clear tk fk
  have BB := hb.keep F (fun _ _ _ h => h)
  go_wp2_with fail
  refine (ap_frame _ _ _ n _ _ R rfl hn).mono ?_
  rintro e wa ⟨rfl, fa, xa⟩
  have za := xa.lt
  replace R := R.keep fa id id
  replace BB := BB.keep fa (fun _ _ _ h => h)
  replace F := F.trans fa
  clear fa
  go_wp2_with fail
  refine (lay_ok _ _ _ _ _ _ R hn _ _ _ _ BB.len BB.src hmm).mono ?_
  rintro e wb ⟨rfl, fb, R'⟩
  have zb := fb.size
  replace xa := xa.keep fb (by unfold at'; omega)
  replace BB := BB.keep fb (fun hp x hx e => by have := HSP.out hp x hx; unfold at' at e; omega)
  replace F := F.newer fb z1
  replace R := R'
  clear R' fb
  have hl1 : (putAt bs0 (n * 64) data).length = 64 * 4 := by rw [length_putAt, hlen]
  have HO : Hid (∀ k, k < data.length → (frameOf (putAt bs0 (n * 64) data) n)[k]? = data[k]?) := fun k hk => lay_own bs0 data n k hlen hn (by have := BB.len; omega) hk
  have HT : Hid (∀ k, data.length ≤ k → k < 64 → (frameOf (putAt bs0 (n * 64) data) n)[k]? = (frameOf bs0 n)[k]?) := fun k hk hk' => lay_rest bs0 data n k hlen hn (by have := BB.len; omega) hk hk'
  generalize putAt bs0 (n * 64) data = bs1 at *
  go_wp2_with fail
  refine (ap_frame _ _ _ n _ _ R rfl hn).mono ?_
  rintro e wc ⟨rfl, fc, xc⟩
  have zc := xc.lt
  replace R := R.keep fc id id
  replace xa := xa.keep fc id
  replace BB := BB.keep fc (fun _ _ _ h => h)
  replace F := F.trans fc
  clear fc
  have la := length_frameOf bs0 n 4 hlen hn
  have lc := length_frameOf bs1 n 4 hl1 hn
  have XA : Hid (Row wc w3.heap.size (byteVals (frameOf bs0 n)) 5) := xa
  have XC : Hid (Row wc wb.heap.size (byteVals (frameOf bs1 n)) 5) := xc
  clear xa xc
  go_wp2_with fail
  go_loopw [20] (fun i wr => ∃ k : Nat, k ≤ 64 ∧ i = .int .i64 k ∧ ∃ nd, wr = wc.drewN nd) (fun i _ => 64 - (intOf i).toNat)
  case atStart => exact ⟨0, by omega, rfl, 0, rfl⟩
  case round =>
    obtain ⟨k, hk, rfl, nd, rfl⟩ := hrel
    by_cases hlt : k < 64
    · have i1 : decide ((k : Int) < 64) = true := by simp; omega
      have i2 : 0 ≤ (k : Int) ∧ (k : Int) < 64 := by omega
      have ea := row_at XA.out k (by omega)
      have ec := row_at XC.out k (by omega)
      have t1 : decide ((k : Int) < 0) = false := by simp
      have hv := HT.out k (by rw [BB.len]; omega) hlt
      rw [List.getElem?_eq_getElem (by omega), List.getElem?_eq_getElem (by omega)] at hv
      generalize (frameOf bs1 n)[k]'(by omega) = x1 at *
      generalize (frameOf bs0 n)[k]'(by omega) = x2 at *
      obtain rfl : x1 = x2 := Option.some.inj hv
      go_wp2
      go_quiet (fail)
      go_wp2
      go_roundw
      case rel => exact ⟨k + 1, by omega, by go_num, _, rfl⟩
      case measure => simp [intOf]; omega
    · obtain rfl : k = 64 := by omega
      have hd := fr_drewN wc nd
      replace R := R.keep hd id id
      have xc := XC.out.keep hd id
      replace F := F.trans hd
      have zd : (wc.drewN nd).heap.size = wc.heap.size := rfl
      clear hd XA XC
      go_wp2_with fail
      refine (clear_ok _ _ _ _ _ _ R ho).mono ?_
      rintro e we ⟨rfl, fe, R'⟩
      have ze := fe.size
      replace xc := xc.keep fe (by unfold at'; omega)
      replace F := F.newer fe z1
      replace R := R'
      clear R' fe
      have HZ : Hid (frameOf (putAt bs1 (other * 64) (List.replicate 64 0)) other = List.replicate 64 0) := clear_own bs1 other hl1 ho
      have HY : Hid (other ≠ n → frameOf (putAt bs1 (other * 64) (List.replicate 64 0)) n = frameOf bs1 n) := fun hne => clear_other bs1 other n hl1 ho hn hne
      have hl2 : (putAt bs1 (other * 64) (List.replicate 64 0)).length = 64 * 4 := by rw [length_putAt, hl1]
      generalize putAt bs1 (other * 64) (List.replicate 64 0) = bs2 at *
      go_wp2_with fail
      refine (ap_frame _ _ _ n _ _ R rfl hn).mono ?_
      rintro e wf ⟨rfl, ff, xf⟩
      have zf := xf.lt
      replace R := R.keep ff id id
      replace xc := xc.keep ff id
      replace F := F.trans ff
      clear ff
      go_wp2_with fail
      refine (ap_frame _ _ _ other _ _ R rfl ho).mono ?_
      rintro e wg ⟨rfl, fg, xg⟩
      have zg := xg.lt
      replace xc := xc.keep fg id
      replace xf := xf.keep fg id
      replace F := F.trans fg
      clear fg
      rw [HZ.out] at xg
      have XG := zeros_all xg
      clear xg
      go_wp2_with fail
      go_loopw [27] (fun i wr => ∃ k : Nat, k ≤ 64 ∧ i = .int .i64 k ∧ wr = wg) (fun i _ => 64 - (intOf i).toNat)
      case atStart => exact ⟨0, by omega, rfl, rfl⟩
      case round =>
        obtain ⟨k, hk, rfl, rfl⟩ := hrel
        by_cases hlt : k < 64
        · have i1 : decide ((k : Int) < 64) = true := by simp; omega
          have i2 : 0 ≤ (k : Int) ∧ (k : Int) < 64 := by omega
          have eg := XG.out k hlt
          go_wp2
          go_roundw
          case rel => exact ⟨k + 1, by omega, by go_num, trivial⟩
          case measure => simp [intOf]; omega
        · obtain rfl : k = 64 := by omega
          go_wp2_with fail
          have l2 := length_frameOf bs2 n 4 hl2 hn
          refine (same_any _ _ _ _ _ _ _ _ _ l2 lc (by omega) (begins_row xf).src (begins_row xc).src).mono ?_
          rintro e wh ⟨rfl, fh⟩
          replace F := F.trans fh
          clear fh xf xc
          by_cases hq : frameOf bs2 n = frameOf bs1 n
          · rw [decide_eq_true hq]
            clear hq HY HZ
            go_wp2_with fail
            go_ret
            exact ⟨rfl, F⟩
          · have hon : ((other : Int) == (n : Int)) = true := by
              by_cases h' : other = n
              · simp [h']
              · exact absurd (HY.out h') hq
            rw [decide_eq_false hq]
            clear hq HY HZ
            go_wp2_with fail
            go_ret
            exact ⟨rfl, F⟩

set_option maxRecDepth 100000 in
set_option maxHeartbeats 4000000 in
theorem lays_in_zero_out_nil (w : World) (a0 : Option Addr) (cap : Nat) (n : Nat) (hn : n < 4) (sp : Option Addr) (c : Nat) (data : List UInt8) (hb : Bytes w sp 0 c data) (hsp : 0 < 0 → ∀ x, sp = some x → x.block < w.heap.size) (other : Int) (ho : ¬ (0 ≤ other ∧ other < ((4 : Nat) : Int))) :
    Calls Try.prog 7 #[.slice a0 0 cap, .int .i64 (n : Int), .slice sp 0 c, .int .i64 other] w fun e w' => e = .returned (.bool true) ∧ Fr none' w w' := by
  have u1 : decide (0 ≤ (n : Int)) = true := by simp
  have u2 : decide ((n : Int) < 4) = true := by simp; omega
  have hmm : 0 ≤ 64 := by omega
  have HSP : Hid (0 < 0 → ∀ x, sp = some x → x.block < w.heap.size) := hsp
  clear hsp
  have HO' : Hid (¬ (0 ≤ other ∧ other < ((4 : Nat) : Int))) := ho
  clear ho
  go_enter Try.func7, Try.ntmps7
  go_wp2_with fail
  refine (awake_any _).mono ?_
  rintro e w1 ⟨rfl, f1⟩
  have z1 := f1.size
  go_wp2_with fail
  refine (ap_new _).mono ?_
  rintro e w2 ⟨rfl, f2, r2⟩
  go_wp2_with fail
  refine (ap_rnew _).mono ?_
  rintro e w3 ⟨rfl, f3, r3⟩
  have t3 := twin_new (B := w.heap.size) z1 r2 f3 r3
  have z2 := r2.head.lt
  replace f3 := (f1.trans f2).trans f3
  clear f1 f2 r2 r3
  generalize List.replicate (64 * 4) (0 : UInt8) = bs0 at *
  go_wp2_with fail
  refine wp_loop_rounds 1 ?_
  rw [rounds_succ]
  have tk := t3
  have fk := f3
  clear t3 f3
  have R := tk.ram
  have F := fk
  have zw := F.size
  have zp := R.head.lt
  have hlen := R.len
  clear tk fk
  have BB := hb.keep F (fun _ _ _ h => h)
  go_wp2_with fail
  refine (ap_frame _ _ _ n _ _ R rfl hn).mono ?_
  rintro e wa ⟨rfl, fa, xa⟩
  have za := xa.lt
  replace R := R.keep fa id id
  replace BB := BB.keep fa (fun _ _ _ h => h)
  replace F := F.trans fa
  clear fa
  go_wp2_with fail
  refine (lay_ok _ _ _ _ _ _ R hn _ _ _ _ BB.len BB.src hmm).mono ?_
  rintro e wb ⟨rfl, fb, R'⟩
  have zb := fb.size
  replace xa := xa.keep fb (by unfold at'; omega)
  replace BB := BB.keep fb (fun hp x hx e => by have := HSP.out hp x hx; unfold at' at e; omega)
  replace F := F.newer fb z1
  replace R := R'
  clear R' fb
  have hl1 : (putAt bs0 (n * 64) data).length = 64 * 4 := by rw [length_putAt, hlen]
  have HO : Hid (∀ k, k < data.length → (frameOf (putAt bs0 (n * 64) data) n)[k]? = data[k]?) := fun k hk => lay_own bs0 data n k hlen hn (by have := BB.len; omega) hk
  have HT : Hid (∀ k, data.length ≤ k → k < 64 → (frameOf (putAt bs0 (n * 64) data) n)[k]? = (frameOf bs0 n)[k]?) := fun k hk hk' => lay_rest bs0 data n k hlen hn (by have := BB.len; omega) hk hk'
  generalize putAt bs0 (n * 64) data = bs1 at *
  go_wp2_with fail
  refine (ap_frame _ _ _ n _ _ R rfl hn).mono ?_
  rintro e wc ⟨rfl, fc, xc⟩
  have zc := xc.lt
  replace R := R.keep fc id id
  replace xa := xa.keep fc id
  replace BB := BB.keep fc (fun _ _ _ h => h)
  replace F := F.trans fc
  clear fc
  have la := length_frameOf bs0 n 4 hlen hn
  have lc := length_frameOf bs1 n 4 hl1 hn
  have XA : Hid (Row wc w3.heap.size (byteVals (frameOf bs0 n)) 5) := xa
  have XC : Hid (Row wc wb.heap.size (byteVals (frameOf bs1 n)) 5) := xc
  clear xa xc
  go_wp2_with fail
  go_loopw [20] (fun i wr => ∃ k : Nat, k ≤ 64 ∧ i = .int .i64 k ∧ ∃ nd, wr = wc.drewN nd) (fun i _ => 64 - (intOf i).toNat)
  case atStart => exact ⟨0, by omega, rfl, 0, rfl⟩
  case round =>
    obtain ⟨k, hk, rfl, nd, rfl⟩ := hrel
    by_cases hlt : k < 64
    · have i1 : decide ((k : Int) < 64) = true := by simp; omega
      have i2 : 0 ≤ (k : Int) ∧ (k : Int) < 64 := by omega
      have ea := row_at XA.out k (by omega)
      have ec := row_at XC.out k (by omega)
      have t1 : decide ((k : Int) < 0) = false := by simp
      have hv := HT.out k (by rw [BB.len]; omega) hlt
      rw [List.getElem?_eq_getElem (by omega), List.getElem?_eq_getElem (by omega)] at hv
      generalize (frameOf bs1 n)[k]'(by omega) = x1 at *
      generalize (frameOf bs0 n)[k]'(by omega) = x2 at *
      obtain rfl : x1 = x2 := Option.some.inj hv
      go_wp2
      go_quiet (fail)
      go_wp2
      go_roundw
      case rel => exact ⟨k + 1, by omega, by go_num, _, rfl⟩
      case measure => simp [intOf]; omega
    · obtain rfl : k = 64 := by omega
      have hd := fr_drewN wc nd
      replace R := R.keep hd id id
      have xc := XC.out.keep hd id
      replace F := F.trans hd
      have zd : (wc.drewN nd).heap.size = wc.heap.size := rfl
      clear hd XA XC
      go_wp2_with fail
      refine (clear_bad _ _ _ _ _ _ R HO').mono ?_
      rintro e we ⟨rfl, rfl⟩
      have hl2 := hl1
      go_wp2_with fail
      refine (ap_frame _ _ _ n _ _ R rfl hn).mono ?_
      rintro e wf ⟨rfl, ff, xf⟩
      have zf := xf.lt
      replace R := R.keep ff id id
      replace xc := xc.keep ff id
      replace F := F.trans ff
      clear ff
      go_wp2_with fail
      refine (frame_bad _ _ _ _ _ _ R HO').mono ?_
      rintro e wg ⟨rfl, rfl⟩
      go_wp2_with fail
      refine wp_loop_rounds 1 ?_
      rw [rounds_succ]
      go_wp2_with fail
      refine (same_frame _ _ _ _ _ _ lc (lc ▸ begins_row xf) (lc ▸ begins_row xc)).mono ?_
      rintro e wh ⟨rfl, fh⟩
      replace F := F.trans fh
      clear fh xf xc
      by_cases hneg : 0 ≤ other
      · have u4 : decide (0 ≤ other) = true := by simpa using hneg
        have u5 : decide (other < 4) = false := by have := HO'.out; simp; omega
        go_wp2_with fail
        go_ret
        exact ⟨rfl, F⟩
      · have u4 : decide (0 ≤ other) = false := by simpa using hneg
        go_wp2_with fail
        go_ret
        exact ⟨rfl, F⟩

set_option maxRecDepth 100000 in
set_option maxHeartbeats 4000000 in
theorem lays_in_long_in_nil (w : World) (a0 : Option Addr) (cap : Nat) (n : Nat) (hn : n < 4) (sp : Option Addr) (m c : Nat) (hmm : 64 < m) (other : Nat) (ho : other < 4) :
    Calls Try.prog 7 #[.slice a0 0 cap, .int .i64 (n : Int), .slice sp m c, .int .i64 (other : Int)] w fun e w' => e = .returned (.bool true) ∧ Fr none' w w' := by
  have u1 : decide (0 ≤ (n : Int)) = true := by simp
  have u2 : decide ((n : Int) < 4) = true := by simp; omega
  have u3 : decide ((m : Int) ≤ 64) = false := by simp; omega
  have u4 : decide (0 ≤ (other : Int)) = true := by simp
  have u5 : decide ((other : Int) < 4) = true := by simp; omega
  go_enter Try.func7, Try.ntmps7
  go_wp2_with fail
  refine (awake_any _).mono ?_
  rintro e w1 ⟨rfl, f1⟩
  have z1 := f1.size
  go_wp2_with fail
  refine (ap_new _).mono ?_
  rintro e w2 ⟨rfl, f2, r2⟩
  go_wp2_with fail
  refine (ap_rnew _).mono ?_
  rintro e w3 ⟨rfl, f3, r3⟩
  have t3 := twin_new (B := w.heap.size) z1 r2 f3 r3
  have z2 := r2.head.lt
  replace f3 := (f1.trans f2).trans f3
  clear f1 f2 r2 r3
  generalize List.replicate (64 * 4) (0 : UInt8) = bs0 at *
  go_wp2_with fail
  refine wp_loop_rounds 1 ?_
  rw [rounds_succ]
  have tk := t3
  have fk := f3
  clear t3 f3
  have R := tk.ram
  have F := fk
  have zw := F.size
  have zp := R.head.lt
  have hlen := R.len
  clear tk fk
  go_wp2_with fail
  refine (ap_frame _ _ _ n _ _ R rfl hn).mono ?_
  rintro e wa ⟨rfl, fa, xa⟩
  have za := xa.lt
  replace R := R.keep fa id id
  replace F := F.trans fa
  clear fa
  go_wp2_with fail
  refine (lay_long _ _ _ _ _ _ R hn _ _ _ hmm).mono ?_
  rintro e wb ⟨rfl, rfl⟩
  have hl1 := hlen
  go_wp2_with fail
  refine (ap_frame _ _ _ n _ _ R rfl hn).mono ?_
  rintro e wc ⟨rfl, fc, xc⟩
  have zc := xc.lt
  replace R := R.keep fc id id
  replace xa := xa.keep fc id
  replace F := F.trans fc
  clear fc
  have la := length_frameOf bs0 n 4 hlen hn
  have lc := length_frameOf bs0 n 4 hl1 hn
  have XA : Hid (Row wc w3.heap.size (byteVals (frameOf bs0 n)) 5) := xa
  have XC : Hid (Row wc wa.heap.size (byteVals (frameOf bs0 n)) 5) := xc
  clear xa xc
  go_wp2_with fail
  go_loopw [20] (fun i wr => ∃ k : Nat, k ≤ 64 ∧ i = .int .i64 k ∧ ∃ nd, wr = wc.drewN nd) (fun i _ => 64 - (intOf i).toNat)
  case atStart => exact ⟨0, by omega, rfl, 0, rfl⟩
  case round =>
    obtain ⟨k, hk, rfl, nd, rfl⟩ := hrel
    by_cases hlt : k < 64
    · have i1 : decide ((k : Int) < 64) = true := by simp; omega
      have i2 : 0 ≤ (k : Int) ∧ (k : Int) < 64 := by omega
      have ea := row_at XA.out k (by omega)
      have ec := row_at XC.out k (by omega)
      generalize (frameOf bs0 n)[k]'(by omega) = x1 at *
      go_wp2
      go_quiet (fail)
      go_wp2
      go_roundw
      case rel => exact ⟨k + 1, by omega, by go_num, _, rfl⟩
      case measure => simp [intOf]; omega
    · obtain rfl : k = 64 := by omega
      have hd := fr_drewN wc nd
      replace R := R.keep hd id id
      have xc := XC.out.keep hd id
      replace F := F.trans hd
      have zd : (wc.drewN nd).heap.size = wc.heap.size := rfl
      clear hd XA XC
      go_wp2_with fail
      refine (clear_ok _ _ _ _ _ _ R ho).mono ?_
      rintro e we ⟨rfl, fe, R'⟩
      have ze := fe.size
      replace xc := xc.keep fe (by unfold at'; omega)
      replace F := F.newer fe z1
      replace R := R'
      clear R' fe
      have HZ : Hid (frameOf (putAt bs0 (other * 64) (List.replicate 64 0)) other = List.replicate 64 0) := clear_own bs0 other hl1 ho
      have HY : Hid (other ≠ n → frameOf (putAt bs0 (other * 64) (List.replicate 64 0)) n = frameOf bs0 n) := fun hne => clear_other bs0 other n hl1 ho hn hne
      have hl2 : (putAt bs0 (other * 64) (List.replicate 64 0)).length = 64 * 4 := by rw [length_putAt, hl1]
      generalize putAt bs0 (other * 64) (List.replicate 64 0) = bs2 at *
      go_wp2_with fail
      refine (ap_frame _ _ _ n _ _ R rfl hn).mono ?_
      rintro e wf ⟨rfl, ff, xf⟩
      have zf := xf.lt
      replace R := R.keep ff id id
      replace xc := xc.keep ff id
      replace F := F.trans ff
      clear ff
      go_wp2_with fail
      refine (ap_frame _ _ _ other _ _ R rfl ho).mono ?_
      rintro e wg ⟨rfl, fg, xg⟩
      have zg := xg.lt
      replace xc := xc.keep fg id
      replace xf := xf.keep fg id
      replace F := F.trans fg
      clear fg
      rw [HZ.out] at xg
      have XG := zeros_all xg
      clear xg
      go_wp2_with fail
      go_loopw [27] (fun i wr => ∃ k : Nat, k ≤ 64 ∧ i = .int .i64 k ∧ wr = wg) (fun i _ => 64 - (intOf i).toNat)
      case atStart => exact ⟨0, by omega, rfl, rfl⟩
      case round =>
        obtain ⟨k, hk, rfl, rfl⟩ := hrel
        by_cases hlt : k < 64
        · have i1 : decide ((k : Int) < 64) = true := by simp; omega
          have i2 : 0 ≤ (k : Int) ∧ (k : Int) < 64 := by omega
          have eg := XG.out k hlt
          go_wp2
          go_roundw
          case rel => exact ⟨k + 1, by omega, by go_num, trivial⟩
          case measure => simp [intOf]; omega
        · obtain rfl : k = 64 := by omega
          go_wp2_with fail
          have l2 := length_frameOf bs2 n 4 hl2 hn
          refine (same_any _ _ _ _ _ _ _ _ _ l2 lc (by omega) (begins_row xf).src (begins_row xc).src).mono ?_
          rintro e wh ⟨rfl, fh⟩
          replace F := F.trans fh
          clear fh xf xc
          by_cases hq : frameOf bs2 n = frameOf bs0 n
          · rw [decide_eq_true hq]
            clear hq HY HZ
            go_wp2_with fail
            go_ret
            exact ⟨rfl, F⟩
          · have hon : ((other : Int) == (n : Int)) = true := by
              by_cases h' : other = n
              · simp [h']
              · exact absurd (HY.out h') hq
            rw [decide_eq_false hq]
            clear hq HY HZ
            go_wp2_with fail
            go_ret
            exact ⟨rfl, F⟩

set_option maxRecDepth 100000 in
set_option maxHeartbeats 4000000 in
theorem lays_in_long_out_nil (w : World) (a0 : Option Addr) (cap : Nat) (n : Nat) (hn : n < 4) (sp : Option Addr) (m c : Nat) (hmm : 64 < m) (other : Int) (ho : ¬ (0 ≤ other ∧ other < ((4 : Nat) : Int))) :
    Calls Try.prog 7 #[.slice a0 0 cap, .int .i64 (n : Int), .slice sp m c, .int .i64 other] w fun e w' => e = .returned (.bool true) ∧ Fr none' w w' := by
  have u1 : decide (0 ≤ (n : Int)) = true := by simp
  have u2 : decide ((n : Int) < 4) = true := by simp; omega
  have u3 : decide ((m : Int) ≤ 64) = false := by simp; omega
  have HO' : Hid (¬ (0 ≤ other ∧ other < ((4 : Nat) : Int))) := ho
  clear ho
  go_enter Try.func7, Try.ntmps7
  go_wp2_with fail
  refine (awake_any _).mono ?_
  rintro e w1 ⟨rfl, f1⟩
  have z1 := f1.size
  go_wp2_with fail
  refine (ap_new _).mono ?_
  rintro e w2 ⟨rfl, f2, r2⟩
  go_wp2_with fail
  refine (ap_rnew _).mono ?_
  rintro e w3 ⟨rfl, f3, r3⟩
  have t3 := twin_new (B := w.heap.size) z1 r2 f3 r3
  have z2 := r2.head.lt
  replace f3 := (f1.trans f2).trans f3
  clear f1 f2 r2 r3
  generalize List.replicate (64 * 4) (0 : UInt8) = bs0 at *
  go_wp2_with fail
  refine wp_loop_rounds 1 ?_
  rw [rounds_succ]
  have tk := t3
  have fk := f3
  clear t3 f3
  have R := tk.ram
  have F := fk
  have zw := F.size
  have zp := R.head.lt
  have hlen := R.len
  clear tk fk
  go_wp2_with fail
  refine (ap_frame _ _ _ n _ _ R rfl hn).mono ?_
  rintro e wa ⟨rfl, fa, xa⟩
  have za := xa.lt
  replace R := R.keep fa id id
  replace F := F.trans fa
  clear fa
  go_wp2_with fail
  refine (lay_long _ _ _ _ _ _ R hn _ _ _ hmm).mono ?_
  rintro e wb ⟨rfl, rfl⟩
  have hl1 := hlen
  go_wp2_with fail
  refine (ap_frame _ _ _ n _ _ R rfl hn).mono ?_
  rintro e wc ⟨rfl, fc, xc⟩
  have zc := xc.lt
  replace R := R.keep fc id id
  replace xa := xa.keep fc id
  replace F := F.trans fc
  clear fc
  have la := length_frameOf bs0 n 4 hlen hn
  have lc := length_frameOf bs0 n 4 hl1 hn
  have XA : Hid (Row wc w3.heap.size (byteVals (frameOf bs0 n)) 5) := xa
  have XC : Hid (Row wc wa.heap.size (byteVals (frameOf bs0 n)) 5) := xc
  clear xa xc
  go_wp2_with fail
  go_loopw [20] (fun i wr => ∃ k : Nat, k ≤ 64 ∧ i = .int .i64 k ∧ ∃ nd, wr = wc.drewN nd) (fun i _ => 64 - (intOf i).toNat)
  case atStart => exact ⟨0, by omega, rfl, 0, rfl⟩
  case round =>
    obtain ⟨k, hk, rfl, nd, rfl⟩ := hrel
    by_cases hlt : k < 64
    · have i1 : decide ((k : Int) < 64) = true := by simp; omega
      have i2 : 0 ≤ (k : Int) ∧ (k : Int) < 64 := by omega
      have ea := row_at XA.out k (by omega)
      have ec := row_at XC.out k (by omega)
      generalize (frameOf bs0 n)[k]'(by omega) = x1 at *
      go_wp2
      go_quiet (fail)
      go_wp2
      go_roundw
      case rel => exact ⟨k + 1, by omega, by go_num, _, rfl⟩
      case measure => simp [intOf]; omega
    · obtain rfl : k = 64 := by omega
      have hd := fr_drewN wc nd
      replace R := R.keep hd id id
      have xc := XC.out.keep hd id
      replace F := F.trans hd
      have zd : (wc.drewN nd).heap.size = wc.heap.size := rfl
      clear hd XA XC
      go_wp2_with fail
      refine (clear_bad _ _ _ _ _ _ R HO').mono ?_
      rintro e we ⟨rfl, rfl⟩
      have hl2 := hl1
      go_wp2_with fail
      refine (ap_frame _ _ _ n _ _ R rfl hn).mono ?_
      rintro e wf ⟨rfl, ff, xf⟩
      have zf := xf.lt
      replace R := R.keep ff id id
      replace xc := xc.keep ff id
      replace F := F.trans ff
      clear ff
      go_wp2_with fail
      refine (frame_bad _ _ _ _ _ _ R HO').mono ?_
      rintro e wg ⟨rfl, rfl⟩
      go_wp2_with fail
      refine wp_loop_rounds 1 ?_
      rw [rounds_succ]
      go_wp2_with fail
      refine (same_frame _ _ _ _ _ _ lc (lc ▸ begins_row xf) (lc ▸ begins_row xc)).mono ?_
      rintro e wh ⟨rfl, fh⟩
      replace F := F.trans fh
      clear fh xf xc
      by_cases hneg : 0 ≤ other
      · have u4 : decide (0 ≤ other) = true := by simpa using hneg
        have u5 : decide (other < 4) = false := by have := HO'.out; simp; omega
        go_wp2_with fail
        go_ret
        exact ⟨rfl, F⟩
      · have u4 : decide (0 ≤ other) = false := by simpa using hneg
        go_wp2_with fail
        go_ret
        exact ⟨rfl, F⟩

end Go.Proofs.Ytbgioghaloodlaa
