/-
  The contract of the laws' made over the translation: both memories hold the same, told by a plain function, and both controllers nothing. No statement is proved here.
-/
import Derived.Test.YthmombgogmgobaaIoBoth
import Derived.Test.YthmombgogmgobaaIoNew
import Derived.Deep.CutBlock
namespace Go.Proofs.Ythmombgogmgobaa
open Go.RowKit

/-- The bytes behind so many entries; then behind so many of the law's own bytes. -/
def qB (P : Nat → Pq) : Nat → List UInt8
  | 0 => List.replicate (64 * 16) 0
  | n + 1 => putQ (qB P n) (P n)
def flB (bs : List UInt8) : Nat → List UInt8
  | 0 => bs
  | n + 1 => if 77 ≤ n then storeB (flB bs n) ((5 * n : Nat) : Int) 1 16 (5 * n % 251) else flB bs n
def mdB (P : Nat → Pq) (len : Nat) : List UInt8 := flB (qB P (min len 100)) 205

def rzc : Array Value := (List.replicate 16 (Value.int .i64 0) ++ (List.replicate 8 [Value.bool false, .int .i64 0, .int .i64 0, .int .i64 0, .int .i64 0]).flatten ++ [Value.slice none 0 0, Value.int .i64 0]).toArray
set_option maxRecDepth 100000 in
theorem zero_ri (w : World) : Sem.run Try.prog (zeroValue 80) w = .ok (.agg rzc) w := by kernel_rfl
theorem jv_zero : Jv rzc (.slice none 0 0) io0 := by
  refine ⟨rfl, fun i hi => ?_, fun k hk => ?_, rfl, rfl⟩
  · match i, hi with
    | 0, _ | 1, _ | 2, _ | 3, _ | 4, _ | 5, _ | 6, _ | 7, _ | 8, _ | 9, _ | 10, _ | 11, _ | 12, _ | 13, _ | 14, _ | 15, _ => rfl
    | i + 16, h => omega
  · match k, hk with
    | 0, _ | 1, _ | 2, _ | 3, _ | 4, _ | 5, _ | 6, _ | 7, _ => exact ⟨rfl, rfl, rfl, rfl, rfl⟩
    | k + 8, h => omega
theorem ri_zero (W : World) (j : Nat) (Z : Array Value) (hz : Jv Z (.slice none 0 0) io0) (h : Row W j Z 80) : IsRi W j (riO j (.slice none 0 0)) io0 :=
  ⟨.slice none 0 0, ⟨⟨_, h, hz⟩, rcS_nil _, (fun e => by cases e), ioOk0⟩, rfl⟩

theorem x_row {w : World} {b pm bi pr ji : Nat} {t : TypeId} (h : Row w b #[.pointer (some ⟨pm, 0, none⟩), .pointer (some ⟨bi, 0, none⟩), .pointer (some ⟨pr, 0, none⟩), .pointer (some ⟨ji, 0, none⟩)] t) : XIs w b pm bi pr ji := ⟨h.cell 0, h.cell 1, h.cell 2, h.cell 3⟩

set_option maxHeartbeats 8000000 in
set_option maxRecDepth 100000 in
theorem iomade_any (w : World) (a0 : Option Addr) (len cap : Nat) (P : Nat → Pq) (hl : len ≤ 9223372036854775807) (hP : Pqs w a0 len P) :
    Calls Try.prog 9 #[.slice a0 len cap] w fun e w' => ∃ x U, e = .returned (.pointer (some ⟨x, 0, none⟩)) ∧ Fr none' w w' ∧ IsBo w' x U (mdB P len) io0 ∧ ∀ k, U k → w.heap.size ≤ k := by
  have HP : Hid (Pqs w a0 len P) := hP
  clear hP
  have hz := zero_ri
  have hjv := jv_zero
  obtain ⟨Z, hZ⟩ : ∃ Z, Z = rzc := ⟨_, rfl⟩
  rw [← hZ] at hz hjv
  have HZ : Hid (Jv Z (.slice none 0 0) io0) := hjv
  clear hZ hjv
  go_enter Try.func9, Try.ntmps9
  go_wp2_with fail
  refine (new_any _ _ ⟨by decide, by decide⟩).mono ?_
  rintro e w1 ⟨rfl, f1, r1⟩
  go_wp2_with fail
  refine (rnew_any _ _ ⟨by decide, by decide⟩).mono ?_
  rintro e w2 ⟨rfl, f2, r2⟩
  have TW := twin_new (Nat.le_refl _) r1 f2 r2
  have hlt1 := r1.head.lt
  have hlt2 := r2.head.lt
  go_wp2_with fail
  refine (ionew_any _).mono ?_
  rintro e w3 ⟨bi, O, rfl, f3, hI, hO⟩
  have TW3 := TW.keep0 f3
  have F3 := (f1.trans f2).trans f3
  obtain ⟨pm, hpm⟩ : ∃ q, q = w.heap.size + 1 := ⟨_, rfl⟩
  obtain ⟨bm, hbm⟩ : ∃ q, q = w.heap.size := ⟨_, rfl⟩
  obtain ⟨pr, hpr⟩ : ∃ q, q = w1.heap.size + 1 := ⟨_, rfl⟩
  obtain ⟨br, hbr⟩ : ∃ q, q = w1.heap.size := ⟨_, rfl⟩
  rw [← hpm, ← hpr, ← hbr, ← hbm] at TW3
  rw [← hpm, ← hpr]
  have HEQ : Hid (pm = w.heap.size + 1 ∧ bm = w.heap.size ∧ pr = w1.heap.size + 1 ∧ br = w1.heap.size ∧ w2.heap.size ≤ w3.heap.size ∧ w1.heap.size ≤ w2.heap.size ∧ w.heap.size + 1 < w1.heap.size ∧ w1.heap.size + 1 < w2.heap.size) := ⟨hpm, hbm, hpr, hbr, f3.size, f2.size, hlt1, hlt2⟩
  clear hpm hbm hpr hbr hlt1 hlt2
  have G1 := (Fr.refl none' w3).alloc (.cells Z 80)
  have G2 := G1.alloc (.cells #[.pointer (some ⟨pm, 0, none⟩), .pointer (some ⟨bi, 0, none⟩), .pointer (some ⟨pr, 0, none⟩), .pointer (some ⟨w3.heap.size, 0, none⟩)] 40)
  have RJ := (row_alloc w3 Z 80).alloc (.cells #[.pointer (some ⟨pm, 0, none⟩), .pointer (some ⟨bi, 0, none⟩), .pointer (some ⟨pr, 0, none⟩), .pointer (some ⟨w3.heap.size, 0, none⟩)] 40)
  have RX := row_alloc1' w3 (.cells Z 80) #[.pointer (some ⟨pm, 0, none⟩), .pointer (some ⟨bi, 0, none⟩), .pointer (some ⟨pr, 0, none⟩), .pointer (some ⟨w3.heap.size, 0, none⟩)] 40
  go_upto_block 0 with fail
  obtain ⟨W, hW⟩ : ∃ W, W = (w3.alloc (.cells Z 80)).alloc (.cells #[.pointer (some ⟨pm, 0, none⟩), .pointer (some ⟨bi, 0, none⟩), .pointer (some ⟨pr, 0, none⟩), .pointer (some ⟨w3.heap.size, 0, none⟩)] 40) := ⟨_, rfl⟩
  rw [← hW] at G2 RJ RX ⊢
  obtain ⟨ji, hji⟩ : ∃ q, q = w3.heap.size := ⟨_, rfl⟩
  obtain ⟨x, hx⟩ : ∃ q, q = w3.heap.size + 1 := ⟨_, rfl⟩
  rw [← hx] at RX
  rw [← hji] at RJ RX
  rw [← hx, ← hji]
  obtain ⟨hpm, hbm, hpr, hbr, s3, s2, hlt1, hlt2⟩ := HEQ.out
  have hI' : ∀ k, O k → w2.heap.size ≤ k ∧ k < w3.heap.size := fun k hk => ⟨hO k hk, hI.lt k hk⟩
  have hB : BoAt W x pm bm pr br bi ji O (riO ji (.slice none 0 0)) (List.replicate (64 * 16) 0) (List.replicate (64 * 16) 0) io0 io0 := by
    refine ⟨x_row RX, TW3.ram.keep G2 (fun h => h) (fun h => h), TW3.ref.keep G2 (fun h => h) (fun h => h), hI.keep0 G2, ri_zero W ji Z HZ.out RJ, ⟨by omega, by omega, by omega, by omega, by omega, by omega, by omega⟩, fun k hk => ?_, fun k hk => ?_⟩
    · have a := hI' k hk
      refine ⟨by omega, by omega, by omega, by omega, by omega, fun e => ?_⟩
      rcases e with e | e
      · omega
      · cases e
    · rcases hk with e | e
      · exact ⟨by omega, by omega, by omega, by omega, by omega⟩
      · cases e
  have HU : Hid (∀ k, boU x pm bm pr br O (riO ji (.slice none 0 0)) k → w.heap.size ≤ k) := fun k hk => by
    rcases hk with e | e | e | e | e | e | e
    · omega
    · omega
    · omega
    · omega
    · omega
    · have a := hI' k e; omega
    · rcases e with e | e
      · omega
      · cases e
  have F0 : Fr none' w W := F3.trans G2
  clear HEQ hW hji hx hI' RX RJ G1 G2 hpm hbm hpr hbr s3 s2 TW TW3 hI hO f1 f2 f3 r1 r2 F3 hlt1 hlt2
  obtain ⟨Q, hQ⟩ : ∃ Q, Q = riO ji (.slice none 0 0) := ⟨_, rfl⟩
  rw [← hQ] at hB HU
  clear hQ
  have step : ∀ {wa wb : World}, Fr none' w wa → ChgU wa (boU x pm bm pr br O Q) wb (boU x pm bm pr br O Q) → Fr none' w wb := fun f u =>
    ⟨u.1.os.trans f.os, u.1.tape.trans f.tape, u.1.output.trans f.output, Nat.le_trans f.size u.1.size, fun i hi hn => (u.1.block i (Nat.lt_of_lt_of_le hi f.size) (fun e => by have := HU.out i e; omega)).trans (f.block i hi hn)⟩
  have HST : Hid (∀ {wa wb : World}, Fr none' w wa → ChgU wa (boU x pm bm pr br O Q) wb (boU x pm bm pr br O Q) → Fr none' w wb) := @step
  clear step
  go_cut [9] from 37 to 52 (fun s wx => Fr none' w wx ∧ BoAt wx x pm bm pr br bi ji O Q (qB P (min len 100)) (qB P (min len 100)) io0 io0)
  case first =>
    go_wp2_with fail
    go_loopw [9] (fun i wr => ∃ k : Nat, k ≤ len ∧ k ≤ 100 ∧ i = .int .i64 k ∧ Fr none' w wr ∧ BoAt wr x pm bm pr br bi ji O Q (qB P k) (qB P k) io0 io0) (fun i _ => 100 - (intOf i).toNat)
    case atStart => exact ⟨0, by omega, by omega, rfl, F0, hB⟩
    case round =>
      clear F0 hB
      obtain ⟨k, hk, hk2, rfl, fk, hB⟩ := hrel
      by_cases hlt : k < len
      · by_cases hlt2 : k < 100
        · obtain ⟨b, o, rfl, pk⟩ := HP.out k hlt
          replace pk := pk.keep fk (fun h => h)
          have i1 : 0 ≤ (k : Int) ∧ (k : Int) < (len : Int) := by omega
          have uk1 : decide ((k : Int) < (len : Int)) = true := decide_eq_true (by omega)
          have uk2 : decide ((k : Int) < 100) = true := decide_eq_true (by omega)
          obtain ⟨c0, c1, c2, c3, c4, c5⟩ := pk
          go_wp2_with fail
          refine (ioput_at _ _ _ _ _ _ _ _ _ _ _ _ _ (P k) hB).mono ?_
          rintro e w4 ⟨⟨y, rfl⟩, h', fu⟩
          have H' : Hid (Fr none' w w4 ∧ BoAt w4 x pm bm pr br bi ji O Q (qB P (k + 1)) (qB P (k + 1)) io0 io0) := ⟨HST.out fk fu, h'⟩
          clear c0 c1 c2 c3 c4 c5 h' fu fk hB
          go_wp2_with fail
          go_roundw
          case rel => exact ⟨k + 1, by omega, by omega, by go_num, H'.out.1, H'.out.2⟩
          case measure => simp [intOf]; omega
        · obtain rfl : k = 100 := by omega
          have uk1 : decide (((100 : Nat) : Int) < (len : Int)) = true := decide_eq_true (by omega)
          go_wp2_with fail
          go_meet
          exact ⟨fk, by rw [Nat.min_eq_right (by omega)]; exact hB⟩
      · obtain rfl : k = len := by omega
        go_wp2_with fail
        go_meet
        exact ⟨fk, by rw [Nat.min_eq_left (by omega)]; exact hB⟩
  case rest =>
  clear F0 hB
  obtain ⟨F0, hB⟩ := hcut
  obtain ⟨bs0, hbs0⟩ : ∃ q, q = qB P (min len 100) := ⟨_, rfl⟩
  rw [← hbs0] at hB
  have HBS : Hid (bs0 = qB P (min len 100)) := hbs0
  clear hbs0
  go_wp2_with fail
  go_loopw [10] (fun i wr => ∃ n : Nat, n ≤ 205 ∧ i = .int .i64 ((5 * n : Nat) : Int) ∧ Fr none' w wr ∧ BoAt wr x pm bm pr br bi ji O Q (flB bs0 n) (flB bs0 n) io0 io0) (fun i _ => 1100 - (intOf i).toNat)
  case atStart => exact ⟨0, by omega, rfl, F0, hB⟩
  case round =>
    clear F0 hB
    obtain ⟨n, hn, rfl, fk, hB⟩ := hrel
    obtain ⟨c, hc⟩ : ∃ c, c = 5 * n := ⟨_, rfl⟩
    rw [← hc]
    by_cases hlt : n < 205
    · have uk : decide ((c : Int) < 1024) = true := decide_eq_true (by omega)
      by_cases h77 : 77 ≤ n
      · have u5 : decide (5 < (c : Int) / 64) = true := decide_eq_true (by omega)
        have e4 : IntKind.u32.wrap ((c : Int) % 251) = (c : Int) % 251 := by rw [IntKind.wrap_u32']; omega
        have ec : (c : Int) % 251 = ((c % 251 : Nat) : Int) := by omega
        have hs := store_any wr pm bm 16 (flB bs0 n) (c : Int) 1 (c % 251) hB.ram (by omega) (by omega)
        rw [← ec] at hs
        have HEC : Hid ((c : Int) % 251 = ((c % 251 : Nat) : Int)) := ec
        clear ec
        have hcb : c < 1024 := by omega
        have HN : Hid (c = 5 * n ∧ n < 205 ∧ 77 ≤ n) := ⟨hc, hlt, h77⟩
        clear hc hlt h77
        go_wp2_with fail
        refine hs.mono ?_
        rintro e w4 ⟨rfl, f4, r4⟩
        obtain ⟨h4, u4⟩ := hB.stepM f4 r4
        have hs2 := rstore_any w4 pr br 16 (flB bs0 n) (c : Int) 1 (c % 251) h4.ref (by omega)
        rw [← HEC.out] at hs2
        clear hs
        go_wp2_with fail
        refine hs2.mono ?_
        rintro e w5 ⟨rfl, f5, r5⟩
        obtain ⟨h5, u5'⟩ := h4.stepN f5 r5
        have eb : storeB (flB bs0 n) (c : Int) 1 16 (c % 251) = flB bs0 (n + 1) := by
          show _ = (if 77 ≤ n then _ else _)
          rw [if_pos HN.out.2.2, ← HN.out.1]
        rw [eb] at h5
        have H' : Hid (Fr none' w w5 ∧ BoAt w5 x pm bm pr br bi ji O Q (flB bs0 (n + 1)) (flB bs0 (n + 1)) io0 io0) := ⟨HST.out (HST.out fk u4) u5', h5⟩
        clear h5 h4 u4 u5' f4 f5 r4 r5 hs2 eb hB fk
        go_wp2_with fail
        go_roundw
        case rel => exact ⟨n + 1, by have := HN.out; omega, by have h := HN.out.1; rw [show ((5 * (n + 1) : Nat) : Int) = (c : Int) + 5 by omega], H'.out.1, H'.out.2⟩
        case measure => simp [intOf]; omega
      · have u5 : decide (5 < (c : Int) / 64) = false := decide_eq_false (by omega)
        have eb : flB bs0 n = flB bs0 (n + 1) := by
          show _ = (if 77 ≤ n then _ else _)
          rw [if_neg h77]
        rw [eb] at hB
        have H' : Hid (Fr none' w wr ∧ BoAt wr x pm bm pr br bi ji O Q (flB bs0 (n + 1)) (flB bs0 (n + 1)) io0 io0) := ⟨fk, hB⟩
        have HN : Hid (c = 5 * n ∧ n < 205) := ⟨hc, hlt⟩
        have hcb : c < 1024 := by omega
        clear eb hB fk hc hlt h77
        go_wp2_with fail
        go_roundw
        case rel => exact ⟨n + 1, by have := HN.out; omega, by have h := HN.out.1; rw [show ((5 * (n + 1) : Nat) : Int) = (c : Int) + 5 by omega], H'.out.1, H'.out.2⟩
        case measure => simp [intOf]; omega
    · obtain rfl : n = 205 := by omega
      subst hc
      go_wp2_with fail
      go_ret
      refine ⟨x, _, rfl, fk, ⟨pm, bm, pr, br, bi, ji, O, Q, ?_, rfl⟩, HU.out⟩
      unfold mdB
      rw [← HBS.out]
      exact hB

end Go.Proofs.Ythmombgogmgobaa
