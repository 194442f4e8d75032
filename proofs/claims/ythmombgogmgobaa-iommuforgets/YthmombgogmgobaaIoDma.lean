/-
  The contracts of package iommu's reach, access, Dma over the translation. No statement is proved here.
-/
import Derived.Test.YthmombgogmgobaaIoFind
namespace Go.Proofs.Ythmombgogmgobaa
open Go.RowKit

set_option maxHeartbeats 1000000 in
theorem reach_at (w : World) (b m : Nat) (v : Value) (S : Io) (P bf nf : Nat) (bs : List UInt8) (s p : Nat) (wt : Int) (h : IoAt w b m v S) (hR : IsRam w P bf nf bs) (d1 : P ≠ m) (d2 : bf ≠ m) (hs : s < 16) (hp : p < 1024) :
    Calls Try.prog 47 #[.pointer (some ⟨b, 0, none⟩), .pointer (some ⟨P, 0, none⟩), .int .i64 (s : Int), .int .i64 (p : Int), .int .i64 wt] w fun e w' =>
      e = .returned (.tuple #[.int .i64 (reaF bs nf S s p wt), .int .i64 (reaK bs nf S s p wt)]) ∧ Fr (at' m) w w' ∧ IoAt w' b m v (fndS bs nf S s p wt) := by
  obtain ⟨F, hF⟩ : ∃ F, F = fndF bs nf S s p wt := ⟨_, rfl⟩
  obtain ⟨K, hK⟩ : ∃ K, K = fndK bs nf S s p wt := ⟨_, rfl⟩
  unfold reaF reaK
  rw [← hF, ← hK]
  by_cases hk : K = 0
  · have t0 : (K == 0) = true := by simp [hk]
    by_cases hf : (nf : Int) ≤ F
    · have t1 : decide ((nf : Int) ≤ F) = true := decide_eq_true hf
      rw [if_pos ⟨hk, hf⟩, if_pos ⟨hk, hf⟩]
      clear hk hf
      go_enter Try.func47, Try.ntmps47
      go_wp2_with fail
      refine (find_at _ _ _ _ _ _ _ _ _ _ _ _ h hR hs hp).mono ?_
      rintro e w1 ⟨rfl, f1, h1⟩
      rw [← hF, ← hK]
      have r1 := hR.keep f1 d1 d2
      have HI : Hid (Fr (at' m) w w1 ∧ IoAt w1 b m v (fndS bs nf S s p wt)) := ⟨f1, h1⟩
      clear hF hK h1 f1 h hR
      go_wp2_with fail
      refine (frames_any _ _ _ _ _ r1).mono ?_
      rintro e w2 ⟨rfl, rfl⟩
      go_wp2_with fail
      go_ret2
      exact ⟨rfl, HI.out.1, HI.out.2⟩
    · have t1 : decide ((nf : Int) ≤ F) = false := decide_eq_false hf
      rw [if_neg (fun e => hf e.2), if_neg (fun e => hf e.2)]
      clear hk hf
      go_enter Try.func47, Try.ntmps47
      go_wp2_with fail
      refine (find_at _ _ _ _ _ _ _ _ _ _ _ _ h hR hs hp).mono ?_
      rintro e w1 ⟨rfl, f1, h1⟩
      rw [← hF, ← hK]
      have r1 := hR.keep f1 d1 d2
      have HI : Hid (Fr (at' m) w w1 ∧ IoAt w1 b m v (fndS bs nf S s p wt)) := ⟨f1, h1⟩
      clear hF hK h1 f1 h hR
      go_wp2_with fail
      refine (frames_any _ _ _ _ _ r1).mono ?_
      rintro e w2 ⟨rfl, rfl⟩
      go_wp2_with fail
      go_ret2
      exact ⟨rfl, HI.out.1, HI.out.2⟩
  · have t0 : (K == 0) = false := by simp [hk]
    rw [if_neg (fun e => hk e.1), if_neg (fun e => hk e.1)]
    clear hk
    go_enter Try.func47, Try.ntmps47
    go_wp2_with fail
    refine (find_at _ _ _ _ _ _ _ _ _ _ _ _ h hR hs hp).mono ?_
    rintro e w1 ⟨rfl, f1, h1⟩
    rw [← hF, ← hK]
    have r1 := hR.keep f1 d1 d2
    have HI : Hid (Fr (at' m) w w1 ∧ IoAt w1 b m v (fndS bs nf S s p wt)) := ⟨f1, h1⟩
    clear hF hK h1 f1 h hR
    go_wp2_with fail
    go_ret2
    exact ⟨rfl, HI.out.1, HI.out.2⟩

theorem err_one {a nf : Nat} (h : a < 64 * nf) : errOf (a : Int) 1 nf = 0 := by
  unfold errOf
  rw [if_neg (by omega), if_neg (by simp [Int.tmod_one]), if_neg (by omega)]
theorem byte_lt (bs : List UInt8) (a : Int) : byteAt bs a < 256 := by unfold byteAt; exact UInt8.toNat_lt _
theorem load_one {bs : List UInt8} {a nf : Nat} (hl : bs.length = 64 * nf) (h : a < 64 * nf) : loadV bs (a : Int) 1 nf = ((byteAt bs (a : Int) : Nat) : Int) := by
  unfold loadV byteAt
  rw [if_pos (err_one h)]
  have hb : a < bs.length := by omega
  simp only [Int.toNat_natCast, show ((1 : Int).toNat) = 1 from rfl]
  rw [numOf_one bs a hb]
  simp [List.getD, hb]

set_option maxHeartbeats 400000 in
theorem access_w (w : World) (P bf nf : Nat) (bs : List UInt8) (a x : Nat) (hx : x < 256) (ha : a < 65536) (hR : IsRam w P bf nf bs) :
    Calls Try.prog 50 #[.pointer (some ⟨P, 0, none⟩), .int .i64 (a : Int), .bool true, .int .u8 (x : Int)] w fun e w' => e = .returned (.int .u8 (x : Int)) ∧ Fr (at' bf) w w' ∧ IsRam w' P bf nf (storeB bs (a : Int) 1 nf x) := by
  have e4 : IntKind.u32.wrap (x : Int) = (x : Int) := by rw [IntKind.wrap_u32']; omega
  go_enter Try.func50, Try.ntmps50
  go_wp2_with fail
  refine (store_any _ _ _ _ _ (a : Int) 1 x hR (by omega) (by omega)).mono ?_
  rintro e w1 ⟨rfl, f1, r1⟩
  go_wp2_with fail
  go_ret
  exact ⟨rfl, f1, r1⟩

set_option maxHeartbeats 400000 in
theorem access_r (w : World) (P bf nf : Nat) (bs : List UInt8) (a x : Nat) (ha : a < 65536) (hb : a < 64 * nf) (hR : IsRam w P bf nf bs) :
    Calls Try.prog 50 #[.pointer (some ⟨P, 0, none⟩), .int .i64 (a : Int), .bool false, .int .u8 (x : Int)] w fun e w' => e = .returned (.int .u8 ((byteAt bs (a : Int) : Nat) : Int)) ∧ w' = w := by
  obtain ⟨y, hy⟩ : ∃ y, y = byteAt bs (a : Int) := ⟨_, rfl⟩
  have hy2 : y < 256 := by rw [hy]; exact byte_lt _ _
  have e4 : IntKind.u8.wrap (y : Int) = (y : Int) := by rw [IntKind.wrap_u8']; omega
  go_enter Try.func50, Try.ntmps50
  go_wp2_with fail
  refine (load_any _ _ _ _ _ (a : Int) 1 hR (by omega)).mono ?_
  rintro e w1 ⟨rfl, rfl⟩
  rw [load_one hR.len hb, ← hy]
  go_wp2_with fail
  go_ret
  exact ⟨rfl, rfl⟩

/-- What an access leaves. -/
def Dmad (w : World) (b : Nat) (O : Nat → Prop) (P bf nf : Nat) (bs' : List UInt8) (S' : Io) (w' : World) : Prop :=
  Fr (fun k => O k ∨ k = bf) w w' ∧ IsRam w' P bf nf bs' ∧ ∃ O', IsIo w' b O' S' ∧ ∀ k, O' k → O k ∨ w.heap.size ≤ k

section
variable {w w' : World} {b m : Nat} {v : Value} {O : Nat → Prop} {S S' : Io} {P bf nf : Nat} {bs bs' : List UInt8}
theorem Dmad.chg (hR : IsRam w P bf nf bs) (d1 : ¬ O P) (d2 : ¬ O bf) (c : ChgI w b O S w') : Dmad w b O P bf nf bs S w' :=
  ⟨c.1.mono (fun _ _ h => Or.inl h), hR.keep c.1 d1 d2, c.2⟩
end

theorem wantI_eq (wr : Bool) : wantI wr = bif wr then 2 else 1 := rfl

set_option maxHeartbeats 1000000 in
theorem dma_out (w : World) (b : Nat) (P : Nat) (s a : Int) (wr : Bool) (x : Nat) (hs : isS s = false) :
    Calls Try.prog 15 #[.pointer (some ⟨b, 0, none⟩), .pointer (some ⟨P, 0, none⟩), .int .i64 s, .int .i64 a, .bool wr, .int .u8 (x : Int)] w fun e w' => e = .returned (.tuple #[.int .u8 0, .int .i64 100]) ∧ w' = w := by
  go_enter Try.func15, Try.ntmps15
  go_wp2_with fail
  refine (isStream_any _ _).mono ?_
  rintro e w1 ⟨rfl, rfl⟩
  rw [hs]
  go_wp2_with fail
  go_ret2
  exact ⟨rfl, rfl⟩

set_option maxHeartbeats 1000000 in
theorem dma_arg (w : World) (b : Nat) (P : Nat) (s a : Int) (wr : Bool) (x : Nat) (hs : isS s = true) (ha : isAd a = false) :
    Calls Try.prog 15 #[.pointer (some ⟨b, 0, none⟩), .pointer (some ⟨P, 0, none⟩), .int .i64 s, .int .i64 a, .bool wr, .int .u8 (x : Int)] w fun e w' => e = .returned (.tuple #[.int .u8 0, .int .i64 1]) ∧ w' = w := by
  have ha' : (decide (0 ≤ a) && decide (a ≤ 65535)) = false := ha
  go_enter Try.func15, Try.ntmps15
  go_wp2_with fail
  refine (isStream_any _ _).mono ?_
  rintro e w1 ⟨rfl, rfl⟩
  rw [hs]
  go_wp2_with fail
  refine (iowithin_any _ _ _ _).mono ?_
  rintro e w1 ⟨rfl, rfl⟩
  rw [ha']
  go_wp2_with fail
  go_ret2
  exact ⟨rfl, rfl⟩

set_option maxHeartbeats 2000000 in
theorem dma_fault (w : World) (b m : Nat) (v : Value) (S : Io) (P bf nf : Nat) (bs : List UInt8) (s a : Nat) (wr : Bool) (x : Nat) (h : IoAt w b m v S) (hR : IsRam w P bf nf bs) (d1 : P ≠ m) (d2 : bf ≠ m) (hs : s < 16) (ha : a < 65536)
    (K : Int) (hK : reaK bs nf S s ((a / 64 : Nat) : Int) (wantI wr) = K) (hk : K ≠ 0) :
    Calls Try.prog 15 #[.pointer (some ⟨b, 0, none⟩), .pointer (some ⟨P, 0, none⟩), .int .i64 (s : Int), .int .i64 (a : Int), .bool wr, .int .u8 (x : Int)] w fun e w' => e = .returned (.tuple #[.int .u8 0, .int .i64 101]) ∧ ChgI w b (ioO b m v) (recS (fndS bs nf S s ((a / 64 : Nat) : Int) (wantI wr)) ⟨s, ((a / 64 : Nat) : Int), K, wr⟩) w' := by
  have hC := fun w' (h : IoAt w' b m v S) (hR : IsRam w' P bf nf bs) => reach_at w' b m v S P bf nf bs s (a / 64) (wantI wr) h hR d1 d2 hs (by omega)
  rw [hK] at hC
  have eq : ((a / 64 : Nat) : Int) = (a : Int) / 64 := by omega
  obtain ⟨S1, hS1⟩ : ∃ S1, S1 = fndS bs nf S s ((a / 64 : Nat) : Int) (wantI wr) := ⟨_, rfl⟩
  obtain ⟨F, hF⟩ : ∃ F, F = reaF bs nf S s ((a / 64 : Nat) : Int) (wantI wr) := ⟨_, rfl⟩
  rw [← hS1, ← hF] at hC
  rw [← hS1]
  rw [eq] at hC ⊢
  have hs' : isS (s : Int) = true := isS_iff.mpr (by omega)
  have ha' : (decide (0 ≤ (a : Int)) && decide ((a : Int) ≤ 65535)) = true := by simp; omega
  have tk : (K != 0) = true := by simp [hk]
  clear hS1 hF hK eq
  go_enter Try.func15, Try.ntmps15
  go_wp2_with fail
  refine (isStream_any _ _).mono ?_
  rintro e w1 ⟨rfl, rfl⟩
  rw [hs']
  go_wp2_with fail
  refine (iowithin_any _ _ _ _).mono ?_
  rintro e w1 ⟨rfl, rfl⟩
  rw [ha']
  go_wp2_with fail
  refine (ioright_any _ _).mono ?_
  rintro e w1 ⟨rfl, rfl⟩
  go_wp2_with fail
  refine (hC _ h hR).mono ?_
  rintro e w2 ⟨rfl, f2, h2⟩
  clear hC hR h
  go_wp2_with fail
  refine (record_at w2 b m v S1 ⟨s, (a : Int) / 64, K, wr⟩ h2).mono ?_
  rintro e w3 ⟨⟨y, rfl⟩, c3⟩
  have HC : Hid (ChgI w1 b (ioO b m v) (recS S1 ⟨s, (a : Int) / 64, K, wr⟩) w3) := ChgI.trans (O1 := ioO b m v) (f2.mono (fun _ _ e => Or.inr (Or.inl e))) (fun _ e => Or.inl e) c3
  clear c3 f2 h2
  go_wp2_with fail
  go_ret2
  exact ⟨rfl, HC.out⟩

set_option maxHeartbeats 2000000 in
theorem dma_w (w : World) (b m : Nat) (v : Value) (S : Io) (P bf nf : Nat) (bs : List UInt8) (s a : Nat) (x : Nat) (hx : x < 256) (h : IoAt w b m v S) (hR : IsRam w P bf nf bs) (d1 : P ≠ m) (d2 : bf ≠ m) (hs : s < 16) (ha : a < 65536)
    (hK : reaK bs nf S s ((a / 64 : Nat) : Int) 2 = 0) (F : Nat) (hF : reaF bs nf S s ((a / 64 : Nat) : Int) 2 = (F : Int)) (hF2 : F ≤ 1023) :
    Calls Try.prog 15 #[.pointer (some ⟨b, 0, none⟩), .pointer (some ⟨P, 0, none⟩), .int .i64 (s : Int), .int .i64 (a : Int), .bool true, .int .u8 (x : Int)] w fun e w' => e = .returned (.tuple #[.int .u8 (x : Int), .int .i64 0]) ∧ ∃ w1, Fr (at' m) w w1 ∧ IoAt w1 b m v (fndS bs nf S s ((a / 64 : Nat) : Int) 2) ∧ Fr (at' bf) w1 w' ∧ IsRam w' P bf nf (storeB bs ((64 * F + a % 64 : Nat) : Int) 1 nf x) := by
  have hC := fun w' (h : IoAt w' b m v S) (hR : IsRam w' P bf nf bs) => reach_at w' b m v S P bf nf bs s (a / 64) 2 h hR d1 d2 hs (by omega)
  rw [hK, hF] at hC
  have eq : ((a / 64 : Nat) : Int) = (a : Int) / 64 := by omega
  obtain ⟨S1, hS1⟩ : ∃ S1, S1 = fndS bs nf S s ((a / 64 : Nat) : Int) 2 := ⟨_, rfl⟩
  rw [← hS1] at hC
  rw [← hS1]
  rw [eq] at hC
  have hA := fun w' (hR : IsRam w' P bf nf bs) => access_w w' P bf nf bs (64 * F + a % 64) x hx (by omega) hR
  have ea : ((64 * F + a % 64 : Nat) : Int) = (F : Int) * 64 + (a : Int) % 64 := by omega
  rw [ea] at hA ⊢
  have hs' : isS (s : Int) = true := isS_iff.mpr (by omega)
  have ha' : (decide (0 ≤ (a : Int)) && decide ((a : Int) ≤ 65535)) = true := by simp; omega
  clear hS1 hF hK eq
  go_enter Try.func15, Try.ntmps15
  go_wp2_with fail
  refine (isStream_any _ _).mono ?_
  rintro e w1 ⟨rfl, rfl⟩
  rw [hs']
  go_wp2_with fail
  refine (iowithin_any _ _ _ _).mono ?_
  rintro e w1 ⟨rfl, rfl⟩
  rw [ha']
  go_wp2_with fail
  refine (ioright_any _ _).mono ?_
  rintro e w1 ⟨rfl, rfl⟩
  rw [show wantI true = 2 from rfl]
  go_wp2_with fail
  refine (hC _ h hR).mono ?_
  rintro e w2 ⟨rfl, f2, h2⟩
  have r2 := hR.keep f2 d1 d2
  clear hC hR h ea
  go_wp2_with fail
  refine (hA w2 r2).mono ?_
  rintro e w3 ⟨rfl, f3, r3⟩
  go_wp2_with fail
  go_ret2
  exact ⟨rfl, w2, f2, h2, f3, r3⟩

set_option maxHeartbeats 2000000 in
theorem dma_r (w : World) (b m : Nat) (v : Value) (S : Io) (P bf nf : Nat) (bs : List UInt8) (s a : Nat) (x : Nat) (h : IoAt w b m v S) (hR : IsRam w P bf nf bs) (d1 : P ≠ m) (d2 : bf ≠ m) (hs : s < 16) (ha : a < 65536)
    (hK : reaK bs nf S s ((a / 64 : Nat) : Int) 1 = 0) (F : Nat) (hF : reaF bs nf S s ((a / 64 : Nat) : Int) 1 = (F : Int)) (hF2 : F ≤ 1023) (hF3 : F < nf) :
    Calls Try.prog 15 #[.pointer (some ⟨b, 0, none⟩), .pointer (some ⟨P, 0, none⟩), .int .i64 (s : Int), .int .i64 (a : Int), .bool false, .int .u8 (x : Int)] w fun e w' => e = .returned (.tuple #[.int .u8 ((byteAt bs ((64 * F + a % 64 : Nat) : Int) : Nat) : Int), .int .i64 0]) ∧ Fr (at' m) w w' ∧ IoAt w' b m v (fndS bs nf S s ((a / 64 : Nat) : Int) 1) := by
  have hC := fun w' (h : IoAt w' b m v S) (hR : IsRam w' P bf nf bs) => reach_at w' b m v S P bf nf bs s (a / 64) 1 h hR d1 d2 hs (by omega)
  rw [hK, hF] at hC
  have eq : ((a / 64 : Nat) : Int) = (a : Int) / 64 := by omega
  obtain ⟨S1, hS1⟩ : ∃ S1, S1 = fndS bs nf S s ((a / 64 : Nat) : Int) 1 := ⟨_, rfl⟩
  rw [← hS1] at hC
  rw [← hS1]
  rw [eq] at hC
  have hA := fun w' (hR : IsRam w' P bf nf bs) => access_r w' P bf nf bs (64 * F + a % 64) x (by omega) (by omega) hR
  obtain ⟨y, hy⟩ : ∃ y, y = byteAt bs ((64 * F + a % 64 : Nat) : Int) := ⟨_, rfl⟩
  rw [← hy] at hA ⊢
  have ea : ((64 * F + a % 64 : Nat) : Int) = (F : Int) * 64 + (a : Int) % 64 := by omega
  rw [ea] at hA
  have hs' : isS (s : Int) = true := isS_iff.mpr (by omega)
  have ha' : (decide (0 ≤ (a : Int)) && decide ((a : Int) ≤ 65535)) = true := by simp; omega
  clear hS1 hF hK eq hy
  go_enter Try.func15, Try.ntmps15
  go_wp2_with fail
  refine (isStream_any _ _).mono ?_
  rintro e w1 ⟨rfl, rfl⟩
  rw [hs']
  go_wp2_with fail
  refine (iowithin_any _ _ _ _).mono ?_
  rintro e w1 ⟨rfl, rfl⟩
  rw [ha']
  go_wp2_with fail
  refine (ioright_any _ _).mono ?_
  rintro e w1 ⟨rfl, rfl⟩
  rw [show wantI false = 1 from rfl]
  go_wp2_with fail
  refine (hC _ h hR).mono ?_
  rintro e w2 ⟨rfl, f2, h2⟩
  have r2 := hR.keep f2 d1 d2
  clear hC hR h ea
  go_wp2_with fail
  refine (hA w2 r2).mono ?_
  rintro e w3 ⟨rfl, rfl⟩
  go_wp2_with fail
  go_ret2
  exact ⟨rfl, f2, h2⟩

theorem dma_any (w : World) (b : Nat) (O : Nat → Prop) (S : Io) (P bf nf : Nat) (bs : List UInt8) (s a : Int) (wr : Bool) (x : Nat) (hx : x < 256) (h : IsIo w b O S) (hR : IsRam w P bf nf bs) (d1 : ¬ O P) (d2 : ¬ O bf) :
    Calls Try.prog 15 #[.pointer (some ⟨b, 0, none⟩), .pointer (some ⟨P, 0, none⟩), .int .i64 s, .int .i64 a, .bool wr, .int .u8 (x : Int)] w fun e w' => e = .returned (.tuple #[.int .u8 ((dmaV bs nf S s a wr x : Nat) : Int), .int .i64 (dmaE bs nf S s a wr)]) ∧ Dmad w b O P bf nf (dmaB bs nf S s a wr x) (dmaS bs nf S s a wr) w' := by
  unfold dmaV dmaE dmaB dmaS dmaOk
  cases hs : isS s with
  | false =>
    refine (dma_out w b P s a wr x hs).mono ?_
    rintro e w' ⟨rfl, rfl⟩
    exact ⟨rfl, Dmad.chg hR d1 d2 (ChgI.same h (Fr.refl _ _))⟩
  | true =>
    cases ha : isAd a with
    | false =>
      refine (dma_arg w b P s a wr x hs ha).mono ?_
      rintro e w' ⟨rfl, rfl⟩
      exact ⟨rfl, Dmad.chg hR d1 d2 (ChgI.same h (Fr.refl _ _))⟩
    | true =>
      have hs1 := isS_iff.mp hs
      have ha1 := isAd_iff.mp ha
      obtain ⟨k, rfl⟩ := Int.eq_ofNat_of_zero_le hs1.1
      obtain ⟨c, rfl⟩ := Int.eq_ofNat_of_zero_le ha1.1
      have e64 : (c : Int) / 64 = ((c / 64 : Nat) : Int) := by omega
      have hrg := reaF_range h.ok bs nf k ((c / 64 : Nat) : Int) (wantI wr)
      obtain ⟨m, v, h, rfl⟩ := h
      have dm1 : P ≠ m := fun e => d1 (Or.inr (Or.inl e))
      have dm2 : bf ≠ m := fun e => d2 (Or.inr (Or.inl e))
      simp only [Bool.and_self, cond_true]
      unfold dmaK dmaAt
      rw [e64]
      by_cases hk : reaK bs nf S k ((c / 64 : Nat) : Int) (wantI wr) = 0
      · rw [if_pos hk, if_pos hk, if_pos hk, if_pos hk]
        obtain ⟨F, hF⟩ := Int.eq_ofNat_of_zero_le hrg.1
        have hF3 := hrg.2.2 hk
        have hF2 := hrg.2.1
        rw [hF] at hF3 hF2 ⊢
        have ea : 64 * (F : Int) + (c : Int) % 64 = ((64 * F + c % 64 : Nat) : Int) := by omega
        rw [ea]
        cases wr with
        | false =>
          refine (dma_r w b m v S P bf nf bs k c x h hR dm1 dm2 (by omega) (by omega) hk F hF (by omega) (by omega)).mono ?_
          rintro e w' ⟨rfl, f, h'⟩
          exact ⟨rfl, Dmad.chg hR d1 d2 (ChgI.at (f.mono (fun _ _ e => Or.inr (Or.inl e))) h')⟩
        | true =>
          refine (dma_w w b m v S P bf nf bs k c x hx h hR dm1 dm2 (by omega) (by omega) hk F hF (by omega)).mono ?_
          rintro e w' ⟨rfl, w1, f, h', f', r'⟩
          refine ⟨rfl, (f.mono (fun _ _ e => Or.inl (Or.inr (Or.inl e)))).trans (f'.mono (fun _ _ e => Or.inr e)), r', ioO b m v, ⟨m, v, h'.keep f' (fun k hk e => d2 (by rw [← (e : k = bf)]; exact hk)), rfl⟩, fun _ h => Or.inl h⟩
      · rw [if_neg hk, if_neg hk, if_neg hk, if_neg hk]
        refine (dma_fault w b m v S P bf nf bs k c wr x h hR dm1 dm2 (by omega) (by omega) _ rfl hk).mono ?_
        rintro e w' ⟨rfl, c'⟩
        exact ⟨rfl, Dmad.chg hR d1 d2 c'⟩

end Go.Proofs.Ythmombgogmgobaa
