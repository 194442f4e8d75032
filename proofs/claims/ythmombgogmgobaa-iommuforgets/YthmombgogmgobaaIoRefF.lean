/-
  The contracts of the document's Dma and Take (package viceroyref10) over the translation, the rest. No statement is proved here.
-/
import Derived.Test.YthmombgogmgobaaIoRefE
namespace Go.Proofs.Ythmombgogmgobaa
open Go.RowKit

set_option maxHeartbeats 2000000 in
theorem rdma_room (w : World) (j : Nat) (v : Value) (S : Io) (P bf nf : Nat) (bs : List UInt8) (s a : Nat) (wr : Bool) (x : Nat) (h : RiAt w j v S) (hR : IsRef w P bf nf bs) (d1 : P ≠ j) (d2 : bf ≠ j) (hs : s < 16) (ha : a < 65536)
    (K : Int) (hK : reaK bs nf S s ((a / 64 : Nat) : Int) (wantI wr) = K) (hk : K ≠ 0) (h8 : S.re.length < 8) :
    Calls Try.prog 32 #[.pointer (some ⟨j, 0, none⟩), .pointer (some ⟨P, 0, none⟩), .int .i64 (s : Int), .int .i64 (a : Int), .bool wr, .int .u8 (x : Int)] w fun e w' => e = .returned (.tuple #[.int .u8 0, .int .i64 101]) ∧ ChgR w j (riO j v) { fndS bs nf S s ((a / 64 : Nat) : Int) (wantI wr) with re := (fndS bs nf S s ((a / 64 : Nat) : Int) (wantI wr)).re ++ [⟨s, (a : Int) / 64, K, wr⟩] } w' := by
  have hre : (fndS bs nf S s ((a / 64 : Nat) : Int) (wantI wr)).re.length < 8 := by unfold fndS; cases okL s ((a / 64 : Nat) : Int) (wantI wr) (S.ln (((a / 64 : Nat) : Int) % 8).toNat) <;> simp only [cond_true, cond_false]; split <;> exact h8; exact h8
  have hC := fun w' => rea_facts w' j v S P bf nf bs s a (wantI wr) K d1 d2 hs ha hK
  obtain ⟨S1, hS1⟩ : ∃ S1, S1 = fndS bs nf S s ((a / 64 : Nat) : Int) (wantI wr) := ⟨_, rfl⟩
  obtain ⟨F, hF⟩ : ∃ F, F = reaF bs nf S s ((a / 64 : Nat) : Int) (wantI wr) := ⟨_, rfl⟩
  rw [← hS1, ← hF] at hC
  rw [← hS1] at hre ⊢
  have t1 : decide ((a : Int) < 0) = false := decide_eq_false (by omega)
  have t2 : decide (65535 < (a : Int)) = false := decide_eq_false (by omega)
  have hs' : isS (s : Int) = true := isS_iff.mpr (by omega)
  have tk : (K != 0) = true := by simp [hk]
  clear hS1 hF hK hk
  cases wr with
  | false =>
    have hC1 : ∀ w', RiAt w' j v S → IsRef w' P bf nf bs → Calls Try.prog 59 #[.pointer (some ⟨j, 0, none⟩), .pointer (some ⟨P, 0, none⟩), .int .i64 (s : Int), .int .i64 ((a : Int) / 64), .int .i64 1] w' fun e w'' => e = .returned (.tuple #[.int .i64 F, .int .i64 K]) ∧ Fr (at' j) w' w'' ∧ RiAt w'' j v S1 := hC
    clear hC
    go_enter Try.func32, Try.ntmps32
    go_wp2_with fail
    refine (ris_any _ _).mono ?_
    rintro e w1 ⟨rfl, rfl⟩
    rw [hs']
    go_wp2_with fail
    refine (hC1 _ h hR).mono ?_
    rintro e w2 ⟨rfl, f2, h2⟩
    obtain ⟨aa, cap, hv⟩ := h2.re.form
    obtain ⟨n, hn⟩ : ∃ n, n = S1.re.length := ⟨_, rfl⟩
    rw [← hn] at hv hre
    have t8 : decide ((n : Int) < 8) = true := decide_eq_true (by omega)
    obtain ⟨c1, c2⟩ := h2.cells
    rw [hv] at c1
    have z1 := h2.frozen 56
    have f3 := (Fr.refl none' w2).alloc (.cells #[.int .i64 (s : Int), .int .i64 ((a : Int) / 64), .int .i64 K, .bool false] 58)
    have r3 := row_alloc w2 #[.int .i64 (s : Int), .int .i64 ((a : Int) / 64), .int .i64 K, .bool false] 58
    have h3 := h2.keep0 f3
    have HRE : Hid (RcS (w2.alloc (.cells #[.int .i64 (s : Int), .int .i64 ((a : Int) / 64), .int .i64 K, .bool false] 58)) (.slice aa n cap) S1.re) := by rw [← hv]; exact h3.re
    have HON : Hid (RcS (w2.alloc (.cells #[.int .i64 (s : Int), .int .i64 ((a : Int) / 64), .int .i64 K, .bool false] 58)) (.slice (some ⟨w2.heap.size, 0, none⟩) 1 1) [⟨s, (a : Int) / 64, K, false⟩]) := rcS_one ⟨s, (a : Int) / 64, K, false⟩ w2.heap.size r3
    have HC : Hid ((w2.alloc (.cells #[.int .i64 (s : Int), .int .i64 ((a : Int) / 64), .int .i64 K, .bool false] 58)).cell? ⟨j, 56, none⟩ = some (.slice aa n cap)) := by rw [← hv]; exact h3.cells.1
    have HZ : Hid ((w2.alloc (.cells #[.int .i64 (s : Int), .int .i64 ((a : Int) / 64), .int .i64 K, .bool false] 58)).frozen? ⟨j, 56, none⟩ = false) := h3.frozen 56
    have HJ : Hid (j < (w2.alloc (.cells #[.int .i64 (s : Int), .int .i64 ((a : Int) / 64), .int .i64 K, .bool false] 58)).heap.size ∧ some j ≠ (Value.slice aa n cap).ownBlock) := ⟨h3.lt j (Or.inl rfl), by rw [← hv]; exact h3.n2⟩
    have HN : Hid (n = S1.re.length ∧ n < 8 ∧ v = .slice aa n cap) := ⟨hn, hre, hv⟩
    have HH : Hid (Fr (at' j) w1 w2 ∧ Fr none' w2 (w2.alloc (.cells #[.int .i64 (s : Int), .int .i64 ((a : Int) / 64), .int .i64 K, .bool false] 58)) ∧ RiAt (w2.alloc (.cells #[.int .i64 (s : Int), .int .i64 ((a : Int) / 64), .int .i64 K, .bool false] 58)) j v S1 ∧ j < w2.heap.size) := ⟨f2, f3, h3, h2.lt j (Or.inl rfl)⟩
    clear h3 h2 f2 f3 r3 hC1 h hR hv hre hn
    go_wp2_with (first | (at_builtin; refine wpList_append_rcL rfl (.tmp 52) (.tmp 59) rfl (.slice aa n cap) S1.re [⟨s, (a : Int) / 64, K, false⟩] rfl HRE.out ?_ w2.heap.size 0 1 1 rfl HON.out (Or.inr (by simp)) ?_; (have := HN.out; simp; omega); intro g' o' cap' w' hr hf ho; have e1 := cell_keep hf HC.out HJ.out.2; have e2 := io_frozen_keep hf HZ.out HJ.out.1 HJ.out.2))
    go_ret2
    refine ⟨rfl, ?_⟩
    have hv := HN.out.2.2
    subst hv
    refine ChgR.trans (O1 := riO j (.slice aa n cap)) (HH.out.1.mono (fun _ _ e => Or.inl e)) (fun _ e => Or.inl e) ?_
    refine chgR_slice HH.out.2.1 HH.out.2.2.1 hf hr (by have := HN.out; simp; omega) ?_ ?_
    · rcases ho with ho | ho
      · exact Or.inl ho
      · exact Or.inr (by rw [ho]; exact HH.out.2.1.size)
    · rcases ho with ho | ho
      · intro e; exact HJ.out.2 (by rw [ho, e])
      · have a := HJ.out.1; omega
  | true =>
    have hC1 : ∀ w', RiAt w' j v S → IsRef w' P bf nf bs → Calls Try.prog 59 #[.pointer (some ⟨j, 0, none⟩), .pointer (some ⟨P, 0, none⟩), .int .i64 (s : Int), .int .i64 ((a : Int) / 64), .int .i64 2] w' fun e w'' => e = .returned (.tuple #[.int .i64 F, .int .i64 K]) ∧ Fr (at' j) w' w'' ∧ RiAt w'' j v S1 := hC
    clear hC
    go_enter Try.func32, Try.ntmps32
    go_wp2_with fail
    refine (ris_any _ _).mono ?_
    rintro e w1 ⟨rfl, rfl⟩
    rw [hs']
    go_wp2_with fail
    refine (hC1 _ h hR).mono ?_
    rintro e w2 ⟨rfl, f2, h2⟩
    obtain ⟨aa, cap, hv⟩ := h2.re.form
    obtain ⟨n, hn⟩ : ∃ n, n = S1.re.length := ⟨_, rfl⟩
    rw [← hn] at hv hre
    have t8 : decide ((n : Int) < 8) = true := decide_eq_true (by omega)
    obtain ⟨c1, c2⟩ := h2.cells
    rw [hv] at c1
    have z1 := h2.frozen 56
    have f3 := (Fr.refl none' w2).alloc (.cells #[.int .i64 (s : Int), .int .i64 ((a : Int) / 64), .int .i64 K, .bool true] 58)
    have r3 := row_alloc w2 #[.int .i64 (s : Int), .int .i64 ((a : Int) / 64), .int .i64 K, .bool true] 58
    have h3 := h2.keep0 f3
    have HRE : Hid (RcS (w2.alloc (.cells #[.int .i64 (s : Int), .int .i64 ((a : Int) / 64), .int .i64 K, .bool true] 58)) (.slice aa n cap) S1.re) := by rw [← hv]; exact h3.re
    have HON : Hid (RcS (w2.alloc (.cells #[.int .i64 (s : Int), .int .i64 ((a : Int) / 64), .int .i64 K, .bool true] 58)) (.slice (some ⟨w2.heap.size, 0, none⟩) 1 1) [⟨s, (a : Int) / 64, K, true⟩]) := rcS_one ⟨s, (a : Int) / 64, K, true⟩ w2.heap.size r3
    have HC : Hid ((w2.alloc (.cells #[.int .i64 (s : Int), .int .i64 ((a : Int) / 64), .int .i64 K, .bool true] 58)).cell? ⟨j, 56, none⟩ = some (.slice aa n cap)) := by rw [← hv]; exact h3.cells.1
    have HZ : Hid ((w2.alloc (.cells #[.int .i64 (s : Int), .int .i64 ((a : Int) / 64), .int .i64 K, .bool true] 58)).frozen? ⟨j, 56, none⟩ = false) := h3.frozen 56
    have HJ : Hid (j < (w2.alloc (.cells #[.int .i64 (s : Int), .int .i64 ((a : Int) / 64), .int .i64 K, .bool true] 58)).heap.size ∧ some j ≠ (Value.slice aa n cap).ownBlock) := ⟨h3.lt j (Or.inl rfl), by rw [← hv]; exact h3.n2⟩
    have HN : Hid (n = S1.re.length ∧ n < 8 ∧ v = .slice aa n cap) := ⟨hn, hre, hv⟩
    have HH : Hid (Fr (at' j) w1 w2 ∧ Fr none' w2 (w2.alloc (.cells #[.int .i64 (s : Int), .int .i64 ((a : Int) / 64), .int .i64 K, .bool true] 58)) ∧ RiAt (w2.alloc (.cells #[.int .i64 (s : Int), .int .i64 ((a : Int) / 64), .int .i64 K, .bool true] 58)) j v S1 ∧ j < w2.heap.size) := ⟨f2, f3, h3, h2.lt j (Or.inl rfl)⟩
    clear h3 h2 f2 f3 r3 hC1 h hR hv hre hn
    go_wp2_with (first | (at_builtin; refine wpList_append_rcL rfl (.tmp 52) (.tmp 59) rfl (.slice aa n cap) S1.re [⟨s, (a : Int) / 64, K, true⟩] rfl HRE.out ?_ w2.heap.size 0 1 1 rfl HON.out (Or.inr (by simp)) ?_; (have := HN.out; simp; omega); intro g' o' cap' w' hr hf ho; have e1 := cell_keep hf HC.out HJ.out.2; have e2 := io_frozen_keep hf HZ.out HJ.out.1 HJ.out.2))
    go_ret2
    refine ⟨rfl, ?_⟩
    have hv := HN.out.2.2
    subst hv
    refine ChgR.trans (O1 := riO j (.slice aa n cap)) (HH.out.1.mono (fun _ _ e => Or.inl e)) (fun _ e => Or.inl e) ?_
    refine chgR_slice HH.out.2.1 HH.out.2.2.1 hf hr (by have := HN.out; simp; omega) ?_ ?_
    · rcases ho with ho | ho
      · exact Or.inl ho
      · exact Or.inr (by rw [ho]; exact HH.out.2.1.size)
    · rcases ho with ho | ho
      · intro e; exact HJ.out.2 (by rw [ho, e])
      · have a := HJ.out.1; omega

theorem store_one {bs : List UInt8} {a nf x : Nat} (h : a < 64 * nf) : storeB bs (a : Int) 1 nf x = bs.set a (UInt8.ofNat x) := by
  unfold storeB
  rw [if_pos (err_one h)]
  simp only [Int.toNat_natCast, show ((1 : Int).toNat) = 1 from rfl, bytesOf, putAt]

set_option maxHeartbeats 2000000 in
theorem rdma_w (w : World) (j : Nat) (v : Value) (S : Io) (P bf nf : Nat) (bs : List UInt8) (s a : Nat) (x : Nat) (hx : x < 256) (h : RiAt w j v S) (hR : IsRef w P bf nf bs) (d1 : P ≠ j) (d2 : bf ≠ j) (hs : s < 16) (ha : a < 65536)
    (hK : reaK bs nf S s ((a / 64 : Nat) : Int) 2 = 0) (F : Nat) (hF : reaF bs nf S s ((a / 64 : Nat) : Int) 2 = (F : Int)) (hF2 : F ≤ 1023) (hF3 : F < nf) :
    Calls Try.prog 32 #[.pointer (some ⟨j, 0, none⟩), .pointer (some ⟨P, 0, none⟩), .int .i64 (s : Int), .int .i64 (a : Int), .bool true, .int .u8 (x : Int)] w fun e w' => e = .returned (.tuple #[.int .u8 (x : Int), .int .i64 0]) ∧ ∃ w1, Fr (at' j) w w1 ∧ RiAt w1 j v (fndS bs nf S s ((a / 64 : Nat) : Int) 2) ∧ Fr (at' bf) w1 w' ∧ IsRef w' P bf nf (storeB bs ((64 * F + a % 64 : Nat) : Int) 1 nf x) := by
  have hC := fun w' => rea_facts w' j v S P bf nf bs s a 2 0 d1 d2 hs ha hK
  obtain ⟨S1, hS1⟩ : ∃ S1, S1 = fndS bs nf S s ((a / 64 : Nat) : Int) 2 := ⟨_, rfl⟩
  rw [← hS1, hF] at hC
  rw [← hS1]
  rw [store_one (by omega)]
  obtain ⟨c, hc⟩ : ∃ c, c = 64 * F + a % 64 := ⟨_, rfl⟩
  rw [← hc]
  have t1 : decide ((a : Int) < 0) = false := decide_eq_false (by omega)
  have t2 : decide (65535 < (a : Int)) = false := decide_eq_false (by omega)
  have hs' : isS (s : Int) = true := isS_iff.mpr (by omega)
  clear hS1 hF hK
  have hC1 : ∀ w', RiAt w' j v S → IsRef w' P bf nf bs → Calls Try.prog 59 #[.pointer (some ⟨j, 0, none⟩), .pointer (some ⟨P, 0, none⟩), .int .i64 (s : Int), .int .i64 ((a : Int) / 64), .int .i64 2] w' fun e w'' => e = .returned (.tuple #[.int .i64 (F : Int), .int .i64 0]) ∧ Fr (at' j) w' w'' ∧ RiAt w'' j v S1 := hC
  clear hC
  go_enter Try.func32, Try.ntmps32
  go_wp2_with fail
  refine (ris_any _ _).mono ?_
  rintro e w1 ⟨rfl, rfl⟩
  rw [hs']
  go_wp2_with fail
  refine (hC1 _ h hR).mono ?_
  rintro e w2 ⟨rfl, f2, h2⟩
  have r2 := hR.keep f2 d1 d2
  have hcb : c < 64 * nf := by omega
  have ec : 64 * (F : Int) + (a : Int) % 64 = (c : Int) := by omega
  have i1 : 0 ≤ (c : Int) ∧ (c : Int) < ((64 * nf : Nat) : Int) := by omega
  have k0 := r2.hcell
  have hlen := r2.len
  obtain ⟨y0, k1⟩ : ∃ y0, w2.cell? ⟨bf, c, none⟩ = some y0 := ⟨_, r2.bcell c (by omega)⟩
  have z1 := r2.row.frozen c
  have f3 : Fr (at' bf) w2 (w2.setCell ⟨bf, c, none⟩ (.int .u8 (x : Int))) := fr_set _ _ _ _ (Fr.refl _ _)
  have r3 : IsRef (w2.setCell ⟨bf, c, none⟩ (.int .u8 (x : Int))) P bf nf (bs.set c (UInt8.ofNat x)) := isRef_step r2 c x _ (by omega)
  have HI : Hid (Fr (at' j) w1 w2 ∧ RiAt w2 j v S1 ∧ Fr (at' bf) w2 (w2.setCell ⟨bf, c, none⟩ (.int .u8 (x : Int))) ∧ IsRef (w2.setCell ⟨bf, c, none⟩ (.int .u8 (x : Int))) P bf nf (bs.set c (UInt8.ofNat x))) := ⟨f2, h2, f3, r3⟩
  have k2 := r3.hcell
  have nb := r2.apart
  have hbl := r2.row.lt
  have k3 : (w2.setCell ⟨bf, c, none⟩ (.int .u8 (x : Int))).cell? ⟨bf, c, none⟩ = some (.int .u8 (x : Int)) := by rw [(r2.row.setCell c (.int .u8 (x : Int))).cell c, Array.getElem?_setIfInBounds, if_pos rfl, if_pos (by rw [size_byteVals]; omega)]
  clear f2 h2 f3 r3 r2 hC1 h hR hlen hc
  go_wp2_with fail
  go_ret2
  exact ⟨rfl, w2, HI.out.1, HI.out.2.1, HI.out.2.2.1, HI.out.2.2.2⟩

set_option maxHeartbeats 2000000 in
theorem rdma_r (w : World) (j : Nat) (v : Value) (S : Io) (P bf nf : Nat) (bs : List UInt8) (s a : Nat) (x : Nat) (h : RiAt w j v S) (hR : IsRef w P bf nf bs) (d1 : P ≠ j) (d2 : bf ≠ j) (hs : s < 16) (ha : a < 65536)
    (hK : reaK bs nf S s ((a / 64 : Nat) : Int) 1 = 0) (F : Nat) (hF : reaF bs nf S s ((a / 64 : Nat) : Int) 1 = (F : Int)) (hF2 : F ≤ 1023) (hF3 : F < nf) :
    Calls Try.prog 32 #[.pointer (some ⟨j, 0, none⟩), .pointer (some ⟨P, 0, none⟩), .int .i64 (s : Int), .int .i64 (a : Int), .bool false, .int .u8 (x : Int)] w fun e w' => e = .returned (.tuple #[.int .u8 ((byteAt bs ((64 * F + a % 64 : Nat) : Int) : Nat) : Int), .int .i64 0]) ∧ Fr (at' j) w w' ∧ RiAt w' j v (fndS bs nf S s ((a / 64 : Nat) : Int) 1) := by
  have hC := fun w' => rea_facts w' j v S P bf nf bs s a 1 0 d1 d2 hs ha hK
  obtain ⟨S1, hS1⟩ : ∃ S1, S1 = fndS bs nf S s ((a / 64 : Nat) : Int) 1 := ⟨_, rfl⟩
  rw [← hS1, hF] at hC
  rw [← hS1]
  obtain ⟨c, hc⟩ : ∃ c, c = 64 * F + a % 64 := ⟨_, rfl⟩
  rw [← hc]
  have hby : byteAt bs (c : Int) = (bs[c]'(by have := hR.len; omega)).toNat := by
    have hl : c < bs.length := by have := hR.len; omega
    simp [byteAt, List.getD, hl]
  have t1 : decide ((a : Int) < 0) = false := decide_eq_false (by omega)
  have t2 : decide (65535 < (a : Int)) = false := decide_eq_false (by omega)
  have hs' : isS (s : Int) = true := isS_iff.mpr (by omega)
  clear hS1 hF hK
  have hC1 : ∀ w', RiAt w' j v S → IsRef w' P bf nf bs → Calls Try.prog 59 #[.pointer (some ⟨j, 0, none⟩), .pointer (some ⟨P, 0, none⟩), .int .i64 (s : Int), .int .i64 ((a : Int) / 64), .int .i64 1] w' fun e w'' => e = .returned (.tuple #[.int .i64 (F : Int), .int .i64 0]) ∧ Fr (at' j) w' w'' ∧ RiAt w'' j v S1 := hC
  clear hC
  go_enter Try.func32, Try.ntmps32
  go_wp2_with fail
  refine (ris_any _ _).mono ?_
  rintro e w1 ⟨rfl, rfl⟩
  rw [hs']
  go_wp2_with fail
  refine (hC1 _ h hR).mono ?_
  rintro e w2 ⟨rfl, f2, h2⟩
  have r2 := hR.keep f2 d1 d2
  have hcb : c < 64 * nf := by omega
  have ec : 64 * (F : Int) + (a : Int) % 64 = (c : Int) := by omega
  have i1 : 0 ≤ (c : Int) ∧ (c : Int) < ((64 * nf : Nat) : Int) := by omega
  have k0 := r2.hcell
  have hlen := r2.len
  have k1 := r2.bcell c (by omega)
  rw [← hby] at k1
  have HI : Hid (Fr (at' j) w1 w2 ∧ RiAt w2 j v S1) := ⟨f2, h2⟩
  clear f2 h2 r2 hC1 h hR hlen hc hby
  go_wp2_with fail
  go_ret2
  exact ⟨rfl, HI.out.1, HI.out.2⟩

theorem rdma_any (w : World) (b : Nat) (O : Nat → Prop) (S : Io) (P bf nf : Nat) (bs : List UInt8) (s a : Int) (wr : Bool) (x : Nat) (hx : x < 256) (h : IsRi w b O S) (hR : IsRef w P bf nf bs) (d1 : ¬ O P) (d2 : ¬ O bf) :
    Calls Try.prog 32 #[.pointer (some ⟨b, 0, none⟩), .pointer (some ⟨P, 0, none⟩), .int .i64 s, .int .i64 a, .bool wr, .int .u8 (x : Int)] w fun e w' => e = .returned (.tuple #[.int .u8 ((dmaV bs nf S s a wr x : Nat) : Int), .int .i64 (dmaE bs nf S s a wr)]) ∧ DmadR w b O P bf nf (dmaB bs nf S s a wr x) (dmaS bs nf S s a wr) w' := by
  unfold dmaV dmaE dmaB dmaS dmaOk
  cases hs : isS s with
  | false =>
    refine (rdma_out w b P s a wr x hs).mono ?_
    rintro e w' ⟨rfl, rfl⟩
    exact ⟨rfl, DmadR.chg hR d1 d2 (ChgR.same h (Fr.refl _ _))⟩
  | true =>
    cases ha : isAd a with
    | false =>
      refine (rdma_arg w b P s a wr x hs ha).mono ?_
      rintro e w' ⟨rfl, rfl⟩
      exact ⟨rfl, DmadR.chg hR d1 d2 (ChgR.same h (Fr.refl _ _))⟩
    | true =>
      have hs1 := isS_iff.mp hs
      have ha1 := isAd_iff.mp ha
      obtain ⟨k, rfl⟩ := Int.eq_ofNat_of_zero_le hs1.1
      obtain ⟨c, rfl⟩ := Int.eq_ofNat_of_zero_le ha1.1
      have e64 : (c : Int) / 64 = ((c / 64 : Nat) : Int) := by omega
      have hrg := reaF_range h.ok bs nf k ((c / 64 : Nat) : Int) (wantI wr)
      have h8 := h.ok.re
      have hre : (fndS bs nf S k ((c / 64 : Nat) : Int) (wantI wr)).re = S.re := by unfold fndS; cases okL k ((c / 64 : Nat) : Int) (wantI wr) (S.ln (((c / 64 : Nat) : Int) % 8).toNat) <;> simp only [cond_true, cond_false]; split <;> rfl
      obtain ⟨v, h, rfl⟩ := h
      have dm1 : P ≠ b := fun e => d1 (Or.inl e)
      have dm2 : bf ≠ b := fun e => d2 (Or.inl e)
      simp only [Bool.and_self, cond_true]
      unfold dmaK dmaAt
      rw [e64]
      by_cases hk : reaK bs nf S k ((c / 64 : Nat) : Int) (wantI wr) = 0
      · rw [if_pos hk, if_pos hk, if_pos hk, if_pos hk]
        obtain ⟨F, hF⟩ := Int.eq_ofNat_of_zero_le hrg.1
        have hF3 := hrg.2.2 hk
        have hF2 := hrg.2.1
        rw [hF] at hF3 hF2 ⊢
        have ea : 64 * (F : Int) + (c : Int) % 64 = ((64 * F + c % 64 : Nat) : Int) := by omega
        rw [ea]
        cases wr with
        | false =>
          refine (rdma_r w b v S P bf nf bs k c x h hR dm1 dm2 (by omega) (by omega) hk F hF (by omega) (by omega)).mono ?_
          rintro e w' ⟨rfl, f, h'⟩
          exact ⟨rfl, DmadR.chg hR d1 d2 (ChgR.at (f.mono (fun _ _ e => Or.inl e)) h')⟩
        | true =>
          refine (rdma_w w b v S P bf nf bs k c x hx h hR dm1 dm2 (by omega) (by omega) hk F hF (by omega) (by omega)).mono ?_
          rintro e w' ⟨rfl, w1, f, h', f', r'⟩
          refine ⟨rfl, (f.mono (fun _ _ e => Or.inl (Or.inl e))).trans (f'.mono (fun _ _ e => Or.inr e)), r', riO b v, ⟨v, h'.keep f' (fun k hk e => d2 (by rw [← (e : k = bf)]; exact hk)), rfl⟩, fun _ h => Or.inl h⟩
      · rw [if_neg hk, if_neg hk, if_neg hk, if_neg hk]
        unfold recS
        by_cases h8' : S.re.length = 8
        · rw [if_pos (by rw [hre]; exact h8')]
          refine (rdma_full w b v S P bf nf bs k c wr x h hR dm1 dm2 (by omega) (by omega) _ rfl hk h8').mono ?_
          rintro e w' ⟨rfl, c'⟩
          exact ⟨rfl, DmadR.chg hR d1 d2 c'⟩
        · rw [if_neg (by rw [hre]; exact h8')]
          refine (rdma_room w b v S P bf nf bs k c wr x h hR dm1 dm2 (by omega) (by omega) _ rfl hk (by omega)).mono ?_
          rintro e w' ⟨rfl, c'⟩
          rw [e64] at c'
          exact ⟨rfl, DmadR.chg hR d1 d2 c'⟩

end Go.Proofs.Ythmombgogmgobaa
