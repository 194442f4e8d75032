/-
  Plain facts for the law IommuConfined: which accesses go through, and what they leave of each byte. No program, no statement.
-/
import Derived.Test.YthmombgogmgobaaIoSound
import Derived.Test.YthmombgogmgobaaIoRefF
import Derived.Test.YthmombgogmgobaaFrame
namespace Go.Proofs.Ythmombgogmgobaa
open Go.RowKit

/-- Whether an access may go through, as the law says it. -/
def mayB (bs : List UInt8) (s ad R wt : Int) : Bool :=
  decide (0 ≤ s) && (decide (s < 16) && (decide (0 ≤ ad) && (decide (ad < 65536) && (decide (0 ≤ R) && (((single bs 16 R (ad.tdiv 64)).ft.k == 0) && (((bits .and .i64 (single bs 16 R (ad.tdiv 64)).ri wt) != 0) && decide ((single bs 16 R (ad.tdiv 64)).fr < 16)))))))

theorem may_true {bs : List UInt8} {s ad R wt : Int} (h : mayB bs s ad R wt = true) : (0 ≤ s ∧ s < 16) ∧ (0 ≤ ad ∧ ad < 65536) ∧ 0 ≤ R ∧ (single bs 16 R (ad.tdiv 64)).ft.k = 0 ∧ bits .and .i64 (single bs 16 R (ad.tdiv 64)).ri wt ≠ 0 ∧ (single bs 16 R (ad.tdiv 64)).fr < 16 := by
  unfold mayB at h
  simp only [Bool.and_eq_true, decide_eq_true_eq, beq_iff_eq, bne_iff_ne, ne_eq] at h
  obtain ⟨h1, h2, h3, h4, h5, h6, h7, h8⟩ := h
  exact ⟨⟨h1, h2⟩, ⟨h3, h4⟩, h5, h6, h7, h8⟩
theorem may_mk {bs : List UInt8} {s ad R wt : Int} (h1 : 0 ≤ s ∧ s < 16) (h2 : 0 ≤ ad ∧ ad < 65536) (h3 : 0 ≤ R) (h4 : (single bs 16 R (ad.tdiv 64)).ft.k = 0) (h5 : bits .and .i64 (single bs 16 R (ad.tdiv 64)).ri wt ≠ 0) (h6 : (single bs 16 R (ad.tdiv 64)).fr < 16) : mayB bs s ad R wt = true := by
  unfold mayB
  simp only [Bool.and_eq_true, decide_eq_true_eq, beq_iff_eq, bne_iff_ne, ne_eq]
  exact ⟨h1.1, h1.2, h2.1, h2.2, h3, h4, h5, h6⟩

/-- An access goes through just where it may. -/
theorem dma_may {bs : List UInt8} {S : Io} (h : Snd bs S) (ok : IoOk S) (s ad : Int) (wr : Bool) : (dmaE bs 16 S s ad wr = 0 ↔ mayB bs s ad (rootO S s) (wantI wr) = true) ∧ (mayB bs s ad (rootO S s) (wantI wr) = true → isS s = true ∧ isAd ad = true ∧ dmaK bs 16 S s ad wr = 0 ∧ reaF bs 16 S s (ad / 64) (wantI wr) = (single bs 16 (rootO S s) (ad.tdiv 64)).fr) := by
  cases hs : isS s with
  | false =>
    have e : mayB bs s ad (rootO S s) (wantI wr) ≠ true := fun c => by
      have := (may_true c).1
      have hh := isS_iff.mpr (show 0 ≤ s ∧ s ≤ 15 by omega)
      rw [hs] at hh
      cases hh
    refine ⟨⟨fun c => ?_, fun c => absurd c e⟩, fun c => absurd c e⟩
    simp [dmaE, hs] at c
  | true =>
    cases ha : isAd ad with
    | false =>
      have e : mayB bs s ad (rootO S s) (wantI wr) ≠ true := fun c => by
        have := (may_true c).2.1
        have hh := isAd_iff.mpr (show 0 ≤ ad ∧ ad ≤ 65535 by omega)
        rw [ha] at hh
        cases hh
      refine ⟨⟨fun c => ?_, fun c => absurd c e⟩, fun c => absurd c e⟩
      simp [dmaE, hs, ha] at c
    | true =>
      have hs' := isS_iff.mp hs
      have ha' := isAd_iff.mp ha
      have hR : rootO S s = S.ro s.toNat := by unfold rootO; rw [hs]; rfl
      have ht : ad.tdiv 64 = ad / 64 := Int.tdiv_eq_ediv_of_nonneg ha'.1
      obtain ⟨t1, t2⟩ := h.true' s (ad / 64) (wantI wr)
      rw [hR]
      have hE : dmaE bs 16 S s ad wr = 0 ↔ dmaK bs 16 S s ad wr = 0 := by
        unfold dmaE
        rw [hs, ha]
        simp only [cond_true]
        by_cases c : dmaK bs 16 S s ad wr = 0
        · rw [if_pos c]; exact ⟨fun _ => c, fun _ => rfl⟩
        · rw [if_neg c]; exact ⟨fun e => absurd e (by decide), fun e => absurd e c⟩
      have hro := ok.ro s.toNat
      have hsr := (single_range bs 16 (S.ro s.toNat) (ad / 64)).1
      have key : dmaK bs 16 S s ad wr = 0 ↔ mayB bs s ad (S.ro s.toNat) (wantI wr) = true := by
        unfold dmaK reaK
        rw [t1, t2]
        constructor
        · intro c
          by_cases hk : walkK bs 16 (S.ro s.toNat) (ad / 64) (wantI wr) = 0
          · have hf : walkFr bs 16 (S.ro s.toNat) (ad / 64) (wantI wr) = (single bs 16 (S.ro s.toNat) (ad / 64)).fr := by unfold walkFr; rw [if_pos hk]
            have c' : ¬ ((16 : Nat) : Int) ≤ walkFr bs 16 (S.ro s.toNat) (ad / 64) (wantI wr) := fun hh => by rw [if_pos ⟨hk, hh⟩] at c; cases c
            rw [hf] at c'
            have hr1 : S.ro s.toNat ≠ -1 := fun e => by unfold walkK at hk; rw [if_pos e] at hk; cases hk
            have hft : (single bs 16 (S.ro s.toNat) (ad / 64)).ft.k = 0 := by
              unfold walkK at hk
              rw [if_neg hr1] at hk
              by_cases e : (single bs 16 (S.ro s.toNat) (ad / 64)).ft.k = 0
              · exact e
              · rw [if_pos e] at hk; exact hk
            have hri : bits .and .i64 (single bs 16 (S.ro s.toNat) (ad / 64)).ri (wantI wr) ≠ 0 := fun e => by
              unfold walkK at hk
              rw [if_neg hr1, if_neg (by simp [hft]), if_pos e] at hk
              cases hk
            exact may_mk (by omega) (by omega) (by omega) (by rw [ht]; exact hft) (by rw [ht]; exact hri) (by rw [ht]; omega)
          · rw [if_neg (fun e => hk e.1)] at c; exact absurd c hk
        · intro c
          obtain ⟨_, _, c3, c4, c5, c6⟩ := may_true c
          rw [ht] at c4 c5 c6
          have hk : walkK bs 16 (S.ro s.toNat) (ad / 64) (wantI wr) = 0 := by
            unfold walkK
            rw [if_neg (by omega), if_neg (by simp [c4]), if_neg c5]
          have hf : walkFr bs 16 (S.ro s.toNat) (ad / 64) (wantI wr) = (single bs 16 (S.ro s.toNat) (ad / 64)).fr := by unfold walkFr; rw [if_pos hk]
          rw [if_neg (fun e => by rw [hf] at e; omega)]
          exact hk
      refine ⟨hE.trans key, fun c => ⟨rfl, rfl, key.mpr c, ?_⟩⟩
      obtain ⟨_, _, c3, c4, c5, c6⟩ := may_true c
      rw [ht] at c4 c5 c6 ⊢
      have hk : walkK bs 16 (S.ro s.toNat) (ad / 64) (wantI wr) = 0 := by
        unfold walkK
        rw [if_neg (by omega), if_neg (by simp [c4]), if_neg c5]
      have hf : walkFr bs 16 (S.ro s.toNat) (ad / 64) (wantI wr) = (single bs 16 (S.ro s.toNat) (ad / 64)).fr := by unfold walkFr; rw [if_pos hk]
      unfold reaF
      rw [t1, t2, hf, if_neg (fun e => by omega)]

/-- A byte of a frame. -/
def fby (bs : List UInt8) (i k : Nat) : Nat := (bs.getD (i * 64 + k) 0).toNat
theorem fby_cell {w : World} {g : Nat} {bs : List UInt8} {i k : Nat} (hl : bs.length = 64 * 16) (hi : i < 16) (hk : k < 64) (h : Row w g (byteVals (frameOf bs i)) 5) : w.cell? ⟨g, k, none⟩ = some (.int .u8 ((fby bs i k : Nat) : Int)) := by
  have hfl := length_frameOf bs i 16 hl hi
  rw [h.cell, byteVals_get _ _ (by omega)]
  have hb : i * 64 + k < bs.length := by omega
  have e := frameOf_get bs i 16 k hl hi (by omega)
  rw [e]
  simp [U8, fby, List.getD, hb]

/-- Which byte is the access's own. -/
def ownB (m wr : Bool) (F k0 : Nat) (i k : Nat) : Bool := m && (wr && ((i : Int) == (F : Int) && (k : Int) == (k0 : Int)))
theorem conf_bytes {bs : List UInt8} (hl : bs.length = 64 * 16) {F k0 b : Nat} (hF : F < 16) (hk0 : k0 < 64) (hb : b < 256) {i k : Nat} (hi : i < 16) (hk : k < 64) :
    (i = F ∧ k = k0 → fby (bs.set (64 * F + k0) (UInt8.ofNat b)) i k = b) ∧ (¬ (i = F ∧ k = k0) → fby (bs.set (64 * F + k0) (UInt8.ofNat b)) i k = fby bs i k) := by
  constructor
  · rintro ⟨rfl, rfl⟩
    have hb' : i * 64 + k < bs.length := by omega
    have e : 64 * i + k = i * 64 + k := by omega
    unfold fby
    rw [e]
    simp [List.getD, hb']
    omega
  · intro hn
    have hb' : i * 64 + k < bs.length := by omega
    unfold fby
    simp only [List.getD]
    rw [List.getElem?_set_ne (by omega)]

/-- All that the law asks of bytes, told at once. -/
structure Conf (bs bs' : List UInt8) (m wr : Bool) (X : Int) (b v : Nat) (ad : Int) : Prop where
  own : ∀ i k : Nat, i < 16 → k < 64 → m = true → wr = true → (i : Int) = X → (k : Int) = ad % 64 → fby bs' i k = b
  oth : ∀ i k : Nat, i < 16 → k < 64 → (m = true → wr = true → (i : Int) = X → (k : Int) = ad % 64 → False) → fby bs' i k = fby bs i k
  val : ∀ i : Nat, i < 16 → m = true → (i : Int) = X → ∀ k : Nat, (k : Int) = ad % 64 → v = fby bs' i k
theorem conf_is {bs : List UInt8} {S : Io} (h : Snd bs S) (ok : IoOk S) (hl : bs.length = 64 * 16) (s ad : Int) (wr : Bool) (b : Nat) (hb : b < 256) :
    Conf bs (dmaB bs 16 S s ad wr b) (mayB bs s ad (rootO S s) (wantI wr)) wr (single bs 16 (rootO S s) (ad.tdiv 64)).fr b (dmaV bs 16 S s ad wr b) ad := by
  obtain ⟨h1, h2⟩ := dma_may h ok s ad wr
  cases hm : mayB bs s ad (rootO S s) (wantI wr) with
  | false =>
    have e : dmaB bs 16 S s ad wr b = bs := dmaB_fault (fun e => by rw [h1.mp e] at hm; cases hm)
    rw [e]
    exact ⟨fun _ _ _ _ hc => (by cases hc), fun _ _ _ _ _ => rfl, fun _ _ hc => (by cases hc)⟩
  | true =>
    obtain ⟨hs, ha, hK, hF⟩ := h2 hm
    obtain ⟨_, _, _, _, _, hf16⟩ := may_true hm
    have ha' := isAd_iff.mp ha
    obtain ⟨hr1, _, hr3⟩ := reaF_range ok bs 16 s (ad / 64) (wantI wr)
    obtain ⟨F, hFF⟩ := Int.eq_ofNat_of_zero_le hr1
    rw [hF] at hFF
    have hat : dmaAt bs 16 S s ad wr = ((64 * F + (ad % 64).toNat : Nat) : Int) := by unfold dmaAt; rw [hF, hFF]; omega
    have hF16 : F < 16 := by omega
    have hk0 : (ad % 64).toNat < 64 := by omega
    obtain ⟨k0, hk0e⟩ : ∃ k0, k0 = (ad % 64).toNat := ⟨_, rfl⟩
    have hke : ad % 64 = (k0 : Int) := by omega
    rw [hFF]
    rw [← hk0e] at hat hk0
    have hB : dmaB bs 16 S s ad wr b = bif wr then bs.set (64 * F + k0) (UInt8.ofNat b) else bs := by
      unfold dmaB dmaOk
      rw [hs, ha]
      simp only [Bool.and_self, cond_true]
      rw [if_pos hK, hat]
      cases wr
      · rfl
      · simp only [cond_true]; exact store_one (by omega)
    have hV : dmaV bs 16 S s ad wr b = bif wr then b else byteAt bs ((64 * F + k0 : Nat) : Int) := by
      unfold dmaV dmaOk
      rw [hs, ha]
      simp only [Bool.and_self, cond_true]
      rw [if_pos hK, hat]
    rw [hB, hV]
    cases wr with
    | false =>
      simp only [cond_false]
      refine ⟨fun _ _ _ _ _ hc => (by cases hc), fun _ _ _ _ _ => rfl, fun i hi _ hiF k hk => ?_⟩
      unfold byteAt fby
      rw [Int.toNat_natCast]
      congr 2
      omega
    | true =>
      simp only [cond_true]
      refine ⟨fun i k hi hk _ _ h3 h4 => (conf_bytes hl hF16 hk0 hb hi hk).1 (by omega), fun i k hi hk hn => (conf_bytes hl hF16 hk0 hb hi hk).2 (fun e => hn rfl rfl (by omega) (by omega)), fun i hi _ hiF k hk => ?_⟩
      exact ((conf_bytes hl hF16 hk0 hb hi (by omega)).1 (by omega)).symm

end Go.Proofs.Ythmombgogmgobaa
