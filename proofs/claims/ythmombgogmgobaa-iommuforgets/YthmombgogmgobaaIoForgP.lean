/-
  Plain facts for the law IommuForgets: where each entry of the frames 0 to 5 says a page above them or a table among them, accesses leave those frames, and two controllers that differ in what they remember alone tell the same. No program, no statement.
-/
import Derived.Test.YthmombgogmgobaaWalkFar
import Derived.Test.YthmombgogmgobaaIoSound
import Derived.Test.YthmombgogmgobaaIoMade
namespace Go.Proofs.Ythmombgogmgobaa
open Go.RowKit

/-- Each entry of the frames 0 to 5 that can be used says a page above them, or a table among them. -/
def Tame (bs : List UInt8) : Prop := ∀ t i : Nat, t ≤ 5 → i < 32 → dv ((half bs t i : Nat) : Int) = true → dl ((half bs t i : Nat) : Int) = decide (5 < df ((half bs t i : Nat) : Int))
def Low (bs bs' : List UInt8) : Prop := ∀ t i : Nat, t ≤ 5 → i < 32 → half bs' t i = half bs t i

theorem Low.refl (bs : List UInt8) : Low bs bs := fun _ _ _ _ => rfl
theorem Tame.low {bs bs' : List UInt8} (h : Tame bs) (l : Low bs bs') : Tame bs' := fun t i ht hi => by
  rw [l t i ht hi]; exact h t i ht hi
theorem tame0 (n : Nat) : Tame (List.replicate n 0) := fun t i _ _ h => by
  rw [half_zeros] at h
  cases h
theorem Tame.put {bs : List UInt8} (h : Tame bs) (hl : bs.length = 64 * 16) {q : Pq} (hq : q.l = decide (5 < q.f)) : Tame (putQ bs q) := fun t i ht hi => by
  unfold putQ
  by_cases c : putE q.t q.i 16 q.v q.l q.r q.f = 0 ∧ (t : Int) = q.t ∧ (i : Int) = q.i
  · have e := half_own hl c.1 c.2.1 c.2.2
    obtain ⟨_, hr⟩ := putE_zero.1 c.1
    obtain ⟨_, e2, _, e4, _⟩ := dec_back hr
    rw [e, e2, e4]
    exact fun _ => hq
  · rw [half_else hl hi c]; exact h t i ht hi
theorem length_putQ (bs : List UInt8) (q : Pq) : (putQ bs q).length = bs.length := length_putB _ _ _ _ _ _ _ _

/-- A byte above the frames 0 to 5. -/
theorem low_store {bs : List UInt8} (hl : bs.length = 64 * 16) {a : Nat} (ha : 384 ≤ a) (ha2 : a < 64 * 16) (v : Nat) : Low bs (storeB bs (a : Int) 1 16 v) ∧ (storeB bs (a : Int) 1 16 v).length = bs.length := by
  have e : storeB bs (a : Int) 1 16 v = putAt bs a (bytesOf 1 v) ∨ storeB bs (a : Int) 1 16 v = bs := by
    unfold storeB
    split
    · left; rw [Int.toNat_natCast]; rfl
    · right; rfl
  rcases e with e | e
  · rw [e]
    exact ⟨fun t i ht hi => half_far bs a v t i (by omega) hi (by omega), length_putAt _ _ _⟩
  · rw [e]; exact ⟨Low.refl _, rfl⟩

theorem qB_ok {P : Nat → Pq} : ∀ n, (∀ k, k < n → (P k).l = decide (5 < (P k).f)) → Tame (qB P n) ∧ (qB P n).length = 64 * 16
  | 0, _ => ⟨tame0 _, by show (List.replicate (64 * 16) (0 : UInt8)).length = _; rw [List.length_replicate]⟩
  | n + 1, h => by
    obtain ⟨h1, h2⟩ := qB_ok n (fun k hk => h k (by omega))
    exact ⟨h1.put h2 (h n (by omega)), by show (putQ _ _).length = _; rw [length_putQ]; exact h2⟩
theorem flB_ok {bs : List UInt8} (h : Tame bs) (hl : bs.length = 64 * 16) : ∀ n, n ≤ 205 → Tame (flB bs n) ∧ (flB bs n).length = 64 * 16
  | 0, _ => ⟨h, hl⟩
  | n + 1, hn => by
    obtain ⟨h1, h2⟩ := flB_ok h hl n (by omega)
    unfold flB
    by_cases c : 77 ≤ n
    · rw [if_pos c]
      obtain ⟨l1, l2⟩ := low_store h2 (a := 5 * n) (by omega) (by omega) (5 * n % 251)
      exact ⟨h1.low l1, by rw [l2]; exact h2⟩
    · rw [if_neg c]; exact ⟨h1, h2⟩
theorem mdB_ok {P : Nat → Pq} {n : Nat} (h : ∀ k, k < n → (P k).l = decide (5 < (P k).f)) : Tame (mdB P n) ∧ (mdB P n).length = 64 * 16 := by
  obtain ⟨h1, h2⟩ := qB_ok (min n 100) (fun k hk => h k (by omega))
  exact flB_ok h1 h2 205 (Nat.le_refl _)

theorem df_nat (n : Nat) : 0 ≤ df (n : Int) := by
  unfold df
  split
  · unfold pf; omega
  · omega

/-- The table of the second level lies low, too. -/
theorem Tame.node {bs : List UInt8} (h : Tame bs) {root page : Int} (hr : 0 ≤ root ∧ root ≤ 5) (hp : isP page = true) (hk : entK bs 16 root page 0 = 0) : 0 ≤ df (ew bs root page 0) ∧ df (ew bs root page 0) ≤ 5 := by
  have hq := isP_iff.1 hp
  have i0 : idxOf page 0 = page / 32 := by unfold idxOf; rw [if_neg (by omega), if_pos rfl]
  obtain ⟨_, hu⟩ := entK_ok hk
  unfold usable at hu
  simp only [Bool.and_eq_true, beq_iff_eq] at hu
  have := h root.toNat (idxOf page 0).toNat (by omega) (by rw [i0]; omega) hu.1
  have hl : dl (ew bs root page 0) = false := by rw [hu.2]; rfl
  refine ⟨df_nat _, ?_⟩
  have e : dl (ew bs root page 0) = decide (5 < df (ew bs root page 0)) := this
  rw [hl] at e
  have := of_decide_eq_false e.symm
  omega
theorem single_low {bs bs' : List UInt8} (h : Tame bs) (l : Low bs bs') {root : Int} (hr : 0 ≤ root ∧ root ≤ 5) (page : Int) : single bs' 16 root page = single bs 16 root page :=
  single_blind (fun i hi => l _ i (by omega) hi) (fun hp hk i hi => by
    have := h.node hr hp hk
    exact l _ i (by omega) hi)
theorem single_high {bs : List UInt8} (h : Tame bs) {root page : Int} (hr : 0 ≤ root ∧ root ≤ 5) (hk : (single bs 16 root page).ft.k = 0) : 5 < (single bs 16 root page).fr := by
  obtain ⟨hp, h0, h1, he⟩ := single_through hk
  have hn := h.node hr hp h0
  have hq := isP_iff.1 hp
  have i1 : idxOf page 1 = page % 32 := by unfold idxOf; rw [if_neg (by omega), if_neg (by omega), if_pos rfl]
  obtain ⟨_, hu⟩ := entK_ok h1
  unfold usable at hu
  simp only [Bool.and_eq_true, beq_iff_eq] at hu
  have := h (df (ew bs root page 0)).toNat (idxOf page 1).toNat (by omega) (by rw [i1]; omega) hu.1
  have e : dl (ew bs (df (ew bs root page 0)) page 1) = decide (5 < df (ew bs (df (ew bs root page 0)) page 1)) := this
  rw [hu.2] at e
  have e2 := of_decide_eq_true (e.symm.trans (by rfl))
  unfold single
  rw [if_neg (by simp [hp]), if_neg (by simp [h0]), if_neg (by simp [h1])]
  exact e2

/-- Two controllers that differ in what they remember alone. -/
structure Fg (bs : List UInt8) (S T : Io) : Prop where
  len : bs.length = 64 * 16
  ta : Tame bs
  lo : ∀ k, S.ro k = -1 ∨ (0 ≤ S.ro k ∧ S.ro k ≤ 5)
  ro : T.ro = S.ro
  re : T.re = S.re
  sS : Snd bs S
  sT : Snd bs T

theorem Snd.low {bs bs' : List UInt8} {S : Io} (h : Snd bs S) (t : Tame bs) (l : Low bs bs') (lo : ∀ k, S.ro k = -1 ∨ (0 ≤ S.ro k ∧ S.ro k ≤ 5)) : Snd bs' S := fun k x e => by
  obtain ⟨h1, h2, h3, h4, h5, h6, h7⟩ := h k x e
  have hr : 0 ≤ S.ro x.s.toNat ∧ S.ro x.s.toNat ≤ 5 := by
    rcases lo x.s.toNat with c | c
    · exact absurd c h4
    · exact c
  rw [single_low t l hr]
  exact ⟨h1, h2, h3, h4, h5, h6, h7⟩

theorem fg0 {bs : List UInt8} (h : Tame bs) (hl : bs.length = 64 * 16) : Fg bs io0 io0 := ⟨hl, h, fun _ => Or.inl rfl, rfl, rfl, snd0 bs, snd0 bs⟩

theorem dma_ro (bs : List UInt8) (S : Io) (s a : Int) (wr : Bool) : (dmaS bs 16 S s a wr).ro = S.ro := by
  unfold dmaS
  cases dmaOk s a <;> simp only [cond_true, cond_false]
  have hf : ∀ wt, (fndS bs 16 S s (a / 64) wt).ro = S.ro := fun wt => by
    unfold fndS
    cases okL s (a / 64) wt (S.ln ((a / 64) % 8).toNat) <;> simp only [cond_true, cond_false]
    split <;> rfl
  split
  · exact hf _
  · unfold recS
    split <;> exact hf _
theorem dma_re (bs : List UInt8) (S : Io) (s a : Int) (wr : Bool) : (dmaS bs 16 S s a wr).re = bif dmaOk s a then (if dmaK bs 16 S s a wr = 0 then S.re else if S.re.length = 8 then S.re else S.re ++ [⟨s, a / 64, dmaK bs 16 S s a wr, wr⟩]) else S.re := by
  unfold dmaS
  cases dmaOk s a <;> simp only [cond_true, cond_false]
  have hf : ∀ wt, (fndS bs 16 S s (a / 64) wt).re = S.re := fun wt => by
    unfold fndS
    cases okL s (a / 64) wt (S.ln ((a / 64) % 8).toNat) <;> simp only [cond_true, cond_false]
    split <;> rfl
  split
  · exact hf _
  · unfold recS
    rw [hf]
    split <;> rfl

theorem Fg.dma {bs : List UInt8} {S T : Io} (h : Fg bs S T) (okS : IoOk S) (s a : Int) (wr : Bool) (b : Nat) :
    (dmaV bs 16 T s a wr b = dmaV bs 16 S s a wr b ∧ dmaE bs 16 T s a wr = dmaE bs 16 S s a wr ∧ dmaB bs 16 T s a wr b = dmaB bs 16 S s a wr b) ∧ Fg (dmaB bs 16 S s a wr b) (dmaS bs 16 S s a wr) (dmaS bs 16 T s a wr) := by
  obtain ⟨a1, a2⟩ := h.sS.true' s (a / 64) (wantI wr)
  obtain ⟨b1, b2⟩ := h.sT.true' s (a / 64) (wantI wr)
  rw [h.ro] at b1 b2
  have e1 : dmaK bs 16 T s a wr = dmaK bs 16 S s a wr := by unfold dmaK reaK; rw [a1, a2, b1, b2]
  have e2 : dmaAt bs 16 T s a wr = dmaAt bs 16 S s a wr := by unfold dmaAt reaF; rw [a1, a2, b1, b2]
  have hL : Low bs (dmaB bs 16 S s a wr b) ∧ (dmaB bs 16 S s a wr b).length = bs.length := by
    unfold dmaB
    cases hok : dmaOk s a <;> simp only [cond_true, cond_false]
    · exact ⟨Low.refl _, by first | rfl | trivial⟩
    · by_cases hK : dmaK bs 16 S s a wr = 0
      · rw [if_pos hK]
        cases wr <;> simp only [cond_true, cond_false]
        · exact ⟨Low.refl _, by first | rfl | trivial⟩
        · have hr := reaF_range okS bs 16 s (a / 64) (wantI true)
          have h16 := hr.2.2 hK
          have hF : 5 < reaF bs 16 S s (a / 64) (wantI true) := by
            unfold dmaK reaK at hK
            rw [a1, a2] at hK
            have hk0 : walkK bs 16 (S.ro s.toNat) (a / 64) (wantI true) = 0 := by
              by_cases c : walkK bs 16 (S.ro s.toNat) (a / 64) (wantI true) = 0 ∧ ((16 : Nat) : Int) ≤ walkFr bs 16 (S.ro s.toNat) (a / 64) (wantI true)
              · exact c.1
              · rw [if_neg c] at hK; exact hK
            have hne : S.ro s.toNat ≠ -1 := fun e => by unfold walkK at hk0; rw [if_pos e] at hk0; cases hk0
            have hlo := (h.lo s.toNat).resolve_left hne
            have hft : (single bs 16 (S.ro s.toNat) (a / 64)).ft.k = 0 := by
              unfold walkK at hk0
              rw [if_neg hne] at hk0
              by_cases e : (single bs 16 (S.ro s.toNat) (a / 64)).ft.k = 0
              · exact e
              · rw [if_pos e] at hk0; exact hk0
            have hh := single_high h.ta hlo hft
            have hf : walkFr bs 16 (S.ro s.toNat) (a / 64) (wantI true) = (single bs 16 (S.ro s.toNat) (a / 64)).fr := by unfold walkFr; rw [if_pos hk0]
            unfold reaF at h16 ⊢
            rw [a1, a2, hf] at h16 ⊢
            by_cases c : walkK bs 16 (S.ro s.toNat) (a / 64) (wantI true) = 0 ∧ ((16 : Nat) : Int) ≤ (single bs 16 (S.ro s.toNat) (a / 64)).fr
            · rw [hf, if_pos c] at hK; cases hK
            · rw [if_neg c]; exact hh
          obtain ⟨F, hFF⟩ := Int.eq_ofNat_of_zero_le hr.1
          have hat : dmaAt bs 16 S s a true = ((64 * F + (a % 64).toNat : Nat) : Int) := by unfold dmaAt; rw [hFF]; omega
          rw [hat]
          exact low_store h.len (by omega) (by omega) b
      · rw [if_neg hK]; exact ⟨Low.refl _, rfl⟩
  refine ⟨⟨?_, ?_, ?_⟩, ?_⟩
  · unfold dmaV; rw [e1, e2]
  · unfold dmaE; rw [e1]
  · unfold dmaB; rw [e1, e2]
  · have loS : ∀ k, (dmaS bs 16 S s a wr).ro k = -1 ∨ (0 ≤ (dmaS bs 16 S s a wr).ro k ∧ (dmaS bs 16 S s a wr).ro k ≤ 5) := fun k => by rw [dma_ro]; exact h.lo k
    have loT : ∀ k, (dmaS bs 16 T s a wr).ro k = -1 ∨ (0 ≤ (dmaS bs 16 T s a wr).ro k ∧ (dmaS bs 16 T s a wr).ro k ≤ 5) := fun k => by rw [dma_ro, h.ro]; exact h.lo k
    exact ⟨by rw [hL.2]; exact h.len, h.ta.low hL.1, loS, by rw [dma_ro, dma_ro, h.ro], by rw [dma_re, dma_re, e1, h.re], (h.sS.dma s a wr).low h.ta hL.1 loS, (h.sT.dma s a wr).low h.ta hL.1 loT⟩

theorem Fg.evT {bs : List UInt8} {S T : Io} (h : Fg bs S T) (n : Int) : Fg bs S (evS T n) := by
  have e : (evS T n).ro = T.ro ∧ (evS T n).re = T.re := by unfold evS; cases isE n <;> exact ⟨rfl, rfl⟩
  exact ⟨h.len, h.ta, h.lo, by rw [e.1]; exact h.ro, by rw [e.2]; exact h.re, h.sS, h.sT.ev n⟩

theorem Fg.act {bs : List UInt8} {S T : Io} (h : Fg bs S T) {a : Aq} (h1 : ¬ (a.d = 1 ∧ 5 < a.n)) (h3 : a.d ≠ 3) : Fg bs (actS bs S a) (actS bs T a) := by
  have sS := h.sS.act a
  have sT := h.sT.act a
  have key : (∀ k, (actS bs S a).ro k = -1 ∨ (0 ≤ (actS bs S a).ro k ∧ (actS bs S a).ro k ≤ 5)) ∧ (actS bs T a).ro = (actS bs S a).ro ∧ (actS bs T a).re = (actS bs S a).re := by
    by_cases d1 : a.d = 1
    · rw [show actS bs S a = attS S a.s a.n by simp [actS, d1], show actS bs T a = attS T a.s a.n by simp [actS, d1]]
      unfold attS
      cases i1 : isS a.s <;> cases i2 : isF a.n <;> simp only [Bool.and_true, Bool.and_false, cond_true, cond_false]
      · exact ⟨h.lo, h.ro, h.re⟩
      · exact ⟨h.lo, h.ro, h.re⟩
      · exact ⟨h.lo, h.ro, h.re⟩
      · have := isF_iff.mp i2
        refine ⟨fun k => ?_, by rw [h.ro], h.re⟩
        by_cases e : k = a.s.toNat
        · subst e; rw [ioset_same]; right; omega
        · rw [ioset_other _ _ e]; exact h.lo k
    by_cases d2 : a.d = 2
    · rw [show actS bs S a = detS S a.s by simp [actS, d2], show actS bs T a = detS T a.s by simp [actS, d2]]
      unfold detS
      cases i1 : isS a.s <;> simp only [cond_true, cond_false]
      · exact ⟨h.lo, h.ro, h.re⟩
      · refine ⟨fun k => ?_, by rw [h.ro], h.re⟩
        by_cases e : k = a.s.toNat
        · subst e; rw [ioset_same]; left; rfl
        · rw [ioset_other _ _ e]; exact h.lo k
    by_cases d4 : a.d = 4
    · rw [show actS bs S a = flushS S (goS a.s) by simp [actS, d4], show actS bs T a = flushS T (goS a.s) by simp [actS, d4]]
      exact ⟨h.lo, h.ro, h.re⟩
    by_cases d5 : a.d = 5
    · rw [show actS bs S a = flushS S (goP a.s a.n) by simp [actS, d5], show actS bs T a = flushS T (goP a.s a.n) by simp [actS, d5]]
      exact ⟨h.lo, h.ro, h.re⟩
    by_cases d6 : a.d = 6
    · rw [show actS bs S a = evS S a.n by simp [actS, d6], show actS bs T a = evS T a.n by simp [actS, d6]]
      have eS : (evS S a.n).ro = S.ro ∧ (evS S a.n).re = S.re := by unfold evS; cases isE a.n <;> exact ⟨rfl, rfl⟩
      have eT : (evS T a.n).ro = T.ro ∧ (evS T a.n).re = T.re := by unfold evS; cases isE a.n <;> exact ⟨rfl, rfl⟩
      rw [eS.1, eS.2, eT.1, eT.2]
      exact ⟨h.lo, h.ro, h.re⟩
    by_cases d7 : a.d = 7
    · rw [show actS bs S a = tkS S by simp [actS, d7], show actS bs T a = tkS T by simp [actS, d7]]
      exact ⟨h.lo, h.ro, by show T.re.tail = S.re.tail; rw [h.re]⟩
    · rw [show actS bs S a = S by simp [actS, d1, d2, h3, d4, d5, d6, d7], show actS bs T a = T by simp [actS, d1, d2, h3, d4, d5, d6, d7]]
      exact ⟨h.lo, h.ro, h.re⟩
  exact ⟨h.len, h.ta, key.1, key.2.1, key.2.2, sS, sT⟩

end Go.Proofs.Ythmombgogmgobaa
