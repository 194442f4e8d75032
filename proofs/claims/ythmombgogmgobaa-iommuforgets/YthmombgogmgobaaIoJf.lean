/-
  Proved: the statement IommuForgetsSaid: for every list of entries and every list of acts the law IommuForgets of the Go text returns true, and each argument reads afterwards as it read before. No condition but the form's own.
-/
import Derived.Test.YthmombgogmgobaaWalkPure
import Derived.Test.YthmombgogmgobaaIoSound
import Derived.Test.YthmombgogmgobaaIoMade
import Derived.Test.YthmombgogmgobaaIoDoes
import Derived.Test.YthmombgogmgobaaIoBoth
import Derived.Test.YthmombgogmgobaaGrow
import Derived.Test.YthmombgogmgobaaRefFrame
import Derived.Laws.AppendOwnNone
import Derived.Test.YthmombgogmgobaaIoSame
import Derived.Test.YthmombgogmgobaaIoAwake
import Derived.Test.YthmombgogmgobaaIoOpen
/- WalkFar -/
namespace Go.Proofs.Ythmombgogmgobaa
open Go.RowKit

theorem half_far (bs : List UInt8) (a v t i : Nat) (h : a + 1 ≤ bs.length) (hi : i < 32) (hn : a / 64 ≠ t) : half (putAt bs a (bytesOf 1 v)) t i = half bs t i := by
  unfold half
  congr 1
  apply List.ext_getElem?
  intro j
  rw [List.getElem?_take, List.getElem?_take]
  by_cases hj : j < 2
  · rw [if_pos hj, if_pos hj, List.getElem?_drop, List.getElem?_drop, putAt_get? _ _ _ (by rw [length_bytesOf]; exact h), length_bytesOf, if_neg (by omega)]
  · rw [if_neg hj, if_neg hj]

theorem single_blind {bs bs' : List UInt8} {nf : Nat} {root page : Int} (h0 : ∀ i : Nat, i < 32 → half bs' root.toNat i = half bs root.toNat i)
    (h1 : isP page = true → entK bs nf root page 0 = 0 → ∀ i : Nat, i < 32 → half bs' (df (ew bs root page 0)).toNat i = half bs (df (ew bs root page 0)).toNat i) : single bs' nf root page = single bs nf root page := by
  cases hp : isP page with
  | false => unfold single; rw [if_pos hp, if_pos hp]
  | true =>
    have hq := isP_iff.1 hp
    have i0 : idxOf page 0 = page / 32 := by unfold idxOf; rw [if_neg (by omega), if_pos rfl]
    have i1 : idxOf page 1 = page % 32 := by unfold idxOf; rw [if_neg (by omega), if_neg (by omega), if_pos rfl]
    have e0 : ew bs' root page 0 = ew bs root page 0 := by unfold ew; rw [h0 _ (by rw [i0]; omega)]
    have k0 : entK bs' nf root page 0 = entK bs nf root page 0 := by unfold entK; rw [e0]
    by_cases hk : entK bs nf root page 0 = 0
    · have e1 : ew bs' (df (ew bs root page 0)) page 1 = ew bs (df (ew bs root page 0)) page 1 := by
        have := h1 hp hk (idxOf page 1).toNat (by rw [i1]; omega)
        have g : ∀ z : Int, half bs' z.toNat (idxOf page 1).toNat = half bs z.toNat (idxOf page 1).toNat → ew bs' z page 1 = ew bs z page 1 := fun z hz => by unfold ew; rw [hz]
        exact g _ this
      have k1 : entK bs' nf (df (ew bs root page 0)) page 1 = entK bs nf (df (ew bs root page 0)) page 1 := by unfold entK; rw [e1]
      unfold single
      rw [e0, k0, k1, e1]
    · unfold single
      rw [k0, if_neg (by simp [hp]), if_pos hk, if_neg (by simp [hp]), if_pos hk]

/-- A byte laid into a frame that is none of a walk's tables is not seen by it. -/
theorem store_blind {bs : List UInt8} {root page addr : Int} {v : Nat} (hl : bs.length = 64 * 16) (ha : 0 ≤ addr) (hr : addr / 64 ≠ root)
    (hd : isP page = true → entK bs 16 root page 0 = 0 → addr / 64 ≠ df (ew bs root page 0)) : single (storeB bs addr 1 16 v) 16 root page = single bs 16 root page := by
  unfold storeB
  by_cases he : errOf addr 1 16 = 0
  · rw [if_pos he]
    obtain ⟨_, _, h0, h1⟩ := err_zero he
    have hlen : addr.toNat + 1 ≤ bs.length := by omega
    by_cases hroot : 0 ≤ root
    · refine single_blind (fun i hi => half_far bs addr.toNat v root.toNat i hlen hi (by omega)) (fun hp hk i hi => ?_)
      have hx := ew_range bs root page 0
      have hf := df_range hx.1 hx.2
      have := hd hp hk
      exact half_far bs addr.toNat v _ i hlen hi (by omega)
    · have out : ∀ c : List UInt8, entK c 16 root page 0 = 3 := fun c => by unfold entK; rw [if_pos (Or.inl (by omega))]
      unfold single
      rw [out, out]
      simp
  · rw [if_neg he]

end Go.Proofs.Ythmombgogmgobaa

/- IoForgP -/
namespace Go.Proofs.Ythmombgogmgobaa
open Go.RowKit

/-- Each entry of the frames 0 to 5 that can be used says a page above them, or a table among them. -/
def Tame (bs : List UInt8) : Prop := ∀ t i : Nat, t ≤ 5 → i < 32 → dv ((half bs t i : Nat) : Int) = true → dl ((half bs t i : Nat) : Int) = decide (5 < df ((half bs t i : Nat) : Int))
def Low (bs bs' : List UInt8) : Prop := ∀ t i : Nat, t ≤ 5 → i < 32 → half bs' t i = half bs t i

theorem Low.refl (bs : List UInt8) : Low bs bs := fun _ _ _ _ => rfl
theorem Tame.low {bs bs' : List UInt8} (h : Tame bs) (l : Low bs bs') : Tame bs' := fun t i ht hi => by
  rw [l t i ht hi]; exact h t i ht hi
theorem tame0 (n : Nat) : Tame (List.replicate n 0) := fun t i _ _ h => by
  rw [half_zeros] at h
  cases h
theorem Tame.put {bs : List UInt8} (h : Tame bs) (hl : bs.length = 64 * 16) {q : Pq} (hq : q.l = decide (5 < q.f)) : Tame (putQ bs q) := fun t i ht hi => by
  unfold putQ
  by_cases c : putE q.t q.i 16 q.v q.l q.r q.f = 0 ∧ (t : Int) = q.t ∧ (i : Int) = q.i
  · have e := half_own hl c.1 c.2.1 c.2.2
    obtain ⟨_, hr⟩ := putE_zero.1 c.1
    obtain ⟨_, e2, _, e4, _⟩ := dec_back hr
    rw [e, e2, e4]
    exact fun _ => hq
  · rw [half_else hl hi c]; exact h t i ht hi
theorem length_putQ (bs : List UInt8) (q : Pq) : (putQ bs q).length = bs.length := length_putB _ _ _ _ _ _ _ _

/-- A byte above the frames 0 to 5. -/
theorem low_store {bs : List UInt8} (hl : bs.length = 64 * 16) {a : Nat} (ha : 384 ≤ a) (ha2 : a < 64 * 16) (v : Nat) : Low bs (storeB bs (a : Int) 1 16 v) ∧ (storeB bs (a : Int) 1 16 v).length = bs.length := by
  have e : storeB bs (a : Int) 1 16 v = putAt bs a (bytesOf 1 v) ∨ storeB bs (a : Int) 1 16 v = bs := by
    unfold storeB
    split
    · left; rw [Int.toNat_natCast]; rfl
    · right; rfl
  rcases e with e | e
  · rw [e]
    exact ⟨fun t i ht hi => half_far bs a v t i (by omega) hi (by omega), length_putAt _ _ _⟩
  · rw [e]; exact ⟨Low.refl _, rfl⟩

theorem qB_ok {P : Nat → Pq} : ∀ n, (∀ k, k < n → (P k).l = decide (5 < (P k).f)) → Tame (qB P n) ∧ (qB P n).length = 64 * 16
  | 0, _ => ⟨tame0 _, by show (List.replicate (64 * 16) (0 : UInt8)).length = _; rw [List.length_replicate]⟩
  | n + 1, h => by
    obtain ⟨h1, h2⟩ := qB_ok n (fun k hk => h k (by omega))
    exact ⟨h1.put h2 (h n (by omega)), by show (putQ _ _).length = _; rw [length_putQ]; exact h2⟩
theorem flB_ok {bs : List UInt8} (h : Tame bs) (hl : bs.length = 64 * 16) : ∀ n, n ≤ 205 → Tame (flB bs n) ∧ (flB bs n).length = 64 * 16
  | 0, _ => ⟨h, hl⟩
  | n + 1, hn => by
    obtain ⟨h1, h2⟩ := flB_ok h hl n (by omega)
    unfold flB
    by_cases c : 77 ≤ n
    · rw [if_pos c]
      obtain ⟨l1, l2⟩ := low_store h2 (a := 5 * n) (by omega) (by omega) (5 * n % 251)
      exact ⟨h1.low l1, by rw [l2]; exact h2⟩
    · rw [if_neg c]; exact ⟨h1, h2⟩
theorem mdB_ok {P : Nat → Pq} {n : Nat} (h : ∀ k, k < n → (P k).l = decide (5 < (P k).f)) : Tame (mdB P n) ∧ (mdB P n).length = 64 * 16 := by
  obtain ⟨h1, h2⟩ := qB_ok (min n 100) (fun k hk => h k (by omega))
  exact flB_ok h1 h2 205 (Nat.le_refl _)

theorem df_nat (n : Nat) : 0 ≤ df (n : Int) := by
  unfold df
  split
  · unfold pf; omega
  · omega

/-- The table of the second level lies low, too. -/
theorem Tame.node {bs : List UInt8} (h : Tame bs) {root page : Int} (hr : 0 ≤ root ∧ root ≤ 5) (hp : isP page = true) (hk : entK bs 16 root page 0 = 0) : 0 ≤ df (ew bs root page 0) ∧ df (ew bs root page 0) ≤ 5 := by
  have hq := isP_iff.1 hp
  have i0 : idxOf page 0 = page / 32 := by unfold idxOf; rw [if_neg (by omega), if_pos rfl]
  obtain ⟨_, hu⟩ := entK_ok hk
  unfold usable at hu
  simp only [Bool.and_eq_true, beq_iff_eq] at hu
  have := h root.toNat (idxOf page 0).toNat (by omega) (by rw [i0]; omega) hu.1
  have hl : dl (ew bs root page 0) = false := by rw [hu.2]; rfl
  refine ⟨df_nat _, ?_⟩
  have e : dl (ew bs root page 0) = decide (5 < df (ew bs root page 0)) := this
  rw [hl] at e
  have := of_decide_eq_false e.symm
  omega
theorem single_low {bs bs' : List UInt8} (h : Tame bs) (l : Low bs bs') {root : Int} (hr : 0 ≤ root ∧ root ≤ 5) (page : Int) : single bs' 16 root page = single bs 16 root page :=
  single_blind (fun i hi => l _ i (by omega) hi) (fun hp hk i hi => by
    have := h.node hr hp hk
    exact l _ i (by omega) hi)
theorem single_high {bs : List UInt8} (h : Tame bs) {root page : Int} (hr : 0 ≤ root ∧ root ≤ 5) (hk : (single bs 16 root page).ft.k = 0) : 5 < (single bs 16 root page).fr := by
  obtain ⟨hp, h0, h1, he⟩ := single_through hk
  have hn := h.node hr hp h0
  have hq := isP_iff.1 hp
  have i1 : idxOf page 1 = page % 32 := by unfold idxOf; rw [if_neg (by omega), if_neg (by omega), if_pos rfl]
  obtain ⟨_, hu⟩ := entK_ok h1
  unfold usable at hu
  simp only [Bool.and_eq_true, beq_iff_eq] at hu
  have := h (df (ew bs root page 0)).toNat (idxOf page 1).toNat (by omega) (by rw [i1]; omega) hu.1
  have e : dl (ew bs (df (ew bs root page 0)) page 1) = decide (5 < df (ew bs (df (ew bs root page 0)) page 1)) := this
  rw [hu.2] at e
  have e2 := of_decide_eq_true (e.symm.trans (by rfl))
  unfold single
  rw [if_neg (by simp [hp]), if_neg (by simp [h0]), if_neg (by simp [h1])]
  exact e2

/-- Two controllers that differ in what they remember alone. -/
structure Fg (bs : List UInt8) (S T : Io) : Prop where
  len : bs.length = 64 * 16
  ta : Tame bs
  lo : ∀ k, S.ro k = -1 ∨ (0 ≤ S.ro k ∧ S.ro k ≤ 5)
  ro : T.ro = S.ro
  re : T.re = S.re
  sS : Snd bs S
  sT : Snd bs T

theorem Snd.low {bs bs' : List UInt8} {S : Io} (h : Snd bs S) (t : Tame bs) (l : Low bs bs') (lo : ∀ k, S.ro k = -1 ∨ (0 ≤ S.ro k ∧ S.ro k ≤ 5)) : Snd bs' S := fun k x e => by
  obtain ⟨h1, h2, h3, h4, h5, h6, h7⟩ := h k x e
  have hr : 0 ≤ S.ro x.s.toNat ∧ S.ro x.s.toNat ≤ 5 := by
    rcases lo x.s.toNat with c | c
    · exact absurd c h4
    · exact c
  rw [single_low t l hr]
  exact ⟨h1, h2, h3, h4, h5, h6, h7⟩

theorem fg0 {bs : List UInt8} (h : Tame bs) (hl : bs.length = 64 * 16) : Fg bs io0 io0 := ⟨hl, h, fun _ => Or.inl rfl, rfl, rfl, snd0 bs, snd0 bs⟩

theorem dma_ro (bs : List UInt8) (S : Io) (s a : Int) (wr : Bool) : (dmaS bs 16 S s a wr).ro = S.ro := by
  unfold dmaS
  cases dmaOk s a <;> simp only [cond_true, cond_false]
  have hf : ∀ wt, (fndS bs 16 S s (a / 64) wt).ro = S.ro := fun wt => by
    unfold fndS
    cases okL s (a / 64) wt (S.ln ((a / 64) % 8).toNat) <;> simp only [cond_true, cond_false]
    split <;> rfl
  split
  · exact hf _
  · unfold recS
    split <;> exact hf _
theorem dma_re (bs : List UInt8) (S : Io) (s a : Int) (wr : Bool) : (dmaS bs 16 S s a wr).re = bif dmaOk s a then (if dmaK bs 16 S s a wr = 0 then S.re else if S.re.length = 8 then S.re else S.re ++ [⟨s, a / 64, dmaK bs 16 S s a wr, wr⟩]) else S.re := by
  unfold dmaS
  cases dmaOk s a <;> simp only [cond_true, cond_false]
  have hf : ∀ wt, (fndS bs 16 S s (a / 64) wt).re = S.re := fun wt => by
    unfold fndS
    cases okL s (a / 64) wt (S.ln ((a / 64) % 8).toNat) <;> simp only [cond_true, cond_false]
    split <;> rfl
  split
  · exact hf _
  · unfold recS
    rw [hf]
    split <;> rfl

theorem Fg.dma {bs : List UInt8} {S T : Io} (h : Fg bs S T) (okS : IoOk S) (s a : Int) (wr : Bool) (b : Nat) :
    (dmaV bs 16 T s a wr b = dmaV bs 16 S s a wr b ∧ dmaE bs 16 T s a wr = dmaE bs 16 S s a wr ∧ dmaB bs 16 T s a wr b = dmaB bs 16 S s a wr b) ∧ Fg (dmaB bs 16 S s a wr b) (dmaS bs 16 S s a wr) (dmaS bs 16 T s a wr) := by
  obtain ⟨a1, a2⟩ := h.sS.true' s (a / 64) (wantI wr)
  obtain ⟨b1, b2⟩ := h.sT.true' s (a / 64) (wantI wr)
  rw [h.ro] at b1 b2
  have e1 : dmaK bs 16 T s a wr = dmaK bs 16 S s a wr := by unfold dmaK reaK; rw [a1, a2, b1, b2]
  have e2 : dmaAt bs 16 T s a wr = dmaAt bs 16 S s a wr := by unfold dmaAt reaF; rw [a1, a2, b1, b2]
  have hL : Low bs (dmaB bs 16 S s a wr b) ∧ (dmaB bs 16 S s a wr b).length = bs.length := by
    unfold dmaB
    cases hok : dmaOk s a <;> simp only [cond_true, cond_false]
    · exact ⟨Low.refl _, by first | rfl | trivial⟩
    · by_cases hK : dmaK bs 16 S s a wr = 0
      · rw [if_pos hK]
        cases wr <;> simp only [cond_true, cond_false]
        · exact ⟨Low.refl _, by first | rfl | trivial⟩
        · have hr := reaF_range okS bs 16 s (a / 64) (wantI true)
          have h16 := hr.2.2 hK
          have hF : 5 < reaF bs 16 S s (a / 64) (wantI true) := by
            unfold dmaK reaK at hK
            rw [a1, a2] at hK
            have hk0 : walkK bs 16 (S.ro s.toNat) (a / 64) (wantI true) = 0 := by
              by_cases c : walkK bs 16 (S.ro s.toNat) (a / 64) (wantI true) = 0 ∧ ((16 : Nat) : Int) ≤ walkFr bs 16 (S.ro s.toNat) (a / 64) (wantI true)
              · exact c.1
              · rw [if_neg c] at hK; exact hK
            have hne : S.ro s.toNat ≠ -1 := fun e => by unfold walkK at hk0; rw [if_pos e] at hk0; cases hk0
            have hlo := (h.lo s.toNat).resolve_left hne
            have hft : (single bs 16 (S.ro s.toNat) (a / 64)).ft.k = 0 := by
              unfold walkK at hk0
              rw [if_neg hne] at hk0
              by_cases e : (single bs 16 (S.ro s.toNat) (a / 64)).ft.k = 0
              · exact e
              · rw [if_pos e] at hk0; exact hk0
            have hh := single_high h.ta hlo hft
            have hf : walkFr bs 16 (S.ro s.toNat) (a / 64) (wantI true) = (single bs 16 (S.ro s.toNat) (a / 64)).fr := by unfold walkFr; rw [if_pos hk0]
            unfold reaF at h16 ⊢
            rw [a1, a2, hf] at h16 ⊢
            by_cases c : walkK bs 16 (S.ro s.toNat) (a / 64) (wantI true) = 0 ∧ ((16 : Nat) : Int) ≤ (single bs 16 (S.ro s.toNat) (a / 64)).fr
            · rw [hf, if_pos c] at hK; cases hK
            · rw [if_neg c]; exact hh
          obtain ⟨F, hFF⟩ := Int.eq_ofNat_of_zero_le hr.1
          have hat : dmaAt bs 16 S s a true = ((64 * F + (a % 64).toNat : Nat) : Int) := by unfold dmaAt; rw [hFF]; omega
          rw [hat]
          exact low_store h.len (by omega) (by omega) b
      · rw [if_neg hK]; exact ⟨Low.refl _, rfl⟩
  refine ⟨⟨?_, ?_, ?_⟩, ?_⟩
  · unfold dmaV; rw [e1, e2]
  · unfold dmaE; rw [e1]
  · unfold dmaB; rw [e1, e2]
  · have loS : ∀ k, (dmaS bs 16 S s a wr).ro k = -1 ∨ (0 ≤ (dmaS bs 16 S s a wr).ro k ∧ (dmaS bs 16 S s a wr).ro k ≤ 5) := fun k => by rw [dma_ro]; exact h.lo k
    have loT : ∀ k, (dmaS bs 16 T s a wr).ro k = -1 ∨ (0 ≤ (dmaS bs 16 T s a wr).ro k ∧ (dmaS bs 16 T s a wr).ro k ≤ 5) := fun k => by rw [dma_ro, h.ro]; exact h.lo k
    exact ⟨by rw [hL.2]; exact h.len, h.ta.low hL.1, loS, by rw [dma_ro, dma_ro, h.ro], by rw [dma_re, dma_re, e1, h.re], (h.sS.dma s a wr).low h.ta hL.1 loS, (h.sT.dma s a wr).low h.ta hL.1 loT⟩

theorem Fg.evT {bs : List UInt8} {S T : Io} (h : Fg bs S T) (n : Int) : Fg bs S (evS T n) := by
  have e : (evS T n).ro = T.ro ∧ (evS T n).re = T.re := by unfold evS; cases isE n <;> exact ⟨rfl, rfl⟩
  exact ⟨h.len, h.ta, h.lo, by rw [e.1]; exact h.ro, by rw [e.2]; exact h.re, h.sS, h.sT.ev n⟩

theorem Fg.act {bs : List UInt8} {S T : Io} (h : Fg bs S T) {a : Aq} (h1 : ¬ (a.d = 1 ∧ 5 < a.n)) (h3 : a.d ≠ 3) : Fg bs (actS bs S a) (actS bs T a) := by
  have sS := h.sS.act a
  have sT := h.sT.act a
  have key : (∀ k, (actS bs S a).ro k = -1 ∨ (0 ≤ (actS bs S a).ro k ∧ (actS bs S a).ro k ≤ 5)) ∧ (actS bs T a).ro = (actS bs S a).ro ∧ (actS bs T a).re = (actS bs S a).re := by
    by_cases d1 : a.d = 1
    · rw [show actS bs S a = attS S a.s a.n by simp [actS, d1], show actS bs T a = attS T a.s a.n by simp [actS, d1]]
      unfold attS
      cases i1 : isS a.s <;> cases i2 : isF a.n <;> simp only [Bool.and_true, Bool.and_false, cond_true, cond_false]
      · exact ⟨h.lo, h.ro, h.re⟩
      · exact ⟨h.lo, h.ro, h.re⟩
      · exact ⟨h.lo, h.ro, h.re⟩
      · have := isF_iff.mp i2
        refine ⟨fun k => ?_, by rw [h.ro], h.re⟩
        by_cases e : k = a.s.toNat
        · subst e; rw [ioset_same]; right; omega
        · rw [ioset_other _ _ e]; exact h.lo k
    by_cases d2 : a.d = 2
    · rw [show actS bs S a = detS S a.s by simp [actS, d2], show actS bs T a = detS T a.s by simp [actS, d2]]
      unfold detS
      cases i1 : isS a.s <;> simp only [cond_true, cond_false]
      · exact ⟨h.lo, h.ro, h.re⟩
      · refine ⟨fun k => ?_, by rw [h.ro], h.re⟩
        by_cases e : k = a.s.toNat
        · subst e; rw [ioset_same]; left; rfl
        · rw [ioset_other _ _ e]; exact h.lo k
    by_cases d4 : a.d = 4
    · rw [show actS bs S a = flushS S (goS a.s) by simp [actS, d4], show actS bs T a = flushS T (goS a.s) by simp [actS, d4]]
      exact ⟨h.lo, h.ro, h.re⟩
    by_cases d5 : a.d = 5
    · rw [show actS bs S a = flushS S (goP a.s a.n) by simp [actS, d5], show actS bs T a = flushS T (goP a.s a.n) by simp [actS, d5]]
      exact ⟨h.lo, h.ro, h.re⟩
    by_cases d6 : a.d = 6
    · rw [show actS bs S a = evS S a.n by simp [actS, d6], show actS bs T a = evS T a.n by simp [actS, d6]]
      have eS : (evS S a.n).ro = S.ro ∧ (evS S a.n).re = S.re := by unfold evS; cases isE a.n <;> exact ⟨rfl, rfl⟩
      have eT : (evS T a.n).ro = T.ro ∧ (evS T a.n).re = T.re := by unfold evS; cases isE a.n <;> exact ⟨rfl, rfl⟩
      rw [eS.1, eS.2, eT.1, eT.2]
      exact ⟨h.lo, h.ro, h.re⟩
    by_cases d7 : a.d = 7
    · rw [show actS bs S a = tkS S by simp [actS, d7], show actS bs T a = tkS T by simp [actS, d7]]
      exact ⟨h.lo, h.ro, by show T.re.tail = S.re.tail; rw [h.re]⟩
    · rw [show actS bs S a = S by simp [actS, d1, d2, h3, d4, d5, d6, d7], show actS bs T a = T by simp [actS, d1, d2, h3, d4, d5, d6, d7]]
      exact ⟨h.lo, h.ro, h.re⟩
  exact ⟨h.len, h.ta, key.1, key.2.1, key.2.2, sS, sT⟩

end Go.Proofs.Ythmombgogmgobaa

/- IoOff -/
namespace Go.Proofs.Ythmombgogmgobaa
open Go.RowKit

set_option maxHeartbeats 4000000 in
set_option maxRecDepth 100000 in
theorem off_1 (w : World) (x pm bm pr br bi ji : Nat) (O Q : Nat → Prop) (bs bs' : List UInt8) (S S' : Io) (a : Aq) (h : BoAt w x pm bm pr br bi ji O Q bs bs' S S') :
    Calls Try.prog 10 #[.pointer (some ⟨x, 0, none⟩), .agg #[.int .i64 1, .int .i64 a.s, .int .i64 a.n, .bool a.wr, .int .u8 (a.b : Int), .int .i64 a.q.t, .int .i64 a.q.i, .bool a.q.v, .bool a.q.l, .int .i64 a.q.r, .int .i64 a.q.f]] w fun e w' => (∃ bb, e = .returned (.bool bb)) ∧ ∃ O' Q', BoAt w' x pm bm pr br bi ji O' Q' bs bs' (attS S a.s a.n) (attS S' a.s a.n) ∧ ChgU w (boU x pm bm pr br O Q) w' (boU x pm bm pr br O' Q') := by
  have F0 := (Fr.refl none' w).alloc (.cells #[.int .i64 1, .int .i64 a.s, .int .i64 a.n, .bool a.wr, .int .u8 (a.b : Int), .int .i64 a.q.t, .int .i64 a.q.i, .bool a.q.v, .bool a.q.l, .int .i64 a.q.r, .int .i64 a.q.f] 33)
  have R0 := row_alloc w #[.int .i64 1, .int .i64 a.s, .int .i64 a.n, .bool a.wr, .int .u8 (a.b : Int), .int .i64 a.q.t, .int .i64 a.q.i, .bool a.q.v, .bool a.q.l, .int .i64 a.q.r, .int .i64 a.q.f] 33
  have h0 := h.keep0 F0
  have hUl : ¬ boU x pm bm pr br O Q w.heap.size := fun e => by have := h.lt _ e; omega
  go_enter Try.func10, Try.ntmps10
  go_upto_region 5 with fail
  obtain ⟨W, hW⟩ : ∃ W, W = w.alloc (.cells #[.int .i64 1, .int .i64 a.s, .int .i64 a.n, .bool a.wr, .int .u8 (a.b : Int), .int .i64 a.q.t, .int .i64 a.q.i, .bool a.q.v, .bool a.q.l, .int .i64 a.q.r, .int .i64 a.q.f] 33) := ⟨_, rfl⟩
  obtain ⟨A, hA⟩ : ∃ A, A = w.heap.size := ⟨_, rfl⟩
  rw [← hW] at F0 R0 h0 ⊢
  rw [← hA] at R0 hUl ⊢
  have HA : Hid (¬ boU x pm bm pr br O Q A ∧ A < W.heap.size) := ⟨hUl, R0.lt⟩
  have k0 : W.cell? ⟨A, 0, none⟩ = some (.int .i64 1) := R0.cell 0
  have k1 : W.cell? ⟨A, 1, none⟩ = some (.int .i64 a.s) := R0.cell 1
  have k2 : W.cell? ⟨A, 2, none⟩ = some (.int .i64 a.n) := R0.cell 2
  have k3 : W.cell? ⟨A, 3, none⟩ = some (.bool a.wr) := R0.cell 3
  have k4 : W.cell? ⟨A, 4, none⟩ = some (.int .u8 (a.b : Int)) := R0.cell 4
  have F : ChgU w (boU x pm bm pr br O Q) W (boU x pm bm pr br O Q) := ChgU.none F0
  have hB := h0
  have rX := hB.row
  clear hW hA R0 h h0 F0 hUl
  have hD := hB.keep0 (Fr.refl none' W).drew
  go_region_held3 (fun w' => w'.cell? ⟨x, 1, none⟩ = some (.pointer (some ⟨bi, 0, none⟩)) ∧ w'.cell? ⟨A, 1, none⟩ = some (.int .i64 a.s) ∧ w'.cell? ⟨A, 2, none⟩ = some (.int .i64 a.n)) (first | with_reducible exact ⟨rX.c1, k1, k2⟩ | exact ⟨rX.c1, k1, k2⟩) (first | (go_at_call 21; refine (attach_any _ _ _ _ _ _ hD.io).mono ?_; rintro e w1 ⟨rfl, cc⟩; obtain ⟨O1, h', u⟩ := hD.stepI cc; have fu := (ChgU.none (U := boU x pm bm pr br O Q) (Fr.refl none' W).drew).trans u; replace k1 := cell_keep fu.1 k1 HA.out.1; replace k2 := cell_keep fu.1 k2 HA.out.1; replace k3 := cell_keep fu.1 k3 HA.out.1; replace k4 := cell_keep fu.1 k4 HA.out.1; replace rX := h'.row))
  replace HA : Hid (¬ boU x pm bm pr br O1 Q A ∧ A < w1.heap.size) := ⟨fun hk => by
    rcases fu.2 A hk with g | g
    · exact HA.out.1 g
    · have := HA.out.2; omega, Nat.lt_of_lt_of_le HA.out.2 fu.1.size⟩
  replace F := F.trans fu
  replace hB := h'
  clear fu u cc h' hD
  go_wp2_with fail
  have hD := hB.keep0 (Fr.refl none' w1).drew
  go_region_held3 (fun w' => w'.cell? ⟨x, 3, none⟩ = some (.pointer (some ⟨ji, 0, none⟩)) ∧ w'.cell? ⟨A, 1, none⟩ = some (.int .i64 a.s) ∧ w'.cell? ⟨A, 2, none⟩ = some (.int .i64 a.n)) (first | with_reducible exact ⟨rX.c3, k1, k2⟩ | exact ⟨rX.c3, k1, k2⟩) (first | (go_at_call 29; refine (rattach_any _ _ _ _ _ _ hD.ri).mono ?_; rintro e w2 ⟨rfl, cc⟩; obtain ⟨Q1, h', u⟩ := hD.stepR cc; have fu := (ChgU.none (U := boU x pm bm pr br O1 Q) (Fr.refl none' w1).drew).trans u; replace k1 := cell_keep fu.1 k1 HA.out.1; replace k2 := cell_keep fu.1 k2 HA.out.1; replace k3 := cell_keep fu.1 k3 HA.out.1; replace k4 := cell_keep fu.1 k4 HA.out.1; replace rX := h'.row))
  replace HA : Hid (¬ boU x pm bm pr br O1 Q1 A ∧ A < w2.heap.size) := ⟨fun hk => by
    rcases fu.2 A hk with g | g
    · exact HA.out.1 g
    · have := HA.out.2; omega, Nat.lt_of_lt_of_le HA.out.2 fu.1.size⟩
  replace F := F.trans fu
  replace hB := h'
  clear fu u cc h' hD
  go_wp2_with fail
  go_ret
  exact ⟨⟨_, rfl⟩, O1, Q1, hB, F⟩

set_option maxHeartbeats 4000000 in
set_option maxRecDepth 100000 in
theorem off_2 (w : World) (x pm bm pr br bi ji : Nat) (O Q : Nat → Prop) (bs bs' : List UInt8) (S S' : Io) (a : Aq) (h : BoAt w x pm bm pr br bi ji O Q bs bs' S S') :
    Calls Try.prog 10 #[.pointer (some ⟨x, 0, none⟩), .agg #[.int .i64 2, .int .i64 a.s, .int .i64 a.n, .bool a.wr, .int .u8 (a.b : Int), .int .i64 a.q.t, .int .i64 a.q.i, .bool a.q.v, .bool a.q.l, .int .i64 a.q.r, .int .i64 a.q.f]] w fun e w' => (∃ bb, e = .returned (.bool bb)) ∧ ∃ O' Q', BoAt w' x pm bm pr br bi ji O' Q' bs bs' (detS S a.s) (detS S' a.s) ∧ ChgU w (boU x pm bm pr br O Q) w' (boU x pm bm pr br O' Q') := by
  have F0 := (Fr.refl none' w).alloc (.cells #[.int .i64 2, .int .i64 a.s, .int .i64 a.n, .bool a.wr, .int .u8 (a.b : Int), .int .i64 a.q.t, .int .i64 a.q.i, .bool a.q.v, .bool a.q.l, .int .i64 a.q.r, .int .i64 a.q.f] 33)
  have R0 := row_alloc w #[.int .i64 2, .int .i64 a.s, .int .i64 a.n, .bool a.wr, .int .u8 (a.b : Int), .int .i64 a.q.t, .int .i64 a.q.i, .bool a.q.v, .bool a.q.l, .int .i64 a.q.r, .int .i64 a.q.f] 33
  have h0 := h.keep0 F0
  have hUl : ¬ boU x pm bm pr br O Q w.heap.size := fun e => by have := h.lt _ e; omega
  go_enter Try.func10, Try.ntmps10
  go_upto_region 8 with fail
  obtain ⟨W, hW⟩ : ∃ W, W = w.alloc (.cells #[.int .i64 2, .int .i64 a.s, .int .i64 a.n, .bool a.wr, .int .u8 (a.b : Int), .int .i64 a.q.t, .int .i64 a.q.i, .bool a.q.v, .bool a.q.l, .int .i64 a.q.r, .int .i64 a.q.f] 33) := ⟨_, rfl⟩
  obtain ⟨A, hA⟩ : ∃ A, A = w.heap.size := ⟨_, rfl⟩
  rw [← hW] at F0 R0 h0 ⊢
  rw [← hA] at R0 hUl ⊢
  have HA : Hid (¬ boU x pm bm pr br O Q A ∧ A < W.heap.size) := ⟨hUl, R0.lt⟩
  have k0 : W.cell? ⟨A, 0, none⟩ = some (.int .i64 2) := R0.cell 0
  have k1 : W.cell? ⟨A, 1, none⟩ = some (.int .i64 a.s) := R0.cell 1
  have k2 : W.cell? ⟨A, 2, none⟩ = some (.int .i64 a.n) := R0.cell 2
  have k3 : W.cell? ⟨A, 3, none⟩ = some (.bool a.wr) := R0.cell 3
  have k4 : W.cell? ⟨A, 4, none⟩ = some (.int .u8 (a.b : Int)) := R0.cell 4
  have F : ChgU w (boU x pm bm pr br O Q) W (boU x pm bm pr br O Q) := ChgU.none F0
  have hB := h0
  have rX := hB.row
  clear hW hA R0 h h0 F0 hUl
  have hD := hB.keep0 (Fr.refl none' W).drew
  go_region_held3 (fun w' => w'.cell? ⟨x, 1, none⟩ = some (.pointer (some ⟨bi, 0, none⟩)) ∧ w'.cell? ⟨A, 1, none⟩ = some (.int .i64 a.s)) (first | with_reducible exact ⟨rX.c1, k1⟩ | exact ⟨rX.c1, k1⟩) (first | (go_at_call 30; refine (detach_any _ _ _ _ _ hD.io).mono ?_; rintro e w1 ⟨rfl, cc⟩; obtain ⟨O1, h', u⟩ := hD.stepI cc; have fu := (ChgU.none (U := boU x pm bm pr br O Q) (Fr.refl none' W).drew).trans u; replace k1 := cell_keep fu.1 k1 HA.out.1; replace k2 := cell_keep fu.1 k2 HA.out.1; replace k3 := cell_keep fu.1 k3 HA.out.1; replace k4 := cell_keep fu.1 k4 HA.out.1; replace rX := h'.row))
  replace HA : Hid (¬ boU x pm bm pr br O1 Q A ∧ A < w1.heap.size) := ⟨fun hk => by
    rcases fu.2 A hk with g | g
    · exact HA.out.1 g
    · have := HA.out.2; omega, Nat.lt_of_lt_of_le HA.out.2 fu.1.size⟩
  replace F := F.trans fu
  replace hB := h'
  clear fu u cc h' hD
  go_wp2_with fail
  have hD := hB.keep0 (Fr.refl none' w1).drew
  go_region_held3 (fun w' => w'.cell? ⟨x, 3, none⟩ = some (.pointer (some ⟨ji, 0, none⟩)) ∧ w'.cell? ⟨A, 1, none⟩ = some (.int .i64 a.s)) (first | with_reducible exact ⟨rX.c3, k1⟩ | exact ⟨rX.c3, k1⟩) (first | (go_at_call 31; refine (rdetach_any _ _ _ _ _ hD.ri).mono ?_; rintro e w2 ⟨rfl, cc⟩; obtain ⟨Q1, h', u⟩ := hD.stepR cc; have fu := (ChgU.none (U := boU x pm bm pr br O1 Q) (Fr.refl none' w1).drew).trans u; replace k1 := cell_keep fu.1 k1 HA.out.1; replace k2 := cell_keep fu.1 k2 HA.out.1; replace k3 := cell_keep fu.1 k3 HA.out.1; replace k4 := cell_keep fu.1 k4 HA.out.1; replace rX := h'.row))
  replace HA : Hid (¬ boU x pm bm pr br O1 Q1 A ∧ A < w2.heap.size) := ⟨fun hk => by
    rcases fu.2 A hk with g | g
    · exact HA.out.1 g
    · have := HA.out.2; omega, Nat.lt_of_lt_of_le HA.out.2 fu.1.size⟩
  replace F := F.trans fu
  replace hB := h'
  clear fu u cc h' hD
  go_wp2_with fail
  go_ret
  exact ⟨⟨_, rfl⟩, O1, Q1, hB, F⟩

set_option maxHeartbeats 4000000 in
set_option maxRecDepth 100000 in
theorem off_4 (w : World) (x pm bm pr br bi ji : Nat) (O Q : Nat → Prop) (bs bs' : List UInt8) (S S' : Io) (a : Aq) (h : BoAt w x pm bm pr br bi ji O Q bs bs' S S') :
    Calls Try.prog 10 #[.pointer (some ⟨x, 0, none⟩), .agg #[.int .i64 4, .int .i64 a.s, .int .i64 a.n, .bool a.wr, .int .u8 (a.b : Int), .int .i64 a.q.t, .int .i64 a.q.i, .bool a.q.v, .bool a.q.l, .int .i64 a.q.r, .int .i64 a.q.f]] w fun e w' => (∃ bb, e = .returned (.bool bb)) ∧ ∃ O' Q', BoAt w' x pm bm pr br bi ji O' Q' bs bs' (flushS S (goS a.s)) (flushS S' (goS a.s)) ∧ ChgU w (boU x pm bm pr br O Q) w' (boU x pm bm pr br O' Q') := by
  have F0 := (Fr.refl none' w).alloc (.cells #[.int .i64 4, .int .i64 a.s, .int .i64 a.n, .bool a.wr, .int .u8 (a.b : Int), .int .i64 a.q.t, .int .i64 a.q.i, .bool a.q.v, .bool a.q.l, .int .i64 a.q.r, .int .i64 a.q.f] 33)
  have R0 := row_alloc w #[.int .i64 4, .int .i64 a.s, .int .i64 a.n, .bool a.wr, .int .u8 (a.b : Int), .int .i64 a.q.t, .int .i64 a.q.i, .bool a.q.v, .bool a.q.l, .int .i64 a.q.r, .int .i64 a.q.f] 33
  have h0 := h.keep0 F0
  have hUl : ¬ boU x pm bm pr br O Q w.heap.size := fun e => by have := h.lt _ e; omega
  go_enter Try.func10, Try.ntmps10
  go_upto_region 15 with fail
  obtain ⟨W, hW⟩ : ∃ W, W = w.alloc (.cells #[.int .i64 4, .int .i64 a.s, .int .i64 a.n, .bool a.wr, .int .u8 (a.b : Int), .int .i64 a.q.t, .int .i64 a.q.i, .bool a.q.v, .bool a.q.l, .int .i64 a.q.r, .int .i64 a.q.f] 33) := ⟨_, rfl⟩
  obtain ⟨A, hA⟩ : ∃ A, A = w.heap.size := ⟨_, rfl⟩
  rw [← hW] at F0 R0 h0 ⊢
  rw [← hA] at R0 hUl ⊢
  have HA : Hid (¬ boU x pm bm pr br O Q A ∧ A < W.heap.size) := ⟨hUl, R0.lt⟩
  have k0 : W.cell? ⟨A, 0, none⟩ = some (.int .i64 4) := R0.cell 0
  have k1 : W.cell? ⟨A, 1, none⟩ = some (.int .i64 a.s) := R0.cell 1
  have k2 : W.cell? ⟨A, 2, none⟩ = some (.int .i64 a.n) := R0.cell 2
  have k3 : W.cell? ⟨A, 3, none⟩ = some (.bool a.wr) := R0.cell 3
  have k4 : W.cell? ⟨A, 4, none⟩ = some (.int .u8 (a.b : Int)) := R0.cell 4
  have F : ChgU w (boU x pm bm pr br O Q) W (boU x pm bm pr br O Q) := ChgU.none F0
  have hB := h0
  have rX := hB.row
  clear hW hA R0 h h0 F0 hUl
  have hD := hB.keep0 (Fr.refl none' W).drew
  go_region_held3 (fun w' => w'.cell? ⟨x, 1, none⟩ = some (.pointer (some ⟨bi, 0, none⟩)) ∧ w'.cell? ⟨A, 1, none⟩ = some (.int .i64 a.s)) (first | with_reducible exact ⟨rX.c1, k1⟩ | exact ⟨rX.c1, k1⟩) (first | (go_at_call 33; refine (ioflush_any _ _ _ _ _ hD.io).mono ?_; rintro e w1 ⟨rfl, cc⟩; obtain ⟨O1, h', u⟩ := hD.stepI cc; have fu := (ChgU.none (U := boU x pm bm pr br O Q) (Fr.refl none' W).drew).trans u; replace k1 := cell_keep fu.1 k1 HA.out.1; replace k2 := cell_keep fu.1 k2 HA.out.1; replace k3 := cell_keep fu.1 k3 HA.out.1; replace k4 := cell_keep fu.1 k4 HA.out.1; replace rX := h'.row))
  replace HA : Hid (¬ boU x pm bm pr br O1 Q A ∧ A < w1.heap.size) := ⟨fun hk => by
    rcases fu.2 A hk with g | g
    · exact HA.out.1 g
    · have := HA.out.2; omega, Nat.lt_of_lt_of_le HA.out.2 fu.1.size⟩
  replace F := F.trans fu
  replace hB := h'
  clear fu u cc h' hD
  go_wp2_with fail
  have hD := hB.keep0 (Fr.refl none' w1).drew
  go_region_held3 (fun w' => w'.cell? ⟨x, 3, none⟩ = some (.pointer (some ⟨ji, 0, none⟩)) ∧ w'.cell? ⟨A, 1, none⟩ = some (.int .i64 a.s)) (first | with_reducible exact ⟨rX.c3, k1⟩ | exact ⟨rX.c3, k1⟩) (first | (go_at_call 34; refine (rflush_any0 _ _ _ _ _ hD.ri).mono ?_; rintro e w2 ⟨rfl, cc⟩; obtain ⟨Q1, h', u⟩ := hD.stepR cc; have fu := (ChgU.none (U := boU x pm bm pr br O1 Q) (Fr.refl none' w1).drew).trans u; replace k1 := cell_keep fu.1 k1 HA.out.1; replace k2 := cell_keep fu.1 k2 HA.out.1; replace k3 := cell_keep fu.1 k3 HA.out.1; replace k4 := cell_keep fu.1 k4 HA.out.1; replace rX := h'.row))
  replace HA : Hid (¬ boU x pm bm pr br O1 Q1 A ∧ A < w2.heap.size) := ⟨fun hk => by
    rcases fu.2 A hk with g | g
    · exact HA.out.1 g
    · have := HA.out.2; omega, Nat.lt_of_lt_of_le HA.out.2 fu.1.size⟩
  replace F := F.trans fu
  replace hB := h'
  clear fu u cc h' hD
  go_wp2_with fail
  go_ret
  exact ⟨⟨_, rfl⟩, O1, Q1, hB, F⟩

set_option maxHeartbeats 4000000 in
set_option maxRecDepth 100000 in
theorem off_5 (w : World) (x pm bm pr br bi ji : Nat) (O Q : Nat → Prop) (bs bs' : List UInt8) (S S' : Io) (a : Aq) (h : BoAt w x pm bm pr br bi ji O Q bs bs' S S') :
    Calls Try.prog 10 #[.pointer (some ⟨x, 0, none⟩), .agg #[.int .i64 5, .int .i64 a.s, .int .i64 a.n, .bool a.wr, .int .u8 (a.b : Int), .int .i64 a.q.t, .int .i64 a.q.i, .bool a.q.v, .bool a.q.l, .int .i64 a.q.r, .int .i64 a.q.f]] w fun e w' => (∃ bb, e = .returned (.bool bb)) ∧ ∃ O' Q', BoAt w' x pm bm pr br bi ji O' Q' bs bs' (flushS S (goP a.s a.n)) (flushS S' (goP a.s a.n)) ∧ ChgU w (boU x pm bm pr br O Q) w' (boU x pm bm pr br O' Q') := by
  have F0 := (Fr.refl none' w).alloc (.cells #[.int .i64 5, .int .i64 a.s, .int .i64 a.n, .bool a.wr, .int .u8 (a.b : Int), .int .i64 a.q.t, .int .i64 a.q.i, .bool a.q.v, .bool a.q.l, .int .i64 a.q.r, .int .i64 a.q.f] 33)
  have R0 := row_alloc w #[.int .i64 5, .int .i64 a.s, .int .i64 a.n, .bool a.wr, .int .u8 (a.b : Int), .int .i64 a.q.t, .int .i64 a.q.i, .bool a.q.v, .bool a.q.l, .int .i64 a.q.r, .int .i64 a.q.f] 33
  have h0 := h.keep0 F0
  have hUl : ¬ boU x pm bm pr br O Q w.heap.size := fun e => by have := h.lt _ e; omega
  go_enter Try.func10, Try.ntmps10
  go_upto_region 19 with fail
  obtain ⟨W, hW⟩ : ∃ W, W = w.alloc (.cells #[.int .i64 5, .int .i64 a.s, .int .i64 a.n, .bool a.wr, .int .u8 (a.b : Int), .int .i64 a.q.t, .int .i64 a.q.i, .bool a.q.v, .bool a.q.l, .int .i64 a.q.r, .int .i64 a.q.f] 33) := ⟨_, rfl⟩
  obtain ⟨A, hA⟩ : ∃ A, A = w.heap.size := ⟨_, rfl⟩
  rw [← hW] at F0 R0 h0 ⊢
  rw [← hA] at R0 hUl ⊢
  have HA : Hid (¬ boU x pm bm pr br O Q A ∧ A < W.heap.size) := ⟨hUl, R0.lt⟩
  have k0 : W.cell? ⟨A, 0, none⟩ = some (.int .i64 5) := R0.cell 0
  have k1 : W.cell? ⟨A, 1, none⟩ = some (.int .i64 a.s) := R0.cell 1
  have k2 : W.cell? ⟨A, 2, none⟩ = some (.int .i64 a.n) := R0.cell 2
  have k3 : W.cell? ⟨A, 3, none⟩ = some (.bool a.wr) := R0.cell 3
  have k4 : W.cell? ⟨A, 4, none⟩ = some (.int .u8 (a.b : Int)) := R0.cell 4
  have F : ChgU w (boU x pm bm pr br O Q) W (boU x pm bm pr br O Q) := ChgU.none F0
  have hB := h0
  have rX := hB.row
  clear hW hA R0 h h0 F0 hUl
  have hD := hB.keep0 (Fr.refl none' W).drew
  go_region_held3 (fun w' => w'.cell? ⟨x, 1, none⟩ = some (.pointer (some ⟨bi, 0, none⟩)) ∧ w'.cell? ⟨A, 1, none⟩ = some (.int .i64 a.s) ∧ w'.cell? ⟨A, 2, none⟩ = some (.int .i64 a.n)) (first | with_reducible exact ⟨rX.c1, k1, k2⟩ | exact ⟨rX.c1, k1, k2⟩) (first | (go_at_call 23; refine (ioflushpage_any _ _ _ _ _ _ hD.io).mono ?_; rintro e w1 ⟨rfl, cc⟩; obtain ⟨O1, h', u⟩ := hD.stepI cc; have fu := (ChgU.none (U := boU x pm bm pr br O Q) (Fr.refl none' W).drew).trans u; replace k1 := cell_keep fu.1 k1 HA.out.1; replace k2 := cell_keep fu.1 k2 HA.out.1; replace k3 := cell_keep fu.1 k3 HA.out.1; replace k4 := cell_keep fu.1 k4 HA.out.1; replace rX := h'.row))
  replace HA : Hid (¬ boU x pm bm pr br O1 Q A ∧ A < w1.heap.size) := ⟨fun hk => by
    rcases fu.2 A hk with g | g
    · exact HA.out.1 g
    · have := HA.out.2; omega, Nat.lt_of_lt_of_le HA.out.2 fu.1.size⟩
  replace F := F.trans fu
  replace hB := h'
  clear fu u cc h' hD
  go_wp2_with fail
  have hD := hB.keep0 (Fr.refl none' w1).drew
  go_region_held3 (fun w' => w'.cell? ⟨x, 3, none⟩ = some (.pointer (some ⟨ji, 0, none⟩)) ∧ w'.cell? ⟨A, 1, none⟩ = some (.int .i64 a.s) ∧ w'.cell? ⟨A, 2, none⟩ = some (.int .i64 a.n)) (first | with_reducible exact ⟨rX.c3, k1, k2⟩ | exact ⟨rX.c3, k1, k2⟩) (first | (go_at_call 34; refine (rflush_any1 _ _ _ _ _ _ hD.ri).mono ?_; rintro e w2 ⟨rfl, cc⟩; obtain ⟨Q1, h', u⟩ := hD.stepR cc; have fu := (ChgU.none (U := boU x pm bm pr br O1 Q) (Fr.refl none' w1).drew).trans u; replace k1 := cell_keep fu.1 k1 HA.out.1; replace k2 := cell_keep fu.1 k2 HA.out.1; replace k3 := cell_keep fu.1 k3 HA.out.1; replace k4 := cell_keep fu.1 k4 HA.out.1; replace rX := h'.row))
  replace HA : Hid (¬ boU x pm bm pr br O1 Q1 A ∧ A < w2.heap.size) := ⟨fun hk => by
    rcases fu.2 A hk with g | g
    · exact HA.out.1 g
    · have := HA.out.2; omega, Nat.lt_of_lt_of_le HA.out.2 fu.1.size⟩
  replace F := F.trans fu
  replace hB := h'
  clear fu u cc h' hD
  go_wp2_with fail
  go_ret
  exact ⟨⟨_, rfl⟩, O1, Q1, hB, F⟩

set_option maxHeartbeats 4000000 in
set_option maxRecDepth 100000 in
theorem off_6 (w : World) (x pm bm pr br bi ji : Nat) (O Q : Nat → Prop) (bs bs' : List UInt8) (S S' : Io) (a : Aq) (h : BoAt w x pm bm pr br bi ji O Q bs bs' S S') :
    Calls Try.prog 10 #[.pointer (some ⟨x, 0, none⟩), .agg #[.int .i64 6, .int .i64 a.s, .int .i64 a.n, .bool a.wr, .int .u8 (a.b : Int), .int .i64 a.q.t, .int .i64 a.q.i, .bool a.q.v, .bool a.q.l, .int .i64 a.q.r, .int .i64 a.q.f]] w fun e w' => (∃ bb, e = .returned (.bool bb)) ∧ ∃ O' Q', BoAt w' x pm bm pr br bi ji O' Q' bs bs' (evS S a.n) (evS S' a.n) ∧ ChgU w (boU x pm bm pr br O Q) w' (boU x pm bm pr br O' Q') := by
  have F0 := (Fr.refl none' w).alloc (.cells #[.int .i64 6, .int .i64 a.s, .int .i64 a.n, .bool a.wr, .int .u8 (a.b : Int), .int .i64 a.q.t, .int .i64 a.q.i, .bool a.q.v, .bool a.q.l, .int .i64 a.q.r, .int .i64 a.q.f] 33)
  have R0 := row_alloc w #[.int .i64 6, .int .i64 a.s, .int .i64 a.n, .bool a.wr, .int .u8 (a.b : Int), .int .i64 a.q.t, .int .i64 a.q.i, .bool a.q.v, .bool a.q.l, .int .i64 a.q.r, .int .i64 a.q.f] 33
  have h0 := h.keep0 F0
  have hUl : ¬ boU x pm bm pr br O Q w.heap.size := fun e => by have := h.lt _ e; omega
  go_enter Try.func10, Try.ntmps10
  go_upto_region 23 with fail
  obtain ⟨W, hW⟩ : ∃ W, W = w.alloc (.cells #[.int .i64 6, .int .i64 a.s, .int .i64 a.n, .bool a.wr, .int .u8 (a.b : Int), .int .i64 a.q.t, .int .i64 a.q.i, .bool a.q.v, .bool a.q.l, .int .i64 a.q.r, .int .i64 a.q.f] 33) := ⟨_, rfl⟩
  obtain ⟨A, hA⟩ : ∃ A, A = w.heap.size := ⟨_, rfl⟩
  rw [← hW] at F0 R0 h0 ⊢
  rw [← hA] at R0 hUl ⊢
  have HA : Hid (¬ boU x pm bm pr br O Q A ∧ A < W.heap.size) := ⟨hUl, R0.lt⟩
  have k0 : W.cell? ⟨A, 0, none⟩ = some (.int .i64 6) := R0.cell 0
  have k1 : W.cell? ⟨A, 1, none⟩ = some (.int .i64 a.s) := R0.cell 1
  have k2 : W.cell? ⟨A, 2, none⟩ = some (.int .i64 a.n) := R0.cell 2
  have k3 : W.cell? ⟨A, 3, none⟩ = some (.bool a.wr) := R0.cell 3
  have k4 : W.cell? ⟨A, 4, none⟩ = some (.int .u8 (a.b : Int)) := R0.cell 4
  have F : ChgU w (boU x pm bm pr br O Q) W (boU x pm bm pr br O Q) := ChgU.none F0
  have hB := h0
  have rX := hB.row
  clear hW hA R0 h h0 F0 hUl
  have hD := hB.keep0 (Fr.refl none' W).drew
  go_region_held3 (fun w' => w'.cell? ⟨x, 1, none⟩ = some (.pointer (some ⟨bi, 0, none⟩)) ∧ w'.cell? ⟨A, 2, none⟩ = some (.int .i64 a.n)) (first | with_reducible exact ⟨rX.c1, k2⟩ | exact ⟨rX.c1, k2⟩) (first | (go_at_call 16; refine (ioevict_any _ _ _ _ _ hD.io).mono ?_; rintro e w1 ⟨rfl, cc⟩; obtain ⟨O1, h', u⟩ := hD.stepI cc; have fu := (ChgU.none (U := boU x pm bm pr br O Q) (Fr.refl none' W).drew).trans u; replace k1 := cell_keep fu.1 k1 HA.out.1; replace k2 := cell_keep fu.1 k2 HA.out.1; replace k3 := cell_keep fu.1 k3 HA.out.1; replace k4 := cell_keep fu.1 k4 HA.out.1; replace rX := h'.row))
  replace HA : Hid (¬ boU x pm bm pr br O1 Q A ∧ A < w1.heap.size) := ⟨fun hk => by
    rcases fu.2 A hk with g | g
    · exact HA.out.1 g
    · have := HA.out.2; omega, Nat.lt_of_lt_of_le HA.out.2 fu.1.size⟩
  replace F := F.trans fu
  replace hB := h'
  clear fu u cc h' hD
  go_wp2_with fail
  have hD := hB.keep0 (Fr.refl none' w1).drew
  go_region_held3 (fun w' => w'.cell? ⟨x, 3, none⟩ = some (.pointer (some ⟨ji, 0, none⟩)) ∧ w'.cell? ⟨A, 2, none⟩ = some (.int .i64 a.n)) (first | with_reducible exact ⟨rX.c3, k2⟩ | exact ⟨rX.c3, k2⟩) (first | (go_at_call 35; refine (revict_any _ _ _ _ _ hD.ri).mono ?_; rintro e w2 ⟨rfl, cc⟩; obtain ⟨Q1, h', u⟩ := hD.stepR cc; have fu := (ChgU.none (U := boU x pm bm pr br O1 Q) (Fr.refl none' w1).drew).trans u; replace k1 := cell_keep fu.1 k1 HA.out.1; replace k2 := cell_keep fu.1 k2 HA.out.1; replace k3 := cell_keep fu.1 k3 HA.out.1; replace k4 := cell_keep fu.1 k4 HA.out.1; replace rX := h'.row))
  replace HA : Hid (¬ boU x pm bm pr br O1 Q1 A ∧ A < w2.heap.size) := ⟨fun hk => by
    rcases fu.2 A hk with g | g
    · exact HA.out.1 g
    · have := HA.out.2; omega, Nat.lt_of_lt_of_le HA.out.2 fu.1.size⟩
  replace F := F.trans fu
  replace hB := h'
  clear fu u cc h' hD
  go_wp2_with fail
  go_ret
  exact ⟨⟨_, rfl⟩, O1, Q1, hB, F⟩

set_option maxHeartbeats 4000000 in
set_option maxRecDepth 100000 in
theorem off_7 (w : World) (x pm bm pr br bi ji : Nat) (O Q : Nat → Prop) (bs bs' : List UInt8) (S S' : Io) (a : Aq) (h : BoAt w x pm bm pr br bi ji O Q bs bs' S S') :
    Calls Try.prog 10 #[.pointer (some ⟨x, 0, none⟩), .agg #[.int .i64 7, .int .i64 a.s, .int .i64 a.n, .bool a.wr, .int .u8 (a.b : Int), .int .i64 a.q.t, .int .i64 a.q.i, .bool a.q.v, .bool a.q.l, .int .i64 a.q.r, .int .i64 a.q.f]] w fun e w' => (∃ bb, e = .returned (.bool bb)) ∧ ∃ O' Q', BoAt w' x pm bm pr br bi ji O' Q' bs bs' (tkS S) (tkS S') ∧ ChgU w (boU x pm bm pr br O Q) w' (boU x pm bm pr br O' Q') := by
  have F0 := (Fr.refl none' w).alloc (.cells #[.int .i64 7, .int .i64 a.s, .int .i64 a.n, .bool a.wr, .int .u8 (a.b : Int), .int .i64 a.q.t, .int .i64 a.q.i, .bool a.q.v, .bool a.q.l, .int .i64 a.q.r, .int .i64 a.q.f] 33)
  have R0 := row_alloc w #[.int .i64 7, .int .i64 a.s, .int .i64 a.n, .bool a.wr, .int .u8 (a.b : Int), .int .i64 a.q.t, .int .i64 a.q.i, .bool a.q.v, .bool a.q.l, .int .i64 a.q.r, .int .i64 a.q.f] 33
  have h0 := h.keep0 F0
  have hUl : ¬ boU x pm bm pr br O Q w.heap.size := fun e => by have := h.lt _ e; omega
  go_enter Try.func10, Try.ntmps10
  go_upto_region 26 with fail
  obtain ⟨W, hW⟩ : ∃ W, W = w.alloc (.cells #[.int .i64 7, .int .i64 a.s, .int .i64 a.n, .bool a.wr, .int .u8 (a.b : Int), .int .i64 a.q.t, .int .i64 a.q.i, .bool a.q.v, .bool a.q.l, .int .i64 a.q.r, .int .i64 a.q.f] 33) := ⟨_, rfl⟩
  obtain ⟨A, hA⟩ : ∃ A, A = w.heap.size := ⟨_, rfl⟩
  rw [← hW] at F0 R0 h0 ⊢
  rw [← hA] at R0 hUl ⊢
  have HA : Hid (¬ boU x pm bm pr br O Q A ∧ A < W.heap.size) := ⟨hUl, R0.lt⟩
  have k0 : W.cell? ⟨A, 0, none⟩ = some (.int .i64 7) := R0.cell 0
  have k1 : W.cell? ⟨A, 1, none⟩ = some (.int .i64 a.s) := R0.cell 1
  have k2 : W.cell? ⟨A, 2, none⟩ = some (.int .i64 a.n) := R0.cell 2
  have k3 : W.cell? ⟨A, 3, none⟩ = some (.bool a.wr) := R0.cell 3
  have k4 : W.cell? ⟨A, 4, none⟩ = some (.int .u8 (a.b : Int)) := R0.cell 4
  have F : ChgU w (boU x pm bm pr br O Q) W (boU x pm bm pr br O Q) := ChgU.none F0
  have hB := h0
  have rX := hB.row
  clear hW hA R0 h h0 F0 hUl k1 k2 k3 k4
  have heq := eq_rec
  obtain ⟨x0, x1, x2, x3⟩ := rX
  go_wp2_with fail
  refine (take_any _ _ _ _ hB.io).mono ?_
  rintro e w1 ⟨rfl, cc⟩
  obtain ⟨O1, h', fu⟩ := hB.stepI cc
  have FA := (Fr.refl none' w1).alloc (.cells #[.int .i64 (tkR S).s, .int .i64 (tkR S).p, .int .i64 (tkR S).k, .bool (tkR S).wr] 58)
  have RA := row_alloc w1 #[.int .i64 (tkR S).s, .int .i64 (tkR S).p, .int .i64 (tkR S).k, .bool (tkR S).wr] 58
  replace F := (F.trans fu).trans (ChgU.none FA)
  have nA : ¬ boU x pm bm pr br O1 Q w1.heap.size := fun e => by have := h'.lt _ e; omega
  replace hB := h'.keep0 FA
  obtain ⟨A1, hA1⟩ : ∃ A1, A1 = w1.heap.size := ⟨_, rfl⟩
  obtain ⟨w1a, hw1a⟩ : ∃ w1a, w1a = w1.alloc (.cells #[.int .i64 (tkR S).s, .int .i64 (tkR S).p, .int .i64 (tkR S).k, .bool (tkR S).wr] 58) := ⟨_, rfl⟩
  clear x0 x1 x2 x3 fu cc h' FA
  obtain ⟨x0, x1, x2, x3⟩ := hB.row
  go_wp2_with fail
  refine (rtake_any _ _ _ _ hB.ri).mono ?_
  rintro e w2 ⟨rfl, cc⟩
  obtain ⟨Q1, h', fu⟩ := hB.stepR cc
  have RA2 := RA.keep fu.1 nA
  have FB := (Fr.refl none' w2).alloc (.cells #[.int .i64 (tkR S').s, .int .i64 (tkR S').p, .int .i64 (tkR S').k, .bool (tkR S').wr] 58)
  have HI : Hid (ChgU w (boU x pm bm pr br O Q) (w2.alloc (.cells #[.int .i64 (tkR S').s, .int .i64 (tkR S').p, .int .i64 (tkR S').k, .bool (tkR S').wr] 58)) (boU x pm bm pr br O1 Q1) ∧ BoAt (w2.alloc (.cells #[.int .i64 (tkR S').s, .int .i64 (tkR S').p, .int .i64 (tkR S').k, .bool (tkR S').wr] 58)) x pm bm pr br bi ji O1 Q1 bs bs' (tkS S) (tkS S')) := ⟨(F.trans fu).trans (ChgU.none FB), h'.keep0 FB⟩
  have RA3 := RA2.alloc (.cells #[.int .i64 (tkR S').s, .int .i64 (tkR S').p, .int .i64 (tkR S').k, .bool (tkR S').wr] 58)
  obtain ⟨y0, y1, y2, y3⟩ := row4 RA3
  clear x0 x1 x2 x3 fu cc h' FB RA2 RA3 RA hB F nA hA1 hw1a
  cases (tkB S) <;> cases (tkB S') <;> skip
  all_goals
    go_wp2_with fail
  all_goals
    go_ret
    exact ⟨⟨_, rfl⟩, O1, Q1, HI.out.2, HI.out.1⟩

set_option maxHeartbeats 4000000 in
set_option maxRecDepth 100000 in
theorem off_o (w : World) (x pm bm pr br bi ji : Nat) (O Q : Nat → Prop) (bs bs' : List UInt8) (S S' : Io) (a : Aq) (d : Int) (hd : d < 1 ∨ 8 < d) (h : BoAt w x pm bm pr br bi ji O Q bs bs' S S') :
    Calls Try.prog 10 #[.pointer (some ⟨x, 0, none⟩), .agg #[.int .i64 d, .int .i64 a.s, .int .i64 a.n, .bool a.wr, .int .u8 (a.b : Int), .int .i64 a.q.t, .int .i64 a.q.i, .bool a.q.v, .bool a.q.l, .int .i64 a.q.r, .int .i64 a.q.f]] w fun e w' => (∃ bb, e = .returned (.bool bb)) ∧ ∃ O' Q', BoAt w' x pm bm pr br bi ji O' Q' bs bs' S S' ∧ ChgU w (boU x pm bm pr br O Q) w' (boU x pm bm pr br O' Q') := by
  have t1 : (d == 1) = false := by simp; omega
  have t2 : (d == 2) = false := by simp; omega
  have t3 : (d == 3) = false := by simp; omega
  have t4 : (d == 4) = false := by simp; omega
  have t5 : (d == 5) = false := by simp; omega
  have t6 : (d == 6) = false := by simp; omega
  have t7 : (d == 7) = false := by simp; omega
  have t8 : (d == 8) = false := by simp; omega
  clear hd
  have F0 := (Fr.refl none' w).alloc (.cells #[.int .i64 d, .int .i64 a.s, .int .i64 a.n, .bool a.wr, .int .u8 (a.b : Int), .int .i64 a.q.t, .int .i64 a.q.i, .bool a.q.v, .bool a.q.l, .int .i64 a.q.r, .int .i64 a.q.f] 33)
  have h0 := h.keep0 F0
  have HI : Hid (ChgU w (boU x pm bm pr br O Q) (w.alloc (.cells #[.int .i64 d, .int .i64 a.s, .int .i64 a.n, .bool a.wr, .int .u8 (a.b : Int), .int .i64 a.q.t, .int .i64 a.q.i, .bool a.q.v, .bool a.q.l, .int .i64 a.q.r, .int .i64 a.q.f] 33)) (boU x pm bm pr br O Q) ∧ BoAt (w.alloc (.cells #[.int .i64 d, .int .i64 a.s, .int .i64 a.n, .bool a.wr, .int .u8 (a.b : Int), .int .i64 a.q.t, .int .i64 a.q.i, .bool a.q.v, .bool a.q.l, .int .i64 a.q.r, .int .i64 a.q.f] 33)) x pm bm pr br bi ji O Q bs bs' S S') := ⟨ChgU.none F0, h0⟩
  clear h h0 F0
  go_enter Try.func10, Try.ntmps10
  go_wp2_with fail
  go_ret
  exact ⟨⟨_, rfl⟩, O, Q, HI.out.2, HI.out.1⟩

theorem does_off (w : World) (x pm bm pr br bi ji : Nat) (O Q : Nat → Prop) (bs bs' : List UInt8) (S S' : Io) (a : Aq) (h3 : a.d ≠ 3) (h8 : a.d ≠ 8) (h : BoAt w x pm bm pr br bi ji O Q bs bs' S S') :
    Calls Try.prog 10 #[.pointer (some ⟨x, 0, none⟩), .agg #[.int .i64 a.d, .int .i64 a.s, .int .i64 a.n, .bool a.wr, .int .u8 (a.b : Int), .int .i64 a.q.t, .int .i64 a.q.i, .bool a.q.v, .bool a.q.l, .int .i64 a.q.r, .int .i64 a.q.f]] w fun e w' => (∃ bb, e = .returned (.bool bb)) ∧ ∃ O' Q', BoAt w' x pm bm pr br bi ji O' Q' bs bs' (actS bs S a) (actS bs' S' a) ∧ ChgU w (boU x pm bm pr br O Q) w' (boU x pm bm pr br O' Q') := by
  have fin : ∀ {S1 S1' : Io}, S1 = actS bs S a → S1' = actS bs' S' a → ∀ e w', ((∃ bb, e = Ending.returned (.bool bb)) ∧ ∃ O' Q', BoAt w' x pm bm pr br bi ji O' Q' bs bs' S1 S1' ∧ ChgU w (boU x pm bm pr br O Q) w' (boU x pm bm pr br O' Q')) → (∃ bb, e = Ending.returned (.bool bb)) ∧ ∃ O' Q', BoAt w' x pm bm pr br bi ji O' Q' bs bs' (actS bs S a) (actS bs' S' a) ∧ ChgU w (boU x pm bm pr br O Q) w' (boU x pm bm pr br O' Q') := by
    rintro S1 S1' rfl rfl e w' h
    exact h
  by_cases h1 : a.d = 1
  · rw [h1]
    exact (off_1 w x pm bm pr br bi ji O Q bs bs' S S' a h).mono (fin (by simp [actS, h1]) (by simp [actS, h1]))
  by_cases h2 : a.d = 2
  · rw [h2]
    exact (off_2 w x pm bm pr br bi ji O Q bs bs' S S' a h).mono (fin (by simp [actS, h2]) (by simp [actS, h2]))
  by_cases h4 : a.d = 4
  · rw [h4]
    exact (off_4 w x pm bm pr br bi ji O Q bs bs' S S' a h).mono (fin (by simp [actS, h4]) (by simp [actS, h4]))
  by_cases h5 : a.d = 5
  · rw [h5]
    exact (off_5 w x pm bm pr br bi ji O Q bs bs' S S' a h).mono (fin (by simp [actS, h5]) (by simp [actS, h5]))
  by_cases h6 : a.d = 6
  · rw [h6]
    exact (off_6 w x pm bm pr br bi ji O Q bs bs' S S' a h).mono (fin (by simp [actS, h6]) (by simp [actS, h6]))
  by_cases h7 : a.d = 7
  · rw [h7]
    exact (off_7 w x pm bm pr br bi ji O Q bs bs' S S' a h).mono (fin (by simp [actS, h7]) (by simp [actS, h7]))
  exact (off_o w x pm bm pr br bi ji O Q bs bs' S S' a a.d (by omega) h).mono (fin (by simp [actS, h1, h2, h3, h4, h5, h6, h7]) (by simp [actS, h1, h2, h3, h4, h5, h6, h7]))

end Go.Proofs.Ythmombgogmgobaa

/- IoPutOwn -/
namespace Go.Proofs.Ythmombgogmgobaa
open Go.RowKit

def pqV (q : Pq) : Array Value := #[.int .i64 q.t, .int .i64 q.i, .bool q.v, .bool q.l, .int .i64 q.r, .int .i64 q.f]

/-- Cells that show n of them. -/
def IsPqL (get : Nat → Option Value) (n : Nat) (Q : Nat → Pq) : Prop := ∀ j, j < n → ∀ i, i < 6 → get (j * 6 + i) = (pqV (Q j))[i]?

/-- A slice of the call's own that holds n of them. -/
def OwnQ (w : World) (B : Nat) (v : Value) (n : Nat) (Q : Nat → Pq) : Prop := ∃ L, w.ownsRow B 31 6 v n L ∧ IsPqL (fun j => L[j]?) n Q

theorem ownq_nil (w : World) (B : Nat) (Q : Nat → Pq) : OwnQ w B (.slice none 0 0) 0 Q := ⟨[], ⟨rfl, Or.inl ⟨rfl, rfl⟩⟩, fun j hj => by omega⟩

theorem OwnQ.keep0 {w w' : World} {B n : Nat} {v : Value} {Q : Nat → Pq} (h : OwnQ w B v n Q) (f : Fr none' w w') : OwnQ w' B v n Q := by
  obtain ⟨L, ⟨hl, h | ⟨g, cap, cur, hv, hb, hg, hc, hm, hs', ht⟩⟩, hL⟩ := h
  · exact ⟨L, ⟨hl, Or.inl h⟩, hL⟩
  · exact ⟨L, ⟨hl, Or.inr ⟨g, cap, cur, hv, hb, (show Row w' g cur _ from Row.keep (show Row w g cur _ from hg) f (fun h => h)), hc, hm, hs', ht⟩⟩, hL⟩

theorem OwnQ.congr {w : World} {B n : Nat} {v : Value} {Q Q' : Nat → Pq} (h : OwnQ w B v n Q) (e : ∀ j, j < n → Q j = Q' j) : OwnQ w B v n Q' := by
  obtain ⟨L, h1, h2⟩ := h
  exact ⟨L, h1, fun j hj => by rw [← e j hj]; exact h2 j hj⟩

theorem OwnQ.high {w : World} {B n : Nat} {v : Value} {Q : Nat → Pq} (h : OwnQ w B v n Q) (k : Nat) (hk : some k = v.ownBlock) : B ≤ k := by
  obtain ⟨L, ⟨_, h | ⟨g, cap, cur, hv, hb, _⟩⟩, _⟩ := h
  · rw [h.1] at hk; simp [Value.ownBlock] at hk
  · rw [hv] at hk; simp [Value.ownBlock] at hk; omega

theorem Fr.ownQ {w w1 w2 : World} {n : Nat} {v : Value} {Q : Nat → Pq} (f : Fr none' w w1) (g : Fr (fun q => some q = v.ownBlock) w1 w2) (o : OwnQ w1 w.heap.size v n Q) : Fr none' w w2 :=
  ⟨g.os.trans f.os, g.tape.trans f.tape, g.output.trans f.output, Nat.le_trans f.size g.size, fun i hi hn => (g.block i (Nat.lt_of_lt_of_le hi f.size) (fun e => by have := o.high i e; omega)).trans (f.block i hi hn)⟩

/-- As a slice that can be laid. -/
theorem OwnQ.puts {w : World} {B n : Nat} {v : Value} {Q : Nat → Pq} (h : OwnQ w B v n Q) : ∃ a0 cap, v = .slice a0 n cap ∧ Pqs w a0 n Q := by
  obtain ⟨L, ⟨hl, h | ⟨g, cap, cur, hv, hb, hg, hc, hm, hs, ht⟩⟩, hL⟩ := h
  · obtain ⟨rfl, rfl⟩ := h
    exact ⟨none, 0, rfl, fun k hk => by omega⟩
  · refine ⟨_, cap, hv, fun k hk => ⟨g, 0, rfl, ?_⟩⟩
    have key : ∀ i, i < 6 → w.cell? ⟨g, 0 + k * 6 + i, none⟩ = (pqV (Q k))[i]? := fun i hi => by
      rw [(show Row w g cur _ from hg).cell, Nat.zero_add, ← hL k hk i hi]
      show cur[k * 6 + i]? = L[k * 6 + i]?
      rw [← ht, List.getElem?_take, if_pos (by omega)]
      simp
    exact ⟨key 0 (by omega), key 1 (by omega), key 2 (by omega), key 3 (by omega), key 4 (by omega), key 5 (by omega)⟩

theorem info_pq : (Try.prog.info? 31).map (fun i => (i.zero, i.bytes, i.size)) = some (some (.agg (pqV ⟨0, 0, false, false, 0, 0⟩)), 40, 6) := by kernel_rfl

def updQ (Q : Nat → Pq) (k : Nat) (x : Pq) : Nat → Pq := fun j => if j = k then x else Q j

/-- One more. -/
theorem append_pq (w : World) (B : Nat) (a : Addr) (v : Value) (k : Nat) (Q : Nat → Pq) (x : Pq) (hb : B ≤ w.heap.size) (ho : OwnQ w B v k Q) (hk : k < 1000)
    (c : ∀ i u, (pqV x)[i]? = some u → w.cell? (a.add i) = some u) :
    ∃ v' w', (Builtin.append_ #[22, 22] 22 #[v, .slice (some a) 1 1]).run Try.prog w = .ok v' w' ∧ Fr (fun q => some q = v.ownBlock) w w' ∧ OwnQ w' B v' (k + 1) (updQ Q k x) := by
  obtain ⟨L, ho, hL⟩ := ho
  have hi := info_pq
  cases hq : Try.prog.info? 31 with
  | none => simp [hq] at hi
  | some i =>
    rw [hq] at hi
    simp only [Option.map_some, Option.some.injEq, Prod.mk.injEq] at hi
    obtain ⟨hz, hby, hs⟩ := hi
    obtain ⟨v', w', h1, h2, h3, _⟩ := run_append_own (P := Try.prog) w B 22 22 31 i _ 6 40 Try.underlying22 hq hz hs hby rfl (by omega) v k L ho a 1 1 (pqV x).toList rfl
      (fun j u hu => c j u (by simpa using hu))
      (fun u hu => by simp [pqV] at hu; rcases hu with rfl | rfl | rfl | rfl | rfl | rfl <;> simp [Value.oneCell'])
      (by simp only [maxLen]; omega) (by omega) hb
    have hlen := ho.1
    refine ⟨v', w', h1, io_grown h3, _, h2, fun j hj i hi => ?_⟩
    · show (L ++ (pqV x).toList)[j * 6 + i]? = (pqV (updQ Q k x j))[i]?
      unfold updQ
      by_cases hjk : j = k
      · subst hjk
        rw [if_pos rfl, List.getElem?_append_right (by omega), show j * 6 + i - L.length = i by omega]
        simp
      · rw [if_neg hjk, List.getElem?_append_left (by omega)]
        exact hL j (by omega) i hi

/-- A block just laid holds it. -/
theorem laid_pq (w : World) (x : Pq) : ∀ i u, (pqV x)[i]? = some u → (w.alloc (.cells (pqV x) 31)).cell? ((⟨w.heap.size, 0, none⟩ : Addr).add i) = some u := fun i u hu => by
  rw [add_lit', Nat.zero_add, (row_alloc w (pqV x) _).cell]; exact hu

end Go.Proofs.Ythmombgogmgobaa

/- IoForgT -/
namespace Go.Proofs.Ythmombgogmgobaa
open Go.RowKit

/-- A system by its program's side; the document's is what it is. -/
def IsOff (w : World) (x : Nat) (U : Nat → Prop) (bs : List UInt8) (S : Io) : Prop :=
  ∃ pm bm pr br bi ji O Q bs' S', BoAt w x pm bm pr br bi ji O Q bs bs' S S' ∧ U = boU x pm bm pr br O Q
theorem IsBo.off {w : World} {x : Nat} {U : Nat → Prop} {bs : List UInt8} {S : Io} (h : IsBo w x U bs S) : IsOff w x U bs S := by
  obtain ⟨pm, bm, pr, br, bi, ji, O, Q, h, hU⟩ := h
  exact ⟨pm, bm, pr, br, bi, ji, O, Q, bs, S, h, hU⟩
theorem IsOff.keep {w w' : World} {x : Nat} {U T : Nat → Prop} {bs : List UInt8} {S : Io} (h : IsOff w x U bs S) (f : Fr T w w') (hs : ∀ k, U k → ¬ T k) : IsOff w' x U bs S := by
  obtain ⟨pm, bm, pr, br, bi, ji, O, Q, bs', S', h, hU⟩ := h
  exact ⟨pm, bm, pr, br, bi, ji, O, Q, bs', S', h.keep f (fun k hk => hs k (by rw [hU]; exact hk)), hU⟩
theorem IsOff.keep0 {w w' : World} {x : Nat} {U : Nat → Prop} {bs : List UInt8} {S : Io} (h : IsOff w x U bs S) (f : Fr none' w w') : IsOff w' x U bs S := h.keep f (fun _ _ h => h)
theorem IsOff.lt {w : World} {x : Nat} {U : Nat → Prop} {bs : List UInt8} {S : Io} (h : IsOff w x U bs S) (k : Nat) (hk : U k) : k < w.heap.size := by
  obtain ⟨pm, bm, pr, br, bi, ji, O, Q, bs', S', h, hU⟩ := h
  rw [hU] at hk
  exact h.lt k hk
theorem IsOff.ok {w : World} {x : Nat} {U : Nat → Prop} {bs : List UInt8} {S : Io} (h : IsOff w x U bs S) : IoOk S := by
  obtain ⟨pm, bm, pr, br, bi, ji, O, Q, bs', S', h, hU⟩ := h
  obtain ⟨_, _, a, _⟩ := h.io
  exact a.ok
theorem does_offI (w : World) (x : Nat) (U : Nat → Prop) (bs : List UInt8) (S : Io) (a : Aq) (h3 : a.d ≠ 3) (h8 : a.d ≠ 8) (h : IsOff w x U bs S) :
    Calls Try.prog 10 #[.pointer (some ⟨x, 0, none⟩), .agg #[.int .i64 a.d, .int .i64 a.s, .int .i64 a.n, .bool a.wr, .int .u8 (a.b : Int), .int .i64 a.q.t, .int .i64 a.q.i, .bool a.q.v, .bool a.q.l, .int .i64 a.q.r, .int .i64 a.q.f]] w fun e w' => (∃ bb, e = .returned (.bool bb)) ∧ ∃ U', IsOff w' x U' bs (actS bs S a) ∧ ChgU w U w' U' := by
  obtain ⟨pm, bm, pr, br, bi, ji, O, Q, bs', S', h, rfl⟩ := h
  refine (does_off w x pm bm pr br bi ji O Q bs bs' S S' a h3 h8 h).mono ?_
  rintro e w' ⟨h1, O', Q', h2, u⟩
  exact ⟨h1, _, ⟨pm, bm, pr, br, bi, ji, O', Q', bs', _, h2, rfl⟩, u⟩

/-- Two that lie apart, and behind all that was. -/
structure Tw (w0 w : World) (x y : Nat) (Ux Uy : Nat → Prop) (bs bs' : List UInt8) (S T : Io) : Prop where
  fr : Fr none' w0 w
  hx : IsOff w x Ux bs S
  hy : IsOff w y Uy bs' T
  nx : ∀ k, Ux k → w0.heap.size ≤ k
  ny : ∀ k, Uy k → w0.heap.size ≤ k
  di : ∀ k, Ux k → ¬ Uy k
theorem fr_behind {w wa wb : World} {U : Nat → Prop} (f : Fr none' w wa) (u : Fr U wa wb) (h : ∀ k, U k → w.heap.size ≤ k) : Fr none' w wb :=
  ⟨u.os.trans f.os, u.tape.trans f.tape, u.output.trans f.output, Nat.le_trans f.size u.size, fun i hi hn => (u.block i (Nat.lt_of_lt_of_le hi f.size) (fun e => by have := h i e; omega)).trans (f.block i hi hn)⟩
section
variable {w0 w w' : World} {x y : Nat} {Ux Uy U' : Nat → Prop} {bs bs' bs1 : List UInt8} {S T S1 : Io}
theorem Tw.stepX (h : Tw w0 w x y Ux Uy bs bs' S T) (k : IsOff w' x U' bs1 S1) (u : ChgU w Ux w' U') : Tw w0 w' x y U' Uy bs1 bs' S1 T :=
  ⟨fr_behind h.fr u.1 h.nx, k, h.hy.keep u.1 (fun j hj hux => h.di j hux hj), fun j hj => by
    rcases u.2 j hj with e | e
    · exact h.nx j e
    · have := h.fr.size; omega, h.ny, fun j hj hy => by
    rcases u.2 j hj with e | e
    · exact h.di j e hy
    · have := h.hy.lt j hy; omega⟩
theorem Tw.stepY (h : Tw w0 w x y Ux Uy bs bs' S T) (k : IsOff w' y U' bs1 S1) (u : ChgU w Uy w' U') : Tw w0 w' x y Ux U' bs bs1 S S1 :=
  ⟨fr_behind h.fr u.1 h.ny, h.hx.keep u.1 (fun j hj huy => h.di j hj huy), k, h.nx, fun j hj => by
    rcases u.2 j hj with e | e
    · exact h.ny j e
    · have := h.fr.size; omega, fun j hj hy => by
    rcases u.2 j hy with e | e
    · exact h.di j hj e
    · have := h.hx.lt j hj; omega⟩
theorem Tw.keep0 (h : Tw w0 w x y Ux Uy bs bs' S T) (f : Fr none' w w') : Tw w0 w' x y Ux Uy bs bs' S T := ⟨h.fr.trans f, h.hx.keep0 f, h.hy.keep0 f, h.nx, h.ny, h.di⟩
end

/-- An act in a block of its own beside the two. -/
def aqV (a : Aq) : Array Value := #[.int .i64 a.d, .int .i64 a.s, .int .i64 a.n, .bool a.wr, .int .u8 (a.b : Int), .int .i64 a.q.t, .int .i64 a.q.i, .bool a.q.v, .bool a.q.l, .int .i64 a.q.r, .int .i64 a.q.f]
structure Ab (w : World) (B : Nat) (a : Aq) (Ux Uy : Nat → Prop) : Prop where
  row : Row w B (aqV a) 33
  nx : ¬ Ux B
  ny : ¬ Uy B
section
variable {w w' : World} {B : Nat} {a : Aq} {Ux Uy U' : Nat → Prop}
theorem Ab.stepX (h : Ab w B a Ux Uy) (u : ChgU w Ux w' U') : Ab w' B a U' Uy :=
  ⟨h.row.keep u.1 h.nx, fun e => by
    rcases u.2 B e with e | e
    · exact h.nx e
    · have := h.row.lt; omega, h.ny⟩
theorem Ab.stepY (h : Ab w B a Ux Uy) (u : ChgU w Uy w' U') : Ab w' B a Ux U' :=
  ⟨h.row.keep u.1 h.ny, h.nx, fun e => by
    rcases u.2 B e with e | e
    · exact h.ny e
    · have := h.row.lt; omega⟩
theorem Ab.keep0 (h : Ab w B a Ux Uy) (f : Fr none' w w') : Ab w' B a Ux Uy := ⟨h.row.keep f (fun h => h), h.nx, h.ny⟩
theorem Ab.cells (h : Ab w B a Ux Uy) : w.cell? ⟨B, 0, none⟩ = some (.int .i64 a.d) ∧ w.cell? ⟨B, 1, none⟩ = some (.int .i64 a.s) ∧ w.cell? ⟨B, 2, none⟩ = some (.int .i64 a.n) ∧ w.cell? ⟨B, 3, none⟩ = some (.bool a.wr) ∧ w.cell? ⟨B, 4, none⟩ = some (.int .u8 (a.b : Int)) ∧ w.cell? ⟨B, 5, none⟩ = some (.int .i64 a.q.t) ∧ w.cell? ⟨B, 6, none⟩ = some (.int .i64 a.q.i) ∧ w.cell? ⟨B, 7, none⟩ = some (.bool a.q.v) ∧ w.cell? ⟨B, 8, none⟩ = some (.bool a.q.l) ∧ w.cell? ⟨B, 9, none⟩ = some (.int .i64 a.q.r) ∧ w.cell? ⟨B, 10, none⟩ = some (.int .i64 a.q.f) :=
  ⟨h.row.cell 0, h.row.cell 1, h.row.cell 2, h.row.cell 3, h.row.cell 4, h.row.cell 5, h.row.cell 6, h.row.cell 7, h.row.cell 8, h.row.cell 9, h.row.cell 10⟩
end
/-- Which acts the law passes over. -/
def skA (a : Aq) : Bool := (a.d == 1 && decide (5 < a.n)) || a.d == 8

end Go.Proofs.Ythmombgogmgobaa

/- IoForgWalk -/
namespace Go.Proofs.Ythmombgogmgobaa
open Go.RowKit

set_option maxHeartbeats 16000000 in
set_option maxRecDepth 100000 in
theorem ioforg_any (a0 : Option Addr) (len cap : Nat) (a1 : Option Addr) (len1 cap1 : Nat) (w : World) (hl : len ≤ 9223372036854775807) (hP : ∃ P, Pqs w a0 len P) (hl1 : len1 ≤ 9223372036854775807) (hA : ∃ A, Aqs w a1 len1 A) :
    Calls Try.prog 5 #[.slice a0 len cap, .slice a1 len1 cap1] w fun e w' => e = .returned (.bool true) ∧ Below w.heap.size w w' := by
  obtain ⟨P, hP⟩ := hP
  obtain ⟨A, hA⟩ := hA
  have HP : Hid (Pqs w a0 len P) := hP
  have HA : Hid (Aqs w a1 len1 A) := hA
  clear hA hP
  go_enter Try.func5, Try.ntmps5
  go_wp2_with fail
  refine (ioawake_any _).mono ?_
  rintro e w1 ⟨rfl, f1⟩
  go_upto_block 0 with fail
  go_cut [6, 7] from 21 to 51 (fun v i wx => ∃ (n : Nat) (Q : Nat → Pq), n ≤ 100 ∧ (∀ j, j < n → (Q j).l = decide (5 < (Q j).f)) ∧ Fr none' w wx ∧ OwnQ wx w.heap.size v n Q)
  case first =>
    go_wp2_with fail
    go_loopw [6, 7] (fun v i wr => ∃ (k n : Nat) (Q : Nat → Pq), k ≤ len ∧ k ≤ 100 ∧ i = .int .i64 k ∧ n ≤ k ∧ (∀ j, j < n → (Q j).l = decide (5 < (Q j).f)) ∧ Fr none' w wr ∧ OwnQ wr w.heap.size v n Q) (fun _ i _ => 100 - (intOf i).toNat)
    case atStart => exact ⟨0, 0, P, by omega, by omega, rfl, by omega, fun j hj => by omega, f1, ownq_nil _ _ _⟩
    case round =>
      clear f1
      obtain ⟨k, n, Q, hk, hk2, rfl, hn, hq, fk, ok⟩ := hrel
      by_cases hlt : k < len
      · by_cases hlt2 : k < 100
        · obtain ⟨b, o, rfl, pk0⟩ := HP.out k hlt
          have pk := pk0.keep fk (fun h => h)
          clear pk0
          have i1 : 0 ≤ (k : Int) ∧ (k : Int) < (len : Int) := by omega
          have uk1 : decide ((k : Int) < (len : Int)) = true := decide_eq_true (by omega)
          have uk2 : decide ((k : Int) < 100) = true := decide_eq_true (by omega)
          have HQ : Hid (∀ j, j < n → (Q j).l = decide (5 < (Q j).f)) := hq
          have HK : Hid (Fr none' w wr ∧ OwnQ wr w.heap.size u6 n Q) := ⟨fk, ok⟩
          obtain ⟨c0, c1, c2, c3, c4, c5⟩ := pk
          clear hq fk ok
          cases hle : ((P k).l == decide (5 < (P k).f)) with
          | false =>
            go_wp2_with fail
            go_quiet (fail)
            clear c0 c1 c2 c3 c4 c5
            go_wp2_with fail
            go_roundw
            case rel => exact ⟨k + 1, n, Q, by omega, by omega, by go_num, by omega, HQ.out, HK.out.1.trans (fr_drewN _ _), HK.out.2.keep0 (fr_drewN _ _)⟩
            case measure => simp [intOf]; omega
          | true =>
            have HLE : Hid ((P k).l = decide (5 < (P k).f)) := (show _ = _ from by simpa using hle)
            go_upto_region 6 with fail
            go_quiet (fail)
            clear hle
            obtain ⟨W, hW⟩ : ∃ W, W = wr.drewN nq := ⟨_, rfl⟩
            have fW := fr_drewN wr nq
            rw [← hW] at fW ⊢
            replace c0 := cell_keep fW c0 (fun h => h)
            replace c1 := cell_keep fW c1 (fun h => h)
            replace c2 := cell_keep fW c2 (fun h => h)
            replace c3 := cell_keep fW c3 (fun h => h)
            replace c4 := cell_keep fW c4 (fun h => h)
            replace c5 := cell_keep fW c5 (fun h => h)
            have fk := HK.out.1.trans fW
            have ok := HK.out.2.keep0 fW
            have g0 := (Fr.refl none' W).alloc (.cells (pqV (P k)) 31)
            obtain ⟨v', w4, HR, f4, o4⟩ := append_pq (W.alloc (.cells (pqV (P k)) 31)) w.heap.size ⟨W.heap.size, 0, none⟩ u6 n Q (P k) (by have := fk.size; have := g0.size; omega) (ok.keep0 g0) (by omega) (laid_pq W (P k))
            have F4 : Hid (Fr none' w w4) := (fk.trans g0).ownQ f4 (ok.keep0 g0)
            have O4 : Hid (OwnQ w4 w.heap.size v' (n + 1) (updQ Q n (P k))) := o4
            unfold pqV at HR
            clear fW hW HK g0 f4 o4 fk ok
            go_wp2_with (at_builtin; refine wpList_append_run rfl _ _ _ rfl _ _ rfl rfl _ _ HR ?_)
            go_roundw
            case rel =>
              exact ⟨k + 1, n + 1, _, by omega, by omega, by go_num, by omega, fun j hj => by
                unfold updQ
                by_cases e : j = n
                · rw [if_pos e]; exact HLE.out
                · rw [if_neg e]; exact HQ.out j (by omega), F4.out, O4.out⟩
            case measure => simp [intOf]; omega
        · obtain rfl : k = 100 := by omega
          have uk1 : decide (((100 : Nat) : Int) < (len : Int)) = true := decide_eq_true (by omega)
          go_wp2_with fail
          go_meet
          exact ⟨n, Q, hn, hq, fk, ok⟩
      · obtain rfl : k = len := by omega
        go_wp2_with fail
        go_meet
        exact ⟨n, Q, by omega, hq, fk, ok⟩
  case rest =>
  clear f1
  obtain ⟨n, R, hn, hq, F, hO⟩ := hcut
  obtain ⟨a6, cap6, rfl, hP⟩ := hO.puts
  obtain ⟨ht, hlen⟩ := mdB_ok hq
  clear hO hq HP
  go_wp2_with fail
  refine (iomade_any _ a6 n cap6 R (by omega) hP).mono ?_
  rintro e w2 ⟨x, Ux, rfl, f2, hx, hUx⟩
  replace hP := hP.keep f2
  go_wp2_with fail
  refine (iomade_any _ a6 n cap6 R (by omega) hP).mono ?_
  rintro e w3 ⟨y, Uy, rfl, f3, hy, hUy⟩
  have HT0 : Hid (Tw w w3 x y Ux Uy (mdB R n) (mdB R n) io0 io0 ∧ Fg (mdB R n) io0 io0) := ⟨⟨(F.trans f2).trans f3, hx.off.keep0 f3, hy.off, fun k hk => Nat.le_trans F.size (hUx k hk), fun k hk => Nat.le_trans (F.trans f2).size (hUy k hk), fun k hk hk' => by have p := hx.lt k hk; have q := hUy k hk'; omega⟩, fg0 ht hlen⟩
  clear F f2 f3 hx hy hUx hUy hP ht hlen
  go_upto_block 2 with fail
  go_cut [10, 11, 12, 13, 14, 15, 16] from 62 to 155 (fun i a j b e c f wx => ∃ (Ux Uy : Nat → Prop) (bs : List UInt8) (S T : Io), Tw w wx x y Ux Uy bs bs S T ∧ Fg bs S T)
  case first =>
    go_wp2_with fail
    go_loopw [10] (fun i wr => ∃ (k : Nat) (Ux Uy : Nat → Prop) (bs : List UInt8) (S T : Io), k ≤ len1 ∧ k ≤ 100 ∧ i = .int .i64 k ∧ Hid (Tw w wr x y Ux Uy bs bs S T ∧ Fg bs S T)) (fun i _ => 100 - (intOf i).toNat)
    case atStart => exact ⟨0, Ux, Uy, _, _, _, by omega, by omega, rfl, HT0⟩
    case round =>
      clear HT0
      obtain ⟨k, Ux, Uy, bs, S, T, hk, hk2, rfl, HT⟩ := hrel
      by_cases hlt : k < len1
      · by_cases hlt2 : k < 100
        · obtain ⟨bb, o, rfl, ak⟩ := HA.out k hlt
          replace ak := ak.keep HT.out.1.fr (fun h => h)
          have i1 : 0 ≤ (k : Int) ∧ (k : Int) < (len1 : Int) := by omega
          have uk1 : decide ((k : Int) < (len1 : Int)) = true := decide_eq_true (by omega)
          have uk2 : decide ((k : Int) < 100) = true := decide_eq_true (by omega)
          obtain ⟨c0, c1, c2, c3, c4, ⟨c5, c6, c7, c8, c9, c10⟩, hbk⟩ := ak
          have HBK : Hid ((A k).b < 256) := hbk
          clear hbk
          go_upto_region 16 with fail
          clear c0 c1 c2 c3 c4 c5 c6 c7 c8 c9 c10
          have fA := (Fr.refl none' wr).alloc (.cells #[.int .i64 (A k).d, .int .i64 (A k).s, .int .i64 (A k).n, .bool (A k).wr, .int .u8 ((A k).b : Int), .int .i64 (A k).q.t, .int .i64 (A k).q.i, .bool (A k).q.v, .bool (A k).q.l, .int .i64 (A k).q.r, .int .i64 (A k).q.f] 33)
          have HAB : Hid (Ab (wr.alloc (.cells #[.int .i64 (A k).d, .int .i64 (A k).s, .int .i64 (A k).n, .bool (A k).wr, .int .u8 ((A k).b : Int), .int .i64 (A k).q.t, .int .i64 (A k).q.i, .bool (A k).q.v, .bool (A k).q.l, .int .i64 (A k).q.r, .int .i64 (A k).q.f] 33)) wr.heap.size (A k) Ux Uy) := ⟨row_alloc _ _ _, fun e => by have := HT.out.1.hx.lt _ e; omega, fun e => by have := HT.out.1.hy.lt _ e; omega⟩
          have HTT : Hid (Tw w (wr.alloc (.cells #[.int .i64 (A k).d, .int .i64 (A k).s, .int .i64 (A k).n, .bool (A k).wr, .int .u8 ((A k).b : Int), .int .i64 (A k).q.t, .int .i64 (A k).q.i, .bool (A k).q.v, .bool (A k).q.l, .int .i64 (A k).q.r, .int .i64 (A k).q.f] 33)) x y Ux Uy bs bs S T ∧ Fg bs S T) := ⟨HT.out.1.keep0 fA, HT.out.2⟩
          obtain ⟨W, hW⟩ : ∃ W, W = wr.alloc (.cells #[.int .i64 (A k).d, .int .i64 (A k).s, .int .i64 (A k).n, .bool (A k).wr, .int .u8 ((A k).b : Int), .int .i64 (A k).q.t, .int .i64 (A k).q.i, .bool (A k).q.v, .bool (A k).q.l, .int .i64 (A k).q.r, .int .i64 (A k).q.f] 33) := ⟨_, rfl⟩
          obtain ⟨B, hB⟩ : ∃ B, B = wr.heap.size := ⟨_, rfl⟩
          rw [← hW, ← hB] at HAB
          rw [← hW] at HTT ⊢
          rw [← hB]
          clear hW hB fA HT
          obtain ⟨a, ha⟩ : ∃ a, a = A k := ⟨_, rfl⟩
          rw [← ha] at HAB HBK
          clear ha
          go_cut [88] from 76 to 88 (fun c wx => c = .bool (skA a) ∧ wx = W)
          case first =>
            obtain ⟨c0, c1, c2, c3, c4, c5, c6, c7, c8, c9, c10⟩ := HAB.out.cells
            clear c1 c3 c4 c5 c6 c7 c8 c9 c10
            cases t1 : (a.d == 1) with
            | false =>
              have HQ : Hid (skA a = (a.d == 8)) := (show _ = _ from by unfold skA; rw [t1]; rfl)
              go_wp2_with fail; go_meet; exact ⟨by rw [HQ.out], rfl⟩
            | true =>
              cases t2 : decide (5 < a.n) with
              | false =>
                have HQ : Hid (skA a = (a.d == 8)) := (show _ = _ from by unfold skA; rw [t1, t2]; rfl)
                go_wp2_with fail; go_meet; exact ⟨by rw [HQ.out], rfl⟩
              | true =>
                have HQ : Hid (skA a = true) := (show _ = _ from by unfold skA; rw [t1, t2]; rfl)
                go_wp2_with fail; go_meet; exact ⟨by rw [HQ.out], rfl⟩
          case rest =>
          obtain ⟨rfl, hw⟩ := hcut
          replace hw := hw.symm
          subst hw
          cases hsk : skA a with
          | true =>
            go_wp2_with fail
            go_roundw
            case rel => exact ⟨k + 1, Ux, Uy, bs, S, T, by omega, by omega, by go_num, HTT⟩
            case measure => simp [intOf]; omega
          | false =>
            have HSK : Hid (¬ (a.d = 1 ∧ 5 < a.n) ∧ a.d ≠ 8) := ⟨fun e => by unfold skA at hsk; simp [e.1, e.2] at hsk, fun e => by unfold skA at hsk; simp [e] at hsk⟩
            go_upto_block 4 with fail
            go_cut [12] from 89 to 98 (fun i wx => ∃ (Uy : Nat → Prop) (T : Io), Hid (Tw w wx x y Ux Uy bs bs S T ∧ Fg bs S T ∧ Ab wx B a Ux Uy))
            case first =>
              go_wp2_with fail
              go_loopw [12] (fun i wr => ∃ (j : Nat) (Uy : Nat → Prop) (T : Io), j ≤ 8 ∧ i = .int .i64 j ∧ Hid (Tw w wr x y Ux Uy bs bs S T ∧ Fg bs S T ∧ Ab wr B a Ux Uy)) (fun i _ => 8 - (intOf i).toNat)
              case atStart => exact ⟨0, Uy, T, by omega, rfl, ⟨HTT.out.1, HTT.out.2, HAB.out⟩⟩
              case round =>
                clear HTT HAB
                obtain ⟨j, Uy, T, hj, rfl, HE⟩ := hrel
                by_cases hj8 : j < 8
                · have uj : decide ((j : Int) < 8) = true := decide_eq_true (by omega)
                  obtain ⟨pm, bm, pr, br, bi, ji, O, Q, bs', S', h, hU⟩ := HE.out.1.hy
                  obtain ⟨x0, x1, x2, x3⟩ := h.row
                  go_wp2_with fail
                  refine (ioevict_any _ _ _ _ _ h.io).mono ?_
                  rintro e w4 ⟨rfl, cc⟩
                  obtain ⟨O', h', u⟩ := h.stepI cc
                  rw [← hU] at u
                  have HE' : Hid (Tw w w4 x y Ux (boU y pm bm pr br O' Q) bs bs S (evS T (j : Int)) ∧ Fg bs S (evS T (j : Int)) ∧ Ab w4 B a Ux (boU y pm bm pr br O' Q)) := ⟨HE.out.1.stepY ⟨pm, bm, pr, br, bi, ji, O', Q, bs', S', h', rfl⟩ u, HE.out.2.1.evT _, HE.out.2.2.stepY u⟩
                  clear x0 x1 x2 x3 cc h' u h hU HE
                  go_wp2_with fail
                  go_roundw
                  case rel => exact ⟨j + 1, _, _, by omega, by go_num, HE'⟩
                  case measure => simp [intOf]; omega
                · obtain rfl : j = 8 := by omega
                  go_wp2_with fail
                  go_meet
                  exact ⟨Uy, T, HE⟩
            case rest =>
            clear HTT HAB
            obtain ⟨Uy, T, HE⟩ := hcut
            obtain ⟨k0, k1, k2, k3, k4, k5, k6, k7, k8, k9, k10⟩ := HE.out.2.2.cells
            cases t3 : (a.d == 3) with
            | false =>
              have HD3 : Hid (a.d ≠ 3) := (show _ ≠ _ from by simpa using t3)
              go_wp2_with fail
              refine (does_offI _ _ _ _ _ a HD3.out HSK.out.2 HE.out.1.hx).mono ?_
              rintro e w4 ⟨⟨b1, rfl⟩, Ux1, hx1, u1⟩
              have HE1 : Hid (Tw w w4 x y Ux1 Uy bs bs (actS bs S a) T ∧ Ab w4 B a Ux1 Uy) := ⟨HE.out.1.stepX hx1 u1, HE.out.2.2.stepX u1⟩
              clear hx1 u1 k0 k1 k2 k3 k4 k5 k6 k7 k8 k9 k10
              obtain ⟨k0, k1, k2, k3, k4, k5, k6, k7, k8, k9, k10⟩ := HE1.out.2.cells
              go_wp2_with fail
              refine (does_offI _ _ _ _ _ a HD3.out HSK.out.2 HE1.out.1.hy).mono ?_
              rintro e w5 ⟨⟨b2, rfl⟩, Uy1, hy1, u2⟩
              have HE2 : Hid (Tw w w5 x y Ux1 Uy1 bs bs (actS bs S a) (actS bs T a) ∧ Fg bs (actS bs S a) (actS bs T a)) := ⟨HE1.out.1.stepY hy1 u2, HE.out.2.1.act HSK.out.1 HD3.out⟩
              clear hy1 u2 k0 k1 k2 k3 k4 k5 k6 k7 k8 k9 k10
              go_wp2_with fail
              go_roundw
              case rel => exact ⟨k + 1, _, _, _, _, _, by omega, by omega, by go_num, HE2⟩
              case measure => simp [intOf]; omega
            | true =>
              obtain ⟨⟨g1, g2, g3⟩, hG⟩ := HE.out.2.1.dma HE.out.1.hx.ok a.s a.n a.wr a.b
              obtain ⟨vv, hvv⟩ : ∃ vv, vv = dmaV bs 16 S a.s a.n a.wr a.b := ⟨_, rfl⟩
              obtain ⟨ee, hee⟩ : ∃ ee, ee = dmaE bs 16 S a.s a.n a.wr := ⟨_, rfl⟩
              obtain ⟨bs1, hbs1⟩ : ∃ bs1, bs1 = dmaB bs 16 S a.s a.n a.wr a.b := ⟨_, rfl⟩
              rw [← hvv] at g1
              rw [← hee] at g2
              rw [← hbs1] at g3 hG
              go_upto_region 22 with fail
              obtain ⟨pm, bm, pr, br, bi, ji, O, Q, bs', S', h, hU⟩ := HE.out.1.hx
              have hD := h.keep0 (Fr.refl none' wc).drew
              have rX := h.row
              have hC := dma_bo wc.drew x pm bm pr br bi ji O Q bs bs' S S' a.s a.n a.wr a.b HBK.out vv ee hD hvv.symm hee.symm
              rw [← hbs1] at hC
              have HNB : Hid (¬ boU x pm bm pr br O Q B) := (show ¬ _ from by rw [← hU]; exact HE.out.2.2.nx)
              have HGG : Hid (dmaV bs 16 T a.s a.n a.wr a.b = vv ∧ dmaE bs 16 T a.s a.n a.wr = ee ∧ dmaB bs 16 T a.s a.n a.wr a.b = bs1 ∧ Fg bs1 (dmaS bs 16 S a.s a.n a.wr) (dmaS bs 16 T a.s a.n a.wr)) := ⟨g1, g2, g3, hG⟩
              have HUU : Hid (Ux = boU x pm bm pr br O Q) := hU
              clear hvv hee hbs1 g1 g2 g3 hG k5 k6 k7 k8 k9 k10 h hU
              go_region_held3 (fun w' => w'.cell? ⟨x, 1, none⟩ = some (.pointer (some ⟨bi, 0, none⟩)) ∧ w'.cell? ⟨x, 0, none⟩ = some (.pointer (some ⟨pm, 0, none⟩)) ∧ w'.cell? ⟨B, 1, none⟩ = some (.int .i64 a.s) ∧ w'.cell? ⟨B, 2, none⟩ = some (.int .i64 a.n) ∧ w'.cell? ⟨B, 3, none⟩ = some (.bool a.wr) ∧ w'.cell? ⟨B, 4, none⟩ = some (.int .u8 (a.b : Int))) (first | with_reducible exact ⟨rX.c1, rX.c0, k1, k2, k3, k4⟩ | exact ⟨rX.c1, rX.c0, k1, k2, k3, k4⟩) (first | (go_at_call 15; refine hC.mono ?_; rintro e w4 ⟨rfl, O1, h', u⟩; have fu := (ChgU.none (U := boU x pm bm pr br O Q) (Fr.refl none' wc).drew).trans u; replace k1 := cell_keep fu.1 k1 HNB.out; replace k2 := cell_keep fu.1 k2 HNB.out; replace k3 := cell_keep fu.1 k3 HNB.out; replace k4 := cell_keep fu.1 k4 HNB.out; replace rX := h'.row))
              rw [← HUU.out] at fu
              have HE1 : Hid (Tw w w4 x y (boU x pm bm pr br O1 Q) Uy bs1 bs (dmaS bs 16 S a.s a.n a.wr) T ∧ Ab w4 B a (boU x pm bm pr br O1 Q) Uy) := ⟨HE.out.1.stepX ⟨pm, bm, pr, br, bi, ji, O1, Q, bs', S', h', rfl⟩ fu, HE.out.2.2.stepX fu⟩
              clear hD hC h' u fu rX k0 k1 k2 k3 k4 HNB HUU HE
              go_upto_region 23 with fail
              obtain ⟨k0, k1, k2, k3, k4, k5, k6, k7, k8, k9, k10⟩ := HE1.out.2.cells
              clear k0 k5 k6 k7 k8 k9 k10
              obtain ⟨pm', bm', pr', br', bi', ji', O', Q', bs2, S2, h, hU⟩ := HE1.out.1.hy
              have hD := h.keep0 (Fr.refl none' w4).drew
              have rX := h.row
              have hC := dma_bo w4.drew y pm' bm' pr' br' bi' ji' O' Q' bs bs2 T S2 a.s a.n a.wr a.b HBK.out vv ee hD HGG.out.1 HGG.out.2.1
              rw [HGG.out.2.2.1] at hC
              have HNB : Hid (¬ boU y pm' bm' pr' br' O' Q' B) := (show ¬ _ from by rw [← hU]; exact HE1.out.2.ny)
              have HUU : Hid (Uy = boU y pm' bm' pr' br' O' Q') := hU
              clear h hU
              go_region_held3 (fun w' => w'.cell? ⟨y, 1, none⟩ = some (.pointer (some ⟨bi', 0, none⟩)) ∧ w'.cell? ⟨y, 0, none⟩ = some (.pointer (some ⟨pm', 0, none⟩)) ∧ w'.cell? ⟨B, 1, none⟩ = some (.int .i64 a.s) ∧ w'.cell? ⟨B, 2, none⟩ = some (.int .i64 a.n) ∧ w'.cell? ⟨B, 3, none⟩ = some (.bool a.wr) ∧ w'.cell? ⟨B, 4, none⟩ = some (.int .u8 (a.b : Int))) (first | with_reducible exact ⟨rX.c1, rX.c0, k1, k2, k3, k4⟩ | exact ⟨rX.c1, rX.c0, k1, k2, k3, k4⟩) (first | (go_at_call 15; refine hC.mono ?_; rintro e w5 ⟨rfl, O2, h', u⟩; have fu := (ChgU.none (U := boU y pm' bm' pr' br' O' Q') (Fr.refl none' w4).drew).trans u; replace k1 := cell_keep fu.1 k1 HNB.out; replace k2 := cell_keep fu.1 k2 HNB.out; replace k3 := cell_keep fu.1 k3 HNB.out; replace k4 := cell_keep fu.1 k4 HNB.out; replace rX := h'.row))
              rw [← HUU.out] at fu
              have HE2 : Hid (Tw w w5 x y (boU x pm bm pr br O1 Q) (boU y pm' bm' pr' br' O2 Q') bs1 bs1 (dmaS bs 16 S a.s a.n a.wr) (dmaS bs 16 T a.s a.n a.wr) ∧ Fg bs1 (dmaS bs 16 S a.s a.n a.wr) (dmaS bs 16 T a.s a.n a.wr)) := ⟨HE1.out.1.stepY ⟨pm', bm', pr', br', bi', ji', O2, Q', bs2, S2, h', rfl⟩ fu, HGG.out.2.2.2⟩
              clear hD hC h' u fu rX k1 k2 k3 k4 HNB HUU HE1 HGG
              go_wp2_with fail
              go_roundw
              case rel => exact ⟨k + 1, _, _, _, _, _, by omega, by omega, by go_num, HE2⟩
              case measure => simp [intOf]; omega
        · obtain rfl : k = 100 := by omega
          have uk1 : decide (((100 : Nat) : Int) < (len1 : Int)) = true := decide_eq_true (by omega)
          go_wp2_with fail
          go_meet
          exact ⟨Ux, Uy, bs, S, T, HT.out⟩
      · obtain rfl : k = len1 := by omega
        go_wp2_with fail
        go_meet
        exact ⟨Ux, Uy, bs, S, T, HT.out⟩
  case rest =>
  clear HT0
  obtain ⟨Ux, Uy, bs, S, T, hT, hG⟩ := hcut
  have hre : T.re = S.re := hG.re
  have hm8 : S.re.length ≤ 8 := hT.hx.ok.re
  obtain ⟨m, hm⟩ : ∃ m, m = S.re.length := ⟨_, rfl⟩
  rw [← hm] at hm8
  have HRE : Hid (T.re = S.re ∧ m = S.re.length) := ⟨hre, hm⟩
  have HT : Hid (Tw w wc x y Ux Uy bs bs S T) := hT
  clear hG hT hre hm
  obtain ⟨pm, bm, pr, br, bi, ji, O, Q, bs', S', h, hU⟩ := HT.out.hx
  obtain ⟨x0, x1, x2, x3⟩ := h.row
  go_wp2_with fail
  refine (records_any _ _ _ _ h.io).mono ?_
  rintro e w5 ⟨g5, rfl, hg5, f5, hl5⟩
  rw [← HRE.out.2] at hl5 ⊢
  have HT5 : Hid (Tw w w5 x y Ux Uy bs bs S T ∧ RcS w5 (.slice (some ⟨g5, 0, none⟩) m m) S.re) := ⟨HT.out.keep0 f5, hl5⟩
  clear x0 x1 x2 x3 h hU hg5 f5 hl5 HT
  obtain ⟨pm, bm, pr, br, bi, ji, O, Q, bs', S', h, hU⟩ := HT5.out.1.hy
  obtain ⟨x0, x1, x2, x3⟩ := h.row
  go_wp2_with fail
  refine (records_any _ _ _ _ h.io).mono ?_
  rintro e w6 ⟨g6, rfl, hg6, f6, hl6⟩
  rw [HRE.out.1] at hl6 ⊢
  rw [← HRE.out.2] at hl6 ⊢
  have HV6 : Hid (Fr none' w w6 ∧ RcS w6 (.slice (some ⟨g5, 0, none⟩) m m) S.re ∧ RcS w6 (.slice (some ⟨g6, 0, none⟩) m m) S.re) := ⟨HT5.out.1.fr.trans f6, HT5.out.2.keep f6 (fun _ _ h => h), hl6⟩
  clear x0 x1 x2 x3 h hU hg6 f6 hl6 HT5
  go_wp2_with fail
  go_loopw [19] (fun i wr => ∃ j : Nat, j ≤ m ∧ i = .int .i64 j ∧ Fr none' w6 wr) (fun i _ => m - (intOf i).toNat)
  case atStart => exact ⟨0, by omega, rfl, Fr.refl _ _⟩
  case round =>
    obtain ⟨j, hj, rfl, F6⟩ := hrel
    by_cases hlt : j < m
    · obtain ⟨z, hz⟩ : ∃ z, S.re[j]? = some z := ⟨S.re[j]'(by have := HRE.out.2; omega), by simp⟩
      have hl7 := HV6.out.2.1.keep F6 (fun _ _ h => h)
      have hr7 := HV6.out.2.2.keep F6 (fun _ _ h => h)
      obtain ⟨c0, c1, c2, c3⟩ := hl7.cells hz
      rw [Nat.zero_add] at c0 c1 c2 c3
      obtain ⟨b0, b1, b2, b3⟩ := hr7.cells hz
      rw [Nat.zero_add] at b0 b1 b2 b3
      have i1 : 0 ≤ (j : Int) ∧ (j : Int) < (m : Int) := by omega
      have heq := neq_rec
      have HF6 : Hid (Fr none' w6 wr) := F6
      clear hl7 hr7 F6
      go_wp2_with fail
      go_quiet (fail)
      clear c0 c1 c2 c3 b0 b1 b2 b3 heq
      go_wp2_with fail
      go_roundw
      case rel => exact ⟨j + 1, by omega, by go_num, HF6.out.trans (fr_drewN _ _)⟩
      case measure => simp [intOf]; omega
    · obtain rfl : j = m := by omega
      go_wp2_with fail
      go_ret
      exact ⟨rfl, (HV6.out.1.trans F6).below (Nat.le_refl _) (fun _ h => h.elim)⟩

end Go.Proofs.Ythmombgogmgobaa

/- IoForgProof -/
namespace Go.Proofs.Ythmombgogmgobaa
open Go.ChangeShapes Go.WideShapes Go.ChangeAt Go.RowKit Go.Deep

set_option maxRecDepth 100000 in
theorem ioforg_lifted (os : Os) (started : os.Started) (H : Type) (enc : TypeId × Value → H) :
    ReturnsInHanded {} Try.checked os 5 .any (Rows.iommuForgetsSpec.pre6 enc Try.prog Try.f5 Rows.iommuForgetsRow.domain false) (Rows.iommuForgetsSpec.post enc Try.prog Try.f5 false true false false) := by
  refine returnsInHanded_of_change (C := Try.checked) own_knob started (by kernel_rfl) Try.func5
    (ChangeSpec.witness6 (enc := enc) (C := Try.checked) false ⟨#[], #[.slice none 0 0, .slice none 0 0], []⟩ 8 (by kernel_rfl) (by kernel_rfl) (by kernel_rfl) (by kernel_rfl)) ?_
  intro W base args ds gs before hval0 hW hcnd _
  have hval : ∀ (j : Nat) t v, Try.f5.params[j]? = some t → args[j]? = some v → Value.okWide Try.prog W .any base t v := hval0
  have hW' := hW
  obtain ⟨p, q, hA0, hV, rfl, hfz, hnd⟩ := hW
  have hA : DataW.TrodAll enc Try.prog W 0 (fun _ => true) true Try.f5.params.toList args.toList ds p := hA0
  rw [Try.params5] at hA hval
  obtain ⟨v0, vs0, d0, ds0, p0, q0, hargs, rfl, rfl, h0, r0⟩ := trodAll_cons hA
  obtain ⟨v1, vs1, d1, ds1, p1, q1, rfl, rfl, rfl, h1, r1⟩ := trodAll_cons r0
  obtain ⟨rfl, rfl, rfl⟩ := trodAll_nil r1
  obtain rfl : args = #[v0, v1] := by cases args; simp_all
  obtain ⟨rfl, rfl⟩ := trodVars_none hV
  have k0 := h0
  have lt0 : ∀ x ∈ p0, x.block < W.heap.size := by obtain ⟨m, hm⟩ := k0; exact DataW.trod_lt m _ _ _ hm
  obtain ⟨l0, len0, cap0, rfl⟩ := okWide_slice Try.underlying22 (hval 0 22 v0 rfl rfl)
  obtain ⟨hl0, hacts0⟩ : len0 ≤ 9223372036854775807 ∧ (∃ P, Pqs W l0 len0 P) := by
    obtain ⟨fuel, hf⟩ := h0
    exact puts_open (by simpa [Value.cells] using hf)
  have k1 := h1
  have lt1 : ∀ x ∈ p1, x.block < W.heap.size := by obtain ⟨m, hm⟩ := k1; exact DataW.trod_lt m _ _ _ hm
  obtain ⟨l1, len1, cap1, rfl⟩ := okWide_slice Try.underlying23 (hval 1 23 v1 rfl rfl)
  obtain ⟨hl1, hacts1⟩ : len1 ≤ 9223372036854775807 ∧ (∃ P, Aqs W l1 len1 P) := by
    obtain ⟨fuel, hf⟩ := h1
    exact acts_open (by simpa [Value.cells] using hf)
  clear hA0 hval0
  refine (ioforg_any l0 len0 cap0 l1 len1 cap1 W hl0 hacts0 hl1 hacts1).mono fun e W' ⟨he, bel⟩ => ?_
  subst he
  exact ⟨_, rfl, _, _, _, [], _, [], hW', trodAll_mk1 (shut_bool Try.underlying4 _), (trodAll_cons_mk (Below.trod laid_out (by kernel_rfl) (of_decide_eq_true (by kernel_rfl)) k0 bel lt0) (trodAll_cons_mk (Below.trod laid_out (by kernel_rfl) (of_decide_eq_true (by kernel_rfl)) k1 bel lt1) trodAll_mk0)), rfl, bel.frame _, fun h => by cases h⟩

theorem iommuForgets_holds : Rows.IommuForgetsSaid :=
  OpenClaim.holds_of_wide 5 Try.f5 rfl rfl rfl rfl rfl rfl rfl ⟨rfl, rfl, rfl, rfl, rfl⟩ rfl rfl rfl rfl rfl (by kernel_rfl) Try.func5 (by kernel_rfl)
    (of_decide_eq_true (by kernel_rfl)) (by unfold Func.isWrapper; first | (rw [if_pos (by decide +kernel)]; kernel_rfl) | (rw [if_neg (by decide +kernel)]; exact ⟨rfl, rfl⟩))
    (fun os started H enc _ => ioforg_lifted os started H enc)
#print axioms iommuForgets_holds

end Go.Proofs.Ythmombgogmgobaa

