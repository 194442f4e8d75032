/-
  Plain facts: while no table changes, what is remembered is what the streams' tables say; so what an access tells hangs on the tables alone. No program, no statement.
-/
import Derived.Test.YthmombgogmgobaaIoDoes
import Derived.Test.YthmombgogmgobaaIoAwake
namespace Go.Proofs.Ythmombgogmgobaa
open Go.RowKit

/-- Each line is what its stream's table says of its page. -/
def Snd (bs : List UInt8) (S : Io) : Prop := ∀ k l, S.ln k = some l → (l.p % 8).toNat = k ∧ (0 ≤ l.p ∧ l.p ≤ 1023) ∧ (0 ≤ l.s ∧ l.s ≤ 15) ∧ S.ro l.s.toNat ≠ -1 ∧ (single bs 16 (S.ro l.s.toNat) l.p).ft.k = 0 ∧ (single bs 16 (S.ro l.s.toNat) l.p).fr = l.f ∧ (single bs 16 (S.ro l.s.toNat) l.p).ri = l.r

theorem snd0 (bs : List UInt8) : Snd bs io0 := fun _ _ h => by cases h
theorem wipe_some {g : Li → Bool} {f : Nat → Option Li} {k : Nat} {l : Li} (h : iowipe g f k = some l) : f k = some l ∧ g l = false := by
  unfold iowipe at h
  split at h
  · cases h
  · rename_i hg
    refine ⟨h, ?_⟩
    rw [h] at hg
    simpa [ohit] using hg
theorem Snd.flush {bs : List UInt8} {S : Io} (h : Snd bs S) (g : Li → Bool) : Snd bs (flushS S g) := fun k l e => h k l (wipe_some e).1
/-- A stream's table turned, and what was remembered of it forgotten. -/
theorem Snd.turn {bs : List UInt8} {S : Io} (h : Snd bs S) {s : Int} (hs : 0 ≤ s ∧ s ≤ 15) (n : Int) : Snd bs { S with ro := ioset S.ro s.toNat n, ln := iowipe (goS s) S.ln } := fun k l e => by
  obtain ⟨e1, e2⟩ := wipe_some e
  obtain ⟨h1, h2, h3, h4⟩ := h k l e1
  have hne : l.s ≠ s := by intro c; simp [goS, c] at e2
  have : ioset S.ro s.toNat n l.s.toNat = S.ro l.s.toNat := ioset_other _ _ (by omega)
  refine ⟨h1, h2, h3, ?_⟩
  show ioset S.ro s.toNat n l.s.toNat ≠ -1 ∧ _
  simp only [this]
  exact h4
theorem Snd.att {bs : List UInt8} {S : Io} (h : Snd bs S) (s n : Int) : Snd bs (attS S s n) := by
  unfold attS
  cases h1 : isS s <;> cases h2 : isF n <;> simp only [Bool.and_true, Bool.and_false, cond_true, cond_false]
  · exact h
  · exact h
  · exact h
  · exact h.turn (isS_iff.mp h1) n
theorem Snd.det {bs : List UInt8} {S : Io} (h : Snd bs S) (s : Int) : Snd bs (detS S s) := by
  unfold detS
  cases h1 : isS s <;> simp only [cond_true, cond_false]
  · exact h
  · exact h.turn (isS_iff.mp h1) (-1)
theorem Snd.ev {bs : List UInt8} {S : Io} (h : Snd bs S) (n : Int) : Snd bs (evS S n) := by
  unfold evS
  cases h1 : isE n <;> simp only [cond_true, cond_false]
  · exact h
  · intro k l e
    by_cases hk : k = n.toNat
    · subst hk; simp only [ioset_same] at e; cases e
    · simp only [ioset_other _ _ hk] at e; exact h k l e
theorem Snd.fnd {bs : List UInt8} {S : Io} (h : Snd bs S) {s p : Int} (hs : 0 ≤ s ∧ s ≤ 15) (hp : 0 ≤ p ∧ p ≤ 1023) (wt : Int) : Snd bs (fndS bs 16 S s p wt) := by
  unfold fndS
  cases okL s p wt (S.ln (p % 8).toNat) <;> simp only [cond_true, cond_false]
  · split
    · rename_i hk
      intro k l e
      by_cases hkk : k = (p % 8).toNat
      · subst hkk
        simp only [ioset_same] at e
        cases e
        have hro : S.ro s.toNat ≠ -1 := by intro c; unfold walkK at hk; rw [if_pos c] at hk; cases hk
        have hft : (single bs 16 (S.ro s.toNat) p).ft.k = 0 := by
          unfold walkK at hk
          rw [if_neg hro] at hk
          by_cases c : (single bs 16 (S.ro s.toNat) p).ft.k = 0
          · exact c
          · rw [if_pos c] at hk; exact hk
        exact ⟨rfl, hp, hs, hro, hft, rfl, rfl⟩
      · simp only [ioset_other _ _ hkk] at e; exact h k l e
    · exact h
  · exact h
theorem Snd.rcd {bs : List UInt8} {S : Io} (h : Snd bs S) (x : Rc) : Snd bs (recS S x) := by
  unfold recS
  split <;> exact h
theorem Snd.dma {bs : List UInt8} {S : Io} (h : Snd bs S) (s a : Int) (wr : Bool) : Snd bs (dmaS bs 16 S s a wr) := by
  unfold dmaS dmaOk
  cases hs : isS s <;> cases ha : isAd a <;> simp only [Bool.and_true, Bool.and_false, cond_true, cond_false]
  · exact h
  · exact h
  · exact h
  · have hs' := isS_iff.mp hs
    have ha' := isAd_iff.mp ha
    split
    · exact h.fnd hs' (by omega) _
    · exact (h.fnd hs' (by omega) _).rcd _

/-- What an act that writes nothing leaves. -/
def quietA (a : Aq) : Bool := a.d != 8 && !(a.d == 3 && a.wr)
theorem quiet_bs {bs : List UInt8} {S : Io} {a : Aq} (h : quietA a = true) : actB bs S a = bs := by
  unfold actB
  unfold quietA at h
  by_cases h3 : a.d = 3
  · rw [if_pos h3]
    have hw : a.wr = false := by simpa [h3] using h
    rw [hw, dmaB_read]
  · rw [if_neg h3]
    have h8 : a.d ≠ 8 := by intro c; simp [c] at h
    rw [if_neg h8]
theorem Snd.act {bs : List UInt8} {S : Io} (h : Snd bs S) (a : Aq) : Snd bs (actS bs S a) := by
  unfold actS
  split
  · exact h.att _ _
  split
  · exact h.det _
  split
  · exact h.dma _ _ _
  split
  · exact h.flush _
  split
  · exact h.flush _
  split
  · exact h.ev _
  split
  · exact h
  · exact h

/-- By the buffer as by the tables. -/
theorem Snd.true' {bs : List UInt8} {S : Io} (h : Snd bs S) (s p wt : Int) : fndK bs 16 S s p wt = walkK bs 16 (S.ro s.toNat) p wt ∧ fndF bs 16 S s p wt = walkFr bs 16 (S.ro s.toNat) p wt := by
  unfold fndK fndF
  cases hok : okL s p wt (S.ln (p % 8).toNat) with
  | false => exact ⟨rfl, rfl⟩
  | true =>
    simp only [cond_true]
    cases hl : S.ln (p % 8).toNat with
    | none => rw [hl] at hok; cases hok
    | some l =>
      rw [hl] at hok
      simp only [okL, Bool.and_eq_true, beq_iff_eq, bne_iff_ne, ne_eq] at hok
      obtain ⟨e1, e2, e3⟩ := hok
      obtain ⟨_, _, _, h4, h5, h6, h7⟩ := h _ l hl
      rw [e1] at h4
      rw [e1, e2] at h5 h6 h7
      have hk : walkK bs 16 (S.ro s.toNat) p wt = 0 := by
        unfold walkK
        rw [if_neg h4, if_neg (by simp [h5]), if_neg (by rw [h7]; exact e3)]
      refine ⟨hk.symm, ?_⟩
      unfold walkFr
      rw [if_pos hk, h6]
      rfl
/-- What an access tells hangs on the stream's table alone. -/
theorem Snd.alike {bs : List UInt8} {S T : Io} (h : Snd bs S) (k : Snd bs T) {s : Int} (a : Int) (wr : Bool) (b : Nat) (hro : isS s = true → S.ro s.toNat = T.ro s.toNat) : dmaE bs 16 S s a wr = dmaE bs 16 T s a wr ∧ dmaV bs 16 S s a wr b = dmaV bs 16 T s a wr b := by
  cases hs : isS s with
  | false => simp [dmaE, dmaV, dmaOk, hs]
  | true =>
    obtain ⟨a1, a2⟩ := h.true' s (a / 64) (wantI wr)
    obtain ⟨b1, b2⟩ := k.true' s (a / 64) (wantI wr)
    rw [hro hs] at a1 a2
    have e1 : dmaK bs 16 S s a wr = dmaK bs 16 T s a wr := by unfold dmaK reaK; rw [a1, a2, b1, b2]
    have e2 : dmaAt bs 16 S s a wr = dmaAt bs 16 T s a wr := by unfold dmaAt reaF; rw [a1, a2, b1, b2]
    unfold dmaE dmaV
    rw [e1, e2]
    exact ⟨rfl, rfl⟩
/-- An act of one stream leaves another one's table. -/
theorem act_ro {bs : List UInt8} {S : Io} {a : Aq} {s : Int} (hs : isS s = true) (hne : a.s ≠ s) : (actS bs S a).ro s.toNat = S.ro s.toNat := by
  have hs' := isS_iff.mp hs
  have set : ∀ {n : Int}, isS a.s = true → ioset S.ro a.s.toNat n s.toNat = S.ro s.toNat := fun {n} h => by
    have := isS_iff.mp h
    exact ioset_other _ _ (by omega)
  unfold actS
  split
  · unfold attS
    cases h1 : isS a.s <;> cases isF a.n <;> simp only [Bool.and_true, Bool.and_false, cond_true, cond_false]
    exact set h1
  split
  · unfold detS
    cases h1 : isS a.s <;> simp only [cond_true, cond_false]
    exact set h1
  split
  · unfold dmaS
    cases dmaOk a.s a.n <;> simp only [cond_true, cond_false]
    split
    · unfold fndS
      cases okL a.s (a.n / 64) (wantI a.wr) (S.ln ((a.n / 64) % 8).toNat) <;> simp only [cond_true, cond_false]
      split <;> rfl
    · unfold recS
      split <;>
      · unfold fndS
        cases okL a.s (a.n / 64) (wantI a.wr) (S.ln ((a.n / 64) % 8).toNat) <;> simp only [cond_true, cond_false]
        split <;> rfl
  split
  · rfl
  split
  · rfl
  split
  · unfold evS
    cases isE a.n <;> rfl
  split
  · rfl
  · rfl

end Go.Proofs.Ythmombgogmgobaa
