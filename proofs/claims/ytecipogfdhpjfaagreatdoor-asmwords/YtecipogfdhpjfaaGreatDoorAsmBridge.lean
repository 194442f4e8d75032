/-
  The program's reading of a line against the plain assembler's: the same error, and what the operands come to. No program, no statement.
-/
import Derived.Test.YtecipogfdhpjfaaGreatDoorAsmAsm
namespace Go.Proofs.YtecipogfdhpjfaaGreatDoor
open Go.RowKit

/-- Tokens as a line's reading makes them. -/
def PropT (l : List Tok) : Prop := (∀ d, Tok.sg d ∈ l → isSgn d = true) ∧ ∀ s, Tok.nm s ∈ l → s ≠ []
theorem word_prop {w : List UInt8} {t : Tok} (h : wordT w = some t) : PropT [t] := by
  unfold wordT at h
  split at h
  · rename_i r
    cases hx : hexT r <;> rw [hx] at h <;> simp at h
    subst h
    exact ⟨by simp, by simp⟩
  · rename_i c r _
    split at h
    · cases hx : plainT (c :: r) <;> rw [hx] at h <;> simp at h
      subst h
      exact ⟨by simp, by simp⟩
    · split at h
      · cases hx : plainT r <;> rw [hx] at h <;> simp at h
        subst h
        exact ⟨by simp, by simp⟩
      · split at h
        · cases h
          exact ⟨by simp, by simp⟩
        · cases h
  · cases h
theorem prop_app {a b : List Tok} (ha : PropT a) (hb : PropT b) : PropT (a ++ b) :=
  ⟨fun d hd => (List.mem_append.1 hd).elim (ha.1 d) (hb.1 d), fun s hs => (List.mem_append.1 hs).elim (ha.2 s) (hb.2 s)⟩
theorem flush_prop {x : Cut} (h : PropT x.l) : PropT (flush x).l := by
  unfold flush
  split
  · exact h
  · split
    · rename_i t ht
      exact prop_app h (word_prop ht)
    · exact h
theorem step_prop {x : Cut} (c : UInt8) (h : PropT x.l) : PropT (stepC x c).l := by
  unfold stepC
  split
  · exact h
  · split
    · rename_i hs
      exact prop_app (flush_prop h) ⟨fun d hd => by simp at hd; subst hd; exact hs, by simp⟩
    · split
      · exact flush_prop h
      · exact flush_prop h
theorem fold_prop : ∀ (l : List UInt8) (x : Cut), PropT x.l → PropT (l.foldl stepC x).l
  | [], _, h => h
  | c :: l, _, h => fold_prop l _ (step_prop c h)
theorem cut_prop {s : List UInt8} {l : List Tok} (h : cutT s = some l) : PropT l := by
  unfold cutT at h
  split at h
  · cases h
    exact flush_prop (fold_prop _ _ ⟨by simp, by simp⟩)
  · cases h

def alphaB : List UInt8 := [97, 98, 99, 105, 44, 91, 93, 43]
theorem sgn_ne {d : UInt8} (h : isSgn d = true) : d ≠ 97 ∧ d ≠ 98 ∧ d ≠ 99 ∧ d ≠ 105 ∧ d ≠ 119 := by
  simp only [isSgn, Bool.or_eq_true, beq_iff_eq] at h
  rcases h with (((rfl | rfl) | rfl) | rfl) | rfl <;> decide
theorem fit_sg (d c : UInt8) : fitI (.sg d) (c.toNat : Int) = decide (d = c) := by
  simp only [fitI]
  by_cases h : d = c
  · subst h; simp
  · have : ¬ (d.toNat : Int) = (c.toNat : Int) := fun e => h (UInt8.toNat_inj.1 (by omega))
    simp [h, this]
theorem fit_nm (s : List UInt8) : fitI (.nm s) 105 = decide (opOf s = 0) := by
  simp only [fitI]
  by_cases h : opOf s = 0
  · rw [(opP_none s).2 h]; simp [h]
  · have : ¬ opP s = -1 := fun e => h ((opP_none s).1 e)
    simp [h, this]

theorem oper_code (x : Ln6) (c : UInt8) (t : Tok) (hc : c ∈ alphaB) (ht : PropT [t]) : (operT x c t).1 = if fitI t (c.toNat : Int) = false then 61 else if beyI t (c.toNat : Int) = true then 63 else 0 := by
  simp only [alphaB, List.mem_cons, List.mem_nil_iff, or_false] at hc
  cases t with
  | sg d =>
    obtain ⟨n1, n2, n3, n4, _⟩ := sgn_ne (ht.1 d (by simp))
    rw [fit_sg]
    rcases hc with rfl | rfl | rfl | rfl | rfl | rfl | rfl | rfl
    · simp [operT, n1]
    · simp [operT, n2]
    · simp [operT, n3]
    · simp [operT, n4]
    · by_cases hd : d = 44 <;> simp [operT, beyI, hd]
    · by_cases hd : d = 91 <;> simp [operT, beyI, hd]
    · by_cases hd : d = 93 <;> simp [operT, beyI, hd]
    · by_cases hd : d = 43 <;> simp [operT, beyI, hd]
  | reg n =>
    rcases hc with rfl | rfl | rfl | rfl | rfl | rfl | rfl | rfl
    all_goals simp [operT, fitI, beyI]
    all_goals (split <;> simp_all)
  | num n =>
    rcases hc with rfl | rfl | rfl | rfl | rfl | rfl | rfl | rfl
    all_goals simp [operT, fitI, beyI]
    all_goals (split <;> simp_all)
  | nm s =>
    rcases hc with rfl | rfl | rfl | rfl | rfl | rfl | rfl | rfl
    all_goals (try (simp [operT, fitI]; done))
    rw [show ((105 : UInt8).toNat : Int) = 105 from rfl, fit_nm]
    by_cases h : opOf s = 0 <;> simp [operT, h, beyI]

theorem opers_code : ∀ (cs : List UInt8) (ts : List Tok) (x : Ln6) (e : Nat), (∀ c ∈ cs, c ∈ alphaB) → PropT ts → (e = 0 ∨ e = 63) → (opersT cs ts x e).1 = if fitsL cs ts = false then 61 else if beyL cs ts = true then 63 else e
  | [], [], x, e, _, _, _ => by simp [opersT, fitsL, beyL]
  | [], t :: ts, x, e, _, _, _ => by simp [opersT, fitsL]
  | c :: cs, [], x, e, _, _, _ => by simp [opersT, fitsL]
  | c :: cs, t :: ts, x, e, hc, hp, he => by
    have h1 := oper_code x c t (hc c (by simp)) ⟨fun d hd => hp.1 d (by simp at hd; simp [hd]), fun s hs => hp.2 s (by simp at hs; simp [hs])⟩
    have ih := fun e' he' => opers_code cs ts (operT x c t).2 e' (fun c' h' => hc c' (by simp [h'])) ⟨fun d hd => hp.1 d (by simp [hd]), fun s hs => hp.2 s (by simp [hs])⟩ he'
    rw [show fitsL (c :: cs) (t :: ts) = (fitI t (c.toNat : Int) && fitsL cs ts) from rfl, show beyL (c :: cs) (t :: ts) = (beyI t (c.toNat : Int) || beyL cs ts) from rfl]
    unfold opersT
    cases hf : fitI t (c.toNat : Int)
    · rw [hf] at h1
      simp only [if_true] at h1
      rw [if_pos h1]
      simp
    · cases hb : beyI t (c.toNat : Int)
      · rw [hf, hb] at h1
        simp at h1
        rw [if_neg (by rw [h1]; decide), ih _ (by rw [h1]; simpa using he), h1]
        simp
      · rw [hf, hb] at h1
        simp at h1
        rw [if_neg (by rw [h1]; decide), ih _ (by rw [h1]; simp), h1]
        simp

theorem shape_alpha (op : Int) : (∀ c ∈ shapeB op, c ∈ alphaB) ∧ (shapeB op).count 105 ≤ 1 ∧ (shapeB op).head? ≠ some 58 := by
  by_cases h : 1 ≤ op ∧ op ≤ 25
  · have hh : ∀ n : Fin 26, (∀ c ∈ shapeB (n.val : Int), c ∈ alphaB) ∧ (shapeB (n.val : Int)).count 105 ≤ 1 ∧ (shapeB (n.val : Int)).head? ≠ some 58 := by decide +kernel
    have := hh ⟨op.toNat, by omega⟩
    simpa only [show ((op.toNat : Nat) : Int) = op by omega] using this
  · have : shapeB op = [] := by
      unfold shapeB
      rw [if_neg (by omega), kf_none (by omega)]
      rfl
    rw [this]
    simp

/-- What a line's operands come to, by the labels. -/
def finW (m : List UInt8 → Option Int) (op : Int) (y : Ln6) : Int × Bool :=
  if y.nm = [] then (encW op y.a y.b y.c y.i, encE op y.a y.b y.c y.i == 0)
  else match m y.nm with
    | some v => if v ≤ 65535 then (encW op y.a y.b y.c v, encE op y.a y.b y.c v == 0) else (0, false)
    | none => (0, false)

theorem prop_tail {t : Tok} {ts : List Tok} (h : PropT (t :: ts)) : PropT ts := ⟨fun d hd => h.1 d (by simp [hd]), fun s hs => h.2 s (by simp [hs])⟩

theorem mv_reg {m : List UInt8 → Option Int} {n : Nat} (h : n ≤ 15) : mvT m (.reg n) = (n : Int) := by simp only [mvT]; omega
theorem mv_num {m : List UInt8 → Option Int} {n : Nat} (h : n ≤ 65535) : mvT m (.num n) = (n : Int) := by simp only [mvT]; omega

theorem enc_opers2 (m : List UInt8 → Option Int) (op : Int) : ∀ (cs : List UInt8) (ts : List Tok) (x : Ln6) (e : Nat) (i : Int), (∀ c ∈ cs, c ∈ alphaB ∧ c ≠ 105) → PropT ts → fitsL cs ts = true → beyL cs ts = false →
    encR m op cs ts x.a x.b x.c i = (encW op (opersT cs ts x e).2.a (opersT cs ts x e).2.b (opersT cs ts x e).2.c i, encE op (opersT cs ts x e).2.a (opersT cs ts x e).2.b (opersT cs ts x e).2.c i == 0) ∧ (opersT cs ts x e).2.nm = x.nm ∧ (opersT cs ts x e).2.i = x.i
  | [], [], _, _, _, _, _, _, _ => ⟨rfl, rfl, rfl⟩
  | [], t :: ts, _, _, _, _, _, hf, _ => by simp [fitsL] at hf
  | c :: cs, [], _, _, _, _, _, hf, _ => by simp [fitsL] at hf
  | c :: cs, t :: ts, x, e, i, hc, hp, hf, hb => by
    simp only [fitsL, Bool.and_eq_true] at hf
    simp only [beyL, Bool.or_eq_false_iff] at hb
    have ih := fun x' e' => enc_opers2 m op cs ts x' e' i (fun c' h' => hc c' (by simp [h'])) (prop_tail hp) hf.2 hb.2
    obtain ⟨ha, h105⟩ := hc c (by simp)
    simp only [alphaB, List.mem_cons, List.mem_nil_iff, or_false] at ha
    cases t with
    | reg n =>
      have hn : n ≤ 15 := by have := hb.1; simp [beyI] at this; exact this
      have hn' : ¬ 15 < n := by omega
      rcases ha with rfl | rfl | rfl | rfl | rfl | rfl | rfl | rfl
      · have := ih { x with a := (n : Int) } e
        simpa [encR, opersT, operT, moT, mv_reg hn, hn'] using this
      · have := ih { x with b := (n : Int) } e
        simpa [encR, opersT, operT, moT, mv_reg hn, hn'] using this
      · have := ih { x with c := (n : Int) } e
        simpa [encR, opersT, operT, moT, mv_reg hn, hn'] using this
      all_goals (have := hf.1; simp [fitI] at this)
    | num n => rcases ha with rfl | rfl | rfl | rfl | rfl | rfl | rfl | rfl <;> (have := hf.1; simp [fitI] at this h105)
    | nm s => rcases ha with rfl | rfl | rfl | rfl | rfl | rfl | rfl | rfl <;> (have := hf.1; simp [fitI] at this h105)
    | sg d =>
      rw [fit_sg] at hf
      obtain rfl : d = c := by simpa using hf.1
      have := ih x e
      rcases ha with rfl | rfl | rfl | rfl | rfl | rfl | rfl | rfl
      · exact absurd rfl (sgn_ne (hp.1 _ (by simp))).1
      · exact absurd rfl (sgn_ne (hp.1 _ (by simp))).2.1
      · exact absurd rfl (sgn_ne (hp.1 _ (by simp))).2.2.1
      · exact absurd rfl h105
      all_goals simpa [encR, opersT, operT, moT] using this

theorem enc_opers1 (m : List UInt8 → Option Int) (op : Int) : ∀ (cs : List UInt8) (ts : List Tok) (x : Ln6) (e : Nat), (∀ c ∈ cs, c ∈ alphaB) → cs.count 105 ≤ 1 → PropT ts → x.nm = [] → fitsL cs ts = true → beyL cs ts = false → encR m op cs ts x.a x.b x.c x.i = finW m op (opersT cs ts x e).2
  | [], [], x, e, _, _, _, hx, _, _ => by simp [encR, opersT, finW, hx]
  | [], t :: ts, _, _, _, _, _, _, hf, _ => by simp [fitsL] at hf
  | c :: cs, [], _, _, _, _, _, _, hf, _ => by simp [fitsL] at hf
  | c :: cs, t :: ts, x, e, hc, hn1, hp, hx, hf, hb => by
    have hff := hf
    have hbb := hb
    simp only [fitsL, Bool.and_eq_true] at hf
    simp only [beyL, Bool.or_eq_false_iff] at hb
    by_cases h105 : c = 105
    · subst h105
      have hrest : ∀ c ∈ cs, c ∈ alphaB ∧ c ≠ 105 := fun c' h' => ⟨hc c' (by simp [h']), fun e' => by
        subst e'
        have h1 : 1 ≤ cs.count 105 := List.count_pos_iff.2 h'
        rw [List.count_cons_self] at hn1
        omega⟩
      have k2 := fun x' e' i => enc_opers2 m op cs ts x' e' i hrest (prop_tail hp) hf.2 hb.2
      cases t with
      | num n =>
        have hn : n ≤ 65535 := by have := hb.1; simp [beyI] at this; exact this
        have hn' : ¬ 65535 < n := by omega
        obtain ⟨q1, q2, q3⟩ := k2 { x with i := (n : Int) } e (n : Int)
        have e1 : (opersT (105 :: cs) (Tok.num n :: ts) x e).2 = (opersT cs ts { x with i := (n : Int) } e).2 := by simp [opersT, operT, hn']
        rw [e1]
        unfold finW
        rw [if_pos (by rw [q2]; exact hx), q3]
        simpa [encR, moT, mv_num hn] using q1
      | nm s =>
        have hs0 : s ≠ [] := hp.2 s (by simp)
        have hop : opOf s = 0 := by have := hf.1; rw [show ((105 : UInt8).toNat : Int) = 105 from rfl, fit_nm] at this; simpa using this
        have e1 : (opersT (105 :: cs) (Tok.nm s :: ts) x e).2 = (opersT cs ts { x with nm := s } e).2 := by simp [opersT, operT, hop]
        rw [e1]
        unfold finW
        cases hm : m s with
        | none =>
          obtain ⟨_, q2, _⟩ := k2 { x with nm := s } e 0
          rw [if_neg (by rw [q2]; exact hs0), q2]
          simp [encR, moT, hm]
        | some v =>
          obtain ⟨q1, q2, _⟩ := k2 { x with nm := s } e v
          rw [if_neg (by rw [q2]; exact hs0), q2]
          simp only [hm]
          by_cases hv : v ≤ 65535
          · rw [if_pos hv]
            simpa [encR, moT, mvT, hm, hv] using q1
          · rw [if_neg hv]
            simp [encR, moT, hm, hv]
      | reg n => have := hf.1; simp [fitI] at this
      | sg d =>
        rw [fit_sg] at hf
        obtain rfl : d = 105 := by simpa using hf.1
        exact absurd rfl (sgn_ne (hp.1 _ (by simp))).2.2.2.1
    · have hn2 : cs.count 105 ≤ 1 := by rw [List.count_cons_of_ne (by simpa using h105)] at hn1; exact hn1
      have ih := fun x' e' hx' => enc_opers1 m op cs ts x' e' (fun c' h' => hc c' (by simp [h'])) hn2 (prop_tail hp) hx' hf.2 hb.2
      have ha := hc c (by simp)
      simp only [alphaB, List.mem_cons, List.mem_nil_iff, or_false] at ha
      cases t with
      | reg n =>
        have hn : n ≤ 15 := by have := hb.1; simp [beyI] at this; exact this
        have hn' : ¬ 15 < n := by omega
        rcases ha with rfl | rfl | rfl | rfl | rfl | rfl | rfl | rfl
        · have := ih { x with a := (n : Int) } e hx
          simpa [encR, opersT, operT, moT, mv_reg hn, hn'] using this
        · have := ih { x with b := (n : Int) } e hx
          simpa [encR, opersT, operT, moT, mv_reg hn, hn'] using this
        · have := ih { x with c := (n : Int) } e hx
          simpa [encR, opersT, operT, moT, mv_reg hn, hn'] using this
        all_goals (have := hf.1; simp [fitI] at this)
      | num n => rcases ha with rfl | rfl | rfl | rfl | rfl | rfl | rfl | rfl <;> (have := hf.1; simp [fitI] at this h105)
      | nm s => rcases ha with rfl | rfl | rfl | rfl | rfl | rfl | rfl | rfl <;> (have := hf.1; simp [fitI] at this h105)
      | sg d =>
        rw [fit_sg] at hf
        obtain rfl : d = c := by simpa using hf.1
        have := ih x e hx
        rcases ha with rfl | rfl | rfl | rfl | rfl | rfl | rfl | rfl
        · exact absurd rfl (sgn_ne (hp.1 _ (by simp))).1
        · exact absurd rfl (sgn_ne (hp.1 _ (by simp))).2.1
        · exact absurd rfl (sgn_ne (hp.1 _ (by simp))).2.2.1
        · exact absurd rfl h105
        all_goals simpa [encR, opersT, operT, moT] using this

end Go.Proofs.YtecipogfdhpjfaaGreatDoor
