/-
  What is printed is read again as it was: plain facts on the assembler's functions. No program, no statement.
-/
import Derived.Test.YtecipogfdhpjfaaGreatDoorAsmDefs
namespace Go.Proofs.YtecipogfdhpjfaaGreatDoor
open Go.RowKit

theorem dig_wrd {c : UInt8} (h : isDig c = true) : isWrd c = true := by simp [isWrd, h]

theorem run_word (l : List Tok) : ∀ (w v : List UInt8) (ok : Bool), (∀ c ∈ w, isWrd c = true) → w.foldl stepC ⟨l, v, ok⟩ = ⟨l, v ++ w, ok⟩
  | [], v, ok, _ => by simp
  | c :: w, v, ok, h => by
    rw [List.foldl_cons]
    have hc : stepC ⟨l, v, ok⟩ c = ⟨l, v ++ [c], ok⟩ := by unfold stepC; rw [if_pos (h c (by simp))]
    rw [hc, run_word l w (v ++ [c]) ok (fun d hd => h d (by simp [hd]))]
    simp

theorem flush_word {l : List Tok} {w : List UInt8} {t : Tok} (hw : wordT w = some t) (hne : w ≠ []) (ok : Bool) : flush ⟨l, w, ok⟩ = ⟨l ++ [t], [], ok⟩ := by
  unfold flush
  simp only [hne, if_false, hw]
theorem flush_none (l : List Tok) (ok : Bool) : flush ⟨l, [], ok⟩ = ⟨l, [], ok⟩ := by simp [flush]

theorem step_blank (x : Cut) : stepC x 32 = flush x := rfl
theorem step_sign (x : Cut) {c : UInt8} (h : isSgn c = true) (h' : isWrd c = false) : stepC x c = ⟨(flush x).l ++ [Tok.sg c], [], (flush x).ok⟩ := by
  unfold stepC
  rw [if_neg (by simp [h']), if_pos h]

/-- A word, and a blank behind it. -/
theorem word_blank {l : List Tok} {w : List UInt8} {t : Tok} (ha : ∀ c ∈ w, isWrd c = true) (hw : wordT w = some t) (hne : w ≠ []) (r : List UInt8) :
    (w ++ 32 :: r).foldl stepC ⟨l, [], true⟩ = r.foldl stepC ⟨l ++ [t], [], true⟩ := by
  rw [List.foldl_append, run_word l w [] true ha, List.foldl_cons, step_blank, List.nil_append, flush_word hw hne]
/-- A word, and a sign behind it. -/
theorem word_sign {l : List Tok} {w : List UInt8} {t : Tok} (ha : ∀ c ∈ w, isWrd c = true) (hw : wordT w = some t) (hne : w ≠ []) {c : UInt8} (h : isSgn c = true) (h' : isWrd c = false) (r : List UInt8) :
    (w ++ c :: r).foldl stepC ⟨l, [], true⟩ = r.foldl stepC ⟨l ++ [t, Tok.sg c], [], true⟩ := by
  rw [List.foldl_append, run_word l w [] true ha, List.foldl_cons, step_sign _ h h', List.nil_append, flush_word hw hne]
  simp
theorem blank_on (l : List Tok) (r : List UInt8) : (32 :: r).foldl stepC ⟨l, [], true⟩ = r.foldl stepC ⟨l, [], true⟩ := by
  rw [List.foldl_cons, step_blank, flush_none]
theorem sign_on (l : List Tok) {c : UInt8} (h : isSgn c = true) (h' : isWrd c = false) (r : List UInt8) : (c :: r).foldl stepC ⟨l, [], true⟩ = r.foldl stepC ⟨l ++ [Tok.sg c], [], true⟩ := by
  rw [List.foldl_cons, step_sign _ h h', flush_none]
/-- A word at the end. -/
theorem word_end {l : List Tok} {w : List UInt8} {t : Tok} (ha : ∀ c ∈ w, isWrd c = true) (hw : wordT w = some t) (hne : w ≠ []) : flush (w.foldl stepC ⟨l, [], true⟩) = ⟨l ++ [t], [], true⟩ := by
  rw [run_word l w [] true ha, List.nil_append, flush_word hw hne]

theorem code_all {s : List UInt8} (h : ∀ c ∈ s, (c != 59) = true) : code s = s := by
  unfold code
  induction s with
  | nil => rfl
  | cons c s ih => rw [List.takeWhile_cons, if_pos (h c (by simp)), ih (fun d hd => h d (by simp [hd]))]

theorem cut_of {s : List UInt8} {l : List Tok} (h : ∀ c ∈ s, (c != 59) = true) (e : flush (s.foldl stepC ⟨[], [], true⟩) = ⟨l, [], true⟩) : cutT s = some l := by
  unfold cutT cutC
  rw [code_all h, e]
  rfl

/-! Numbers -/

theorem dig_of (d : Nat) (h : d < 10) : isDig (UInt8.ofNat (48 + d)) = true ∧ (UInt8.ofNat (48 + d)).toNat = 48 + d := by
  have : (UInt8.ofNat (48 + d)).toNat = 48 + d := by rw [UInt8.toNat_ofNat']; omega
  refine ⟨?_, this⟩
  unfold isDig
  rw [this]
  simp
  omega

theorem dec_dig (n : Nat) : ∀ c ∈ decB n, isDig c = true := by
  induction n using Nat.strongRecOn with
  | _ n ih =>
    intro c hc
    rw [decB] at hc
    split at hc
    · rw [List.mem_singleton] at hc; subst hc; exact (dig_of n (by omega)).1
    · rw [List.mem_append] at hc
      rcases hc with hc | hc
      · exact ih (n / 10) (by omega) c hc
      · rw [List.mem_singleton] at hc; subst hc; exact (dig_of (n % 10) (by omega)).1

theorem dec_ne (n : Nat) : decB n ≠ [] := by
  rw [decB]
  split <;> simp

theorem decN_append (s : List UInt8) (c : UInt8) : decN (s ++ [c]) = min (10 * decN s + (c.toNat - 48)) 1099511627776 := by
  unfold decN
  rw [List.foldl_append]
  rfl

theorem decN_dec (n : Nat) (h : n < 1099511627776) : decN (decB n) = n := by
  induction n using Nat.strongRecOn with
  | _ n ih =>
    rw [decB]
    split
    · rename_i hn
      show min (10 * 0 + ((UInt8.ofNat (48 + n)).toNat - 48)) 1099511627776 = n
      rw [(dig_of n hn).2]
      omega
    · rw [decN_append, ih (n / 10) (by omega) (by omega), (dig_of (n % 10) (by omega)).2]
      omega

theorem dec_head (n : Nat) (h : 1 < (decB n).length) : (decB n).head? ≠ some 48 := by
  induction n using Nat.strongRecOn with
  | _ n ih =>
    rw [decB] at h ⊢
    split at h
    · simp at h
    · rename_i hn
      rw [dif_neg hn, List.head?_append]
      by_cases h1 : n / 10 < 10
      · rw [decB, dif_pos h1]
        simp only [List.head?_cons, Option.or_some, Option.getD_some, ne_eq, Option.some.injEq]
        intro e
        have := congrArg UInt8.toNat e
        rw [(dig_of (n / 10) h1).2] at this
        have h48 : (48 : UInt8).toNat = 48 := rfl
        omega
      · have hl : 1 < (decB (n / 10)).length := by
          rw [decB, dif_neg h1]
          have := dec_ne (n / 10 / 10)
          have : 0 < (decB (n / 10 / 10)).length := List.length_pos_iff.2 this
          simp
          omega
        have := ih (n / 10) (by omega) hl
        cases hh : (decB (n / 10)).head? with
        | none => exact absurd (List.head?_eq_none_iff.1 hh) (dec_ne _)
        | some x => rw [hh] at this; simpa using this

theorem plain_dec (n : Nat) (h : n < 1099511627776) : plainT (decB n) = some n := by
  unfold plainT
  rw [if_neg (by
    rintro (e | ⟨h1, h2⟩)
    · exact dec_ne n e
    · exact dec_head n h1 h2), if_pos (by rw [List.all_eq_true]; exact dec_dig n), decN_dec n h]

theorem word_dig {s : List UInt8} (hs : s ≠ []) (h : ∀ c ∈ s, isDig c = true) : wordT s = (plainT s).map Tok.num := by
  match s, hs with
  | [c], _ =>
    have hc := h c (by simp)
    unfold wordT
    split
    · rename_i e; simp at e
    · rename_i c' r' _ e
      simp at e
      obtain ⟨rfl, rfl⟩ := e
      rw [if_pos hc]
    · rename_i e; simp at e
  | c :: d :: r, _ =>
    have hc := h c (by simp)
    have hd := h d (by simp)
    unfold wordT
    split
    · rename_i e
      simp at e
      obtain ⟨_, rfl, _⟩ := e
      exact absurd hd (by decide)
    · rename_i c' r' _ e
      simp at e
      obtain ⟨rfl, rfl⟩ := e
      rw [if_pos hc]
    · rename_i e; simp at e

theorem word_num (n : Nat) (h : n < 1099511627776) : wordT (decB n) = some (Tok.num n) := by
  rw [word_dig (dec_ne n) (dec_dig n), plain_dec n h]
  rfl

theorem word_reg (n : Int) (h0 : 0 ≤ n) (h : n ≤ 15) : wordT (regB n) = some (Tok.reg n.toNat) := by
  unfold regB wordT
  split
  · rename_i e; simp at e
  · rename_i c r _ e
    simp at e
    obtain ⟨rfl, rfl⟩ := e
    rw [if_neg (by decide), if_pos ⟨rfl, dec_ne _, by rw [List.all_eq_true]; exact dec_dig _⟩, plain_dec _ (by omega)]
    rfl
  · rename_i e; simp at e

theorem reg_wrd (n : Int) : ∀ c ∈ regB n, isWrd c = true := by
  intro c hc
  unfold regB at hc
  rw [List.mem_cons] at hc
  rcases hc with rfl | hc
  · decide
  · exact dig_wrd (dec_dig _ c hc)
theorem dec_wrd (n : Nat) : ∀ c ∈ decB n, isWrd c = true := fun c hc => dig_wrd (dec_dig n c hc)
theorem reg_ne (n : Int) : regB n ≠ [] := by simp [regB]

/-- Bytes of words are no remark's and no end of a line. -/
theorem wrd_ne {c : UInt8} (h : isWrd c = true) : (c != 59) = true ∧ (c != 10) = true := by
  constructor
  · rw [bne_iff_ne]; intro e; subst e; exact absurd h (by decide)
  · rw [bne_iff_ne]; intro e; subst e; exact absurd h (by decide)

end Go.Proofs.YtecipogfdhpjfaaGreatDoor
