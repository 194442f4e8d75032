/-
  Plain facts: with whatever right a page was found, with another one that is in what was found it is found at the same place; so a buffer that remembers only what was found tells what both tables tell. No program, no statement.
-/
import Derived.Test.YtknpjfbjalboeaaWalkPure
import Derived.Test.YtknpjfbjalboeaaWalkReachC
namespace Go.Proofs.Ytknpjfbjalboeaa
open Go.RowKit

theorem nested_same {bs : List UInt8} {nf : Nat} {first second page w0 want : Int} (h : (nested bs nf first second page w0).ft.k = 0) (hw : isR want = true) (hb : bits .and .i64 (nested bs nf first second page w0).ri want ≠ 0) :
    (nested bs nf first second page want).ft = f0 ∧ (nested bs nf first second page want).fr = (nested bs nf first second page w0).fr := by
  by_cases h0 : isP page = false ∨ isR w0 = false
  · have : nested bs nf first second page w0 = miss 3 0 0 false 0 := by unfold nested; rw [if_pos h0]
    rw [this] at h; exact absurd (show (3 : Int) = 0 from h) (by decide)
  have hp : isP page = true := by cases h' : isP page with | true => rfl | false => exact absurd (Or.inl h') h0
  have h0' : ¬ (isP page = false ∨ isR want = false) := by simp [hp, hw]
  by_cases hf : first < 0
  · have e : ∀ c : Int, ¬ (isP page = false ∨ isR c = false) → nested bs nf first second page c = granted bs nf second page c := fun c hc => by unfold nested; rw [if_neg hc, if_pos hf]
    rw [e w0 h0] at h hb ⊢
    rw [e want h0']
    obtain ⟨e', h1, _⟩ := granted_ok h
    rw [e'] at hb ⊢
    rw [granted_mk h1 hb]
    exact ⟨((single_range bs nf second page).2.2 h1).1, rfl⟩
  · by_cases h1 : (guest bs nf second first page 0).ft.k = 0
    · by_cases h2 : (guest bs nf second (guest bs nf second first page 0).fr page 1).ft.k = 0
      · have e : ∀ c : Int, ¬ (isP page = false ∨ isR c = false) → bits .and .i64 (guest bs nf second (guest bs nf second first page 0).fr page 1).ri c ≠ 0 → nested bs nf first second page c = ⟨(granted bs nf second (guest bs nf second (guest bs nf second first page 0).fr page 1).fr c).fr,
            bits .and .i64 (granted bs nf second (guest bs nf second (guest bs nf second first page 0).fr page 1).fr c).ri (guest bs nf second (guest bs nf second first page 0).fr page 1).ri, (granted bs nf second (guest bs nf second (guest bs nf second first page 0).fr page 1).fr c).ft⟩ := fun c hc h3 => by
          unfold nested; rw [if_neg hc, if_neg hf, if_neg (by simpa using h1), if_neg (by simpa using h2), if_neg h3]
        by_cases h3 : bits .and .i64 (guest bs nf second (guest bs nf second first page 0).fr page 1).ri w0 = 0
        · have : nested bs nf first second page w0 = miss 2 1 1 false page := by
            unfold nested; rw [if_neg h0, if_neg hf, if_neg (by simpa using h1), if_neg (by simpa using h2), if_pos h3]
          rw [this] at h; exact absurd (show (2 : Int) = 0 from h) (by decide)
        · rw [e w0 h0 h3] at h hb ⊢
          obtain ⟨e', g1, _⟩ := granted_ok h
          simp only [e'] at hb ⊢
          have rg := (guest_range h2).2
          have rs := (single_range bs nf second (guest bs nf second (guest bs nf second first page 0).fr page 1).fr).2.1
          have b1 := and_more _ _ _ rs.1 rs.2 hb
          rw [and_comm' _ _ rs.1 rs.2 rg.1 rg.2] at hb
          have b2 := and_more _ _ _ rg.1 rg.2 hb
          rw [e want h0' b2, granted_mk g1 b1]
          exact ⟨((single_range bs nf second _).2.2 g1).1, rfl⟩
      · have : nested bs nf first second page w0 = guest bs nf second (guest bs nf second first page 0).fr page 1 := by
          unfold nested; rw [if_neg h0, if_neg hf, if_neg (by simpa using h1), if_pos h2]
        rw [this] at h; exact absurd h h2
    · have : nested bs nf first second page w0 = guest bs nf second first page 0 := by
        unfold nested; rw [if_neg h0, if_neg hf, if_pos h1]
      rw [this] at h; exact absurd h h1

/-- A space: its two numbers, the page of its own table, the frame of the other one. -/
structure Spc where (v a f s : Int)

/-- Each line that is remembered is of one of three spaces, and was found so by both tables. -/
def BufOk (bs : List UInt8) (Q : Nat → Spc) (T : Nat → Ln) : Prop :=
  ∀ j, j < 8 → emp (T j) = false → ∃ k : Nat, (T j).v = 1 + (k : Int) ∧ (T j).a = (Q k).a ∧ ∃ w0 : Int, (nested bs 16 (Q k).f (Q k).s (T j).p w0).ft.k = 0 ∧ (nested bs 16 (Q k).f (Q k).s (T j).p w0).fr = (T j).f ∧ (nested bs 16 (Q k).f (Q k).s (T j).p w0).ri = (T j).r

theorem buf_zero' (bs : List UInt8) (Q : Nat → Spc) : BufOk bs Q (fun _ => zl) := fun _ _ h => absurd (show emp zl = false from h) (by decide)

theorem buf_upd {bs : List UInt8} {Q : Nat → Spc} {T : Nat → Ln} (h : BufOk bs Q T) (i : Nat) (l : Ln)
    (hl : emp l = false → ∃ k : Nat, l.v = 1 + (k : Int) ∧ l.a = (Q k).a ∧ ∃ w0 : Int, (nested bs 16 (Q k).f (Q k).s l.p w0).ft.k = 0 ∧ (nested bs 16 (Q k).f (Q k).s l.p w0).fr = l.f ∧ (nested bs 16 (Q k).f (Q k).s l.p w0).ri = l.r) : BufOk bs Q (upd T i l) := fun j hj he => by
  by_cases hi : j = i
  · subst hi; rw [upd_same] at he ⊢; exact hl he
  · rw [upd_other T l hi] at he ⊢; exact h j hj he

theorem buf_wipe {bs : List UInt8} {Q : Nat → Spc} {T : Nat → Ln} (h : BufOk bs Q T) (g : Ln → Bool) : BufOk bs Q (wipe g T) := fun j hj he => by
  rcases wipe_cases g T j with ⟨e, _⟩ | ⟨e, _⟩
  · rw [e] at he; exact absurd he (by decide)
  · rw [e] at he ⊢; exact h j hj he

theorem buf_ev {bs : List UInt8} {Q : Nat → Spc} {T : Nat → Ln} (h : BufOk bs Q T) (i : Int) : BufOk bs Q (evT T i) := by
  unfold evT
  cases inB i 0 7
  · exact h
  · exact buf_upd h _ _ (fun he => absurd he (by decide))

/-- Behind a question the buffer still remembers only what was found. -/
theorem buf_reach {bs : List UInt8} {Q : Nat → Spc} {T : Nat → Ln} (h : BufOk bs Q T) (k : Nat) (page want ix : Int) : BufOk bs Q (reachT bs 16 T (1 + (k : Int)) (Q k).a (Q k).f (Q k).s page want ix) := by
  unfold reachT
  split
  · exact h
  · split
    · rename_i hk
      unfold fillT
      cases inB ix 0 7 && rightL ⟨1 + (k : Int), (Q k).a, page, (nested bs 16 (Q k).f (Q k).s page want).fr, (nested bs 16 (Q k).f (Q k).s page want).ri⟩
      · exact h
      · exact buf_upd (buf_wipe h _) _ _ (fun _ => ⟨k, rfl, rfl, want, hk, rfl, rfl⟩)
    · exact h

/-- The buffer is not seen. -/
theorem reach_same {bs : List UInt8} {Q : Nat → Spc} {T : Nat → Ln} (h : BufOk bs Q T) (k : Nat) (page want : Int) :
    reachF bs 16 T (1 + (k : Int)) (Q k).a (Q k).f (Q k).s page want = (nested bs 16 (Q k).f (Q k).s page want).fr ∧ reachX bs 16 T (1 + (k : Int)) (Q k).a (Q k).f (Q k).s page want = (nested bs 16 (Q k).f (Q k).s page want).ft := by
  cases hh : hitR T (1 + (k : Int)) (Q k).a page want with
  | false => unfold reachF reachX; rw [if_neg (by simp [hh]), if_neg (by simp [hh])]; exact ⟨rfl, rfl⟩
  | true =>
    have e1 : reachF bs 16 T (1 + (k : Int)) (Q k).a (Q k).f (Q k).s page want = ansF T (idx T (1 + (k : Int)) (Q k).a page 8) := by unfold reachF; rw [if_pos hh]
    have e2 : reachX bs 16 T (1 + (k : Int)) (Q k).a (Q k).f (Q k).s page want = f0 := by unfold reachX; rw [if_pos hh]
    rw [e1, e2]
    have hs : ansB (idx T (1 + (k : Int)) (Q k).a page 8) = true ∧ isR want = true ∧ bits .and .i64 (ansR T (idx T (1 + (k : Int)) (Q k).a page 8)) want ≠ 0 := by
      simpa [hitR] using hh
    obtain ⟨a1, a2, a3⟩ := hs
    rcases idx_cases T (1 + (k : Int)) (Q k).a page 8 with ⟨e, _⟩ | ⟨j, hj, e, ht, _⟩
    · rw [e] at a1; exact absurd a1 (by decide)
    · have n0 : ¬ (j : Int) < 0 := by omega
      rw [e] at a3 ⊢
      simp only [ansR, ansF, decide_eq_false n0, cond_false, Int.toNat_natCast] at a3 ⊢
      have hem : emp (T j) = false := by
        unfold hit at ht
        cases hx : emp (T j) <;> simp_all
      have hkey : key (T j) ⟨1 + (k : Int), (Q k).a, page, 0, 0⟩ = true := by
        unfold hit at ht
        simp [hem] at ht
        exact ht
      obtain ⟨k1, _, k3⟩ := key_iff.1 hkey
      obtain ⟨k', v1, _, w0, g1, g2, g3⟩ := h j hj hem
      have hkk : k' = k := by
        have : (T j).v = 1 + (k : Int) := k1
        omega
      subst hkk
      have hpg : (T j).p = page := k3
      rw [hpg] at g1 g2 g3
      rw [← g3] at a3
      obtain ⟨r1, r2⟩ := nested_same g1 a2 a3
      rw [r1, r2, g2]
      exact ⟨rfl, rfl⟩

end Go.Proofs.Ytknpjfbjalboeaa
