/-
  The contract of package asm's 'read' over the translation: a line's tokens, as a slice of the call's own. No statement is proved here.
-/
import Derived.Test.YtecipogfdhpjfaaGreatDoorAsmRead
namespace Go.Proofs.YtecipogfdhpjfaaGreatDoor
open Go.RowKit

theorem OwnK.alloc {e : TypeId} {k : Nat} {w : World} {B : Nat} {v : Value} {n : Nat} {L : List Value} (h : OwnK e k w B v n L) (o : Obj) : OwnK e k (w.alloc o) B v n L := h.keep0 ((Fr.refl none' w).alloc o)

theorem wpList_tok {W : World} {ops : Array Oper} {rest : List Oper} {o : Oper} {a : Act} {Q : Exit → Act → World → Prop} (hgd : o.guard = none) (s x : Operand)
    (ho : o.op = .call { callee := .builtin .append, args := #[s, x], argTypes := #[65, 65] }) (hty : o.type = 65) (vs tv : Value) (L : List Tok) (t : Tok) (htv : tv = tval t) (hs : a.eval s = vs) (hx : a.eval x = .slice (some ⟨W.heap.size, 0, none⟩) 1 1)
    (B : Nat) (hB : B ≤ W.heap.size) (hO : OwnK 95 1 W B vs L.length (L.map tval)) (hn : L.length < 10000)
    (h : ∀ v' w', Fr (fun q => some q = vs.ownBlock) W w' → OwnK 95 1 w' B v' (L ++ [t]).length ((L ++ [t]).map tval) → wpList Tryz.prog ops Q rest (a.put o.dst v') w') :
    wpList Tryz.prog ops Q (o :: rest) a (W.alloc (.cells #[tv] 95)) := by
  subst htv
  obtain ⟨v', w', h1, h2, h3⟩ := append_tok (W.alloc (.cells #[tval t] 95)) B ⟨W.heap.size, 0, none⟩ vs L t (Nat.le_trans hB (by simp)) (hO.alloc _) hn (by rw [add_lit']; exact (row_alloc W _ _).cell 0)
  refine wpList_append_runK hgd s x _ ho vs _ hs hx v' w' (by rw [hty]; exact h1) (h v' w' ?_ h3)
  exact ((Fr.refl _ W).alloc _).trans h2

theorem cut_any (s : ByteArray) (hs : s.size ≤ 4000) (w : World) (hE : Env w) : Calls Tryz.prog 66 #[.string s, .string { data := #[59] }] w fun e w' => (∃ y z, e = .returned (.tuple #[.string ⟨(code s.data.toList).toArray⟩, y, z])) ∧ Fr none' w w' := by
  obtain ⟨m, hm⟩ := hE.ml
  refine (Tryz.strings_Cut s { data := #[59] } m w (by omega) hm).mono ?_
  rintro e w' ⟨rfl, n, rfl⟩
  exact ⟨⟨.string ⟨(Lib.cut s.data.toList [59]).2.1.toArray⟩, .bool (Lib.cut s.data.toList [59]).2.2, by rw [← cut_code]⟩, fr_drewN w n⟩

def ReadPost (w w' : World) (l : List UInt8) (e : Ending) : Prop :=
  (∃ v, e = .returned (.tuple #[v, .bool (cutT l).isSome]) ∧ (cutT l = none → v = .slice none 0 0) ∧ ∀ ts, cutT l = some ts → OwnK 95 1 w' w.heap.size v ts.length (ts.map tval)) ∧ Fr none' w w'
theorem read_bad {w w' : World} {l : List UInt8} (h : cutT l = none) (f : Fr none' w w') : ReadPost w w' l (.returned (.tuple #[.slice none 0 0, .bool false])) :=
  ⟨⟨_, by rw [h]; rfl, fun _ => rfl, fun ts ht => by rw [h] at ht; cases ht⟩, f⟩
theorem read_good {w w' : World} {l : List UInt8} {ts : List Tok} {v : Value} (h : cutT l = some ts) (f : Fr none' w w') (o : OwnK 95 1 w' w.heap.size v ts.length (ts.map tval)) : ReadPost w w' l (.returned (.tuple #[v, .bool true])) :=
  ⟨⟨v, by rw [h]; rfl, fun h' => absurd (h.symm.trans h') (by simp), fun t ht => by rw [h] at ht; cases ht; exact o⟩, f⟩

theorem ext_data (s : ByteArray) (a b : Nat) : (s.extract a b).data.toList = (s.data.toList.drop a).take (b - a) := Lib.extract_data s a b

/-- What a byte of a line's text is asked, by its rune. -/
theorem rune_at (wr : World) (b : Nat) (T : ByteArray) (p : Nat) (ik : It wr b T p) (h : p < T.size) (c : UInt8) (hc : T[p]'h = c) : ∃ (ρ : Int) (p' : Nat), (∀ ty, (Instr.next (.pointer (some ⟨b, 0, none⟩)) true ty).run Tryz.prog wr = .ok (.tuple #[.bool true, .int .i64 p, .int .i32 ρ]) (itSet wr b T p')) ∧
    (∀ w, Calls Tryz.prog 67 #[.int .i32 ρ] w fun e w' => e = .returned (.bool (isWrd c)) ∧ w' = w) ∧
    (∀ w, Calls Tryz.prog 69 #[.string { data := #[58, 44, 91, 93, 43] }, .int .i32 ρ] w fun e w' => e = .returned (.bool (isSgn c)) ∧ Fr none' w w') ∧
    (∀ w, Calls Tryz.prog 69 #[.string { data := #[32] }, .int .i32 ρ] w fun e w' => e = .returned (.bool (c == 32)) ∧ Fr none' w w') ∧
    (isWrd c = true ∨ isSgn c = true ∨ c = 32 → p' = p + 1 ∧ ρ = (c.toNat : Int)) := by
  by_cases hl : c.toNat < 128
  · refine ⟨(c.toNat : Int), p + 1, fun ty => ?_, fun w => ?_, fun w => ?_, fun w => ?_, fun _ => ⟨rfl, rfl⟩⟩
    · have := next_some (P := Tryz.prog) ik h (by rw [hc]; exact hl) ty
      rw [hc] at this
      exact this
    · have := inword_any (c.toNat : Int) w
      rw [wrd_int] at this
      exact this
    · have := crune_low sgB c hl w
      rw [sgn_idx] at this
      exact this
    · have := crune_low blB c hl w
      rw [bl_idx] at this
      exact this
  · have hd := decode_high T p h (by rw [hc]; omega)
    have hw : isWrd c = false := by
      cases hx : isWrd c
      · rfl
      · exact absurd (wrd_lt hx) hl
    have hs : isSgn c = false := by
      cases hx : isSgn c
      · rfl
      · simp only [isSgn, Bool.or_eq_true, beq_iff_eq] at hx
        rcases hx with (((rfl | rfl) | rfl) | rfl) | rfl <;> exact absurd (by decide) hl
    have hb : (c == 32) = false := by
      cases hx : (c == 32)
      · rfl
      · rw [beq_iff_eq] at hx; subst hx; exact absurd (by decide) hl
    refine ⟨((Utf8.decode T p).1 : Int), p + (Utf8.decode T p).2, fun ty => next_any ik h ty, fun w => ?_, fun w => ?_, fun w => ?_, fun hh => ?_⟩
    · have := inword_any ((Utf8.decode T p).1 : Int) w
      rw [inW_high (by omega)] at this
      rw [hw]
      exact this
    · rw [hs]; exact crune_high sgB (Or.inl rfl) _ (by omega) w
    · rw [hb]; exact crune_high blB (Or.inr rfl) _ (by omega) w
    · rw [hw, hs] at hh
      rcases hh with hh | hh | hh
      · cases hh
      · cases hh
      · subst hh; exact absurd (by decide) hl

theorem step_word {x : Cut} {c : UInt8} (h : isWrd c = true) : stepC x c = ⟨x.l, x.w ++ [c], x.ok⟩ := by unfold stepC; rw [if_pos h]
theorem step_sgn {x : Cut} {c : UInt8} (h : isWrd c = false) (hs : isSgn c = true) : stepC x c = ⟨(flush x).l ++ [Tok.sg c], [], (flush x).ok⟩ := by unfold stepC; rw [if_neg (by rw [h]; simp), if_pos hs]
theorem step_bl {x : Cut} {c : UInt8} (h : isWrd c = false) (hs : isSgn c = false) (hb : (c == 32) = true) : stepC x c = flush x := by unfold stepC; rw [if_neg (by rw [h]; simp), if_neg (by rw [hs]; simp), if_pos (by simpa using hb)]
theorem step_bad {x : Cut} {c : UInt8} (h : isWrd c = false) (hs : isSgn c = false) (hb : (c == 32) = false) : (stepC x c).ok = false := by unfold stepC; rw [if_neg (by rw [h]; simp), if_neg (by rw [hs]; simp), if_neg (by simpa using hb)]
theorem flush_bad {l : List Tok} {wd : List UInt8} (hne : wd ≠ []) (h : wordT wd = none) : (flush ⟨l, wd, true⟩).ok = false := by unfold flush; rw [if_neg hne, h]
theorem flush_good {l : List Tok} {wd : List UInt8} {t : Tok} (hne : wd ≠ []) (h : wordT wd = some t) : flush ⟨l, wd, true⟩ = ⟨l ++ [t], [], true⟩ := by unfold flush; rw [if_neg hne, h]
theorem step_fbad {x : Cut} {c : UInt8} (h : isWrd c = false) (hf : (flush x).ok = false) : (stepC x c).ok = false := by
  unfold stepC
  rw [if_neg (by rw [h]; simp)]
  repeat' split
  all_goals first | exact hf | rfl

end Go.Proofs.YtecipogfdhpjfaaGreatDoor
