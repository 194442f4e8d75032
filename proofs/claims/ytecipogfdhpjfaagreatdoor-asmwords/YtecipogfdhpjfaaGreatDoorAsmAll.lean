/-
  The contract of package asm's 'parseAll' over the translation: what the lines of a source say. No statement is proved here.
-/
import Derived.Test.YtecipogfdhpjfaaGreatDoorAsmParse
namespace Go.Proofs.YtecipogfdhpjfaaGreatDoor
open Go.RowKit

abbrev St := List UInt8 × Int × List Tok
/-- The cells of statements. -/
def Sts (w : World) : List Value → List St → Prop
  | [], [] => True
  | x :: y :: z :: L, st :: S => x = strV st.1 ∧ y = .int .i64 st.2.1 ∧ Toks w z st.2.2 ∧ Sts w L S
  | _, _ => False
theorem Sts.keep {w w' : World} (h : ∀ v l, Toks w v l → Toks w' v l) : ∀ {L : List Value} {S : List St}, Sts w L S → Sts w' L S
  | [], [], _ => trivial
  | _ :: _ :: _ :: _, _ :: _, hs => ⟨hs.1, hs.2.1, h _ _ hs.2.2.1, Sts.keep h hs.2.2.2⟩
  | [], _ :: _, hs => hs.elim
  | [_], [], hs => hs.elim
  | [_], _ :: _, hs => hs.elim
  | [_, _], [], hs => hs.elim
  | [_, _], _ :: _, hs => hs.elim
  | _ :: _ :: _ :: _, [], hs => hs.elim
theorem Sts.snoc {w : World} {x y z : Value} {st : St} (h1 : x = strV st.1) (h2 : y = .int .i64 st.2.1) (h3 : Toks w z st.2.2) : ∀ {L : List Value} {S : List St}, Sts w L S → Sts w (L ++ [x, y, z]) (S ++ [st])
  | [], [], _ => ⟨h1, h2, h3, trivial⟩
  | _ :: _ :: _ :: _, _ :: _, hs => ⟨hs.1, hs.2.1, hs.2.2.1, Sts.snoc h1 h2 h3 hs.2.2.2⟩
  | [], _ :: _, hs => hs.elim
  | [_], [], hs => hs.elim
  | [_], _ :: _, hs => hs.elim
  | [_, _], [], hs => hs.elim
  | [_, _], _ :: _, hs => hs.elim
  | _ :: _ :: _ :: _, [], hs => hs.elim
theorem Toks.grow {w w' : World} {v vs : Value} {l : List Tok} {n B : Nat} {L : List Value} (h : Toks w v l) (o : OwnK 67 3 w B vs n L) (f : Fr (fun q => some q = vs.ownBlock) w w') : Toks w' v l := by
  rcases h with h | ⟨b, off, c, ds, h1, h2, h3, h4⟩
  · exact Or.inl h
  · exact Or.inr ⟨b, off, c, ds, h1, h2, h3.keep f (o.apart h3 (by decide)), h4⟩

theorem info_st : (Tryz.prog.info? 67).map (fun i => (i.zero, i.size, i.bytes)) = some (some (.agg #[.string { data := #[] }, .int .i64 0, .slice none 0 0]), 3, 48) := by kernel_rfl

theorem wpList_st {W : World} {ops : Array Oper} {rest : List Oper} {o : Oper} {a : Act} {Q : Exit → Act → World → Prop} (hgd : o.guard = none) (s x : Operand)
    (ho : o.op = .call { callee := .builtin .append, args := #[s, x], argTypes := #[32, 32] }) (hty : o.type = 32) (vs x1 x2 x3 : Value) (n g : Nat) (L : List Value) (hs : a.eval s = vs) (hx : a.eval x = .slice (some ⟨g, 0, none⟩) 1 1) (hg : g = W.heap.size)
    (B : Nat) (hB : B ≤ W.heap.size) (hO : OwnK 67 3 W B vs n L) (hn : n < 100000) (h1 : ∀ u ∈ [x1, x2, x3], u.oneCell' = true)
    (h : ∀ v' w', Fr (fun q => some q = vs.ownBlock) W w' → OwnK 67 3 w' B v' (n + 1) (L ++ [x1, x2, x3]) → wpList Tryz.prog ops Q rest (a.put o.dst v') w') :
    wpList Tryz.prog ops Q (o :: rest) a (W.alloc (.cells #[x1, x2, x3] 67)) := by
  subst hg
  have hr := row_alloc W #[x1, x2, x3] 67
  obtain ⟨v', w', g1, g2, g3⟩ := append_k (T := 32) Tryz.underlying32 info_st rfl (by omega) (by omega) (W.alloc (.cells #[x1, x2, x3] 67)) B ⟨W.heap.size, 0, none⟩ vs n L [x1, x2, x3] (Nat.le_trans hB (by simp)) (hO.alloc _) (by omega) rfl
    (fun j u hu => by
      rw [add_lit', hr.cell]
      match j, hu with
      | 0, hu => simpa using hu
      | 1, hu => simpa using hu
      | 2, hu => simpa using hu
      | j + 3, hu => simp at hu) h1
  exact wpList_append_runK hgd s x _ ho vs _ hs hx v' w' (by rw [hty]; exact g1) (h v' w' (((Fr.refl _ W).alloc _).trans g2) g3)

/-- The first line that is wrong, from n on; or what the lines say. -/
def allP : List (List UInt8) → Nat → Except (Nat × Nat) (List St)
  | [], _ => .ok []
  | s :: r, n => if (parseP s).1 ≠ 0 then .error (n, (parseP s).1) else match allP r (n + 1) with | .ok S => .ok ((parseP s).2 :: S) | .error e => .error e

theorem split_le : ∀ (s : List UInt8), ∀ x ∈ splitB s, x.length ≤ s.length
  | [], x, hx => by simp [splitB] at hx; subst hx; simp
  | c :: r, x, hx => by
    have ih := split_le r
    unfold splitB at hx
    split at hx
    · rcases List.mem_cons.1 hx with rfl | hx
      · simp
      · have := ih x hx; simp; omega
    · cases hr : splitB r with
      | nil => rw [hr] at hx; simp at hx; subst hx; simp
      | cons y ys =>
        rw [hr] at hx
        rcases List.mem_cons.1 hx with rfl | hx
        · have := ih y (by rw [hr]; simp); simp; omega
        · have := ih x (by rw [hr]; simp [hx]); simp; omega
theorem split_count : ∀ (s : List UInt8), (splitB s).length ≤ s.length + 1
  | [] => by simp [splitB]
  | c :: r => by
    have ih := split_count r
    unfold splitB
    split
    · simp; omega
    · cases hr : splitB r with
      | nil => simp
      | cons y ys => rw [hr] at ih; simp at ih ⊢; omega

theorem lines_any (s : ByteArray) (hs : s.size ≤ 4000) (w : World) (hE : Env w) : Calls Tryz.prog 23 #[.string s, .string { data := #[10] }] w fun e w' => ∃ Lb : List ByteArray, Lb.map (·.data.toList) = splitB s.data.toList ∧ e = .returned (.slice (some ⟨w.heap.size, 0, none⟩) Lb.length Lb.length) ∧ Row w' w.heap.size (Lb.map Value.string).toArray 9 ∧ Fr none' w w' := by
  obtain ⟨m, hm⟩ := hE.ml
  refine (Tryz.strings_Split s { data := #[10] } m w (by omega) hm (by decide)).mono ?_
  rintro e w' ⟨rfl, rfl⟩
  have hl := Lib.splitB_all { data := #[10] } (by decide) 0 (Lib.countB s { data := #[10] }) s rfl
  exact ⟨_, split_eq s, by rw [hl], row_alloc w _ _, (Fr.refl _ _).alloc _⟩

end Go.Proofs.YtecipogfdhpjfaaGreatDoor
