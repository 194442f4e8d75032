/-
  Each instruction's line, as it is printed, is read as that instruction: plain facts. No program, no statement.
-/
import Derived.Test.YtecipogfdhpjfaaGreatDoorAsmPrint
namespace Go.Proofs.YtecipogfdhpjfaaGreatDoor
open Go.RowKit

/-- No byte is a remark's or a line's end. -/
def Pr (s : List UInt8) : Prop := ∀ c ∈ s, (c != 59) = true ∧ (c != 10) = true
theorem Pr.nil : Pr [] := fun _ h => by simp at h
theorem Pr.cons {c : UInt8} {s : List UInt8} (h : (c != 59) = true ∧ (c != 10) = true) (k : Pr s) : Pr (c :: s) := fun d hd => by
  rw [List.mem_cons] at hd
  rcases hd with rfl | hd
  · exact h
  · exact k d hd
theorem Pr.app {s t : List UInt8} (h : Pr s) (k : Pr t) : Pr (s ++ t) := fun d hd => by
  rw [List.mem_append] at hd
  rcases hd with hd | hd
  · exact h d hd
  · exact k d hd
theorem pr_word {s : List UInt8} (h : ∀ c ∈ s, isWrd c = true) : Pr s := fun c hc => wrd_ne (h c hc)
theorem pr_reg (n : Int) : Pr (regB n) := pr_word (reg_wrd n)
theorem pr_dec (n : Nat) : Pr (decB n) := pr_word (dec_wrd n)

theorem cut_ai {m : List UInt8} (hm : ∀ c ∈ m, isWrd c = true) (hw : wordT m = some (Tok.nm m)) (hne : m ≠ []) (a i : Int) (ha : 0 ≤ a ∧ a ≤ 15) (hi : 0 ≤ i ∧ i ≤ 65535) :
    Pr (m ++ 32 :: (regB a ++ 44 :: 32 :: decB i.toNat)) ∧ cutT (m ++ 32 :: (regB a ++ 44 :: 32 :: decB i.toNat)) = some [Tok.nm m, Tok.reg a.toNat, Tok.sg 44, Tok.num i.toNat] := by
  have p : Pr (m ++ 32 :: (regB a ++ 44 :: 32 :: decB i.toNat)) := (Pr.app (pr_word hm) (Pr.cons (by decide) (Pr.app (pr_reg a) (Pr.cons (by decide) (Pr.cons (by decide) (pr_dec i.toNat))))))
  refine ⟨p, cut_of (fun c hc => (p c hc).1) ?_⟩
  rw [word_blank hm hw hne, word_sign (reg_wrd a) (word_reg a ha.1 ha.2) (reg_ne a) (by decide) (by decide), blank_on, word_end (dec_wrd i.toNat) (word_num i.toNat (by omega)) (dec_ne i.toNat)]
  rfl

theorem cut_abc {m : List UInt8} (hm : ∀ c ∈ m, isWrd c = true) (hw : wordT m = some (Tok.nm m)) (hne : m ≠ []) (a b c : Int) (ha : 0 ≤ a ∧ a ≤ 15) (hb : 0 ≤ b ∧ b ≤ 15) (hc : 0 ≤ c ∧ c ≤ 15) :
    Pr (m ++ 32 :: (regB a ++ 44 :: 32 :: (regB b ++ 44 :: 32 :: regB c))) ∧ cutT (m ++ 32 :: (regB a ++ 44 :: 32 :: (regB b ++ 44 :: 32 :: regB c))) = some [Tok.nm m, Tok.reg a.toNat, Tok.sg 44, Tok.reg b.toNat, Tok.sg 44, Tok.reg c.toNat] := by
  have p : Pr (m ++ 32 :: (regB a ++ 44 :: 32 :: (regB b ++ 44 :: 32 :: regB c))) := (Pr.app (pr_word hm) (Pr.cons (by decide) (Pr.app (pr_reg a) (Pr.cons (by decide) (Pr.cons (by decide) (Pr.app (pr_reg b) (Pr.cons (by decide) (Pr.cons (by decide) (pr_reg c)))))))))
  refine ⟨p, cut_of (fun c hc => (p c hc).1) ?_⟩
  rw [word_blank hm hw hne, word_sign (reg_wrd a) (word_reg a ha.1 ha.2) (reg_ne a) (by decide) (by decide), blank_on, word_sign (reg_wrd b) (word_reg b hb.1 hb.2) (reg_ne b) (by decide) (by decide), blank_on, word_end (reg_wrd c) (word_reg c hc.1 hc.2) (reg_ne c)]
  rfl

theorem cut_abi {m : List UInt8} (hm : ∀ c ∈ m, isWrd c = true) (hw : wordT m = some (Tok.nm m)) (hne : m ≠ []) (a b i : Int) (ha : 0 ≤ a ∧ a ≤ 15) (hb : 0 ≤ b ∧ b ≤ 15) (hi : 0 ≤ i ∧ i ≤ 65535) :
    Pr (m ++ 32 :: (regB a ++ 44 :: 32 :: (regB b ++ 44 :: 32 :: decB i.toNat))) ∧ cutT (m ++ 32 :: (regB a ++ 44 :: 32 :: (regB b ++ 44 :: 32 :: decB i.toNat))) = some [Tok.nm m, Tok.reg a.toNat, Tok.sg 44, Tok.reg b.toNat, Tok.sg 44, Tok.num i.toNat] := by
  have p : Pr (m ++ 32 :: (regB a ++ 44 :: 32 :: (regB b ++ 44 :: 32 :: decB i.toNat))) := (Pr.app (pr_word hm) (Pr.cons (by decide) (Pr.app (pr_reg a) (Pr.cons (by decide) (Pr.cons (by decide) (Pr.app (pr_reg b) (Pr.cons (by decide) (Pr.cons (by decide) (pr_dec i.toNat)))))))))
  refine ⟨p, cut_of (fun c hc => (p c hc).1) ?_⟩
  rw [word_blank hm hw hne, word_sign (reg_wrd a) (word_reg a ha.1 ha.2) (reg_ne a) (by decide) (by decide), blank_on, word_sign (reg_wrd b) (word_reg b hb.1 hb.2) (reg_ne b) (by decide) (by decide), blank_on, word_end (dec_wrd i.toNat) (word_num i.toNat (by omega)) (dec_ne i.toNat)]
  rfl

theorem cut_mem {m : List UInt8} (hm : ∀ c ∈ m, isWrd c = true) (hw : wordT m = some (Tok.nm m)) (hne : m ≠ []) (a b i : Int) (ha : 0 ≤ a ∧ a ≤ 15) (hb : 0 ≤ b ∧ b ≤ 15) (hi : 0 ≤ i ∧ i ≤ 65535) :
    Pr (m ++ 32 :: (regB a ++ 44 :: 32 :: 91 :: (regB b ++ 32 :: 43 :: 32 :: (decB i.toNat ++ 93 :: [])))) ∧ cutT (m ++ 32 :: (regB a ++ 44 :: 32 :: 91 :: (regB b ++ 32 :: 43 :: 32 :: (decB i.toNat ++ 93 :: [])))) = some [Tok.nm m, Tok.reg a.toNat, Tok.sg 44, Tok.sg 91, Tok.reg b.toNat, Tok.sg 43, Tok.num i.toNat, Tok.sg 93] := by
  have p : Pr (m ++ 32 :: (regB a ++ 44 :: 32 :: 91 :: (regB b ++ 32 :: 43 :: 32 :: (decB i.toNat ++ 93 :: [])))) := (Pr.app (pr_word hm) (Pr.cons (by decide) (Pr.app (pr_reg a) (Pr.cons (by decide) (Pr.cons (by decide) (Pr.cons (by decide) (Pr.app (pr_reg b) (Pr.cons (by decide) (Pr.cons (by decide) (Pr.cons (by decide) (Pr.app (pr_dec i.toNat) (Pr.cons (by decide) Pr.nil))))))))))))
  refine ⟨p, cut_of (fun c hc => (p c hc).1) ?_⟩
  rw [word_blank hm hw hne, word_sign (reg_wrd a) (word_reg a ha.1 ha.2) (reg_ne a) (by decide) (by decide), blank_on, sign_on _ (by decide) (by decide), word_blank (reg_wrd b) (word_reg b hb.1 hb.2) (reg_ne b), sign_on _ (by decide) (by decide), blank_on, word_sign (dec_wrd i.toNat) (word_num i.toNat (by omega)) (dec_ne i.toNat) (by decide) (by decide), List.foldl_nil, flush_none]
  rfl

theorem cut_i {m : List UInt8} (hm : ∀ c ∈ m, isWrd c = true) (hw : wordT m = some (Tok.nm m)) (hne : m ≠ []) (i : Int) (hi : 0 ≤ i ∧ i ≤ 65535) :
    Pr (m ++ 32 :: decB i.toNat) ∧ cutT (m ++ 32 :: decB i.toNat) = some [Tok.nm m, Tok.num i.toNat] := by
  have p : Pr (m ++ 32 :: decB i.toNat) := (Pr.app (pr_word hm) (Pr.cons (by decide) (pr_dec i.toNat)))
  refine ⟨p, cut_of (fun c hc => (p c hc).1) ?_⟩
  rw [word_blank hm hw hne, word_end (dec_wrd i.toNat) (word_num i.toNat (by omega)) (dec_ne i.toNat)]
  rfl

theorem cut_b {m : List UInt8} (hm : ∀ c ∈ m, isWrd c = true) (hw : wordT m = some (Tok.nm m)) (hne : m ≠ []) (b : Int) (hb : 0 ≤ b ∧ b ≤ 15) :
    Pr (m ++ 32 :: regB b) ∧ cutT (m ++ 32 :: regB b) = some [Tok.nm m, Tok.reg b.toNat] := by
  have p : Pr (m ++ 32 :: regB b) := (Pr.app (pr_word hm) (Pr.cons (by decide) (pr_reg b)))
  refine ⟨p, cut_of (fun c hc => (p c hc).1) ?_⟩
  rw [word_blank hm hw hne, word_end (reg_wrd b) (word_reg b hb.1 hb.2) (reg_ne b)]
  rfl

theorem cut_bi {m : List UInt8} (hm : ∀ c ∈ m, isWrd c = true) (hw : wordT m = some (Tok.nm m)) (hne : m ≠ []) (b i : Int) (hb : 0 ≤ b ∧ b ≤ 15) (hi : 0 ≤ i ∧ i ≤ 65535) :
    Pr (m ++ 32 :: (regB b ++ 44 :: 32 :: decB i.toNat)) ∧ cutT (m ++ 32 :: (regB b ++ 44 :: 32 :: decB i.toNat)) = some [Tok.nm m, Tok.reg b.toNat, Tok.sg 44, Tok.num i.toNat] := by
  have p : Pr (m ++ 32 :: (regB b ++ 44 :: 32 :: decB i.toNat)) := (Pr.app (pr_word hm) (Pr.cons (by decide) (Pr.app (pr_reg b) (Pr.cons (by decide) (Pr.cons (by decide) (pr_dec i.toNat))))))
  refine ⟨p, cut_of (fun c hc => (p c hc).1) ?_⟩
  rw [word_blank hm hw hne, word_sign (reg_wrd b) (word_reg b hb.1 hb.2) (reg_ne b) (by decide) (by decide), blank_on, word_end (dec_wrd i.toNat) (word_num i.toNat (by omega)) (dec_ne i.toNat)]
  rfl

theorem cut_a {m : List UInt8} (hm : ∀ c ∈ m, isWrd c = true) (hw : wordT m = some (Tok.nm m)) (hne : m ≠ []) (a : Int) (ha : 0 ≤ a ∧ a ≤ 15) :
    Pr (m ++ 32 :: regB a) ∧ cutT (m ++ 32 :: regB a) = some [Tok.nm m, Tok.reg a.toNat] := by
  have p : Pr (m ++ 32 :: regB a) := (Pr.app (pr_word hm) (Pr.cons (by decide) (pr_reg a)))
  refine ⟨p, cut_of (fun c hc => (p c hc).1) ?_⟩
  rw [word_blank hm hw hne, word_end (reg_wrd a) (word_reg a ha.1 ha.2) (reg_ne a)]
  rfl

theorem cut_none {m : List UInt8} (hm : ∀ c ∈ m, isWrd c = true) (hw : wordT m = some (Tok.nm m)) (hne : m ≠ [])  :
    Pr (m) ∧ cutT (m) = some [Tok.nm m] := by
  have p : Pr (m) := (pr_word hm)
  refine ⟨p, cut_of (fun c hc => (p c hc).1) ?_⟩
  rw [word_end hm hw hne]
  rfl

theorem line_1 (a i : Int) (ha : 0 ≤ a ∧ a ≤ 15) (hi : 0 ≤ i ∧ i ≤ 65535) : Pr (insB 1 a 0 0 i) ∧ lineT (insB 1 a 0 0 i) = (0, ⟨[], 1, 1, a, 0, 0, i, [], 0⟩) := by
  have e : insB 1 a 0 0 i = [109, 111, 118, 105] ++ 32 :: (regB a ++ 44 :: 32 :: decB i.toNat) := by
    unfold insB
    rw [show mnOf 1 = [109, 111, 118, 105] by decide +kernel, show shapeB 1 = [97, 44, 105] by decide +kernel]
    simp [operB]
  obtain ⟨p, q⟩ := cut_ai (m := [109, 111, 118, 105]) (by decide) (by decide +kernel) (by decide) a i ha hi
  rw [e]
  refine ⟨p, ?_⟩
  unfold lineT
  rw [q]
  have ho : opOf [109, 111, 118, 105] = 1 := by decide +kernel
  have hs : shapeB 1 = [97, 44, 105] := by decide +kernel
  simp only [readT, itemT, ho, hs]
  have na : ¬ 15 < a.toNat := by omega
  have ea : ((a.toNat : Nat) : Int) = a := by omega
  have ni : ¬ 65535 < i.toNat := by omega
  have ei : ((i.toNat : Nat) : Int) = i := by omega
  simp [opersT, operT, na, ea, ni, ei]

theorem line_2 (a b c : Int) (ha : 0 ≤ a ∧ a ≤ 15) (hb : 0 ≤ b ∧ b ≤ 15) (hc : 0 ≤ c ∧ c ≤ 15) : Pr (insB 2 a b c 0) ∧ lineT (insB 2 a b c 0) = (0, ⟨[], 1, 2, a, b, c, 0, [], 0⟩) := by
  have e : insB 2 a b c 0 = [97, 100, 100] ++ 32 :: (regB a ++ 44 :: 32 :: (regB b ++ 44 :: 32 :: regB c)) := by
    unfold insB
    rw [show mnOf 2 = [97, 100, 100] by decide +kernel, show shapeB 2 = [97, 44, 98, 44, 99] by decide +kernel]
    simp [operB]
  obtain ⟨p, q⟩ := cut_abc (m := [97, 100, 100]) (by decide) (by decide +kernel) (by decide) a b c ha hb hc
  rw [e]
  refine ⟨p, ?_⟩
  unfold lineT
  rw [q]
  have ho : opOf [97, 100, 100] = 2 := by decide +kernel
  have hs : shapeB 2 = [97, 44, 98, 44, 99] := by decide +kernel
  simp only [readT, itemT, ho, hs]
  have na : ¬ 15 < a.toNat := by omega
  have ea : ((a.toNat : Nat) : Int) = a := by omega
  have nb : ¬ 15 < b.toNat := by omega
  have eb : ((b.toNat : Nat) : Int) = b := by omega
  have nc : ¬ 15 < c.toNat := by omega
  have ec : ((c.toNat : Nat) : Int) = c := by omega
  simp [opersT, operT, na, ea, nb, eb, nc, ec]

theorem line_3 (a b c : Int) (ha : 0 ≤ a ∧ a ≤ 15) (hb : 0 ≤ b ∧ b ≤ 15) (hc : 0 ≤ c ∧ c ≤ 15) : Pr (insB 3 a b c 0) ∧ lineT (insB 3 a b c 0) = (0, ⟨[], 1, 3, a, b, c, 0, [], 0⟩) := by
  have e : insB 3 a b c 0 = [115, 117, 98] ++ 32 :: (regB a ++ 44 :: 32 :: (regB b ++ 44 :: 32 :: regB c)) := by
    unfold insB
    rw [show mnOf 3 = [115, 117, 98] by decide +kernel, show shapeB 3 = [97, 44, 98, 44, 99] by decide +kernel]
    simp [operB]
  obtain ⟨p, q⟩ := cut_abc (m := [115, 117, 98]) (by decide) (by decide +kernel) (by decide) a b c ha hb hc
  rw [e]
  refine ⟨p, ?_⟩
  unfold lineT
  rw [q]
  have ho : opOf [115, 117, 98] = 3 := by decide +kernel
  have hs : shapeB 3 = [97, 44, 98, 44, 99] := by decide +kernel
  simp only [readT, itemT, ho, hs]
  have na : ¬ 15 < a.toNat := by omega
  have ea : ((a.toNat : Nat) : Int) = a := by omega
  have nb : ¬ 15 < b.toNat := by omega
  have eb : ((b.toNat : Nat) : Int) = b := by omega
  have nc : ¬ 15 < c.toNat := by omega
  have ec : ((c.toNat : Nat) : Int) = c := by omega
  simp [opersT, operT, na, ea, nb, eb, nc, ec]

theorem line_4 (a b c : Int) (ha : 0 ≤ a ∧ a ≤ 15) (hb : 0 ≤ b ∧ b ≤ 15) (hc : 0 ≤ c ∧ c ≤ 15) : Pr (insB 4 a b c 0) ∧ lineT (insB 4 a b c 0) = (0, ⟨[], 1, 4, a, b, c, 0, [], 0⟩) := by
  have e : insB 4 a b c 0 = [97, 110, 100] ++ 32 :: (regB a ++ 44 :: 32 :: (regB b ++ 44 :: 32 :: regB c)) := by
    unfold insB
    rw [show mnOf 4 = [97, 110, 100] by decide +kernel, show shapeB 4 = [97, 44, 98, 44, 99] by decide +kernel]
    simp [operB]
  obtain ⟨p, q⟩ := cut_abc (m := [97, 110, 100]) (by decide) (by decide +kernel) (by decide) a b c ha hb hc
  rw [e]
  refine ⟨p, ?_⟩
  unfold lineT
  rw [q]
  have ho : opOf [97, 110, 100] = 4 := by decide +kernel
  have hs : shapeB 4 = [97, 44, 98, 44, 99] := by decide +kernel
  simp only [readT, itemT, ho, hs]
  have na : ¬ 15 < a.toNat := by omega
  have ea : ((a.toNat : Nat) : Int) = a := by omega
  have nb : ¬ 15 < b.toNat := by omega
  have eb : ((b.toNat : Nat) : Int) = b := by omega
  have nc : ¬ 15 < c.toNat := by omega
  have ec : ((c.toNat : Nat) : Int) = c := by omega
  simp [opersT, operT, na, ea, nb, eb, nc, ec]

theorem line_5 (a b c : Int) (ha : 0 ≤ a ∧ a ≤ 15) (hb : 0 ≤ b ∧ b ≤ 15) (hc : 0 ≤ c ∧ c ≤ 15) : Pr (insB 5 a b c 0) ∧ lineT (insB 5 a b c 0) = (0, ⟨[], 1, 5, a, b, c, 0, [], 0⟩) := by
  have e : insB 5 a b c 0 = [120, 111, 114] ++ 32 :: (regB a ++ 44 :: 32 :: (regB b ++ 44 :: 32 :: regB c)) := by
    unfold insB
    rw [show mnOf 5 = [120, 111, 114] by decide +kernel, show shapeB 5 = [97, 44, 98, 44, 99] by decide +kernel]
    simp [operB]
  obtain ⟨p, q⟩ := cut_abc (m := [120, 111, 114]) (by decide) (by decide +kernel) (by decide) a b c ha hb hc
  rw [e]
  refine ⟨p, ?_⟩
  unfold lineT
  rw [q]
  have ho : opOf [120, 111, 114] = 5 := by decide +kernel
  have hs : shapeB 5 = [97, 44, 98, 44, 99] := by decide +kernel
  simp only [readT, itemT, ho, hs]
  have na : ¬ 15 < a.toNat := by omega
  have ea : ((a.toNat : Nat) : Int) = a := by omega
  have nb : ¬ 15 < b.toNat := by omega
  have eb : ((b.toNat : Nat) : Int) = b := by omega
  have nc : ¬ 15 < c.toNat := by omega
  have ec : ((c.toNat : Nat) : Int) = c := by omega
  simp [opersT, operT, na, ea, nb, eb, nc, ec]

theorem line_6 (a b c : Int) (ha : 0 ≤ a ∧ a ≤ 15) (hb : 0 ≤ b ∧ b ≤ 15) (hc : 0 ≤ c ∧ c ≤ 15) : Pr (insB 6 a b c 0) ∧ lineT (insB 6 a b c 0) = (0, ⟨[], 1, 6, a, b, c, 0, [], 0⟩) := by
  have e : insB 6 a b c 0 = [115, 104, 108] ++ 32 :: (regB a ++ 44 :: 32 :: (regB b ++ 44 :: 32 :: regB c)) := by
    unfold insB
    rw [show mnOf 6 = [115, 104, 108] by decide +kernel, show shapeB 6 = [97, 44, 98, 44, 99] by decide +kernel]
    simp [operB]
  obtain ⟨p, q⟩ := cut_abc (m := [115, 104, 108]) (by decide) (by decide +kernel) (by decide) a b c ha hb hc
  rw [e]
  refine ⟨p, ?_⟩
  unfold lineT
  rw [q]
  have ho : opOf [115, 104, 108] = 6 := by decide +kernel
  have hs : shapeB 6 = [97, 44, 98, 44, 99] := by decide +kernel
  simp only [readT, itemT, ho, hs]
  have na : ¬ 15 < a.toNat := by omega
  have ea : ((a.toNat : Nat) : Int) = a := by omega
  have nb : ¬ 15 < b.toNat := by omega
  have eb : ((b.toNat : Nat) : Int) = b := by omega
  have nc : ¬ 15 < c.toNat := by omega
  have ec : ((c.toNat : Nat) : Int) = c := by omega
  simp [opersT, operT, na, ea, nb, eb, nc, ec]

theorem line_7 (a b i : Int) (ha : 0 ≤ a ∧ a ≤ 15) (hb : 0 ≤ b ∧ b ≤ 15) (hi : 0 ≤ i ∧ i ≤ 65535) : Pr (insB 7 a b 0 i) ∧ lineT (insB 7 a b 0 i) = (0, ⟨[], 1, 7, a, b, 0, i, [], 0⟩) := by
  have e : insB 7 a b 0 i = [108, 100, 114] ++ 32 :: (regB a ++ 44 :: 32 :: 91 :: (regB b ++ 32 :: 43 :: 32 :: (decB i.toNat ++ 93 :: []))) := by
    unfold insB
    rw [show mnOf 7 = [108, 100, 114] by decide +kernel, show shapeB 7 = [97, 44, 91, 98, 43, 105, 93] by decide +kernel]
    simp [operB]
  obtain ⟨p, q⟩ := cut_mem (m := [108, 100, 114]) (by decide) (by decide +kernel) (by decide) a b i ha hb hi
  rw [e]
  refine ⟨p, ?_⟩
  unfold lineT
  rw [q]
  have ho : opOf [108, 100, 114] = 7 := by decide +kernel
  have hs : shapeB 7 = [97, 44, 91, 98, 43, 105, 93] := by decide +kernel
  simp only [readT, itemT, ho, hs]
  have na : ¬ 15 < a.toNat := by omega
  have ea : ((a.toNat : Nat) : Int) = a := by omega
  have nb : ¬ 15 < b.toNat := by omega
  have eb : ((b.toNat : Nat) : Int) = b := by omega
  have ni : ¬ 65535 < i.toNat := by omega
  have ei : ((i.toNat : Nat) : Int) = i := by omega
  simp [opersT, operT, na, ea, nb, eb, ni, ei]

theorem line_8 (a b i : Int) (ha : 0 ≤ a ∧ a ≤ 15) (hb : 0 ≤ b ∧ b ≤ 15) (hi : 0 ≤ i ∧ i ≤ 65535) : Pr (insB 8 a b 0 i) ∧ lineT (insB 8 a b 0 i) = (0, ⟨[], 1, 8, a, b, 0, i, [], 0⟩) := by
  have e : insB 8 a b 0 i = [115, 116, 114] ++ 32 :: (regB a ++ 44 :: 32 :: 91 :: (regB b ++ 32 :: 43 :: 32 :: (decB i.toNat ++ 93 :: []))) := by
    unfold insB
    rw [show mnOf 8 = [115, 116, 114] by decide +kernel, show shapeB 8 = [97, 44, 91, 98, 43, 105, 93] by decide +kernel]
    simp [operB]
  obtain ⟨p, q⟩ := cut_mem (m := [115, 116, 114]) (by decide) (by decide +kernel) (by decide) a b i ha hb hi
  rw [e]
  refine ⟨p, ?_⟩
  unfold lineT
  rw [q]
  have ho : opOf [115, 116, 114] = 8 := by decide +kernel
  have hs : shapeB 8 = [97, 44, 91, 98, 43, 105, 93] := by decide +kernel
  simp only [readT, itemT, ho, hs]
  have na : ¬ 15 < a.toNat := by omega
  have ea : ((a.toNat : Nat) : Int) = a := by omega
  have nb : ¬ 15 < b.toNat := by omega
  have eb : ((b.toNat : Nat) : Int) = b := by omega
  have ni : ¬ 65535 < i.toNat := by omega
  have ei : ((i.toNat : Nat) : Int) = i := by omega
  simp [opersT, operT, na, ea, nb, eb, ni, ei]

theorem line_9 (a b i : Int) (ha : 0 ≤ a ∧ a ≤ 15) (hb : 0 ≤ b ∧ b ≤ 15) (hi : 0 ≤ i ∧ i ≤ 65535) : Pr (insB 9 a b 0 i) ∧ lineT (insB 9 a b 0 i) = (0, ⟨[], 1, 9, a, b, 0, i, [], 0⟩) := by
  have e : insB 9 a b 0 i = [108, 100, 114, 98] ++ 32 :: (regB a ++ 44 :: 32 :: 91 :: (regB b ++ 32 :: 43 :: 32 :: (decB i.toNat ++ 93 :: []))) := by
    unfold insB
    rw [show mnOf 9 = [108, 100, 114, 98] by decide +kernel, show shapeB 9 = [97, 44, 91, 98, 43, 105, 93] by decide +kernel]
    simp [operB]
  obtain ⟨p, q⟩ := cut_mem (m := [108, 100, 114, 98]) (by decide) (by decide +kernel) (by decide) a b i ha hb hi
  rw [e]
  refine ⟨p, ?_⟩
  unfold lineT
  rw [q]
  have ho : opOf [108, 100, 114, 98] = 9 := by decide +kernel
  have hs : shapeB 9 = [97, 44, 91, 98, 43, 105, 93] := by decide +kernel
  simp only [readT, itemT, ho, hs]
  have na : ¬ 15 < a.toNat := by omega
  have ea : ((a.toNat : Nat) : Int) = a := by omega
  have nb : ¬ 15 < b.toNat := by omega
  have eb : ((b.toNat : Nat) : Int) = b := by omega
  have ni : ¬ 65535 < i.toNat := by omega
  have ei : ((i.toNat : Nat) : Int) = i := by omega
  simp [opersT, operT, na, ea, nb, eb, ni, ei]

theorem line_10 (a b i : Int) (ha : 0 ≤ a ∧ a ≤ 15) (hb : 0 ≤ b ∧ b ≤ 15) (hi : 0 ≤ i ∧ i ≤ 65535) : Pr (insB 10 a b 0 i) ∧ lineT (insB 10 a b 0 i) = (0, ⟨[], 1, 10, a, b, 0, i, [], 0⟩) := by
  have e : insB 10 a b 0 i = [115, 116, 114, 98] ++ 32 :: (regB a ++ 44 :: 32 :: 91 :: (regB b ++ 32 :: 43 :: 32 :: (decB i.toNat ++ 93 :: []))) := by
    unfold insB
    rw [show mnOf 10 = [115, 116, 114, 98] by decide +kernel, show shapeB 10 = [97, 44, 91, 98, 43, 105, 93] by decide +kernel]
    simp [operB]
  obtain ⟨p, q⟩ := cut_mem (m := [115, 116, 114, 98]) (by decide) (by decide +kernel) (by decide) a b i ha hb hi
  rw [e]
  refine ⟨p, ?_⟩
  unfold lineT
  rw [q]
  have ho : opOf [115, 116, 114, 98] = 10 := by decide +kernel
  have hs : shapeB 10 = [97, 44, 91, 98, 43, 105, 93] := by decide +kernel
  simp only [readT, itemT, ho, hs]
  have na : ¬ 15 < a.toNat := by omega
  have ea : ((a.toNat : Nat) : Int) = a := by omega
  have nb : ¬ 15 < b.toNat := by omega
  have eb : ((b.toNat : Nat) : Int) = b := by omega
  have ni : ¬ 65535 < i.toNat := by omega
  have ei : ((i.toNat : Nat) : Int) = i := by omega
  simp [opersT, operT, na, ea, nb, eb, ni, ei]

theorem line_11 (a b i : Int) (ha : 0 ≤ a ∧ a ≤ 15) (hb : 0 ≤ b ∧ b ≤ 15) (hi : 0 ≤ i ∧ i ≤ 65535) : Pr (insB 11 a b 0 i) ∧ lineT (insB 11 a b 0 i) = (0, ⟨[], 1, 11, a, b, 0, i, [], 0⟩) := by
  have e : insB 11 a b 0 i = [98, 101, 113] ++ 32 :: (regB a ++ 44 :: 32 :: (regB b ++ 44 :: 32 :: decB i.toNat)) := by
    unfold insB
    rw [show mnOf 11 = [98, 101, 113] by decide +kernel, show shapeB 11 = [97, 44, 98, 44, 105] by decide +kernel]
    simp [operB]
  obtain ⟨p, q⟩ := cut_abi (m := [98, 101, 113]) (by decide) (by decide +kernel) (by decide) a b i ha hb hi
  rw [e]
  refine ⟨p, ?_⟩
  unfold lineT
  rw [q]
  have ho : opOf [98, 101, 113] = 11 := by decide +kernel
  have hs : shapeB 11 = [97, 44, 98, 44, 105] := by decide +kernel
  simp only [readT, itemT, ho, hs]
  have na : ¬ 15 < a.toNat := by omega
  have ea : ((a.toNat : Nat) : Int) = a := by omega
  have nb : ¬ 15 < b.toNat := by omega
  have eb : ((b.toNat : Nat) : Int) = b := by omega
  have ni : ¬ 65535 < i.toNat := by omega
  have ei : ((i.toNat : Nat) : Int) = i := by omega
  simp [opersT, operT, na, ea, nb, eb, ni, ei]

theorem line_12 (a b i : Int) (ha : 0 ≤ a ∧ a ≤ 15) (hb : 0 ≤ b ∧ b ≤ 15) (hi : 0 ≤ i ∧ i ≤ 65535) : Pr (insB 12 a b 0 i) ∧ lineT (insB 12 a b 0 i) = (0, ⟨[], 1, 12, a, b, 0, i, [], 0⟩) := by
  have e : insB 12 a b 0 i = [98, 110, 101] ++ 32 :: (regB a ++ 44 :: 32 :: (regB b ++ 44 :: 32 :: decB i.toNat)) := by
    unfold insB
    rw [show mnOf 12 = [98, 110, 101] by decide +kernel, show shapeB 12 = [97, 44, 98, 44, 105] by decide +kernel]
    simp [operB]
  obtain ⟨p, q⟩ := cut_abi (m := [98, 110, 101]) (by decide) (by decide +kernel) (by decide) a b i ha hb hi
  rw [e]
  refine ⟨p, ?_⟩
  unfold lineT
  rw [q]
  have ho : opOf [98, 110, 101] = 12 := by decide +kernel
  have hs : shapeB 12 = [97, 44, 98, 44, 105] := by decide +kernel
  simp only [readT, itemT, ho, hs]
  have na : ¬ 15 < a.toNat := by omega
  have ea : ((a.toNat : Nat) : Int) = a := by omega
  have nb : ¬ 15 < b.toNat := by omega
  have eb : ((b.toNat : Nat) : Int) = b := by omega
  have ni : ¬ 65535 < i.toNat := by omega
  have ei : ((i.toNat : Nat) : Int) = i := by omega
  simp [opersT, operT, na, ea, nb, eb, ni, ei]

theorem line_13 (a b i : Int) (ha : 0 ≤ a ∧ a ≤ 15) (hb : 0 ≤ b ∧ b ≤ 15) (hi : 0 ≤ i ∧ i ≤ 65535) : Pr (insB 13 a b 0 i) ∧ lineT (insB 13 a b 0 i) = (0, ⟨[], 1, 13, a, b, 0, i, [], 0⟩) := by
  have e : insB 13 a b 0 i = [98, 108, 116] ++ 32 :: (regB a ++ 44 :: 32 :: (regB b ++ 44 :: 32 :: decB i.toNat)) := by
    unfold insB
    rw [show mnOf 13 = [98, 108, 116] by decide +kernel, show shapeB 13 = [97, 44, 98, 44, 105] by decide +kernel]
    simp [operB]
  obtain ⟨p, q⟩ := cut_abi (m := [98, 108, 116]) (by decide) (by decide +kernel) (by decide) a b i ha hb hi
  rw [e]
  refine ⟨p, ?_⟩
  unfold lineT
  rw [q]
  have ho : opOf [98, 108, 116] = 13 := by decide +kernel
  have hs : shapeB 13 = [97, 44, 98, 44, 105] := by decide +kernel
  simp only [readT, itemT, ho, hs]
  have na : ¬ 15 < a.toNat := by omega
  have ea : ((a.toNat : Nat) : Int) = a := by omega
  have nb : ¬ 15 < b.toNat := by omega
  have eb : ((b.toNat : Nat) : Int) = b := by omega
  have ni : ¬ 65535 < i.toNat := by omega
  have ei : ((i.toNat : Nat) : Int) = i := by omega
  simp [opersT, operT, na, ea, nb, eb, ni, ei]

theorem line_14 (i : Int) (hi : 0 ≤ i ∧ i ≤ 65535) : Pr (insB 14 0 0 0 i) ∧ lineT (insB 14 0 0 0 i) = (0, ⟨[], 1, 14, 0, 0, 0, i, [], 0⟩) := by
  have e : insB 14 0 0 0 i = [106, 109, 112] ++ 32 :: decB i.toNat := by
    unfold insB
    rw [show mnOf 14 = [106, 109, 112] by decide +kernel, show shapeB 14 = [105] by decide +kernel]
    simp [operB]
  obtain ⟨p, q⟩ := cut_i (m := [106, 109, 112]) (by decide) (by decide +kernel) (by decide) i hi
  rw [e]
  refine ⟨p, ?_⟩
  unfold lineT
  rw [q]
  have ho : opOf [106, 109, 112] = 14 := by decide +kernel
  have hs : shapeB 14 = [105] := by decide +kernel
  simp only [readT, itemT, ho, hs]
  have ni : ¬ 65535 < i.toNat := by omega
  have ei : ((i.toNat : Nat) : Int) = i := by omega
  simp [opersT, operT, ni, ei]

theorem line_15 (a i : Int) (ha : 0 ≤ a ∧ a ≤ 15) (hi : 0 ≤ i ∧ i ≤ 65535) : Pr (insB 15 a 0 0 i) ∧ lineT (insB 15 a 0 0 i) = (0, ⟨[], 1, 15, a, 0, 0, i, [], 0⟩) := by
  have e : insB 15 a 0 0 i = [106, 97, 108] ++ 32 :: (regB a ++ 44 :: 32 :: decB i.toNat) := by
    unfold insB
    rw [show mnOf 15 = [106, 97, 108] by decide +kernel, show shapeB 15 = [97, 44, 105] by decide +kernel]
    simp [operB]
  obtain ⟨p, q⟩ := cut_ai (m := [106, 97, 108]) (by decide) (by decide +kernel) (by decide) a i ha hi
  rw [e]
  refine ⟨p, ?_⟩
  unfold lineT
  rw [q]
  have ho : opOf [106, 97, 108] = 15 := by decide +kernel
  have hs : shapeB 15 = [97, 44, 105] := by decide +kernel
  simp only [readT, itemT, ho, hs]
  have na : ¬ 15 < a.toNat := by omega
  have ea : ((a.toNat : Nat) : Int) = a := by omega
  have ni : ¬ 65535 < i.toNat := by omega
  have ei : ((i.toNat : Nat) : Int) = i := by omega
  simp [opersT, operT, na, ea, ni, ei]

theorem line_16 (b : Int) (hb : 0 ≤ b ∧ b ≤ 15) : Pr (insB 16 0 b 0 0) ∧ lineT (insB 16 0 b 0 0) = (0, ⟨[], 1, 16, 0, b, 0, 0, [], 0⟩) := by
  have e : insB 16 0 b 0 0 = [106, 114] ++ 32 :: regB b := by
    unfold insB
    rw [show mnOf 16 = [106, 114] by decide +kernel, show shapeB 16 = [98] by decide +kernel]
    simp [operB]
  obtain ⟨p, q⟩ := cut_b (m := [106, 114]) (by decide) (by decide +kernel) (by decide) b hb
  rw [e]
  refine ⟨p, ?_⟩
  unfold lineT
  rw [q]
  have ho : opOf [106, 114] = 16 := by decide +kernel
  have hs : shapeB 16 = [98] := by decide +kernel
  simp only [readT, itemT, ho, hs]
  have nb : ¬ 15 < b.toNat := by omega
  have eb : ((b.toNat : Nat) : Int) = b := by omega
  simp [opersT, operT, nb, eb]

theorem line_17 (i : Int) (hi : 0 ≤ i ∧ i ≤ 65535) : Pr (insB 17 0 0 0 i) ∧ lineT (insB 17 0 0 0 i) = (0, ⟨[], 1, 17, 0, 0, 0, i, [], 0⟩) := by
  have e : insB 17 0 0 0 i = [104, 118, 99] ++ 32 :: decB i.toNat := by
    unfold insB
    rw [show mnOf 17 = [104, 118, 99] by decide +kernel, show shapeB 17 = [105] by decide +kernel]
    simp [operB]
  obtain ⟨p, q⟩ := cut_i (m := [104, 118, 99]) (by decide) (by decide +kernel) (by decide) i hi
  rw [e]
  refine ⟨p, ?_⟩
  unfold lineT
  rw [q]
  have ho : opOf [104, 118, 99] = 17 := by decide +kernel
  have hs : shapeB 17 = [105] := by decide +kernel
  simp only [readT, itemT, ho, hs]
  have ni : ¬ 65535 < i.toNat := by omega
  have ei : ((i.toNat : Nat) : Int) = i := by omega
  simp [opersT, operT, ni, ei]

theorem line_18 (i : Int) (hi : 0 ≤ i ∧ i ≤ 65535) : Pr (insB 18 0 0 0 i) ∧ lineT (insB 18 0 0 0 i) = (0, ⟨[], 1, 18, 0, 0, 0, i, [], 0⟩) := by
  have e : insB 18 0 0 0 i = [115, 118, 99] ++ 32 :: decB i.toNat := by
    unfold insB
    rw [show mnOf 18 = [115, 118, 99] by decide +kernel, show shapeB 18 = [105] by decide +kernel]
    simp [operB]
  obtain ⟨p, q⟩ := cut_i (m := [115, 118, 99]) (by decide) (by decide +kernel) (by decide) i hi
  rw [e]
  refine ⟨p, ?_⟩
  unfold lineT
  rw [q]
  have ho : opOf [115, 118, 99] = 18 := by decide +kernel
  have hs : shapeB 18 = [105] := by decide +kernel
  simp only [readT, itemT, ho, hs]
  have ni : ¬ 65535 < i.toNat := by omega
  have ei : ((i.toNat : Nat) : Int) = i := by omega
  simp [opersT, operT, ni, ei]

theorem line_19 (a i : Int) (ha : 0 ≤ a ∧ a ≤ 15) (hi : 0 ≤ i ∧ i ≤ 65535) : Pr (insB 19 a 0 0 i) ∧ lineT (insB 19 a 0 0 i) = (0, ⟨[], 1, 19, a, 0, 0, i, [], 0⟩) := by
  have e : insB 19 a 0 0 i = [109, 114, 115] ++ 32 :: (regB a ++ 44 :: 32 :: decB i.toNat) := by
    unfold insB
    rw [show mnOf 19 = [109, 114, 115] by decide +kernel, show shapeB 19 = [97, 44, 105] by decide +kernel]
    simp [operB]
  obtain ⟨p, q⟩ := cut_ai (m := [109, 114, 115]) (by decide) (by decide +kernel) (by decide) a i ha hi
  rw [e]
  refine ⟨p, ?_⟩
  unfold lineT
  rw [q]
  have ho : opOf [109, 114, 115] = 19 := by decide +kernel
  have hs : shapeB 19 = [97, 44, 105] := by decide +kernel
  simp only [readT, itemT, ho, hs]
  have na : ¬ 15 < a.toNat := by omega
  have ea : ((a.toNat : Nat) : Int) = a := by omega
  have ni : ¬ 65535 < i.toNat := by omega
  have ei : ((i.toNat : Nat) : Int) = i := by omega
  simp [opersT, operT, na, ea, ni, ei]

theorem line_20 (b i : Int) (hb : 0 ≤ b ∧ b ≤ 15) (hi : 0 ≤ i ∧ i ≤ 65535) : Pr (insB 20 0 b 0 i) ∧ lineT (insB 20 0 b 0 i) = (0, ⟨[], 1, 20, 0, b, 0, i, [], 0⟩) := by
  have e : insB 20 0 b 0 i = [109, 115, 114] ++ 32 :: (regB b ++ 44 :: 32 :: decB i.toNat) := by
    unfold insB
    rw [show mnOf 20 = [109, 115, 114] by decide +kernel, show shapeB 20 = [98, 44, 105] by decide +kernel]
    simp [operB]
  obtain ⟨p, q⟩ := cut_bi (m := [109, 115, 114]) (by decide) (by decide +kernel) (by decide) b i hb hi
  rw [e]
  refine ⟨p, ?_⟩
  unfold lineT
  rw [q]
  have ho : opOf [109, 115, 114] = 20 := by decide +kernel
  have hs : shapeB 20 = [98, 44, 105] := by decide +kernel
  simp only [readT, itemT, ho, hs]
  have nb : ¬ 15 < b.toNat := by omega
  have eb : ((b.toNat : Nat) : Int) = b := by omega
  have ni : ¬ 65535 < i.toNat := by omega
  have ei : ((i.toNat : Nat) : Int) = i := by omega
  simp [opersT, operT, nb, eb, ni, ei]

theorem line_21  : Pr (insB 21 0 0 0 0) ∧ lineT (insB 21 0 0 0 0) = (0, ⟨[], 1, 21, 0, 0, 0, 0, [], 0⟩) := by
  have e : insB 21 0 0 0 0 = [119, 102, 105] := by
    unfold insB
    rw [show mnOf 21 = [119, 102, 105] by decide +kernel, show shapeB 21 = [] by decide +kernel]
    simp
  obtain ⟨p, q⟩ := cut_none (m := [119, 102, 105]) (by decide) (by decide +kernel) (by decide)  
  rw [e]
  refine ⟨p, ?_⟩
  unfold lineT
  rw [q]
  have ho : opOf [119, 102, 105] = 21 := by decide +kernel
  have hs : shapeB 21 = [] := by decide +kernel
  simp only [readT, itemT, ho, hs]
  simp [opersT]

theorem line_22 (a : Int) (ha : 0 ≤ a ∧ a ≤ 15) : Pr (insB 22 a 0 0 0) ∧ lineT (insB 22 a 0 0 0) = (0, ⟨[], 1, 22, a, 0, 0, 0, [], 0⟩) := by
  have e : insB 22 a 0 0 0 = [105, 97, 114] ++ 32 :: regB a := by
    unfold insB
    rw [show mnOf 22 = [105, 97, 114] by decide +kernel, show shapeB 22 = [97] by decide +kernel]
    simp [operB]
  obtain ⟨p, q⟩ := cut_a (m := [105, 97, 114]) (by decide) (by decide +kernel) (by decide) a ha
  rw [e]
  refine ⟨p, ?_⟩
  unfold lineT
  rw [q]
  have ho : opOf [105, 97, 114] = 22 := by decide +kernel
  have hs : shapeB 22 = [97] := by decide +kernel
  simp only [readT, itemT, ho, hs]
  have na : ¬ 15 < a.toNat := by omega
  have ea : ((a.toNat : Nat) : Int) = a := by omega
  simp [opersT, operT, na, ea]

theorem line_23 (b : Int) (hb : 0 ≤ b ∧ b ≤ 15) : Pr (insB 23 0 b 0 0) ∧ lineT (insB 23 0 b 0 0) = (0, ⟨[], 1, 23, 0, b, 0, 0, [], 0⟩) := by
  have e : insB 23 0 b 0 0 = [101, 111, 105] ++ 32 :: regB b := by
    unfold insB
    rw [show mnOf 23 = [101, 111, 105] by decide +kernel, show shapeB 23 = [98] by decide +kernel]
    simp [operB]
  obtain ⟨p, q⟩ := cut_b (m := [101, 111, 105]) (by decide) (by decide +kernel) (by decide) b hb
  rw [e]
  refine ⟨p, ?_⟩
  unfold lineT
  rw [q]
  have ho : opOf [101, 111, 105] = 23 := by decide +kernel
  have hs : shapeB 23 = [98] := by decide +kernel
  simp only [readT, itemT, ho, hs]
  have nb : ¬ 15 < b.toNat := by omega
  have eb : ((b.toNat : Nat) : Int) = b := by omega
  simp [opersT, operT, nb, eb]

theorem line_24  : Pr (insB 24 0 0 0 0) ∧ lineT (insB 24 0 0 0 0) = (0, ⟨[], 1, 24, 0, 0, 0, 0, [], 0⟩) := by
  have e : insB 24 0 0 0 0 = [116, 108, 98, 105] := by
    unfold insB
    rw [show mnOf 24 = [116, 108, 98, 105] by decide +kernel, show shapeB 24 = [] by decide +kernel]
    simp
  obtain ⟨p, q⟩ := cut_none (m := [116, 108, 98, 105]) (by decide) (by decide +kernel) (by decide)  
  rw [e]
  refine ⟨p, ?_⟩
  unfold lineT
  rw [q]
  have ho : opOf [116, 108, 98, 105] = 24 := by decide +kernel
  have hs : shapeB 24 = [] := by decide +kernel
  simp only [readT, itemT, ho, hs]
  simp [opersT]

theorem line_25  : Pr (insB 25 0 0 0 0) ∧ lineT (insB 25 0 0 0 0) = (0, ⟨[], 1, 25, 0, 0, 0, 0, [], 0⟩) := by
  have e : insB 25 0 0 0 0 = [110, 111, 112] := by
    unfold insB
    rw [show mnOf 25 = [110, 111, 112] by decide +kernel, show shapeB 25 = [] by decide +kernel]
    simp
  obtain ⟨p, q⟩ := cut_none (m := [110, 111, 112]) (by decide) (by decide +kernel) (by decide)  
  rw [e]
  refine ⟨p, ?_⟩
  unfold lineT
  rw [q]
  have ho : opOf [110, 111, 112] = 25 := by decide +kernel
  have hs : shapeB 25 = [] := by decide +kernel
  simp only [readT, itemT, ho, hs]
  simp [opersT]

end Go.Proofs.YtecipogfdhpjfaaGreatDoor
