/-
  The contract of package asm's Assemble over the translation, by the program's own steps as plain functions. No statement is proved here.
-/
import Derived.Test.YtecipogfdhpjfaaGreatDoorAsmEncAll
namespace Go.Proofs.YtecipogfdhpjfaaGreatDoor
open Go.RowKit Go.Maps Go.WideMaps

theorem word_name {w s : List UInt8} (h : wordT w = some (.nm s)) : s.length ≤ 12 := by
  unfold wordT at h
  split at h
  · rename_i r
    cases hx : hexT r <;> rw [hx] at h <;> simp at h
  · rename_i c r _
    split at h
    · cases hx : plainT (c :: r) <;> rw [hx] at h <;> simp at h
    · split at h
      · cases hx : plainT r <;> rw [hx] at h <;> simp at h
      · split at h
        · simp only [Option.some.injEq, Tok.nm.injEq] at h
          subst h
          assumption
        · cases h
  · cases h
def Short (l : List Tok) : Prop := ∀ s, Tok.nm s ∈ l → s.length ≤ 12
theorem flush_short {x : Cut} (h : Short x.l) : Short (flush x).l := by
  unfold flush
  split
  · exact h
  · split
    · rename_i t ht
      intro s hs
      rcases List.mem_append.1 hs with hs | hs
      · exact h s hs
      · simp at hs
        subst hs
        exact word_name ht
    · exact h
theorem step_short {x : Cut} (c : UInt8) (h : Short x.l) : Short (stepC x c).l := by
  unfold stepC
  repeat' split
  · exact h
  · intro s hs
    rcases List.mem_append.1 hs with hs | hs
    · exact flush_short h s hs
    · simp at hs
  · exact flush_short h
  · exact flush_short h
theorem fold_short : ∀ (l : List UInt8) (x : Cut), Short x.l → Short (l.foldl stepC x).l
  | [], _, h => h
  | c :: l, _, h => fold_short l _ (step_short c h)
theorem cut_short {s : List UInt8} {l : List Tok} (h : cutT s = some l) : Short l := by
  unfold cutT at h
  split at h
  · cases h
    exact flush_short (fold_short _ _ (fun s hs => by simp at hs))
  · cases h
theorem cutLT_short {l : List Tok} (h : Short l) : (cutLT l).1.length ≤ 12 ∧ Short (cutLT l).2 := by
  unfold cutLT
  split
  · rename_i s r
    split
    · exact ⟨h s (by simp), fun x hx => h x (by simp [hx])⟩
    · exact ⟨by simp, h⟩
  · exact ⟨by simp, h⟩
theorem parse_short {s : List UInt8} (h : (parseP s).1 = 0) : (parseP s).2.1.length ≤ 12 ∧ Short (parseP s).2.2.2 ∧ ((parseP s).2.2.1 ≠ -1 → (parseP s).2.2.2.length = (layB (parseP s).2.2.1).length) := by
  unfold parseP at h ⊢
  cases hc : cutT s with
  | none => rw [hc] at h; simp at h
  | some l =>
    rw [hc] at h
    obtain ⟨h1, h2⟩ := cutLT_short (cut_short hc)
    simp only at h ⊢
    cases hr : (cutLT l).2 with
    | nil => simp only; exact ⟨h1, fun s hs => by simp at hs, fun h => by simp at h⟩
    | cons t ts =>
      rw [hr] at h h2
      simp only at h ⊢
      by_cases hi : isItT (opTk t) ts = true
      · rw [if_pos hi] at h ⊢
        by_cases hb : beyL (layB (opTk t)) ts = true
        · rw [if_pos hb] at h; simp at h
        · rw [if_neg hb]
          refine ⟨h1, fun s hs => h2 s (by simp [hs]), fun _ => ?_⟩
          unfold isItT at hi
          simp only [Bool.and_eq_true] at hi
          exact fitsL_len _ _ hi.2
      · rw [if_neg hi] at h; simp at h

theorem allP_inv : ∀ (l : List (List UInt8)) (n : Nat) (S : List St), allP l n = .ok S → (∀ x ∈ l, (parseP x).1 = 0) ∧ S = l.map (fun x => (parseP x).2)
  | [], n, S, h => by simp [allP] at h; subst h; simp
  | s :: r, n, S, h => by
    simp only [allP] at h
    split at h
    · cases h
    · rename_i h0
      have h0' : (parseP s).1 = 0 := by simpa using h0
      cases hr : allP r (n + 1) with
      | error e => rw [hr] at h; cases h
      | ok S' =>
        rw [hr] at h
        obtain ⟨i1, i2⟩ := allP_inv r (n + 1) S' hr
        simp only [Except.ok.injEq] at h
        subst h
        refine ⟨fun x hx => ?_, by rw [i2]; rfl⟩
        rcases List.mem_cons.1 hx with rfl | hx
        · exact h0'
        · exact i1 x hx

/-- What the program's steps come to. -/
def asmP (base : Int) (s : List UInt8) : List Int × Nat × Nat :=
  if base < 0 ∨ 65535 < base then ([], 0, 1)
  else if 4000 < s.length then ([], 0, 2)
  else match allP (splitB s) 1 with
    | .error (n, e) => ([], n, e)
    | .ok S => match labP S base (fun _ => none) 1 with
      | .error n => ([], n, 62)
      | .ok m => match wordsP m S 1 [] with
        | .error n => ([], n, 62)
        | .ok ws => (ws, 0, 0)

theorem allP_e : ∀ (l : List (List UInt8)) (n : Nat) {a b : Nat}, allP l n = .error (a, b) → b ≠ 0
  | [], n, a, b, h => by simp [allP] at h
  | s :: r, n, a, b, h => by
    simp only [allP] at h
    split at h
    · rename_i h0
      simp only [Except.error.injEq, Prod.mk.injEq] at h
      rw [← h.2]
      exact h0
    · cases hr : allP r (n + 1) with
      | error e => rw [hr] at h; cases h; exact allP_e r (n + 1) hr
      | ok S' => rw [hr] at h; cases h

def AsmPost (w w' : World) (r : List Int × Nat × Nat) (e : Ending) : Prop :=
  (∃ v, e = .returned (.tuple #[v, .int .i64 (r.2.1 : Nat), .int .i64 (r.2.2 : Nat)]) ∧ OwnK 28 1 w' w.heap.size v r.1.length (r.1.map (Value.int .u32))) ∧ Fr none' w w'
theorem post_nil {w w' : World} (n e : Nat) (f : Fr none' w w') : AsmPost w w' ([], n, e) (.returned (.tuple #[.slice none 0 0, .int .i64 (n : Nat), .int .i64 (e : Nat)])) := ⟨⟨_, rfl, ownk_nil _ _ _ _⟩, f⟩

set_option maxRecDepth 100000 in
set_option maxHeartbeats 1600000 in
theorem asm_any (base : Int) (s : ByteArray) (w : World) (hE : Env w) : Calls Tryz.prog 5 #[.int .i64 base, .string s] w fun e w' => AsmPost w w' (asmP base s.data.toList) e := by
  by_cases hb : base < 0 ∨ 65535 < base
  · have hA : asmP base s.data.toList = ([], 0, 1) := by unfold asmP; rw [if_pos hb]
    rw [hA]
    clear hA
    by_cases h0 : base < 0
    · have t0 : decide (base < 0) = true := by simpa using h0
      clear hb h0
      go_enter Tryz.func5, Tryz.ntmps5
      go_wp2
      go_ret3
      exact post_nil 0 1 (Fr.refl _ _)
    · have t0 : decide (base < 0) = false := by simpa using h0
      have t1 : decide (base > 65535) = true := by simp; omega
      clear hb h0
      go_enter Tryz.func5, Tryz.ntmps5
      go_wp2
      go_ret3
      exact post_nil 0 1 (Fr.refl _ _)
  · have t0 : decide (base < 0) = false := by simp; omega
    have t1 : decide (base > 65535) = false := by simp; omega
    by_cases h4 : 4000 < s.size
    · have hA : asmP base s.data.toList = ([], 0, 2) := by unfold asmP; rw [if_neg hb, if_pos (by rw [← Lib.size_eq]; exact h4)]
      rw [hA]
      have t2 : decide ((s.size : Int) > 4000) = true := by simp; omega
      clear hA hb h4
      go_enter Tryz.func5, Tryz.ntmps5
      go_wp2
      go_ret3
      exact post_nil 0 2 (Fr.refl _ _)
    · have t2 : decide ((s.size : Int) > 4000) = false := by simp; omega
      have hP := parseall_any s (by omega) w hE
      have HA : Hid (asmP base s.data.toList = match allP (splitB s.data.toList) 1 with
        | .error (n, e) => ([], n, e)
        | .ok S => match labP S base (fun _ => none) 1 with
          | .error n => ([], n, 62)
          | .ok m => match wordsP m S 1 [] with
            | .error n => ([], n, 62)
            | .ok ws => (ws, 0, 0)) := by show _ = _; unfold asmP; rw [if_neg hb, if_neg (by rw [← Lib.size_eq]; exact h4)]
      have HB : Hid (0 ≤ base ∧ base ≤ 65535 ∧ s.size ≤ 4000) := by show _ ∧ _; omega
      clear hb h4 hE
      unfold AllPost at hP
      cases hAll : allP (splitB s.data.toList) 1 with
      | error ne =>
        obtain ⟨n, er⟩ := ne
        rw [hAll] at hP
        have HA' : Hid (asmP base s.data.toList = ([], n, er)) := by show _ = _; rw [HA.out, hAll]
        have hne := allP_e _ _ hAll
        have t3 : ((er : Int) != 0) = true := by simp; omega
        clear HA hAll hne
        go_enter Tryz.func5, Tryz.ntmps5
        go_wp2_with (first | (go_at_call 10; refine hP.mono ?_; rintro e w1 ⟨rfl, f1⟩))
        go_ret3
        rw [HA'.out]
        exact post_nil n er f1
      | ok S =>
        rw [hAll] at hP
        obtain ⟨hok, hSe⟩ := allP_inv _ _ _ hAll
        have HS : Hid (S ≠ [] ∧ S.length ≤ 4001 ∧ (∀ st ∈ S, st.1.length ≤ 4000) ∧ (∀ st ∈ S, st.2.1 ≠ -1 → st.2.2.length = (layB st.2.1).length) ∧ ∀ st ∈ S, ∀ s, Tok.nm s ∈ st.2.2 → s.length ≤ 4000) := by
          rw [hSe]
          refine ⟨by simpa using split_ne _, ?_, ?_, ?_, ?_⟩
          · have := split_count s.data.toList
            rw [← Lib.size_eq] at this
            rw [List.length_map]
            have := HB.out
            omega
          · intro st hst
            obtain ⟨x, hx, rfl⟩ := List.mem_map.1 hst
            have := (parse_short (hok x hx)).1
            omega
          · intro st hst
            obtain ⟨x, hx, rfl⟩ := List.mem_map.1 hst
            exact (parse_short (hok x hx)).2.2
          · intro st hst s' hs'
            obtain ⟨x, hx, rfl⟩ := List.mem_map.1 hst
            have := (parse_short (hok x hx)).2.1 s' hs'
            omega
        have HA2 : Hid (asmP base s.data.toList = match labP S base (fun _ => none) 1 with
          | .error n => ([], n, 62)
          | .ok m => match wordsP m S 1 [] with
            | .error n => ([], n, 62)
            | .ok ws => (ws, 0, 0)) := by show _ = _; rw [HA.out, hAll]
        clear HA hAll hok hSe
        go_enter Tryz.func5, Tryz.ntmps5
        go_wp2_with fail
        refine hP.mono ?_
        rintro e w1 ⟨⟨v1, L, rfl, o1, s1⟩, f1⟩
        have hLab := labels_any base HB.out.1 HB.out.2.1 v1 S L _ w1 HS.out.1 o1 s1 HS.out.2.1 HS.out.2.2.1
        unfold LabPost at hLab
        clear hP
        cases hlb : labP S base (fun _ => none) 1 with
        | error n =>
          rw [hlb] at hLab
          have HA3 : Hid (asmP base s.data.toList = ([], n, 62)) := by show _ = _; rw [HA2.out, hlb]
          clear hlb HA2
          go_wp2_with (first | (go_at_call 11; refine hLab.mono ?_; rintro e w2 ⟨rfl, f2⟩))
          go_ret3
          rw [HA3.out]
          exact post_nil n 62 (f1.trans f2)
        | ok m =>
          rw [hlb] at hLab
          have HA3 : Hid (asmP base s.data.toList = match wordsP m S 1 [] with
            | .error n => ([], n, 62)
            | .ok ws => (ws, 0, 0)) := by show _ = _; rw [HA2.out, hlb]
          clear hlb HA2
          go_wp2_with fail
          refine hLab.mono ?_
          rintro e w2 ⟨⟨bk, kk, D, rfl, own2, mp2⟩, f2⟩
          have hEn := encodeall_any v1 S L _ bk kk D m w2 HS.out.1 (o1.keep0 f2) (s1.keep (fun _ _ h => h.keep f2)) HS.out.2.1 own2 mp2 HS.out.2.2.2.1 HS.out.2.2.2.2
          unfold EncPost at hEn
          clear hLab
          cases hwd : wordsP m S 1 [] with
          | error n =>
            rw [hwd] at hEn
            have HA4 : Hid (asmP base s.data.toList = ([], n, 62)) := by show _ = _; rw [HA3.out, hwd]
            clear hwd HA3
            go_wp2_with (first | (go_at_call 12; refine hEn.mono ?_; rintro e w3 ⟨rfl, f3⟩))
            go_ret3
            rw [HA4.out]
            exact post_nil n 62 ((f1.trans f2).trans f3)
          | ok ws =>
            rw [hwd] at hEn
            have HA4 : Hid (asmP base s.data.toList = (ws, 0, 0)) := by show _ = _; rw [HA3.out, hwd]
            clear hwd HA3
            go_wp2_with (first | (go_at_call 12; refine hEn.mono ?_; rintro e w3 ⟨⟨v3, rfl, o3⟩, f3⟩))
            go_ret3
            rw [HA4.out]
            exact ⟨⟨v3, rfl, o3.mono (f1.trans f2).size⟩, (f1.trans f2).trans f3⟩

end Go.Proofs.YtecipogfdhpjfaaGreatDoor
