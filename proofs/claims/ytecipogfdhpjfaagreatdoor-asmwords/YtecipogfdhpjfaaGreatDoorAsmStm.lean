/-
  The contracts of package asm's 'cutLabel' and 'isItem' over the translation. No statement is proved here.
-/
import Derived.Test.YtecipogfdhpjfaaGreatDoorAsmRead2
import Derived.Test.YtecipogfdhpjfaaGreatDoorAsmLine
namespace Go.Proofs.YtecipogfdhpjfaaGreatDoor
open Go.RowKit

/-- A slice that holds these tokens, to be read. -/
def Toks (w : World) (v : Value) (l : List Tok) : Prop :=
  (l = [] ∧ ∃ a c, v = .slice a 0 c) ∨ (∃ b off c cs, v = .slice (some ⟨b, off, none⟩) l.length c ∧ l.length ≤ c ∧ Row w b cs 95 ∧ ∀ (j : Nat) t, l[j]? = some t → cs[off + j]? = some (tval t))
theorem Toks.keep {w w' : World} {v : Value} {l : List Tok} (h : Toks w v l) (f : Fr none' w w') : Toks w' v l := by
  rcases h with h | ⟨b, off, c, cs, h1, h2, h3, h4⟩
  · exact Or.inl h
  · exact Or.inr ⟨b, off, c, cs, h1, h2, h3.keep f (fun h => h), h4⟩
theorem toks_own {w : World} {B : Nat} {v : Value} {l : List Tok} (h : OwnK 95 1 w B v l.length (l.map tval)) : Toks w v l := by
  by_cases hl : l = []
  · subst hl
    exact Or.inl ⟨rfl, none, 0, h.2 rfl⟩
  · obtain ⟨g, cap, cur, rfl, _, hr, hc, _, _, hx⟩ := h.row (by simpa using hl)
    exact Or.inr ⟨g, 0, cap, cur, rfl, hc, hr, fun j t ht => by rw [Nat.zero_add]; exact hx j _ (by simp [ht])⟩

/-- A label ahead, and the rest. -/
def cutLT (l : List Tok) : List UInt8 × List Tok :=
  match l with
  | .nm s :: .sg 58 :: r => if opOf s = 0 then (s, r) else ([], l)
  | _ => ([], l)

theorem opP_none (s : List UInt8) : (opP s = -1) ↔ opOf s = 0 := by
  unfold opP
  constructor
  · intro h
    split at h
    · omega
    · split at h
      · assumption
      · rename_i h1 h2
        exact absurd h h1
  · intro h
    rw [if_neg (by omega), if_pos h]

theorem colon_fit (t : Tok) : fitI t 58 = true ↔ t = .sg 58 := by
  cases t with
  | sg c =>
    simp only [fitI, beq_iff_eq, Tok.sg.injEq]
    constructor
    · intro h; exact UInt8.toNat_inj.1 (by have : c.toNat = 58 := by omega
                                           rw [this]; rfl)
    · rintro rfl; rfl
  | reg n => simp [fitI]
  | num n => simp [fitI]
  | nm s => simp [fitI]

set_option maxRecDepth 100000 in
set_option maxHeartbeats 1600000 in
theorem cutlabel_few (v : Value) (l : List Tok) (hl : l.length < 2) (w : World) (hT : Toks w v l) :
    Calls Tryz.prog 41 #[v] w fun e w' => e = .returned (.tuple #[strV [], v]) ∧ w' = w := by
  obtain ⟨a, n, c, rfl, hn⟩ : ∃ a n c, v = .slice a n c ∧ n < 2 := by
    rcases hT with ⟨rfl, a, c, rfl⟩ | ⟨b, off, c, cs, rfl, _⟩
    · exact ⟨a, 0, c, rfl, by omega⟩
    · exact ⟨_, l.length, c, rfl, hl⟩
  have t0 : decide ((n : Int) < 2) = true := by simp; omega
  clear hT hl hn
  go_enter Tryz.func41, Tryz.ntmps41
  go_wp2
  go_ret2
  exact ⟨rfl, rfl⟩

set_option maxRecDepth 100000 in
set_option maxHeartbeats 1600000 in
theorem cutlabel_many (t0 t1 : Tok) (r : List Tok) (b off c : Nat) (cs : Array Value) (w : World) (hE : Env w) (hc : r.length + 2 ≤ c) (hr : Row w b cs 95) (hx : ∀ (j : Nat) t, (t0 :: t1 :: r)[j]? = some t → cs[off + j]? = some (tval t)) (hb : r.length < 100000) :
    Calls Tryz.prog 41 #[.slice (some ⟨b, off, none⟩) (r.length + 2) c] w fun e w' => (∃ v', e = .returned (.tuple #[strV (cutLT (t0 :: t1 :: r)).1, v']) ∧ Toks w' v' (cutLT (t0 :: t1 :: r)).2) ∧ Fr none' w w' := by
  have c0 : w.cell? ⟨b, off, none⟩ = some (tval t0) := by rw [hr.cell]; exact hx 0 t0 rfl
  have c1 : w.cell? ⟨b, off + 1, none⟩ = some (tval t1) := by rw [hr.cell]; exact hx 1 t1 rfl
  have hF := fits_any t1 58 w hE
  have hall : Hid (Toks w (.slice (some ⟨b, off, none⟩) (r.length + 2) c) (t0 :: t1 :: r)) := Or.inr ⟨b, off, c, cs, rfl, by simpa using hc, hr, hx⟩
  have lt2 : decide (((r.length + 2 : Nat) : Int) < 2) = false := by simp; omega
  have y1 : (r.length + 2 : Nat) ≤ c := hc
  obtain ⟨T1, x1, hx1⟩ : ∃ T x, tval t1 = .iface T x := by cases t1 <;> exact ⟨_, _, rfl⟩
  rw [hx1] at c1 hF
  by_cases h58 : t1 = .sg 58
  · have hf : fitI t1 58 = true := (colon_fit t1).2 h58
    rw [hf] at hF
    have HE : Hid (Env w) := hE
    subst h58
    cases t0 with
    | nm s =>
      have ta0 := ta_nn
      have hO := fun w h => op_any (.nm s) w h
      simp only [tval, opTk] at hO c0
      obtain ⟨sb, hsb⟩ : ∃ sb : ByteArray, sb = ⟨s.toArray⟩ := ⟨_, rfl⟩
      rw [← hsb] at hO c0
      have HSB : Hid (sb = ⟨s.toArray⟩) := hsb
      by_cases h0 : opOf s = 0
      · have hq : opP s = -1 := (opP_none s).2 h0
        rw [hq] at hO
        have hL : cutLT (.nm s :: .sg 58 :: r) = (s, r) := by simp only [cutLT, h0, if_true]
        rw [hL]
        have hR : Hid (Row w b cs 95 ∧ ∀ (j : Nat) t, r[j]? = some t → cs[off + 2 + j]? = some (tval t)) := ⟨hr, fun j t ht => by have := hx (j + 2) t (by simpa using ht); rwa [show off + (j + 2) = off + 2 + j by omega] at this⟩
        clear hL hf hx1 hx hr hE hc hsb hq h0 hall
        go_enter Tryz.func41, Tryz.ntmps41
        go_wp2_with (first | (go_at_call 70; refine hF.mono ?_; rintro e w1 ⟨rfl, f1⟩; have d0 := cell_keep f1 c0 (fun h => h)) | (go_at_call 42; refine (hO _ (HE.out.keep f1)).mono ?_; rintro e w2 ⟨rfl, f2⟩))
        go_region
        all_goals go_wp2_with fail
        all_goals go_ret2
        · exact ⟨⟨.slice (some ⟨b, off, none⟩) r.length 0, congrArg (fun z => Ending.returned (.tuple #[.string z, .slice (some ⟨b, off, none⟩) r.length 0])) HSB.out, Or.inl ⟨List.length_eq_zero_iff.1 (by omega), some ⟨b, off, none⟩, 0, by rw [show r.length = 0 by omega]⟩⟩, (f1.trans f2).drew⟩
        · exact ⟨⟨.slice (some ⟨b, off + 2, none⟩) r.length (c - 2), congrArg (fun z => Ending.returned (.tuple #[.string z, .slice (some ⟨b, off + 2, none⟩) r.length (c - 2)])) HSB.out, Or.inr ⟨b, off + 2, c - 2, cs, rfl, by omega, hR.out.1.keep (f1.trans f2).drew (fun h => h), hR.out.2⟩⟩, (f1.trans f2).drew⟩
      · have hq : (opP s != -1) = true := by simpa using fun h => h0 ((opP_none s).1 h)
        have hL : cutLT (.nm s :: .sg 58 :: r) = ([], .nm s :: .sg 58 :: r) := by simp only [cutLT, h0, if_false]
        rw [hL]
        generalize opP s = q at hO hq
        clear hL hf hx1 hx hr hE hc hsb h0
        go_enter Tryz.func41, Tryz.ntmps41
        go_wp2_with (first | (go_at_call 70; refine hF.mono ?_; rintro e w1 ⟨rfl, f1⟩; have d0 := cell_keep f1 c0 (fun h => h)) | (go_at_call 42; refine (hO _ (HE.out.keep f1)).mono ?_; rintro e w2 ⟨rfl, f2⟩))
        go_ret2
        exact ⟨⟨_, rfl, hall.out.keep (f1.trans f2)⟩, f1.trans f2⟩
    | _ =>
      have hL : ∀ t0, (∀ s, t0 ≠ Tok.nm s) → cutLT (t0 :: .sg 58 :: r) = ([], t0 :: .sg 58 :: r) := fun t0 h => by
        unfold cutLT
        split
        · rename_i h'
          simp only [List.cons.injEq] at h'
          exact absurd h'.1 (h _)
        · rfl
      rw [hL _ (by simp)]
      have ta1 := ta_na 121 (by decide)
      have ta2 := ta_na 127 (by decide)
      have ta3 := ta_na 126 (by decide)
      simp only [tval] at c0
      clear hL hf hx1 hx hr hE hc
      go_enter Tryz.func41, Tryz.ntmps41
      go_wp2_with (first | (go_at_call 70; refine hF.mono ?_; rintro e w1 ⟨rfl, f1⟩; have d0 := cell_keep f1 c0 (fun h => h)))
      go_ret2
      exact ⟨⟨_, rfl, hall.out.keep f1⟩, f1⟩
  · have hf : fitI t1 58 = false := by
      cases hh : fitI t1 58
      · rfl
      · exact absurd ((colon_fit t1).1 hh) h58
    rw [hf] at hF
    have hL : cutLT (t0 :: t1 :: r) = ([], t0 :: t1 :: r) := by
      unfold cutLT
      split
      · rename_i h
        simp only [List.cons.injEq] at h
        exact absurd h.2.1 h58
      · rfl
    rw [hL]
    clear hL hf h58 hx1 hx hr c0 hE hc
    go_enter Tryz.func41, Tryz.ntmps41
    go_wp2_with (first | (go_at_call 70; refine hF.mono ?_; rintro e w1 ⟨rfl, f1⟩))
    go_ret2
    exact ⟨⟨_, rfl, hall.out.keep f1⟩, f1⟩

theorem cutlabel_any (v : Value) (l : List Tok) (w : World) (hE : Env w) (hT : Toks w v l) (hb : l.length < 100000) :
    Calls Tryz.prog 41 #[v] w fun e w' => (∃ v', e = .returned (.tuple #[strV (cutLT l).1, v']) ∧ Toks w' v' (cutLT l).2) ∧ Fr none' w w' := by
  match l, hT, hb with
  | [], hT, _ => exact (cutlabel_few v [] (by simp) w hT).mono (by rintro e w' ⟨rfl, rfl⟩; exact ⟨⟨_, rfl, hT⟩, Fr.refl _ _⟩)
  | [t], hT, _ =>
    refine (cutlabel_few v [t] (by simp) w hT).mono ?_
    rintro e w' ⟨rfl, rfl⟩
    have : cutLT [t] = ([], [t]) := by
      unfold cutLT
      split
      · rename_i h; simp at h
      · rfl
    rw [this]
    exact ⟨⟨_, rfl, hT⟩, Fr.refl _ _⟩
  | t0 :: t1 :: r, hT, hb =>
    rcases hT with ⟨h, _⟩ | ⟨b, off, c, cs, rfl, hc, hr, hx⟩
    · cases h
    · exact cutlabel_many t0 t1 r b off c cs w hE (by simpa using hc) hr hx (by simp at hb; omega)

/-- Do the tokens fit a layout? -/
def fitsL : List UInt8 → List Tok → Bool
  | [], [] => true
  | c :: cs, t :: ts => fitI t (c.toNat : Int) && fitsL cs ts
  | _, _ => false
def isItT (op : Int) (l : List Tok) : Bool := op != -1 && fitsL (layB op) l
theorem fitsL_len : ∀ (cs : List UInt8) (ts : List Tok), fitsL cs ts = true → ts.length = cs.length
  | [], [], _ => rfl
  | c :: cs, t :: ts, h => by simp only [fitsL, Bool.and_eq_true] at h; simp [fitsL_len cs ts h.2]
  | [], _ :: _, h => by cases h
  | _ :: _, [], h => by cases h
theorem fitsL_all : ∀ (cs : List UInt8) (ts : List Tok), ts.length = cs.length → (∀ (j : Nat) c t, cs[j]? = some c → ts[j]? = some t → fitI t (c.toNat : Int) = true) → fitsL cs ts = true
  | [], [], _, _ => rfl
  | c :: cs, t :: ts, hl, h => by
    simp only [fitsL, Bool.and_eq_true]
    exact ⟨h 0 c t rfl rfl, fitsL_all cs ts (by simpa using hl) (fun j c' t' h1 h2 => h (j + 1) c' t' (by simpa using h1) (by simpa using h2))⟩
  | [], _ :: _, hl, _ => by simp at hl
  | _ :: _, [], hl, _ => by simp at hl
theorem fitsL_no : ∀ (cs : List UInt8) (ts : List Tok) (j : Nat) (c : UInt8) (t : Tok), cs[j]? = some c → ts[j]? = some t → fitI t (c.toNat : Int) = false → fitsL cs ts = false
  | [], _, j, c, t, h1, _, _ => by simp at h1
  | _ :: _, [], j, c, t, _, h2, _ => by simp at h2
  | c :: cs, t :: ts, 0, c', t', h1, h2, h => by
    simp at h1 h2
    subst h1 h2
    simp [fitsL, h]
  | c :: cs, t :: ts, j + 1, c', t', h1, h2, h => by
    simp only [fitsL]
    rw [fitsL_no cs ts j c' t' (by simpa using h1) (by simpa using h2) h]
    simp

/-- A statement as the program has it. -/
abbrev stV (lab : List UInt8) (op : Int) (v : Value) : Array Value := #[strV lab, .int .i64 op, v]
theorem lay_small (op : Int) : (layB op).length ≤ 7 ∧ ∀ c ∈ layB op, c.toNat < 128 := by
  by_cases h : 0 ≤ op ∧ op ≤ 25
  · have hh : ∀ n : Fin 26, (layB (n.val : Int)).length ≤ 7 ∧ ∀ c ∈ layB (n.val : Int), c.toNat < 128 := by decide +kernel
    have := hh ⟨op.toNat, by omega⟩
    simpa [show ((op.toNat : Nat) : Int) = op by omega] using this
  · have : layB op = [] := by
      unfold layB shapeB
      rw [if_neg (by omega), if_neg (by omega), kf_none (by omega)]
      rfl
    rw [this]
    simp

theorem sbox_cells {w : World} {b : Nat} {x y z : Value} (r : Row w b #[x, y, z] 67) : w.cell? ⟨b, 0, none⟩ = some x ∧ w.cell? ⟨b, 1, none⟩ = some y ∧ w.cell? ⟨b, 2, none⟩ = some z := ⟨by rw [r.cell]; rfl, by rw [r.cell]; rfl, by rw [r.cell]; rfl⟩

set_option maxRecDepth 100000 in
set_option maxHeartbeats 1600000 in
theorem isitem_no (lab : Value) (op : Int) (a : Option Addr) (n c : Nat) (l : List Tok) (w : World) (hl : n = l.length) (h : op = -1 ∨ l.length ≠ (layB op).length) :
    Calls Tryz.prog 43 #[.agg #[lab, .int .i64 op, .slice a n c]] w fun e w' => e = .returned (.bool (isItT op l)) ∧ Fr none' w w' := by
  have hN : isItT op l = false := by
    unfold isItT
    rcases h with h | h
    · simp [h]
    · cases hx : fitsL (layB op) l
      · simp
      · exact absurd (fitsL_len _ _ hx) h
  rw [hN]
  have r0 := row_alloc w #[lab, .int .i64 op, .slice a n c] 67
  have f0 := (Fr.refl none' w).alloc (.cells #[lab, .int .i64 op, .slice a n c] 67)
  obtain ⟨c0, c1, c2⟩ := sbox_cells r0
  have hL := fun w => layout_any op w
  simp only [strV] at hL
  obtain ⟨q, hq⟩ : ∃ q : ByteArray, q = ⟨(layB op).toArray⟩ := ⟨_, rfl⟩
  have hqs : q.size = (layB op).length := by rw [hq, Lib.size_eq]
  rw [← hq] at hL
  have HQ : Hid (op = -1 ∨ n ≠ q.size) := by show _ ∨ _; omega
  clear hN hq hqs h hl
  by_cases h1 : op = -1
  · have t1 : (op == -1) = true := by simpa using h1
    clear HQ h1
    go_enter Tryz.func43, Tryz.ntmps43
    go_wp2_with (first | (go_at_call 36; refine (hL _).mono ?_; rintro e w1 ⟨rfl, f1⟩; obtain ⟨d0, d1, d2⟩ := sbox_cells (r0.keep f1 (fun h => h))))
    go_ret
    exact ⟨rfl, f0.trans f1⟩
  · have t1 : (op == -1) = false := by simpa using h1
    have t2 : ((n : Int) != (q.size : Int)) = true := by have := HQ.out; simp; omega
    clear HQ h1
    go_enter Tryz.func43, Tryz.ntmps43
    go_wp2_with (first | (go_at_call 36; refine (hL _).mono ?_; rintro e w1 ⟨rfl, f1⟩; obtain ⟨d0, d1, d2⟩ := sbox_cells (r0.keep f1 (fun h => h))))
    go_ret
    exact ⟨rfl, f0.trans f1⟩

end Go.Proofs.YtecipogfdhpjfaaGreatDoor
