/-
  The document's State, over the translation. No statement is proved here.
-/
import Derived.Test.YtjobdfkfongjaaaIpDa
/- IpDocD -/
namespace Go.Proofs.Ytjobdfkfongjaaa
open Go.RowKit Go.Maps Go.WideMaps

/-- The document's steps as plain functions. -/
def dRest (D : Dc) (t : Int) : Dc := { D with L := D.L.filter (fun y => y.t != t) }
def dDel (D : Dc) (t : Int) (m : Ms) : Dc := { D with X := D.X.filter (fun y => y.1 != t) ++ [(t, m)] }
def wout (l : List (Int × Int)) (k : Int) : List (Int × Int) := l.filter (fun y => y.1 != k)
def dOwes (D : Dc) (oo c : Int) : Dc := { D with L := D.L ++ [⟨c, 4, oo, M0, false⟩], C := D.C ++ [(oo, c)] }
def ligB (D : Dc) (note : Int) : Bool := !(decide (note < 0)) && !(decide (witI D.G note < 0))
def ligS (D : Dc) (note t : Int) : Dc := if ligB D note = true then { dDel D t { M0 with b := witI D.G note } with G := wout D.G note } else D

section
variable {w w1 : World} {q : Db} {D : Dc}
theorem IsD.rowB {α : Type} {enc : α → List Value} {e : TypeId} {k B : Nat} {v : Value} {l : List α} (h : IsD w q D) (hF : FL e k enc B w v l) (he : 31 ≠ e) (f : Fr (fun k => some k = v.ownBlock) w w1) : Row w1 q.b #[q.L, q.C, q.B, q.G, q.X] 31 :=
  h.row.keep f fun e2 => by
    obtain ⟨_, _, cur, r⟩ := hF.blk e2
    exact he (row_ty h.row r).1
theorem sl_of {α : Type} {enc : α → List Value} {e : TypeId} {k B : Nat} {v : Value} {l : List α} {w : World} (hF : FL e k enc B w v l) : ∃ a n c, v = .slice a n c := by
  rcases hF.2 with h' | ⟨g, cap, _, h', _⟩
  · exact ⟨_, _, _, h'.1⟩
  · exact ⟨_, _, _, h'⟩
end

section
attribute [local go_sem ↓ high] builtin_app

set_option maxRecDepth 100000 in
set_option maxHeartbeats 2000000 in
theorem dowes_any (w : World) (q : Db) (D : Dc) (h : IsD w q D) (hl : D.L.length ≤ 100000) (hc : D.C.length ≤ 100000) (oo c : Int) :
    Calls Try.prog 78 #[pv q.b, .int .i64 oo, .int .i64 c] w fun e w' => ∃ v q', e = .returned v ∧ ChgD w q w' q' (dOwes D oo c) := by
  obtain ⟨aL, nL, cL, hvL⟩ := sl_of h.l
  obtain ⟨aC, nC, cC, hvC⟩ := sl_of h.c
  obtain ⟨v1, w1, r1, f1, o1, n1⟩ := FL.app (T := 27) Try.underlying27 info_qw rfl (by omega) (by omega) encQ_len encQ_one h.l hl (Nat.zero_le _) ⟨c, 4, oo, M0, false⟩
  obtain ⟨va, vn, vc, rfl⟩ := sl_of o1
  have C1 := h.setL f1 o1 n1
  obtain ⟨v2, w2, r2, f2, o2, n2⟩ := FL.app (T := 28) Try.underlying28 info_q2 rfl (by omega) (by omega) enc2_len enc2_one C1.is.c hc (Nat.zero_le _) (oo, c)
  obtain ⟨ua, un, uc, rfl⟩ := sl_of o2
  have C2 := C1.is.setC f2 o2 n2
  obtain ⟨q', hq⟩ : ∃ q', ChgD w q (w2.setCell ⟨q.b, 1, none⟩ (.slice ua un uc)) q' (dOwes D oo c) := ⟨_, C1.trans C2⟩
  have HC : Hid _ := hq
  clear hq
  have rb1 := h.rowB h.l (by decide) f1
  have rb2 := C1.is.rowB C1.is.c (by decide) f2
  have hr1 : (App #[27, 27] 27 #[.slice aL nL cL, .slice (some ⟨w.heap.size, 0, none⟩) 1 1]).run Try.prog (w.alloc (.cells #[.int .i64 c, .int .i64 4, .int .i64 oo, .int .i64 0, .int .i64 0, .int .i64 0, .int .u32 0, .int .u32 0, .int .u32 0, .int .u32 0, .bool false] 103)) = .ok (.slice va vn vc) w1 := by
    rw [← hvL]
    exact r1
  have hr2 : (App #[28, 28] 28 #[.slice aC nC cC, .slice (some ⟨w1.heap.size, 0, none⟩) 1 1]).run Try.prog ((w1.setCell ⟨q.b, 0, none⟩ (.slice va vn vc)).alloc (.cells #[.int .i64 oo, .int .i64 c] 111)) = .ok (.slice ua un uc) w2 := by
    rw [← hvC]
    have := r2
    rw [World.size_setCell] at this
    exact this
  have x0 : w.cell? ⟨q.b, 0, none⟩ = some (.slice aL nL cL) := by rw [← hvL]; exact h.row.cell 0
  have x1 : w1.cell? ⟨q.b, 1, none⟩ = some (.slice aC nC cC) := by rw [← hvC]; exact rb1.cell 1
  have y0 : w1.cell? ⟨q.b, 0, none⟩ = some q.L := rb1.cell 0
  have z0 := rb1.frozen 0
  have y1 : w2.cell? ⟨q.b, 1, none⟩ = some q.C := rb2.cell 1
  have z1 := rb2.frozen 1
  clear h hl hc hvL hvC r1 f1 o1 n1 C1 r2 f2 o2 n2 C2 rb1 rb2
  go_enter Try.func78, Try.ntmps78
  go_wp2_with fail
  refine post_void rfl rfl fun v => ?_
  first | exact ⟨v, q', rfl, HC.out⟩ | exact ⟨q', ⟨v, rfl⟩, HC.out⟩ | exact ⟨⟨v, rfl⟩, q', HC.out⟩
end

set_option maxRecDepth 100000 in
set_option maxHeartbeats 2000000 in
theorem dcaller_any (w : World) (q : Db) (D : Dc) (h : IsD w q D) (hc : D.C.length ≤ 100000) (t : Int) :
    Calls Try.prog 44 #[pv q.b, .int .i64 t] w fun e w' => w' = w ∧ e = .returned (.int .i64 (witI D.C t)) := by
  have X := dwith_any w 0 q.C D.C h.c hc t
  obtain ⟨aC, nC, cC, hvC⟩ := sl_of h.c
  have x1 : w.cell? ⟨q.b, 1, none⟩ = some (.slice aC nC cC) := by rw [← hvC]; exact h.row.cell 1
  rw [hvC] at X
  clear h hvC hc
  go_enter Try.func44, Try.ntmps44
  go_wp2_with fail
  refine X.mono ?_
  rintro e w1 ⟨rfl, rfl⟩
  go_wp2_with fail
  go_ret
  exact ⟨rfl, rfl⟩
/-- Lit. -/
def dLitN (D : Dc) (n : Int) : Int := if witI D.G n < 0 then 0 else witI D.G n
def dLitB (D : Dc) (n : Int) : Bool := !(decide (witI D.G n < 0))
set_option maxRecDepth 100000 in
set_option maxHeartbeats 2000000 in
theorem dlit_any (w : World) (q : Db) (D : Dc) (h : IsD w q D) (hc : D.G.length ≤ 100000) (t : Int) :
    Calls Try.prog 47 #[pv q.b, .int .i64 t] w fun e w' => w' = w ∧ e = .returned (.tuple #[.int .i64 (dLitN D t), .bool (dLitB D t)]) := by
  have X := dwith_any w 0 q.G D.G h.g hc t
  obtain ⟨aC, nC, cC, hvC⟩ := sl_of h.g
  have x1 : w.cell? ⟨q.b, 3, none⟩ = some (.slice aC nC cC) := by rw [← hvC]; exact h.row.cell 3
  rw [hvC] at X
  unfold dLitN dLitB
  clear h hvC hc
  generalize witI D.G t = b at *
  go_enter Try.func47, Try.ntmps47
  go_wp2_with fail
  refine X.mono ?_
  rintro e w1 ⟨rfl, rfl⟩
  by_cases hb : b < 0
  · have d1 : decide (b < 0) = true := decide_eq_true hb
    go_wp2_with fail
    go_ret2
    exact ⟨rfl, by first | rfl | simp [hb]⟩
  · have d1 : decide (b < 0) = false := decide_eq_false hb
    go_wp2_with fail
    go_ret2
    exact ⟨rfl, by first | rfl | simp [hb]⟩

end Go.Proofs.Ytjobdfkfongjaaa

/- IpDocE -/
namespace Go.Proofs.Ytjobdfkfongjaaa
open Go.RowKit Go.Maps Go.WideMaps

theorem dis_any (n : Int) (w : World) : Calls Try.prog 72 #[.int .i64 n] w fun e w' => w' = w ∧ e = .returned (.bool (numB n)) := by
  by_cases h0 : 0 ≤ n
  · by_cases h1 : n ≤ 1023
    · have HN : Hid (numB n = true) := num_iff.2 (by omega)
      go_enter Try.func72, Try.ntmps72
      go_wp2_with fail
      go_ret
      exact ⟨rfl, by rw [HN.out]; rfl⟩
    · have HN : Hid (numB n = false) := (Bool.eq_false_iff.2 (fun e => by have := num_iff.1 e; omega))
      have d1 : decide (n ≤ 1023) = false := decide_eq_false h1
      go_enter Try.func72, Try.ntmps72
      go_wp2_with fail
      go_ret
      exact ⟨rfl, by rw [HN.out]; rfl⟩
  · have HN : Hid (numB n = false) := (Bool.eq_false_iff.2 (fun e => by have := num_iff.1 e; omega))
    have d1 : decide (0 ≤ n) = false := decide_eq_false h0
    go_enter Try.func72, Try.ntmps72
    go_wp2_with fail
    go_ret
    exact ⟨rfl, by rw [HN.out]; rfl⟩

set_option maxRecDepth 100000 in
set_option maxHeartbeats 2000000 in
theorem dlight_any (w : World) (q : Db) (D : Dc) (h : IsD w q D) (hg : D.G.length ≤ 100000) (hx : D.X.length ≤ 100000) (note t : Int) :
    Calls Try.prog 79 #[pv q.b, .int .i64 note, .int .i64 t] w fun e w' => ∃ q', e = .returned (.bool (ligB D note)) ∧ ChgD w q w' q' (ligS D note t) := by
  have X := dwith_any w 0 q.G D.G h.g hg note
  obtain ⟨aG, nG, cG, hvG⟩ := sl_of h.g
  have x1 : w.cell? ⟨q.b, 3, none⟩ = some (.slice aG nG cG) := by rw [← hvG]; exact h.row.cell 3
  rw [hvG] at X
  have HH : Hid (IsD w q D) := h
  have HD : Hid (∀ m, Calls Try.prog 77 #[pv q.b, .int .i64 t, msV m] w fun e w' => ∃ v q', e = .returned v ∧ ChgD w q w' q' (dDel D t m)) := fun m => ddeliver_any w q D h hx t m
  have HG : Hid (D.G.length ≤ 100000) := hg
  clear h hvG hx hg
  by_cases hn : note < 0
  · have d0 : decide (note < 0) = true := decide_eq_true hn
    have e1 : ligB D note = false := by unfold ligB; rw [d0]; rfl
    have e2 : ligS D note t = D := by unfold ligS; rw [e1]; rfl
    rw [e1, e2]
    clear e1 e2
    generalize witI D.G note = b at *
    go_enter Try.func79, Try.ntmps79
    go_wp2_with fail
    refine X.mono ?_
    rintro e w1 ⟨rfl, rfl⟩
    go_wp2_with fail
    go_ret
    exact ⟨q, rfl, ChgD.same HH.out (Fr.refl _ _)⟩
  · have d0 : decide (note < 0) = false := decide_eq_false hn
    by_cases hb : witI D.G note < 0
    · have d1 : decide (witI D.G note < 0) = true := decide_eq_true hb
      have e1 : ligB D note = false := by unfold ligB; rw [d0, d1]; rfl
      have e2 : ligS D note t = D := by unfold ligS; rw [e1]; rfl
      rw [e1, e2]
      clear e1 e2
      generalize witI D.G note = b at *
      go_enter Try.func79, Try.ntmps79
      go_wp2_with fail
      refine X.mono ?_
      rintro e w1 ⟨rfl, rfl⟩
      go_wp2_with fail
      go_ret
      exact ⟨q, rfl, ChgD.same HH.out (Fr.refl _ _)⟩
    · have d1 : decide (witI D.G note < 0) = false := decide_eq_false hb
      have e1 : ligB D note = true := by unfold ligB; rw [d0, d1]; rfl
      have e2 : ligS D note t = { dDel D t { M0 with b := witI D.G note } with G := wout D.G note } := by unfold ligS; rw [if_pos e1]
      rw [e1, e2]
      clear e1 e2
      generalize witI D.G note = b at *
      have T := HD.out { M0 with b := b }
      go_enter Try.func79, Try.ntmps79
      go_wp2_with fail
      refine X.mono ?_
      rintro e w1 ⟨rfl, rfl⟩
      go_wp2_with fail
      refine T.mono ?_
      rintro e w2 ⟨v, q2, rfl, C2⟩
      have Y := dwithout_any w2 0 q2.G D.G C2.is.g HG.out note
      obtain ⟨aH, nH, cH, hvH⟩ := sl_of C2.is.g
      have y1 : w2.cell? ⟨q.b, 3, none⟩ = some (.slice aH nH cH) := by rw [← hvH, ← C2.eb]; exact C2.is.row.cell 3
      rw [hvH] at Y
      have HC : Hid (ChgD w1 q w2 q2 (dDel D t { M0 with b := b })) := C2
      clear C2 hvH T X x1
      go_wp2_with fail
      refine Y.mono ?_
      rintro e w3 ⟨xa, xn, xc, rfl, f3, o3⟩
      have C3 := HC.out.trans (HC.out.is.setG (f3.mono (fun _ _ h => h.elim)) (o3.low (Nat.zero_le _)) (fun k hk => Or.inr (o3.blk hk).1))
      rw [HC.out.eb] at C3
      have rb := (HC.out.is.row.keep f3 (fun h => h))
      rw [HC.out.eb] at rb
      have z3 := rb.frozen 3
      have u3 : w3.cell? ⟨q.b, 3, none⟩ = some q2.G := rb.cell 3
      have HE : Hid _ := C3
      clear C3 rb f3 o3 Y y1
      go_wp2_with fail
      go_ret
      exact ⟨_, rfl, HE.out⟩

end Go.Proofs.Ytjobdfkfongjaaa

/- IpDocF -/
namespace Go.Proofs.Ytjobdfkfongjaaa
open Go.RowKit Go.Maps Go.WideMaps

def dUnbE (D : Dc) (t : Int) : Int := if numB t = true then (if ofI D.B t < 0 then 131 else 0) else 1
def dUnbS (D : Dc) (t : Int) : Dc := if numB t = true then (if ofI D.B t < 0 then D else { D with B := wout D.B (ofI D.B t) }) else D
def dCanB (D : Dc) (t : Int) : Bool := (D.L.find? (atP t)).isSome
def dCanS (D : Dc) (t : Int) : Dc := if dCanB D t = true then dRest (if 0 ≤ ofI D.C t then { D with C := wout D.C (ofI D.C t) } else D) t else D
def dRepN (D : Dc) (t : Int) (m : Ms) : Int := if numB t = true ∧ mayM m = true then (if witI D.C t < 0 then -1 else witI D.C t) else -1
def dRepE (D : Dc) (t : Int) (m : Ms) : Int := if numB t = true ∧ mayM m = true then (if witI D.C t < 0 then 161 else 0) else 1
def dRepS (D : Dc) (t : Int) (m : Ms) : Dc := if numB t = true ∧ mayM m = true then (if witI D.C t < 0 then D else dDel (dRest { D with C := wout D.C t } (witI D.C t)) (witI D.C t) { m with b := 0 }) else D

set_option maxRecDepth 100000 in
set_option maxHeartbeats 2000000 in
theorem dunbind_any (w : World) (q : Db) (D : Dc) (h : IsD w q D) (hb : D.B.length ≤ 100000) (t : Int) :
    Calls Try.prog 38 #[pv q.b, .int .i64 t] w fun e w' => ∃ q', e = .returned (.int .i64 (dUnbE D t)) ∧ ChgD w q w' q' (dUnbS D t) := by
  have HC : Hid (ChgD w q w q D) := ChgD.same h (Fr.refl _ _)
  have X := dof_any w 0 q.B D.B h.b hb t
  obtain ⟨aG, nG, cG, hvG⟩ := sl_of h.b
  have x1 : w.cell? ⟨q.b, 2, none⟩ = some (.slice aG nG cG) := by rw [← hvG]; exact h.row.cell 2
  rw [hvG] at X
  clear h hvG
  unfold dUnbE dUnbS
  cases hn : numB t with
  | false =>
    have HB : Hid (D.B.length ≤ 100000) := hb
    clear hb X x1
    simp only [Bool.false_eq_true, if_false]
    go_enter Try.func38, Try.ntmps38
    go_wp2_with (go_at_call 72; refine (dis_any _ _).mono ?_; rintro e w1 ⟨rfl, rfl⟩; rw [hn])
    go_ret
    exact ⟨q, rfl, HC.out⟩
  | true =>
    have HB : Hid (D.B.length ≤ 100000) := hb
    clear hb
    simp only [if_true]
    generalize hr : ofI D.B t = r at *
    clear hr
    by_cases hr : r < 0
    · rw [if_pos hr, if_pos hr]
      go_enter Try.func38, Try.ntmps38
      go_wp2_with (go_at_call 72; refine (dis_any _ _).mono ?_; rintro e w1 ⟨rfl, rfl⟩; rw [hn])
      refine X.mono ?_
      rintro e w1 ⟨rfl, rfl⟩
      go_wp2_with fail
      go_ret
      exact ⟨q, rfl, HC.out⟩
    · rw [if_neg hr, if_neg hr]
      go_enter Try.func38, Try.ntmps38
      go_wp2_with (go_at_call 72; refine (dis_any _ _).mono ?_; rintro e w1 ⟨rfl, rfl⟩; rw [hn])
      refine X.mono ?_
      rintro e w1 ⟨rfl, rfl⟩
      clear X x1
      have Y := dwithout_any w1 0 q.B D.B HC.out.is.b HB.out r
      obtain ⟨aH, nH, cH, hvH⟩ := sl_of HC.out.is.b
      have y1 : w1.cell? ⟨q.b, 2, none⟩ = some (.slice aH nH cH) := by rw [← hvH, ← HC.out.eb]; exact HC.out.is.row.cell 2
      rw [hvH] at Y
      clear hvH
      go_wp2_with fail
      refine Y.mono ?_
      rintro e w3 ⟨xa, xn, xc, rfl, f3, o3⟩
      have C3 := HC.out.trans (HC.out.is.setB (f3.mono (fun _ _ h => h.elim)) (o3.low (Nat.zero_le _)) (fun k hk => Or.inr (o3.blk hk).1))
      have rb := (HC.out.is.row.keep f3 (fun h => h))
      have z3 := rb.frozen 2
      have u3 : w3.cell? ⟨q.b, 2, none⟩ = some q.B := rb.cell 2
      have HE : Hid _ := C3
      clear C3 rb f3 o3 Y y1
      go_wp2_with fail
      go_ret
      exact ⟨_, rfl, HE.out⟩

set_option maxRecDepth 100000 in
set_option maxHeartbeats 2000000 in
theorem dcancel_any (w : World) (q : Db) (D : Dc) (h : IsD w q D) (hl : D.L.length ≤ 100000) (hc : D.C.length ≤ 100000) (t : Int) :
    Calls Try.prog 39 #[pv q.b, .int .i64 t] w fun e w' => ∃ q', e = .returned (.bool (dCanB D t)) ∧ ChgD w q w' q' (dCanS D t) := by
  have HC : Hid (ChgD w q w q D) := ChgD.same h (Fr.refl _ _)
  have A := dat_any w q D h hl t
  have X := dof_any w 0 q.C D.C h.c hc t
  obtain ⟨aG, nG, cG, hvG⟩ := sl_of h.c
  have x1 : w.cell? ⟨q.b, 1, none⟩ = some (.slice aG nG cG) := by rw [← hvG]; exact h.row.cell 1
  rw [hvG] at X
  have HB : Hid (D.C.length ≤ 100000) := hc
  have HL : Hid (D.L.length ≤ 100000) := hl
  clear h hvG hc hl
  go_enter Try.func39, Try.ntmps39
  go_wp2_with fail
  refine A.mono ?_
  clear A
  rintro e w1 ⟨rfl, i, rfl, ⟨hf, rfl⟩ | ⟨j, x, hf, _, rfl, _⟩⟩
  · have HF : Hid (dCanB D t = false) := by show (D.L.find? (atP t)).isSome = false; rw [hf]; rfl
    clear hf X x1
    go_wp2_with fail
    go_ret
    exact ⟨q, by rw [HF.out]; rfl, by unfold dCanS; rw [HF.out]; exact HC.out⟩
  · have HF : Hid (dCanB D t = true) := by show (D.L.find? (atP t)).isSome = true; rw [hf]; rfl
    have HS : Hid (dCanS D t = dRest (if 0 ≤ ofI D.C t then { D with C := wout D.C (ofI D.C t) } else D) t) := by show dCanS D t = _; unfold dCanS; rw [if_pos HF.out]
    clear hf
    have d0 : decide ((j : Int) < 0) = false := decide_eq_false (by omega)
    generalize hr : ofI D.C t = r at *
    clear hr
    go_wp2_with fail
    refine X.mono ?_
    rintro e w1 ⟨rfl, rfl⟩
    clear X x1
    by_cases hr : 0 ≤ r
    · rw [if_pos hr] at HS
      have Y := dwithout_any w1 0 q.C D.C HC.out.is.c HB.out r
      obtain ⟨aH, nH, cH, hvH⟩ := sl_of HC.out.is.c
      have y1 : w1.cell? ⟨q.b, 1, none⟩ = some (.slice aH nH cH) := by rw [← hvH, ← HC.out.eb]; exact HC.out.is.row.cell 1
      rw [hvH] at Y
      clear hvH
      go_wp2_with fail
      refine Y.mono ?_
      rintro e w3 ⟨xa, xn, xc, rfl, f3, o3⟩
      have C3 := HC.out.trans (HC.out.is.setC (f3.mono (fun _ _ h => h.elim)) (o3.low (Nat.zero_le _)) (fun k hk => Or.inr (o3.blk hk).1))
      have rb := (HC.out.is.row.keep f3 (fun h => h))
      have z3 := rb.frozen 1
      have u3 : w3.cell? ⟨q.b, 1, none⟩ = some q.C := rb.cell 1
      have HE : Hid _ := C3
      clear C3 rb f3 o3 Y y1
      have R := drest_any _ _ _ HE.out.is HL.out t
      have HR : Hid _ := R
      clear R
      go_wp2_with (go_at_call 76; refine (Calls.mono HR.out ?_); rintro e w4 ⟨v, q4, rfl, C4⟩; have HX : Hid _ := C4; clear C4)
      go_ret
      exact ⟨q4, by rw [HF.out]; rfl, by rw [HS.out]; exact HE.out.trans HX.out⟩
    · rw [if_neg hr] at HS
      have HR : Hid (Calls Try.prog 76 #[pv q.b, .int .i64 t] w1 fun e w' => ∃ v q', e = .returned v ∧ ChgD w1 q w' q' { D with L := D.L.filter (fun y => y.t != t) }) := drest_any w1 q D HC.out.is HL.out t
      go_wp2_with (go_at_call 76; refine (Calls.mono HR.out ?_); rintro e w4 ⟨v, q4, rfl, C4⟩; have HX : Hid _ := C4; clear C4)
      go_ret
      exact ⟨q4, by rw [HF.out]; rfl, by rw [HS.out]; exact HX.out⟩

end Go.Proofs.Ytjobdfkfongjaaa

/- IpDocG -/
namespace Go.Proofs.Ytjobdfkfongjaaa
open Go.RowKit Go.Maps Go.WideMaps

/-- One thread more that waits: what a walk asks for. -/
theorem IsD.addL {w : World} {q : Db} {D : Dc} (h : IsD w q D) (hl : D.L.length ≤ 100000) (x : Wq) : ∃ aL nL cL va vn vc w1 q', w.cell? ⟨q.b, 0, none⟩ = some (.slice aL nL cL) ∧ (App #[27, 27] 27 #[.slice aL nL cL, .slice (some ⟨w.heap.size, 0, none⟩) 1 1]).run Try.prog (w.alloc (.cells (encQ x).toArray 103)) = .ok (.slice va vn vc) w1 ∧ w1.cell? ⟨q.b, 0, none⟩ = some q.L ∧ w1.frozen? ⟨q.b, 0, none⟩ = false ∧ ChgD w q (w1.setCell ⟨q.b, 0, none⟩ (.slice va vn vc)) q' { D with L := D.L ++ [x] } := by
  obtain ⟨aL, nL, cL, hvL⟩ := sl_of h.l
  obtain ⟨v1, w1, r1, f1, o1, n1⟩ := FL.app (T := 27) Try.underlying27 info_qw rfl (by omega) (by omega) encQ_len encQ_one h.l hl (Nat.zero_le _) x
  obtain ⟨va, vn, vc, rfl⟩ := sl_of o1
  have rb1 := h.rowB h.l (by decide) f1
  refine ⟨aL, nL, cL, va, vn, vc, w1, _, by rw [← hvL]; exact h.row.cell 0, by rw [← hvL]; exact r1, rb1.cell 0, rb1.frozen 0, h.setL f1 o1 n1⟩

def dWatG (D : Dc) (n t : Int) : Bool := numB n && numB t && !(D.L.find? (atP t)).isSome && ligB D n
def dWatE (D : Dc) (n t : Int) : Int := if numB n && numB t then (if (D.L.find? (atP t)).isSome then 150 else 0) else 1
def dWatS (D : Dc) (n t : Int) (bl : Bool) : Dc := if numB n && numB t then (if (D.L.find? (atP t)).isSome then D else if ligB D n then ligS D n t else if bl then { D with L := D.L ++ [⟨t, 5, n, M0, false⟩] } else D) else D

section
attribute [local go_sem ↓ high] builtin_app

set_option maxRecDepth 100000 in
set_option maxHeartbeats 2000000 in
theorem dwait_any (w : World) (q : Db) (D : Dc) (h : IsD w q D) (hl : D.L.length ≤ 100000) (hg : D.G.length ≤ 100000) (hx : D.X.length ≤ 100000) (n t : Int) (bl : Bool) :
    Calls Try.prog 36 #[pv q.b, .int .i64 n, .int .i64 t, .bool bl] w fun e w' => ∃ q', e = .returned (.tuple #[.bool (dWatG D n t), .int .i64 (dWatE D n t)]) ∧ ChgD w q w' q' (dWatS D n t bl) := by
  have HC : Hid (ChgD w q w q D) := ChgD.same h (Fr.refl _ _)
  have A := dat_any w q D h hl t
  have X := dlight_any w q D h hg hx n t
  have HL : Hid (D.L.length ≤ 100000) := hl
  clear h hl hg hx
  cases hn : numB n with
  | false =>
    have HN : Hid (dWatG D n t = false ∧ dWatE D n t = 1 ∧ dWatS D n t bl = D) := ⟨by unfold dWatG; rw [hn]; rfl, by unfold dWatE; rw [hn]; rfl, by unfold dWatS; rw [hn]; rfl⟩
    clear A X
    go_enter Try.func36, Try.ntmps36
    go_wp2_with (go_at_call 72; refine (dis_any _ _).mono ?_; rintro e w1 ⟨rfl, rfl⟩; try rw [hn])
    go_ret2
    rw [HN.out.1, HN.out.2.1, HN.out.2.2]
    exact ⟨q, rfl, HC.out⟩
  | true =>
    cases ht : numB t with
    | false =>
      have HN : Hid (dWatG D n t = false ∧ dWatE D n t = 1 ∧ dWatS D n t bl = D) := ⟨by unfold dWatG; rw [hn, ht]; rfl, by unfold dWatE; rw [hn, ht]; rfl, by unfold dWatS; rw [hn, ht]; rfl⟩
      clear A X
      go_enter Try.func36, Try.ntmps36
      go_wp2_with (go_at_call 72; refine (dis_any _ _).mono ?_; rintro e w1 ⟨rfl, rfl⟩; first | rw [hn] | rw [ht])
      go_ret2
      rw [HN.out.1, HN.out.2.1, HN.out.2.2]
      exact ⟨q, rfl, HC.out⟩
    | true =>
      go_enter Try.func36, Try.ntmps36
      go_wp2_with (go_at_call 72; refine (dis_any _ _).mono ?_; rintro e w1 ⟨rfl, rfl⟩; first | rw [hn] | rw [ht])
      refine A.mono ?_
      clear A
      rintro e w1 ⟨rfl, i, rfl, ⟨hf, rfl⟩ | ⟨j, x, hf, _, rfl, _⟩⟩
      · cases hb : ligB D n with
        | true =>
          have HN : Hid (dWatG D n t = true ∧ dWatE D n t = 0 ∧ dWatS D n t bl = ligS D n t) := ⟨by unfold dWatG; rw [hn, ht, hf, hb]; rfl, by unfold dWatE; rw [hn, ht, hf]; rfl, by unfold dWatS; rw [hn, ht, hf, hb]; rfl⟩
          rw [hb] at X
          clear hf hb
          go_wp2_with fail
          refine X.mono ?_
          clear X
          rintro e w2 ⟨q2, rfl, C2⟩
          have HX : Hid _ := C2
          clear C2
          go_wp2_with fail
          go_ret2
          rw [HN.out.1, HN.out.2.1, HN.out.2.2]
          exact ⟨q2, rfl, HX.out⟩
        | false =>
          have hs : ligS D n t = D := by unfold ligS; rw [hb]; rfl
          have HN : Hid (dWatG D n t = false ∧ dWatE D n t = 0 ∧ dWatS D n t bl = if bl then { D with L := D.L ++ [⟨t, 5, n, M0, false⟩] } else D) := ⟨by unfold dWatG; rw [hn, ht, hf, hb]; rfl, by unfold dWatE; rw [hn, ht, hf]; rfl, by unfold dWatS; rw [hn, ht, hf, hb]; rfl⟩
          rw [hb, hs] at X
          clear hf hb hs
          go_wp2_with fail
          refine X.mono ?_
          clear X
          rintro e w2 ⟨q2, rfl, C2⟩
          cases bl with
          | false =>
            have HX : Hid _ := C2
            clear C2
            go_wp2_with fail
            go_ret2
            rw [HN.out.1, HN.out.2.1, HN.out.2.2]
            exact ⟨q2, rfl, HX.out⟩
          | true =>
            obtain ⟨aL, nL, cL, va, vn, vc, w3, q3, c0, hrun, c1, z1, C3⟩ := C2.is.addL HL.out ⟨t, 5, n, M0, false⟩
            have HX : Hid _ := C2.trans C3
            rw [C2.eb] at c0 c1 z1
            rw [C2.eb] at HX
            dsimp only [encQ, M0] at hrun
            clear C2 C3
            go_wp2_with fail
            go_ret2
            rw [HN.out.1, HN.out.2.1, HN.out.2.2]
            exact ⟨q3, rfl, HX.out⟩
      · have HN : Hid (dWatG D n t = false ∧ dWatE D n t = 150 ∧ dWatS D n t bl = D) := ⟨by unfold dWatG; rw [hn, ht, hf]; rfl, by unfold dWatE; rw [hn, ht, hf]; rfl, by unfold dWatS; rw [hn, ht, hf]; rfl⟩
        clear hf X
        have d0 : decide (0 ≤ (j : Int)) = true := decide_eq_true (by omega)
        go_wp2_with fail
        go_ret2
        rw [HN.out.1, HN.out.2.1, HN.out.2.2]
        exact ⟨q, rfl, HC.out⟩
end

end Go.Proofs.Ytjobdfkfongjaaa

/- IpDocH -/
namespace Go.Proofs.Ytjobdfkfongjaaa
open Go.RowKit Go.Maps Go.WideMaps

theorem fnd_neg {α : Type} {p : α → Bool} {l : List α} {i : Int} (h : Fnd p l i) : (0 ≤ i ↔ (l.find? p).isSome = true) := by
  rcases h with ⟨h, rfl⟩ | ⟨j, x, h, _, rfl, _⟩
  · rw [h]; simp
  · rw [h]; simp
/-- One binding more: what a walk asks for. -/
theorem IsD.addB {w : World} {q : Db} {D : Dc} (h : IsD w q D) (hl : D.B.length ≤ 100000) (x : Int × Int) : ∃ aL nL cL va vn vc w1 q', w.cell? ⟨q.b, 2, none⟩ = some (.slice aL nL cL) ∧ q.B = .slice aL nL cL ∧ (App [28, 28].toArray 28 #[.slice aL nL cL, .slice (some ⟨w.heap.size, 0, none⟩) 1 1]).run Try.prog (w.alloc (.cells (enc2 x).toArray 111)) = .ok (.slice va vn vc) w1 ∧ w1.cell? ⟨q.b, 2, none⟩ = some q.B ∧ w1.frozen? ⟨q.b, 2, none⟩ = false ∧ ChgD w q (w1.setCell ⟨q.b, 2, none⟩ (.slice va vn vc)) q' { D with B := D.B ++ [x] } := by
  obtain ⟨aL, nL, cL, hvL⟩ := sl_of h.b
  obtain ⟨v1, w1, r1, f1, o1, n1⟩ := FL.app (T := 28) Try.underlying28 info_q2 rfl (by omega) (by omega) enc2_len enc2_one h.b hl (Nat.zero_le _) x
  obtain ⟨va, vn, vc, rfl⟩ := sl_of o1
  have rb1 := h.rowB h.b (by decide) f1
  refine ⟨aL, nL, cL, va, vn, vc, w1, _, by rw [← hvL]; exact h.row.cell 2, hvL, by rw [← hvL]; exact r1, rb1.cell 2, rb1.frozen 2, h.setB f1 o1 n1⟩
def dFul (D : Dc) (n t : Int) : Bool := decide (0 ≤ witI D.B n) || decide (0 ≤ ofI D.B t) || (D.L.find? (fiP 5 n)).isSome
def dBinE (D : Dc) (n t : Int) : Int := if numB n && numB t then (if dFul D n t then 130 else 0) else 1
def dBinS (D : Dc) (n t : Int) : Dc := if numB n && numB t then (if dFul D n t then D else { D with B := D.B ++ [(n, t)] }) else D

section
attribute [local go_sem ↓ high] builtin_app

set_option maxRecDepth 100000 in
set_option maxHeartbeats 2000000 in
theorem dbind_any (w : World) (q : Db) (D : Dc) (h : IsD w q D) (hl : D.L.length ≤ 100000) (hb : D.B.length ≤ 100000) (n t : Int) :
    Calls Try.prog 37 #[pv q.b, .int .i64 n, .int .i64 t] w fun e w' => ∃ q', e = .returned (.int .i64 (dBinE D n t)) ∧ ChgD w q w' q' (dBinS D n t) := by
  have HC : Hid (ChgD w q w q D) := ChgD.same h (Fr.refl _ _)
  obtain ⟨aL, nL, cL, va, vn, vc, w3, q3, c0, hvB, hrun, c1, z1, C3⟩ := h.addB hb (n, t)
  have X := dwith_any w 0 q.B D.B h.b hb n
  have Y := dof_any w 0 q.B D.B h.b hb t
  have A := dfirst_any w q D h hl 5 n
  rw [hvB] at X Y
  have HX : Hid _ := C3
  dsimp only [enc2] at hrun
  clear h hl hb C3 hvB
  cases hn : numB n with
  | false =>
    have HN : Hid (dBinE D n t = 1 ∧ dBinS D n t = D) := ⟨by unfold dBinE; rw [hn]; rfl, by unfold dBinS; rw [hn]; rfl⟩
    clear A X Y hrun c0 c1 z1
    go_enter Try.func37, Try.ntmps37
    go_wp2_with (go_at_call 72; refine (dis_any _ _).mono ?_; rintro e w1 ⟨rfl, rfl⟩; try rw [hn])
    go_ret
    rw [HN.out.1, HN.out.2]
    exact ⟨q, rfl, HC.out⟩
  | true =>
    cases ht : numB t with
    | false =>
      have HN : Hid (dBinE D n t = 1 ∧ dBinS D n t = D) := ⟨by unfold dBinE; rw [hn, ht]; rfl, by unfold dBinS; rw [hn, ht]; rfl⟩
      clear A X Y hrun c0 c1 z1
      go_enter Try.func37, Try.ntmps37
      go_wp2_with (go_at_call 72; refine (dis_any _ _).mono ?_; rintro e w1 ⟨rfl, rfl⟩; first | rw [hn] | rw [ht])
      go_ret
      rw [HN.out.1, HN.out.2]
      exact ⟨q, rfl, HC.out⟩
    | true =>
      have HN : Hid (dBinE D n t = (if dFul D n t then 130 else 0) ∧ dBinS D n t = if dFul D n t then D else { D with B := D.B ++ [(n, t)] }) := ⟨by unfold dBinE; rw [hn, ht]; rfl, by unfold dBinS; rw [hn, ht]; rfl⟩
      have HU : Hid (dFul D n t = (decide (0 ≤ witI D.B n) || decide (0 ≤ ofI D.B t) || (D.L.find? (fiP 5 n)).isSome)) := rfl
      generalize witI D.B n = b1 at *
      generalize ofI D.B t = b2 at *
      go_enter Try.func37, Try.ntmps37
      go_wp2_with (go_at_call 72; refine (dis_any _ _).mono ?_; rintro e w1 ⟨rfl, rfl⟩; first | rw [hn] | rw [ht])
      refine X.mono ?_
      clear X
      rintro e w1 ⟨rfl, rfl⟩
      go_wp2_with fail
      refine Y.mono ?_
      clear Y
      rintro e w1 ⟨rfl, rfl⟩
      go_wp2_with fail
      refine A.mono ?_
      clear A
      rintro e w1 ⟨rfl, i, rfl, hF⟩
      have HI : Hid (decide (0 ≤ i) = (D.L.find? (fiP 5 n)).isSome) := by
        have := fnd_neg hF
        cases hs : (D.L.find? (fiP 5 n)).isSome with
        | true => exact decide_eq_true (this.2 hs)
        | false => exact decide_eq_false (fun e => by rw [this.1 e] at hs; cases hs)
      clear hF
      by_cases g1 : 0 ≤ b1
      · have d1 : decide (0 ≤ b1) = true := decide_eq_true g1
        have HV : Hid (dFul D n t = true) := by show dFul D n t = true; rw [HU.out, d1]; rfl
        go_wp2_with fail
        go_ret
        rw [HN.out.1, HN.out.2, HV.out]
        exact ⟨q, rfl, HC.out⟩
      · have d1 : decide (0 ≤ b1) = false := decide_eq_false g1
        by_cases g2 : 0 ≤ b2
        · have d2 : decide (0 ≤ b2) = true := decide_eq_true g2
          have HV : Hid (dFul D n t = true) := by show dFul D n t = true; rw [HU.out, d1, d2]; rfl
          go_wp2_with fail
          go_ret
          rw [HN.out.1, HN.out.2, HV.out]
          exact ⟨q, rfl, HC.out⟩
        · have d2 : decide (0 ≤ b2) = false := decide_eq_false g2
          by_cases g3 : 0 ≤ i
          · have d3 : decide (0 ≤ i) = true := decide_eq_true g3
            have HV : Hid (dFul D n t = true) := by show dFul D n t = true; rw [HU.out, d1, d2, ← HI.out, d3]; rfl
            go_wp2_with fail
            go_ret
            rw [HN.out.1, HN.out.2, HV.out]
            exact ⟨q, rfl, HC.out⟩
          · have d3 : decide (0 ≤ i) = false := decide_eq_false g3
            have HV : Hid (dFul D n t = false) := by show dFul D n t = false; rw [HU.out, d1, d2, ← HI.out, d3]; rfl
            go_wp2_with fail
            go_ret
            rw [HN.out.1, HN.out.2, HV.out]
            exact ⟨q3, rfl, HX.out⟩
end

end Go.Proofs.Ytjobdfkfongjaaa

/- IpDocI -/
namespace Go.Proofs.Ytjobdfkfongjaaa
open Go.RowKit Go.Maps Go.WideMaps

theorem ChgD.high {w w1 w2 : World} {q q1 : Db} {D : Dc} {T : Nat → Prop} (c : ChgD w q w1 q1 D) (f : Fr T w1 w2) (hT : ∀ k, T k → w.heap.size ≤ k) (hq : ∀ k, q1.s k → ¬ T k) : ChgD w q w2 q1 D :=
  ⟨c.is.keep f hq, ⟨f.os.trans c.fr.os, f.tape.trans c.fr.tape, f.output.trans c.fr.output, Nat.le_trans c.fr.size f.size, fun i hi hn => (f.block i (Nat.lt_of_lt_of_le hi c.fr.size) (fun e => by have := hT i e; omega)).trans (c.fr.block i hi hn)⟩, c.new, c.eb⟩

set_option maxRecDepth 100000 in
set_option maxHeartbeats 4000000 in
theorem dreply_any (w : World) (q : Db) (D : Dc) (h : IsD w q D) (hl : D.L.length ≤ 100000) (hc : D.C.length ≤ 100000) (hx : D.X.length ≤ 100000) (t : Int) (m : Ms) :
    Calls Try.prog 33 #[pv q.b, .int .i64 t, msV m] w fun e w' => ∃ q', e = .returned (.tuple #[.int .i64 (dRepN D t m), .int .i64 (dRepE D t m)]) ∧ ChgD w q w' q' (dRepS D t m) := by
  have f0 := (Fr.refl none' w).alloc (.cells (msA m) 36)
  have r0 := row_alloc w (msA m) 36
  have HH : Hid (IsD w q D) := h
  have HF : Hid (Fr none' w (w.alloc (.cells (msA m) 36))) := f0
  have HR : Hid (Row (w.alloc (.cells (msA m) 36)) w.heap.size (msA m) 36) := r0
  have HB : Hid (¬ q.s w.heap.size) := fun hk => by have := h.lt _ hk; omega
  have HL : Hid (D.L.length ≤ 100000 ∧ D.C.length ≤ 100000 ∧ D.X.length ≤ 100000) := ⟨hl, hc, hx⟩
  dsimp only [msA] at HF HR
  clear f0 r0 h hl hc hx
  cases ht : numB t with
  | false =>
    have HN : Hid (dRepN D t m = -1 ∧ dRepE D t m = 1 ∧ dRepS D t m = D) := ⟨by unfold dRepN; rw [ht]; rfl, by unfold dRepE; rw [ht]; rfl, by unfold dRepS; rw [ht]; rfl⟩
    go_enter Try.func33, Try.ntmps33
    go_wp2_with (first | (go_at_call 72; refine (dis_any _ _).mono ?_; rintro e w1 ⟨rfl, rfl⟩; rw [ht]) | (go_at_call 73; refine (right_any m _).mono ?_; rintro e w1 ⟨rfl, f1⟩))
    go_ret2
    rw [HN.out.1, HN.out.2.1, HN.out.2.2]
    exact ⟨q, rfl, ChgD.same HH.out (HF.out.trans f1)⟩
  | true =>
    cases hm : mayM m with
    | false =>
      have HN : Hid (dRepN D t m = -1 ∧ dRepE D t m = 1 ∧ dRepS D t m = D) := ⟨by unfold dRepN; rw [ht, hm]; rfl, by unfold dRepE; rw [ht, hm]; rfl, by unfold dRepS; rw [ht, hm]; rfl⟩
      go_enter Try.func33, Try.ntmps33
      go_wp2_with (first | (go_at_call 72; refine (dis_any _ _).mono ?_; rintro e w1 ⟨rfl, rfl⟩; rw [ht]) | (go_at_call 73; refine (right_any m _).mono ?_; rintro e w1 ⟨rfl, f1⟩; rw [hm]))
      go_ret2
      rw [HN.out.1, HN.out.2.1, HN.out.2.2]
      exact ⟨q, rfl, ChgD.same HH.out (HF.out.trans f1)⟩
    | true =>
      have HN : Hid (dRepN D t m = (if witI D.C t < 0 then -1 else witI D.C t) ∧ dRepE D t m = (if witI D.C t < 0 then 161 else 0) ∧ dRepS D t m = if witI D.C t < 0 then D else dDel (dRest { D with C := wout D.C t } (witI D.C t)) (witI D.C t) { m with b := 0 }) := ⟨by unfold dRepN; rw [ht, hm]; rfl, by unfold dRepE; rw [ht, hm]; rfl, by unfold dRepS; rw [ht, hm]; rfl⟩
      go_enter Try.func33, Try.ntmps33
      go_wp2_with (go_at_call 72; refine (dis_any _ _).mono ?_; rintro e w1 ⟨rfl, rfl⟩; rw [ht])
      refine (right_any m _).mono ?_
      rintro e w1 ⟨rfl, f1⟩
      rw [hm]
      have F1 := HF.out.trans f1
      have h1 := HH.out.keep0 F1
      have X := dwith_any w1 0 q.C D.C h1.c HL.out.2.1 t
      obtain ⟨aG, nG, cG, hvG⟩ := sl_of h1.c
      have x1 : w1.cell? ⟨q.b, 1, none⟩ = some (.slice aG nG cG) := by rw [← hvG]; exact h1.row.cell 1
      have Y := dwithout_any w1 0 q.C D.C h1.c HL.out.2.1 t
      rw [hvG] at X Y
      have HC : Hid (ChgD w q w1 q D) := ChgD.same HH.out F1
      have R1 : Hid (Row w1 w.heap.size _ 36) := HR.out.keep f1 (fun h => h)
      have HZ : Hid (w.heap.size < w1.heap.size) := by have := R1.out.lt; exact this
      generalize hr : witI D.C t = r at *
      clear hr h1 hvG F1 f1
      go_wp2_with fail
      refine X.mono ?_
      rintro e w2 ⟨rfl, rfl⟩
      clear X
      by_cases hr : r < 0
      · rw [if_pos hr, if_pos hr, if_pos hr] at HN
        clear Y
        go_wp2_with fail
        go_ret2
        rw [HN.out.1, HN.out.2.1, HN.out.2.2]
        exact ⟨q, rfl, HC.out⟩
      · rw [if_neg hr, if_neg hr, if_neg hr] at HN
        go_wp2_with fail
        refine Y.mono ?_
        clear Y
        rintro e w3 ⟨xa, xn, xc, rfl, f3, o3⟩
        have C3 := HC.out.is.setC (f3.mono (fun _ _ h => h.elim)) (o3.low (Nat.zero_le _)) (fun k hk => Or.inr (o3.blk hk).1)
        have rb := HC.out.is.row.keep f3 (fun h => h)
        have z3 := rb.frozen 1
        have u3 : w3.cell? ⟨q.b, 1, none⟩ = some q.C := rb.cell 1
        have R := drest_any _ _ _ C3.is HL.out.1 r
        have HT : Hid _ := R
        have H3 : Hid _ := C3
        clear C3 rb f3 o3 R x1
        go_wp2_with fail
        refine Calls.mono HT.out ?_
        rintro e w4 ⟨v, q4, rfl, C4⟩
        have E4 := H3.out.trans C4
        have R4 := R1.out.keep E4.fr HB.out
        have hq4 : ∀ k, q4.s k → ¬ at' w.heap.size k := fun k hk e => by
          have e : k = w.heap.size := e
          subst e
          rcases E4.new _ hk with h1 | h1
          · exact HB.out h1
          · have := HZ.out; omega
        have fb := fr_set w4 w.heap.size 1 (.int .i64 0) (Fr.refl (at' w.heap.size) w4)
        have E5 := (HC.out.trans E4).high fb (fun k e => by have e : k = w.heap.size := e; omega) hq4
        have DV := ddeliver_any _ q4 _ E5.is HL.out.2.2 r { m with b := 0 }
        rw [E5.eb] at DV
        have HD : Hid _ := DV
        have H5 : Hid _ := E5
        obtain ⟨y0, y1, y2, y3, y4, y5, y6⟩ := box7 (m := m) R4
        have z1 := R4.frozen 1
        clear C4 E4 R4 hq4 fb E5 DV
        go_wp2_with fail
        refine Calls.mono HD.out ?_
        rintro e w6 ⟨v6, q6, rfl, C6⟩
        have H6 : Hid _ := H5.out.trans C6
        clear C6
        go_wp2_with fail
        go_ret2
        rw [HN.out.1, HN.out.2.1, HN.out.2.2]
        exact ⟨q6, rfl, H6.out⟩

end Go.Proofs.Ytjobdfkfongjaaa

/- IpDocJ -/
namespace Go.Proofs.Ytjobdfkfongjaaa
open Go.RowKit Go.Maps Go.WideMaps

theorem FL.set1 {α : Type} {enc : α → List Value} {e : TypeId} {k B : Nat} (hk : ∀ x, (enc x).length = k) {w : World} {g n cap : Nat} {l : List α} (h : FL e k enc B w (.slice (some ⟨g, 0, none⟩) n cap) l) {j r : Nat} {x y : α} {v : Value} (hj : l[j]? = some x) (hr : r < k) (hy : enc y = (enc x).set r v) : FL e k enc B (w.setCell ⟨g, j * k + r, none⟩ v) (.slice (some ⟨g, 0, none⟩) n cap) (l.set j y) := by
  have hlt : j < l.length := by
    rcases Nat.lt_or_ge j l.length with h' | h'
    · exact h'
    · rw [List.getElem?_eq_none h'] at hj; cases hj
  obtain ⟨hl, hh | ⟨g', cap', cur, hv, hb, hg, hc, hm, hs, ht⟩⟩ := h
  · cases hh.1
  · simp only [Value.slice.injEq, Option.some.injEq, Addr.mk.injEq, and_true] at hv
    obtain ⟨rfl, rfl, rfl⟩ := hv
    have hrow : Row w g cur e := hg
    refine ⟨by rw [flat_len hk, List.length_set], Or.inr ⟨g, cap, cur.setIfInBounds (j * k + r) v, by rw [List.length_set], hb, hrow.setCell _ _, by rw [List.length_set]; exact hc, hm, by simpa using hs, ?_⟩⟩
    rw [List.length_set]
    refine List.ext_getElem? fun i => ?_
    by_cases hi : i < l.length * k
    · have hk0 : 0 < k := by omega
      have hq : i / k < l.length := Nat.div_lt_of_lt_mul (by rw [Nat.mul_comm]; exact hi)
      have hsm : i % k < k := Nat.mod_lt _ hk0
      have hi' : i / k * k + i % k = i := by rw [Nat.mul_comm]; exact Nat.div_add_mod i k
      have hsz : j * k + r < cur.size := by
        rw [hs]
        have h1 := Nat.mul_le_mul_right k (Nat.succ_le_of_lt hlt)
        have h2 := Nat.mul_le_mul_right k hc
        rw [Nat.succ_mul] at h1
        omega
      have cold : cur[i]? = (l.flatMap enc)[i]? := by rw [← ht, List.getElem?_take, if_pos hi]; simp
      have old := flat_at hk l (i / k) _ (List.getElem?_eq_getElem hq) (i % k) hsm
      rw [hi'] at old
      rw [List.getElem?_take, if_pos hi, Array.getElem?_toList, Array.getElem?_setIfInBounds]
      by_cases e1 : i / k = j
      · have ex : l[i / k] = x := by
          have h1 := List.getElem?_eq_getElem hq
          have h2 : l[i / k]? = some x := by rw [e1]; exact hj
          rw [h1] at h2
          exact Option.some.inj h2
        have new := flat_at hk (l.set j y) (i / k) y (by rw [e1, List.getElem?_set, if_pos rfl, if_pos hlt]) (i % k) hsm
        rw [hi'] at new
        rw [new, hy, List.getElem?_set]
        by_cases e2 : r = i % k
        · have : j * k + r = i := by rw [← e1, e2]; exact hi'
          rw [if_pos this, if_pos (by omega), if_pos e2, if_pos (by rw [hk]; exact hr)]
        · have : ¬ j * k + r = i := fun h' => e2 (by rw [← e1] at h'; omega)
          rw [if_neg this, if_neg e2, cold, old, ex]
      · have new := flat_at hk (l.set j y) (i / k) l[i / k] (by rw [List.getElem?_set, if_neg (fun h' => e1 h'.symm)]; exact List.getElem?_eq_getElem hq) (i % k) hsm
        rw [hi'] at new
        have : ¬ j * k + r = i := fun h' => e1 (by rw [← h', Nat.mul_comm, Nat.mul_add_div hk0, Nat.div_eq_of_lt hr, Nat.add_zero])
        rw [new, if_neg this, cold, old]
    · rw [List.getElem?_eq_none (by rw [List.length_take]; omega), List.getElem?_eq_none (by rw [flat_len hk, List.length_set]; omega)]

/-- The first one of a number waits for nobody's answer. -/
def setO : List Wq → Int → List Wq
  | [], _ => []
  | x :: l, c => if x.t = c then { x with o := -1 } :: l else x :: setO l c
theorem setO_at : ∀ {l : List Wq} {j : Nat} {x : Wq} {c : Int}, l[j]? = some x → atP c x = true → (∀ (m : Nat) (n : Wq), m < j → l[m]? = some n → atP c n = false) → l.set j { x with o := -1 } = setO l c
  | [], j, x, c, h, _, _ => by simp at h
  | y :: l, 0, x, c, h, hx, _ => by
    simp at h; subst h
    have : y.t = c := by simpa [atP] using hx
    rw [List.set_cons_zero, setO, if_pos this]
  | y :: l, j + 1, x, c, h, hx, hn => by
    have h0 := hn 0 y (by omega) (by simp)
    have : ¬ y.t = c := by simpa [atP] using h0
    rw [List.set_cons_succ, setO, if_neg this, setO_at (l := l) (j := j) (by simpa using h) hx (fun m n hm h' => hn (m + 1) n (by omega) (by simpa using h'))]
def dForS (D : Dc) (t : Int) : Dc := if witI D.C t < 0 then D else { D with L := setO D.L (witI D.C t), C := wout D.C t }
theorem IsD.setO {w : World} {q : Db} {D : Dc} (h : IsD w q D) {g n cap j : Nat} (hv : q.L = .slice (some ⟨g, 0, none⟩) n cap) {x : Wq} (hj : D.L[j]? = some x) : ChgD w q (w.setCell ⟨g, j * 11 + 2, none⟩ (.int .i64 (-1))) q { D with L := D.L.set j { x with o := -1 } } := by
  have f := fr_set w g (j * 11 + 2) (.int .i64 (-1)) (Fr.refl (at' g) w)
  have hl := h.l
  rw [hv] at hl
  have ho : ∀ k, at' g k → some k = q.L.ownBlock := fun k e => by have e : k = g := e; rw [hv, e]; rfl
  have f' : Fr (fun k => some k = q.L.ownBlock) w (w.setCell ⟨g, j * 11 + 2, none⟩ (.int .i64 (-1))) := f.mono (fun k _ e => ho k e)
  have l' := FL.set1 encQ_len hl (r := 2) (y := { x with o := -1 }) (v := .int .i64 (-1)) hj (by omega) rfl
  refine ⟨⟨h.rowB h.l (by decide) f', by rw [hv]; exact l', fl_other h.c h.l (by decide) f', fl_other h.b h.l (by decide) f', fl_other h.g h.l (by decide) f', fl_other h.x h.l (by decide) f', h.cb, h.cg, h.bg⟩, f.mono (fun k _ e => Or.inr (Or.inl (ho k e))), fun k hk => Or.inl hk, rfl⟩

set_option maxRecDepth 100000 in
set_option maxHeartbeats 2000000 in
theorem dforget_any (w : World) (q : Db) (D : Dc) (h : IsD w q D) (hl : D.L.length ≤ 100000) (hc : D.C.length ≤ 100000) (t : Int) (hw : 0 ≤ witI D.C t → (D.L.find? (atP (witI D.C t))).isSome = true) :
    Calls Try.prog 34 #[pv q.b, .int .i64 t] w fun e w' => ∃ q', e = .returned (.int .i64 (witI D.C t)) ∧ ChgD w q w' q' (dForS D t) := by
  have HC : Hid (ChgD w q w q D) := ChgD.same h (Fr.refl _ _)
  have X := dwith_any w 0 q.C D.C h.c hc t
  have A := dat_any w q D h hl (witI D.C t)
  obtain ⟨aG, nG, cG, hvG⟩ := sl_of h.c
  have x1 : w.cell? ⟨q.b, 1, none⟩ = some (.slice aG nG cG) := by rw [← hvG]; exact h.row.cell 1
  rw [hvG] at X
  have HW : Hid (0 ≤ witI D.C t → (D.L.find? (atP (witI D.C t))).isSome = true) := hw
  have HL : Hid (D.C.length ≤ 100000) := hc
  unfold dForS
  clear h hl hc hw hvG
  generalize witI D.C t = c at *
  by_cases hr : c < 0
  · rw [if_pos hr]
    clear A
    go_enter Try.func34, Try.ntmps34
    go_wp2_with fail
    refine X.mono ?_
    rintro e w1 ⟨rfl, rfl⟩
    go_wp2_with fail
    go_ret
    exact ⟨q, rfl, HC.out⟩
  · rw [if_neg hr]
    have hr' : 0 ≤ c := by omega
    have hs := HW.out hr'
    go_enter Try.func34, Try.ntmps34
    go_wp2_with fail
    refine X.mono ?_
    clear X
    rintro e w1 ⟨rfl, rfl⟩
    clear x1
    go_wp2_with fail
    refine A.mono ?_
    clear A
    rintro e w1 ⟨rfl, i, rfl, ⟨hf, rfl⟩ | ⟨j, x, hf, hj, rfl, hbef⟩⟩
    · rw [hf] at hs; cases hs
    · obtain ⟨a, cap, hv, hn⟩ := HC.out.is.l.form encQ_len
      obtain ⟨g, rfl, hcell, hz⟩ := hn j x hj
      have hpx : atP c x = true := by
        have := List.find?_some hf
        exact this
      have hjl : j < D.L.length := by
        rcases Nat.lt_or_ge j D.L.length with h' | h'
        · exact h'
        · rw [List.getElem?_eq_none h'] at hj; cases hj
      have C2 := HC.out.is.setO hv hj
      rw [setO_at hj hpx hbef] at C2
      have c0 : w1.cell? ⟨q.b, 0, none⟩ = some q.L := HC.out.is.row.cell 0
      rw [hv] at c0
      have d2 := hcell 2 _ rfl
      have z2 := hz (j * 11 + 2)
      have H2 : Hid _ := C2
      have Y := dwithout_any _ 0 q.C D.C C2.is.c HL.out t
      obtain ⟨aH, nH, cH, hvH⟩ := sl_of C2.is.c
      have y1 : (w1.setCell ⟨g, j * 11 + 2, none⟩ (.int .i64 (-1))).cell? ⟨q.b, 1, none⟩ = some (.slice aH nH cH) := by rw [← hvH]; exact C2.is.row.cell 1
      have y2 : w1.cell? ⟨q.b, 1, none⟩ = some (.slice aH nH cH) := by rw [← hvH]; exact HC.out.is.row.cell 1
      have hgb : ¬ g = q.b := fun e => by
        obtain ⟨_, _, cur, r⟩ := HC.out.is.l.blk (q := g) (by rw [hv]; rfl)
        rw [e] at r
        exact absurd (row_ty HC.out.is.row r).1 (by decide)
      rw [hvH] at Y
      have HY : Hid _ := Y
      generalize D.L.length = N at *
      clear hf hj hbef hv hn hcell hz hpx C2 hvH Y hs HW
      go_wp2_with fail
      refine Calls.mono HY.out ?_
      rintro e w3 ⟨xa, xn, xc, rfl, f3, o3⟩
      have C3 := H2.out.trans (H2.out.is.setC (f3.mono (fun _ _ h => h.elim)) (o3.low (Nat.zero_le _)) (fun k hk => Or.inr (o3.blk hk).1))
      have rb := H2.out.is.row.keep f3 (fun h => h)
      have z3 := rb.frozen 1
      have u3 : w3.cell? ⟨q.b, 1, none⟩ = some q.C := rb.cell 1
      have HE : Hid _ := C3
      clear C3 rb f3 o3 HY y1 y2
      go_wp2_with fail
      go_ret
      exact ⟨_, rfl, HE.out⟩

end Go.Proofs.Ytjobdfkfongjaaa

/- IpDocK -/
namespace Go.Proofs.Ytjobdfkfongjaaa
open Go.RowKit Go.Maps Go.WideMaps

def dStS (D : Dc) (t : Int) : Int := match D.L.find? (atP t) with
  | some x => x.s
  | none => 0
def dStO (D : Dc) (t : Int) : Int := match D.L.find? (atP t) with
  | some x => x.o
  | none => -1
set_option maxRecDepth 100000 in
set_option maxHeartbeats 2000000 in
theorem dstate_any (w : World) (q : Db) (D : Dc) (h : IsD w q D) (hl : D.L.length ≤ 100000) (t : Int) :
    Calls Try.prog 43 #[pv q.b, .int .i64 t] w fun e w' => e = .returned (.tuple #[.int .i64 (dStS D t), .int .i64 (dStO D t)]) ∧ Fr none' w w' := by
  have HC : Hid (IsD w q D) := h
  have A := dat_any w q D h hl t
  have HL : Hid (D.L.length ≤ 100000) := hl
  clear h hl
  go_enter Try.func43, Try.ntmps43
  go_wp2_with fail
  refine A.mono ?_
  clear A
  rintro e w1 ⟨rfl, i, rfl, ⟨hf, rfl⟩ | ⟨j, x, hf, hj, rfl, _⟩⟩
  · have HN : Hid (dStS D t = 0 ∧ dStO D t = -1) := ⟨by unfold dStS; rw [hf], by unfold dStO; rw [hf]⟩
    clear hf
    go_wp2_with fail
    go_ret2
    rw [HN.out.1, HN.out.2]
    exact ⟨rfl, Fr.refl _ _⟩
  · have HN : Hid (dStS D t = x.s ∧ dStO D t = x.o) := ⟨by unfold dStS; rw [hf], by unfold dStO; rw [hf]⟩
    obtain ⟨a, cap, hv, hn⟩ := HC.out.l.form encQ_len
    obtain ⟨g, rfl, hcell, _⟩ := hn j x hj
    have hjl : j < D.L.length := by
      rcases Nat.lt_or_ge j D.L.length with h' | h'
      · exact h'
      · rw [List.getElem?_eq_none h'] at hj; cases hj
    have c0 : w1.cell? ⟨q.b, 0, none⟩ = some q.L := HC.out.row.cell 0
    rw [hv] at c0
    have d1 := hcell 1 _ rfl
    have d2 := hcell 2 _ rfl
    have d0 : decide ((j : Int) < 0) = false := decide_eq_false (by omega)
    have hlen := HL.out
    have HF : Hid (Fr none' w1 w1.drew) := (Fr.refl none' w1).drew
    generalize D.L.length = N at *
    have ik : 0 ≤ (j : Int) ∧ (j : Int) < (N : Int) := by omega
    clear hf hj hv hn hcell HL HC
    go_wp2_with fail
    go_region
    all_goals go_wp2_with fail
    all_goals go_ret2
    all_goals rw [HN.out.1, HN.out.2]
    all_goals exact ⟨rfl, HF.out⟩

end Go.Proofs.Ytjobdfkfongjaaa

