/-
  The document's Add, Wake, Stop, again, SetPriority, SetDomain, Yield, front, Thread over the translation. No statement is proved here.
-/
import Derived.Test.YtipfgenbfnkpfaaSdRef
namespace Go.Proofs.Ytipfgenbfnkpfaa
open Go.RowKit Go.Maps Go.WideMaps

/-! ### those who are ready, as one list -/
def wakQ (S : Sd) (Q : List Int) (i : Int) : List Int := match fnd S.L i with
  | none => Q
  | some t => if t.a then Q else Q ++ [i]
def stoQ (S : Sd) (Q : List Int) (i : Int) : List Int := match fnd S.L i with
  | none => Q
  | some _ => gOut i Q
def agaQ (S : Sd) (Q : List Int) (t : Tk) : List Int := if rdy S t then gOut t.i Q ++ [t.i] else Q
def priQ (S : Sd) (Q : List Int) (i p : Int) : List Int := match fnd S.L i with
  | none => Q
  | some t => if 0 ≤ p ∧ p < 64 then agaQ S Q t else Q
def domQ (S : Sd) (Q : List Int) (i d : Int) : List Int := match fnd S.L i with
  | none => Q
  | some t => if 0 ≤ d ∧ d < 4 then agaQ S Q t else Q
def yieQ (S : Sd) (Q : List Int) : List Int := if S.c = -1 then Q else Q ++ [S.c]

theorem step_append_run {ops : Array Oper} {o : Oper} {a : Act} {w : World} {K : Act → World → Prop} {Q : Exit → Act → World → Prop} {E : Prop} (hgd : o.guard = none) (s x : Operand) (t : TypeId)
    (ho : o.op = .call { callee := .builtin .append, args := #[s, x], argTypes := #[t, t] }) (vs vx v' : Value) (w' : World) (hs : a.eval s = vs) (hx : a.eval x = vx)
    (hrun : (Builtin.append_ #[t, t] o.type #[vs, vx]).run Try.prog w = .ok v' w') (hK : K (a.put o.dst v') w') :
    if Region.wanted o (yielded ops a.tmps) = true then Oper.wp Try.prog o a w K Q else E := by
  have hw : Region.wanted o (yielded ops a.tmps) = true := by simp [Region.wanted, hgd]
  rw [if_pos hw]
  unfold Oper.wp
  simp [execOp, ho, resolve, invoke, builtin, hs, hx, hrun, Result.andThen]
  exact hK

/-- One thread more. -/
theorem app_t {w : World} (x : Tk) (v : Value) (L : List Tk) (ho : w.ownsRow 0 40 5 v L.length (flatT L)) (hl : L.length ≤ 5000) (w1 : World) (g : Nat) (f1 : Fr none' w w1) (r1 : Row w1 g (tkA x) 40) :
    ∃ v' w', (Builtin.append_ #[58, 58] 58 #[v, .slice (some ⟨g, 0, none⟩) 1 1]).run Try.prog w1 = .ok v' w' ∧ Fr (fun k => some k = v.ownBlock) w1 w' ∧ w'.ownsRow 0 40 5 v' (L ++ [x]).length (flatT (L ++ [x])) ∧ (v'.ownBlock = v.ownBlock ∨ v'.ownBlock = some w1.heap.size) := by
  have hi := info_tk
  cases hq : Try.prog.info? 40 with
  | none => simp [hq] at hi
  | some i =>
    rw [hq] at hi
    simp only [Option.map_some, Option.some.injEq, Prod.mk.injEq] at hi
    obtain ⟨hz0, hs, hby⟩ := hi
    obtain ⟨v', w', g1, g2, g3, _, g5⟩ := run_append_own_at (P := Try.prog) (w := w1) 0 58 58 40 i _ 5 40 Try.underlying58 hq hz0 hs hby rfl (by omega) v L.length (flatT L) (ownsRow_at ho fun q _ hl => f1.block q hl (fun h => h)) ⟨g, 0, none⟩ 1 1 (encT x) rfl (fun j u hu => by
      rw [add_lit', Nat.zero_add, r1.cell]
      have : (tkA x)[j]? = (encT x)[j]? := by simp [tkA, encT]
      rw [this]
      exact hu) (fun u hu => flatT_one' [x] u (by simpa [flatT] using hu)) (by simp only [maxLen]; omega) (by omega) (by omega)
    refine ⟨v', w', g1, fr_of_grown' g3, ?_, g5⟩
    rw [flatT_append, show flatT [x] = encT x by simp [flatT], List.length_append]
    exact g2

theorem ChgD.of {w w' : World} {q q' : Db} {S1 S2 : Sd} {Q : List Int} (h : ChgD w q w' q' S1 Q) (e1 : S2.L = S1.L) (e2 : S2.c = S1.c) (e3 : S2.tb = S1.tb) (e4 : S2.tn = S1.tn) (e5 : S2.lf = S1.lf) : ChgD w q w' q' S2 Q := by
  obtain ⟨a, ⟨b1, b2, b3, b4, b5⟩, c, d⟩ := h
  refine ⟨a, ⟨?_, by rw [e3]; exact b2, by rw [e1]; exact b3, b4, by rw [e1]; exact b5⟩, c, d⟩
  unfold dC at *
  rw [e2, e4, e5]
  exact b1

/-- A number appended to the list of those who are ready, and stored. -/
theorem IsD.push {w : World} {q : Db} {S : Sd} {Q : List Int} (h : IsD w q S Q) (hl : Q.length ≤ 5000) (x : Int) {w1 : World} {g : Nat} (f1 : Fr none' w w1) (r1 : Row w1 g #[.int .i64 x] 3) :
    ∃ (va : Option Addr) (vn vc : Nat) (w' : World), (Builtin.append_ #[43, 43] 43 #[q.Qv, .slice (some ⟨g, 0, none⟩) 1 1]).run Try.prog w1 = .ok (.slice va vn vc) w' ∧ w'.cell? ⟨q.b, 4, none⟩ = some q.Qv ∧ w'.frozen? ⟨q.b, 4, none⟩ = false ∧ w'.cell? ⟨q.b, 5, none⟩ = some (.int .i64 S.c) ∧ w'.frozen? ⟨q.b, 5, none⟩ = false ∧ ChgD w q (w'.setCell ⟨q.b, 4, none⟩ (.slice va vn vc)) { q with Qv := .slice va vn vc } S (Q ++ [x]) := by
  obtain ⟨v', w', hrun, f2, h2, h3⟩ := app_q x q.Qv Q h.que hl w1 g f1 r1
  obtain ⟨va, vn, vc, rfl⟩ : ∃ a n c, v' = .slice a n c := by
    rcases own_form h2 with ⟨e, _⟩ | ⟨g, cap, e⟩
    · exact ⟨_, _, _, e⟩
    · exact ⟨_, _, _, e⟩
  have fz := f1.size
  have fr : Fr (fun k => some k = q.Qv.ownBlock) w w' := ⟨f2.os.trans f1.os, f2.tape.trans f1.tape, f2.output.trans f1.output, Nat.le_trans f1.size f2.size, fun i hi hn => (f2.block i (Nat.lt_of_lt_of_le hi f1.size) hn).trans (f1.block i hi (fun h => h))⟩
  have n3 := own_off h.que h.row (by decide)
  have r2 : Row w' q.b (dC q S) 60 := h.row.keep fr n3
  refine ⟨va, vn, vc, w', hrun, r2.cell 4, r2.frozen 4, r2.cell 5, r2.frozen 5, h.setQ fr h2 (fun k hk => ?_)⟩
  rcases h3 with h3 | h3
  · exact Or.inl (hk.trans h3)
  · rw [h3] at hk
    have := Option.some.inj hk
    exact Or.inr (by omega)

set_option maxRecDepth 100000 in
set_option maxHeartbeats 2000000 in
theorem radd_any (w : World) (q : Db) (S : Sd) (Q : List Int) (h : IsD w q S Q) (i p d : Int) :
    Calls Try.prog 26 #[.pointer (some ⟨q.b, 0, none⟩), .int .i64 i, .int .i64 p, .int .i64 d] w fun e w' => e = .returned (.int .i64 (addE S i p d)) ∧ ∃ q', ChgD w q w' q' (addS S i p d) Q := by
  have HS : Hid (∃ q', ChgD w q w q' S Q) := ⟨q, ChgD.same h (Fr.refl _ _)⟩
  have no : (¬ (0 ≤ i ∧ i < 1024 ∧ 0 ≤ p ∧ p < 64 ∧ 0 ≤ d ∧ d < 4)) → addE S i p d = 1 ∧ addS S i p d = S := fun hh => by
    have e1 : addE S i p d = 1 := by unfold addE; rw [if_neg hh]
    exact ⟨e1, by unfold addS; rw [if_neg (by rw [e1]; omega)]⟩
  by_cases h0 : i < 0
  · have g0 : decide (i < 0) = true := decide_eq_true h0
    obtain ⟨e1, e2⟩ := no (by omega)
    rw [e1, e2]
    clear h no e1 e2
    go_enter Try.func26, Try.ntmps26
    go_wp2_with fail
    go_ret
    exact ⟨rfl, HS.out⟩
  have g0 : decide (i < 0) = false := decide_eq_false h0
  by_cases h1 : 1023 < i
  · have g1 : decide (1023 < i) = true := decide_eq_true h1
    obtain ⟨e1, e2⟩ := no (by omega)
    rw [e1, e2]
    clear h no e1 e2
    go_enter Try.func26, Try.ntmps26
    go_wp2_with fail
    go_ret
    exact ⟨rfl, HS.out⟩
  have g1 : decide (1023 < i) = false := decide_eq_false h1
  by_cases h2 : p < 0
  · have g2 : decide (p < 0) = true := decide_eq_true h2
    obtain ⟨e1, e2⟩ := no (by omega)
    rw [e1, e2]
    clear h no e1 e2
    go_enter Try.func26, Try.ntmps26
    go_wp2_with fail
    go_ret
    exact ⟨rfl, HS.out⟩
  have g2 : decide (p < 0) = false := decide_eq_false h2
  by_cases h3 : 63 < p
  · have g3 : decide (63 < p) = true := decide_eq_true h3
    obtain ⟨e1, e2⟩ := no (by omega)
    rw [e1, e2]
    clear h no e1 e2
    go_enter Try.func26, Try.ntmps26
    go_wp2_with fail
    go_ret
    exact ⟨rfl, HS.out⟩
  have g3 : decide (63 < p) = false := decide_eq_false h3
  by_cases h4 : d < 0
  · have g4 : decide (d < 0) = true := decide_eq_true h4
    obtain ⟨e1, e2⟩ := no (by omega)
    rw [e1, e2]
    clear h no e1 e2
    go_enter Try.func26, Try.ntmps26
    go_wp2_with fail
    go_ret
    exact ⟨rfl, HS.out⟩
  have g4 : decide (d < 0) = false := decide_eq_false h4
  by_cases h5 : 3 < d
  · have g5 : decide (3 < d) = true := decide_eq_true h5
    obtain ⟨e1, e2⟩ := no (by omega)
    rw [e1, e2]
    clear h no e1 e2
    go_enter Try.func26, Try.ntmps26
    go_wp2_with fail
    go_ret
    exact ⟨rfl, HS.out⟩
  have g5 : decide (3 < d) = false := decide_eq_false h5
  clear no
  have hin : 0 ≤ i ∧ i < 1024 ∧ 0 ≤ p ∧ p < 64 ∧ 0 ≤ d ∧ d < 4 := by omega
  cases hf : fnd S.L i with
  | some t =>
    have e1 : addE S i p d = 130 := by unfold addE; rw [if_pos hin, hf]
    have e2 : addS S i p d = S := by unfold addS; rw [if_neg (by rw [e1]; omega)]
    rw [e1, e2]
    obtain ⟨j, hj⟩ := fnd_ix hf
    have A := rat_at h hf hj
    clear h e1 e2 hf hj hin
    go_enter Try.func26, Try.ntmps26
    go_wp2_with (go_at_call 55; refine A.mono ?_; rintro e w1 ⟨rfl, rfl⟩)
    go_ret
    exact ⟨rfl, HS.out⟩
  | none =>
    have e1 : addE S i p d = 0 := by unfold addE; rw [if_pos hin, hf]
    have e2 : addS S i p d = { S with L := S.L ++ [⟨i, p, d, 4, false⟩] } := by unfold addS; rw [if_pos e1]
    have A := rat_no h hf
    have f1 := (Fr.refl none' w).alloc (.cells (tkA ⟨i, p, d, 4, false⟩) 40)
    have r1 := row_alloc w (tkA ⟨i, p, d, 4, false⟩) 40
    obtain ⟨v', w', hrun, f2, h2, h3⟩ := app_t ⟨i, p, d, 4, false⟩ q.Lv S.L h.tks (Nat.le_trans (len_le h.good) (by omega)) _ w.heap.size f1 r1
    have fr : Fr (fun k => some k = q.Lv.ownBlock) w w' := ⟨f2.os.trans f1.os, f2.tape.trans f1.tape, f2.output.trans f1.output, Nat.le_trans f1.size f2.size, fun i hi hn => (f2.block i (Nat.lt_of_lt_of_le hi f1.size) hn).trans (f1.block i hi (fun h => h))⟩
    have r2 : Row w' q.b (dC q S) 60 := h.row.keep fr (own_off h.tks h.row (by decide))
    have g2 : GoodL (S.L ++ [⟨i, p, d, 4, false⟩]) := by
      refine ⟨fun n hn => ?_, ?_⟩
      · rcases List.mem_append.mp hn with hn | hn
        · exact h.good.all n hn
        · rw [List.mem_singleton] at hn
          subst hn
          exact ⟨hin.1, by show i ≤ 1023; omega, hin.2.2.1, by show p ≤ 63; omega, hin.2.2.2.2.1, by show d ≤ 3; omega, by show (0 : Int) ≤ 4; omega, by show (4 : Int) ≤ 4; omega⟩
      · rw [List.pairwise_append]
        refine ⟨h.good.one, by simp, fun a ha b hb => ?_⟩
        rw [List.mem_singleton] at hb
        subst hb
        exact fnd_none hf a ha
    have HC : Hid (∃ q', ChgD w q (w'.setCell ⟨q.b, 3, none⟩ v') q' (addS S i p d) Q) := ⟨{ q with Lv := v' }, by
      rw [e2]
      refine h.setL g2 fr h2 (fun k hk => ?_)
      rcases h3 with h3 | h3
      · exact Or.inl (hk.trans h3)
      · rw [h3] at hk
        have := Option.some.inj hk
        have := f1.size
        exact Or.inr (by omega)⟩
    obtain ⟨av', n', c', hv'⟩ : ∃ av' n' c', v' = .slice av' n' c' := by
      obtain ⟨_, hh | ⟨g, cap, cur, hv, _⟩⟩ := h2
      · exact ⟨_, _, _, hh.1⟩
      · exact ⟨_, _, _, hv⟩
    subst hv'
    have c3 := (h.keep0 f1).cells.2.2.2.1
    have k3 := h.cells.2.2.2.1
    have k4 := r2.cell 3
    have z4 := r2.frozen 3
    obtain ⟨av, cp, hv, _⟩ := h.formL
    dsimp only [tkA, dC] at *
    rw [e1]
    rw [hv] at c3 k3 hrun k4
    dsimp at k4
    clear h e1 e2 hf hin f1 r1 f2 h2 h3 fr r2 g2 hv
    generalize S.L.length = N at *
    go_enter Try.func26, Try.ntmps26
    go_wp2_with (first | (go_at_call 55; refine A.mono ?_; rintro e w1 ⟨rfl, rfl⟩) | (at_builtin; refine wpList_append_runK rfl _ _ 58 rfl _ _ rfl rfl _ _ hrun ?_))
    go_ret
    exact ⟨rfl, HC.out⟩

set_option maxRecDepth 100000 in
set_option maxHeartbeats 2000000 in
theorem rwake_any (w : World) (q : Db) (S : Sd) (Q : List Int) (h : IsD w q S Q) (hl : Q.length ≤ 5000) (i : Int) :
    Calls Try.prog 29 #[.pointer (some ⟨q.b, 0, none⟩), .int .i64 i] w fun e w' => e = .returned (.int .i64 (thrE S i)) ∧ ∃ q', ChgD w q w' q' (wakS S i) (wakQ S Q i) := by
  have HS : Hid (∃ q', ChgD w q w q' S Q) := ⟨q, ChgD.same h (Fr.refl _ _)⟩
  unfold thrE wakS wakQ
  cases hf : fnd S.L i with
  | none =>
    have A := rat_no h hf
    clear h hf
    go_enter Try.func29, Try.ntmps29
    go_wp2_with (go_at_call 55; refine A.mono ?_; rintro e w1 ⟨rfl, rfl⟩)
    go_ret
    exact ⟨rfl, HS.out⟩
  | some t =>
    dsimp only
    obtain ⟨j, hj⟩ := fnd_ix hf
    have A := rat_at h hf hj
    have hlt := lt_of_get hj
    have hlen := len_le h.good
    obtain ⟨av, cp, hv, _, hn⟩ := h.formL
    obtain ⟨g, rfl, hgb, _, _, _, _, ca, zz⟩ := hn j t hj
    have z4 := zz (j * 5 + 4)
    have k3 := h.cells.2.2.2.1
    rw [hv] at k3
    have i1 : 0 ≤ (j : Int) ∧ (j : Int) < (S.L.length : Int) := by omega
    cases hA : t.a with
    | true =>
      rw [hA] at ca
      simp only [if_true]
      clear h hf hj hn hv zz hgb hlt
      generalize S.L.length = N at *
      go_enter Try.func29, Try.ntmps29
      go_wp2_with (go_at_call 55; refine A.mono ?_; rintro e w1 ⟨rfl, rfl⟩)
      go_ret
      exact ⟨rfl, HS.out⟩
    | false =>
      rw [hA] at ca
      simp only [Bool.false_eq_true, if_false]
      have hti := fnd_i hf
      have C1 := h.setT hj hv (f := setA true) (fun _ => rfl) ((h.good.all t (List.mem_of_getElem? hj)).setA true) (r := 4) (by omega) (u := .bool true) rfl
      rw [hti] at C1
      have f1 := (Fr.refl none' (w.setCell ⟨g, j * 5 + 4, none⟩ (.bool true))).alloc (.cells #[.int .i64 i] 3)
      obtain ⟨va, vn, vc, w', hrun, b4, y4, _, _, C2⟩ := C1.is.push hl i f1 (row_alloc _ #[.int .i64 i] 3)
      have k4 := C1.is.cells.2.2.2.2.1
      have HC : Hid (∃ q', ChgD w q (w'.setCell ⟨q.b, 4, none⟩ (.slice va vn vc)) q' (app { S with L := upd S.L i (setA true) } t gEnd) (Q ++ [i])) := ⟨_, (C1.trans C2).of rfl rfl rfl rfl rfl⟩
      obtain ⟨aq, cq, hqv, _⟩ := h.formQ
      rw [hqv] at hrun b4 k4
      have s1 : (w.setCell ⟨g, j * 5 + 4, none⟩ (.bool true)).heap.size = w.heap.size := by simp
      rw [s1] at hrun
      have hgb' : q.b ≠ g := fun e => hgb e.symm
      clear h hf hj hn hv zz C1 C2 f1 hqv hlt HS
      generalize S.L.length = N at *
      generalize Q.length = M at *
      go_enter Try.func29, Try.ntmps29
      go_wp2_with (first | (go_at_call 55; refine A.mono ?_; rintro e w1 ⟨rfl, rfl⟩) | (at_builtin; refine wpList_append_runK rfl _ _ 43 rfl _ _ rfl rfl _ _ hrun ?_))
      go_ret
      exact ⟨rfl, HC.out⟩

end Go.Proofs.Ytipfgenbfnkpfaa
