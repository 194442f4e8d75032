/-
  The contract of package asm's 'parse' over the translation: what a line says. No statement is proved here.
-/
import Derived.Test.YtecipogfdhpjfaaGreatDoorAsmRead3
import Derived.Test.YtecipogfdhpjfaaGreatDoorAsmStm2
namespace Go.Proofs.YtecipogfdhpjfaaGreatDoor
open Go.RowKit

/-- Is a token more than what may stand at a place? -/
def beyI (t : Tok) (r : Int) : Bool :=
  match t with
  | .reg n => decide (15 < n)
  | .num n => if r == 119 then decide (4294967295 < n) else decide (65535 < n)
  | _ => false
def beyL : List UInt8 → List Tok → Bool
  | c :: cs, t :: ts => beyI t (c.toNat : Int) || beyL cs ts
  | _, _ => false
/-- What a line says: the error; its label, its operation, its operands. -/
def parseP (s : List UInt8) : Nat × List UInt8 × Int × List Tok :=
  match cutT s with
  | none => (60, [], 0, [])
  | some l =>
    match (cutLT l).2 with
    | [] => (0, (cutLT l).1, -1, [])
    | t :: ts => if isItT (opTk t) ts then (if beyL (layB (opTk t)) ts then (63, [], 0, []) else (0, (cutLT l).1, opTk t, ts)) else (61, [], 0, [])

theorem beyL_all : ∀ (cs : List UInt8) (ts : List Tok), (∀ (j : Nat) c t, cs[j]? = some c → ts[j]? = some t → beyI t (c.toNat : Int) = false) → beyL cs ts = false
  | [], _, _ => by simp [beyL]
  | _ :: _, [], _ => by simp [beyL]
  | c :: cs, t :: ts, h => by
    simp only [beyL, Bool.or_eq_false_iff]
    exact ⟨h 0 c t rfl rfl, beyL_all cs ts (fun j c' t' h1 h2 => h (j + 1) c' t' (by simpa using h1) (by simpa using h2))⟩
theorem beyL_yes : ∀ (cs : List UInt8) (ts : List Tok) (j : Nat) (c : UInt8) (t : Tok), cs[j]? = some c → ts[j]? = some t → beyI t (c.toNat : Int) = true → beyL cs ts = true
  | [], _, j, c, t, h1, _, _ => by simp at h1
  | _ :: _, [], j, c, t, _, h2, _ => by simp at h2
  | c :: cs, t :: ts, 0, c', t', h1, h2, h => by
    simp at h1 h2
    subst h1 h2
    simp [beyL, h]
  | c :: cs, t :: ts, j + 1, c', t', h1, h2, h => by
    simp only [beyL]
    rw [beyL_yes cs ts j c' t' (by simpa using h1) (by simpa using h2) h]
    simp

set_option maxHeartbeats 800000 in
theorem bey_sg (v r : Int) (w : World) : Calls Tryz.prog 135 #[.int .i32 v, .int .i32 r] w fun e w' => e = .returned (.bool false) ∧ w' = w := by
  go_enter Tryz.func135, Tryz.ntmps135
  go_wp2
  go_ret
  exact ⟨rfl, rfl⟩
set_option maxHeartbeats 800000 in
theorem bey_nm (v : ByteArray) (r : Int) (w : World) : Calls Tryz.prog 136 #[.string v, .int .i32 r] w fun e w' => e = .returned (.bool false) ∧ w' = w := by
  go_enter Tryz.func136, Tryz.ntmps136
  go_wp2
  go_ret
  exact ⟨rfl, rfl⟩
set_option maxHeartbeats 800000 in
theorem bey_reg (n : Nat) (r : Int) (w : World) : Calls Tryz.prog 137 #[.int .i64 ((min n 4294967296 : Nat) : Int), .int .i32 r] w fun e w' => e = .returned (.bool (decide (15 < n))) ∧ w' = w := by
  obtain ⟨m, hm⟩ : ∃ m : Int, ((min n 4294967296 : Nat) : Int) = m := ⟨_, rfl⟩
  have HM : Hid (((min n 4294967296 : Nat) : Int) = m) := hm
  rw [hm]
  clear hm
  go_enter Tryz.func137, Tryz.ntmps137
  go_wp2
  go_ret
  exact ⟨ret_bool (decide_eq_decide.2 (by have := HM.out; omega)), rfl⟩
set_option maxHeartbeats 800000 in
theorem bey_num (n : Nat) (r : Int) (w : World) : Calls Tryz.prog 138 #[.int .i64 ((min n 4294967296 : Nat) : Int), .int .i32 r] w fun e w' => e = .returned (.bool (if r == 119 then decide (4294967295 < n) else decide (65535 < n))) ∧ w' = w := by
  obtain ⟨m, hm⟩ : ∃ m : Int, ((min n 4294967296 : Nat) : Int) = m := ⟨_, rfl⟩
  have HM : Hid (((min n 4294967296 : Nat) : Int) = m) := hm
  rw [hm]
  clear hm
  cases h : (r == 119)
  · go_enter Tryz.func138, Tryz.ntmps138
    go_wp2
    go_ret
    exact ⟨ret_bool (decide_eq_decide.2 (by have := HM.out; omega)), rfl⟩
  · go_enter Tryz.func138, Tryz.ntmps138
    go_wp2
    go_ret
    exact ⟨ret_bool (decide_eq_decide.2 (by have := HM.out; omega)), rfl⟩

theorem bey_any (t : Tok) (r : Int) : ∃ T x K, tval t = .iface T x ∧ (∀ w, (method 292 T x "viceroy/asm.beyond").run Tryz.prog w = .ok (K, x) w) ∧ (∀ args w, (callFunc K args).run Tryz.prog w = .ok (.enter K args) w) ∧ ∀ w, Calls Tryz.prog K #[x, .int .i32 r] w fun e w' => e = .returned (.bool (beyI t r)) ∧ w' = w := by
  cases t with
  | sg c => exact ⟨_, _, 135, rfl, fun _ => by kernel_rfl, enters_of Tryz.func135 (by kernel_rfl) rfl, fun w => bey_sg _ r w⟩
  | nm s => exact ⟨_, _, 136, rfl, fun _ => by kernel_rfl, enters_of Tryz.func136 (by kernel_rfl) rfl, fun w => bey_nm _ r w⟩
  | reg n => exact ⟨_, _, 137, rfl, fun _ => by kernel_rfl, enters_of Tryz.func137 (by kernel_rfl) rfl, fun w => bey_reg n r w⟩
  | num n => exact ⟨_, _, 138, rfl, fun _ => by kernel_rfl, enters_of Tryz.func138 (by kernel_rfl) rfl, fun w => bey_num n r w⟩

theorem size_st : (Tryz.prog.info? 67).map (·.size) = some 3 := by kernel_rfl
theorem ret_st_tmp {fn : Func} {p u : Tmp} {tmps : Array Value} {g : Nat} {cs : Array Value} {w : World} (h : fn.results = #[.cell p 67, .tmp u]) (hp : tmps.getD p undef = .pointer (some ⟨g, 0, none⟩)) (hr : Row w g cs 67) (hs : cs.size = 3) :
    (results fn tmps).run Tryz.prog w = .ok (.tuple #[.agg cs, tmps.getD u undef]) w := by
  rw [results_cell_tmp h, hp]
  simp only [asAddr, Sem.run_pure, Result.andThen]
  rw [run_loadVar_row w g _ 67 cs (0, 0) _ hr Tryz.underlying67 rfl (by rw [hs]; exact size_st)]
def sput (w : World) (g : Nat) (x y z : Value) : World := ((w.setCell ⟨g, 0, none⟩ x).setCell ⟨g, 1, none⟩ y).setCell ⟨g, 2, none⟩ z
theorem sbox_set {w : World} {g : Nat} {x y z x' y' z' : Value} {t : TypeId} (h : Row w g #[x, y, z] t) : Row (sput w g x' y' z') g #[x', y', z'] t := ((h.setCell 0 _).setCell 1 _).setCell 2 _
theorem sbox_fr {S : Nat → Prop} {w w1 : World} {g : Nat} (x y z : Value) (h : Fr S w w1) (hb : w.heap.size ≤ g ∨ S g) : Fr S w (sput w1 g x y z) :=
  ((h.setCell (p := ⟨g, 0, none⟩) hb _).setCell (p := ⟨g, 1, none⟩) hb _).setCell (p := ⟨g, 2, none⟩) hb _
theorem Toks.set {w : World} {v : Value} {l : List Tok} (h : Toks w v l) {g : Nat} {cs : Array Value} (r : Row w g cs 67) (i : Nat) (x : Value) : Toks (w.setCell ⟨g, i, none⟩ x) v l := by
  rcases h with h | ⟨b, off, c, ds, h1, h2, h3, h4⟩
  · exact Or.inl h
  · refine Or.inr ⟨b, off, c, ds, h1, h2, h3.setCell_other (p := ⟨g, i, none⟩) (fun e => ?_) x, h4⟩
    have e' : g = b := e
    subst e'
    have a1 : w.heap[g]? = some (.cells cs 67 (0, 0)) := r
    rw [show w.heap[g]? = _ from h3] at a1
    simp at a1
theorem Toks.sput {w : World} {v : Value} {l : List Tok} (h : Toks w v l) {g : Nat} {x y z : Value} (r : Row w g #[x, y, z] 67) (x' y' z' : Value) : Toks (sput w g x' y' z') v l :=
  ((h.set r 0 x').set (r.setCell 0 x') 1 y').set ((r.setCell 0 x').setCell 1 y') 2 z'

theorem flush_len (x : Cut) : (flush x).l.length ≤ x.l.length + 1 := by
  unfold flush
  split
  · omega
  · split
    · simp
    · simp
theorem step_len (x : Cut) (c : UInt8) : (stepC x c).l.length ≤ x.l.length + 2 := by
  have := flush_len x
  unfold stepC
  repeat' split
  all_goals (try simp)
  all_goals omega
theorem fold_len : ∀ (l : List UInt8) (x : Cut), (l.foldl stepC x).l.length ≤ x.l.length + 2 * l.length
  | [], x => by simp
  | c :: l, x => by
    have h1 := fold_len l (stepC x c)
    have h2 := step_len x c
    simp only [List.foldl_cons, List.length_cons]
    omega
theorem cut_len {s : List UInt8} {l : List Tok} (h : cutT s = some l) : l.length ≤ 2 * s.length + 1 := by
  unfold cutT at h
  split at h
  · cases h
    unfold cutC
    have h1 := flush_len ((code s).foldl stepC ⟨[], [], true⟩)
    have h2 := fold_len (code s) ⟨[], [], true⟩
    have h3 := (List.takeWhile_sublist (fun c : UInt8 => c != 59) (l := s)).length_le
    simp only [List.length_nil] at h2
    unfold code at h1 h2 ⊢
    omega
  · cases h

def ParsePost (w w' : World) (s : List UInt8) (e : Ending) : Prop :=
  (((parseP s).1 ≠ 0 ∧ e = .returned (.tuple #[.agg #[strV [], .int .i64 0, .slice none 0 0], .int .i64 ((parseP s).1 : Nat)])) ∨
   ((parseP s).1 = 0 ∧ ∃ v, e = .returned (.tuple #[.agg #[strV (parseP s).2.1, .int .i64 (parseP s).2.2.1, v], .int .i64 0]) ∧ Toks w' v (parseP s).2.2.2)) ∧ Fr none' w w'

theorem row_two {w : World} {b g : Nat} {cs ds : Array Value} (h : Row w b cs 95) (r : Row w g ds 67) (x y : Value) : Row ((w.setCell ⟨g, 1, none⟩ x).setCell ⟨g, 2, none⟩ y) b cs 95 := by
  have hnb : g ≠ b := by
    intro e'
    subst e'
    have x1 : w.heap[g]? = some (.cells cs 95 (0, 0)) := h
    rw [show w.heap[g]? = _ from r] at x1
    simp at x1
  exact (h.setCell_other (p := ⟨g, 1, none⟩) hnb _).setCell_other (p := ⟨g, 2, none⟩) hnb _

set_option maxRecDepth 100000 in
set_option maxHeartbeats 3200000 in
theorem parse_any (s : ByteArray) (hs : s.size ≤ 4000) (w : World) (hE : Env w) : Calls Tryz.prog 24 #[.string s] w fun e w' => ParsePost w w' s.data.toList e := by
  have hR := fun w hE => read_any s hs w hE
  have r0 := row_alloc w #[.string { data := #[] }, .int .i64 0, .slice none 0 0] 67
  have f0 := (Fr.refl none' w).alloc (.cells #[.string { data := #[] }, .int .i64 0, .slice none 0 0] 67)
  have E0 := hE.keep f0
  cases hc : cutT s.data.toList with
  | none =>
    go_enter Tryz.func24, Tryz.ntmps24
    go_wp2_with fail
    refine (hR _ E0).mono ?_
    rintro e w1 ⟨⟨v, rfl, hv, _⟩, f1⟩
    rw [hc]
    obtain rfl := hv hc
    have r1 := r0.keep f1 (fun h => h)
    obtain ⟨c0, c1, c2⟩ := sbox_cells r1
    have fz := r1.frozen
    go_wp2_with fail
    refine bodyPost_ret (ret_st_tmp rfl rfl (sbox_set r1) rfl) rfl ?_
    have hp : parseP s.data.toList = (60, [], 0, []) := by unfold parseP; rw [hc]
    exact ⟨Or.inl ⟨by rw [hp]; simp, by rw [hp]; rfl⟩, sbox_fr _ _ _ (f0.trans f1) (Or.inl (Nat.le_refl _))⟩
  | some l =>
    have hll := cut_len hc
    have hLab := fun v w hE hT => cutlabel_any v l w hE hT (by rw [← Lib.size_eq] at hll; omega)
    have HE : Hid (Env w) := hE
    go_enter Tryz.func24, Tryz.ntmps24
    go_wp2_with fail
    refine (hR _ E0).mono ?_
    rintro e w1 ⟨⟨v, rfl, _, ho⟩, f1⟩
    have tk1 := toks_own (ho l hc)
    rw [hc]
    have r1 := r0.keep f1 (fun h => h)
    have F1 := f0.trans f1
    have hlt : w.heap.size < w1.heap.size := by have := r1.lt; omega
    have a1 := (Fr.refl none' w1).alloc (.cells #[.string { data := #[] }, .int .i64 (-1), .slice none 0 0] 67)
    have E1 := (HE.out.keep F1).keep a1
    have T1 := tk1.keep a1
    have q1 := row_alloc w1 #[.string { data := #[] }, .int .i64 (-1), .slice none 0 0] 67
    have r2 := r1.keep a1 (fun h => h)
    have F2 := F1.trans a1
    clear ho tk1 r0 f0 E0 f1 r1 hR hE
    go_wp2_with fail
    refine (hLab _ _ E1 T1).mono ?_
    rintro e w2 ⟨⟨v2, rfl, T2⟩, f2⟩
    have q2 := q1.keep f2 (fun h => h)
    have r3 := r2.keep f2 (fun h => h)
    have F3 := F2.trans f2
    obtain ⟨d0, d1, d2⟩ := sbox_cells q2
    have fq := q2.frozen
    obtain ⟨c0, c1, c2⟩ := sbox_cells r3
    have fr := r3.frozen
    have hne : w1.heap.size ≠ w.heap.size := by omega
    have hne' : w.heap.size ≠ w1.heap.size := by omega
    clear q1 r2 F1 F2 a1 T1 E1 f2
    have hpp : parseP s.data.toList = match (cutLT l).2 with
      | [] => (0, (cutLT l).1, -1, [])
      | t :: ts => if isItT (opTk t) ts then (if beyL (layB (opTk t)) ts then (63, [], 0, []) else (0, (cutLT l).1, opTk t, ts)) else (61, [], 0, []) := by unfold parseP; rw [hc]
    have HPP : Hid (parseP s.data.toList = match (cutLT l).2 with
      | [] => (0, (cutLT l).1, -1, [])
      | t :: ts => if isItT (opTk t) ts then (if beyL (layB (opTk t)) ts then (63, [], 0, []) else (0, (cutLT l).1, opTk t, ts)) else (61, [], 0, [])) := hpp
    clear hpp hll hLab
    simp only [strV]
    obtain ⟨lb, hlb⟩ : ∃ lb : ByteArray, lb = ⟨(cutLT l).1.toArray⟩ := ⟨_, rfl⟩
    rw [← hlb]
    have HLB : Hid (lb = ⟨(cutLT l).1.toArray⟩) := hlb
    clear hlb
    cases hrest : (cutLT l).2 with
    | nil =>
      rw [hrest] at T2
      have HP := HPP.out
      rw [hrest] at HP
      obtain ⟨a, c, rfl⟩ : ∃ a c, v2 = .slice a 0 c := by
        rcases T2 with ⟨_, a, c, h⟩ | ⟨b, off, c, cs, h, _⟩
        · exact ⟨a, c, h⟩
        · exact ⟨_, c, h⟩
      have HP' : Hid (parseP s.data.toList = (0, (cutLT l).1, -1, [])) := HP
      clear HP HPP hrest T2
      go_wp2_with fail
      refine bodyPost_ret (ret_st_tmp rfl rfl (sbox_set (r3.setCell_other (p := ⟨w1.heap.size, 0, none⟩) hne _)) rfl) rfl ?_
      refine ⟨Or.inr ⟨by rw [HP'.out], .slice none 0 0, ?_, ?_⟩, ?_⟩
      · rw [HP'.out, HLB.out]; rfl
      · rw [HP'.out]; exact Or.inl ⟨rfl, none, 0, rfl⟩
      · exact sbox_fr _ _ _ (F3.setCell (p := ⟨w1.heap.size, 0, none⟩) (Or.inl (by show w.heap.size ≤ w1.heap.size; omega)) _) (Or.inl (Nat.le_refl _))
    | cons t ts =>
      rw [hrest] at T2
      have HP := HPP.out
      rw [hrest] at HP
      have HP' : Hid (parseP s.data.toList = if isItT (opTk t) ts then (if beyL (layB (opTk t)) ts then (63, [], 0, []) else (0, (cutLT l).1, opTk t, ts)) else (61, [], 0, [])) := HP
      obtain ⟨b, off, c, cs, rfl, hcc, hrow, hx⟩ : ∃ b off c cs, v2 = .slice (some ⟨b, off, none⟩) (ts.length + 1) c ∧ ts.length + 1 ≤ c ∧ Row w2 b cs 95 ∧ ∀ (j : Nat) t', (t :: ts)[j]? = some t' → cs[off + j]? = some (tval t') := by
        rcases T2 with ⟨h, _⟩ | ⟨b, off, c, cs, h1, h2, h3, h4⟩
        · cases h
        · exact ⟨b, off, c, cs, h1, h2, h3, h4⟩
      have tk0 : (((ts.length + 1 : Nat) : Int) == 0) = false := by simp; omega
      have HX : Hid (∀ (j : Nat) t', (t :: ts)[j]? = some t' → cs[off + j]? = some (tval t')) := hx
      have HT2 : Hid (Toks w2 (.slice (some ⟨b, off, none⟩) (ts.length + 1) c) (t :: ts)) := T2
      have HROW : Hid (Row w2 b cs 95) := hrow
      have HQ2 : Hid (Row w2 w1.heap.size #[.string { data := #[] }, .int .i64 (-1), .slice none 0 0] 67) := q2
      have HR3 : Hid (Row w2 w.heap.size #[.string { data := #[] }, .int .i64 0, .slice none 0 0] 67) := r3
      have HF3 : Hid (Fr none' w w2) := F3
      clear HP HPP hrest T2 hx hrow q2 r3 F3 hc
      go_wp2_with fail
      have hw1 : w.heap.size ≤ w1.heap.size := by omega
      generalize hW : w2.setCell ⟨w1.heap.size, 0, none⟩ (.string lb) = W
      have qW : Row W w1.heap.size #[.string lb, .int .i64 (-1), .slice none 0 0] 67 := by rw [← hW]; exact HQ2.out.setCell 0 _
      have rW : Row W w.heap.size #[.string { data := #[] }, .int .i64 0, .slice none 0 0] 67 := by rw [← hW]; exact HR3.out.setCell_other (p := ⟨w1.heap.size, 0, none⟩) hne _
      have FW : Fr none' w W := by rw [← hW]; exact HF3.out.setCell (p := ⟨w1.heap.size, 0, none⟩) (Or.inl hw1) _
      have tW : Row W b cs 95 := by
        rw [← hW]
        refine HROW.out.setCell_other (p := ⟨w1.heap.size, 0, none⟩) (fun e => ?_) _
        have e' : w1.heap.size = b := e
        have x1 : w2.heap[b]? = some (.cells cs 95 (0, 0)) := HROW.out
        have x2 : w2.heap[w1.heap.size]? = some (.cells #[.string { data := #[] }, .int .i64 (-1), .slice none 0 0] 67 (0, 0)) := HQ2.out
        rw [e', x1] at x2
        simp at x2
      have cW : W.cell? ⟨b, off, none⟩ = some (tval t) := by rw [tW.cell]; exact HX.out 0 t rfl
      clear d0 d1 d2 c0 c1 c2 fq fr HQ2 HR3 HF3 HROW hW HT2
      have hO := fun w' (f : Fr none' W w') => op_any t w' (((HE.out).keep FW).keep f)
      obtain ⟨T1, x1, hx1⟩ : ∃ T x, tval t = .iface T x := by cases t <;> exact ⟨_, _, rfl⟩
      rw [hx1] at cW hO
      obtain ⟨q, hq⟩ : ∃ q, opTk t = q := ⟨_, rfl⟩
      rw [hq] at hO HP'
      clear hx1 hq
      have y1 : (ts.length + 1 : Nat) ≤ c := hcc
      obtain ⟨d0, d1, d2⟩ := sbox_cells qW
      have fq := qW.frozen
      obtain ⟨bi, hbi⟩ : ∃ bi, isItT q ts = bi := ⟨_, rfl⟩
      have HBI : Hid (isItT q ts = bi) := hbi
      have HX1 : Hid (∀ (j : Nat) t', ts[j]? = some t' → cs[off + 1 + j]? = some (tval t')) := fun j t' ht => by have := HX.out (j + 1) t' (by simpa using ht); rwa [show off + (j + 1) = off + 1 + j by omega] at this
      clear hbi
      cases bi
      · by_cases hc1 : c = 1
        · subst hc1
          obtain rfl : ts = [] := List.length_eq_zero_iff.1 (by omega)
          go_region_with (first | (go_at_call 42; refine (hO _ (Fr.refl none' W).drew).mono ?_; rintro e w3 ⟨rfl, f3⟩; replace f3 := f3.undrew; have q3 := qW.keep f3 (fun h => h); obtain ⟨e0, e1, e2⟩ := sbox_cells q3; have fq3 := q3.frozen))
          all_goals generalize hX : (w3.setCell ⟨w1.heap.size, 1, none⟩ (.int .i64 q)).setCell ⟨w1.heap.size, 2, none⟩ (.slice (some ⟨b, off, none⟩) 0 0) = X
          all_goals have qX : Row X w1.heap.size #[.string lb, .int .i64 q, .slice (some ⟨b, off, none⟩) 0 0] 67 := by rw [← hX]; exact (q3.setCell 1 _).setCell 2 _
          all_goals have rX : Row X w.heap.size #[.string { data := #[] }, .int .i64 0, .slice none 0 0] 67 := by rw [← hX]; exact ((rW.keep f3 (fun h => h)).setCell_other (p := ⟨w1.heap.size, 1, none⟩) hne _).setCell_other (p := ⟨w1.heap.size, 2, none⟩) hne _
          all_goals have FX : Fr none' w X := by rw [← hX]; exact ((FW.trans f3).setCell (p := ⟨w1.heap.size, 1, none⟩) (Or.inl hw1) _).setCell (p := ⟨w1.heap.size, 2, none⟩) (Or.inl hw1) _
          all_goals have tX : Row X b cs 95 := by rw [← hX]; exact row_two (tW.keep f3 (fun h => h)) q3 _ _
          all_goals have TX : Toks X (.slice (some ⟨b, off, none⟩) 0 0) [] := Or.inl ⟨rfl, _, _, rfl⟩
          all_goals have hI := isitem_any (.string lb) q (.slice (some ⟨b, off, none⟩) 0 0) [] X (HE.out.keep FX) TX
          all_goals rw [HBI.out] at hI
          all_goals have hL := fun w => layout_any q w
          all_goals simp only [strV] at hL
          all_goals obtain ⟨g0, g1, g2⟩ := sbox_cells qX
          all_goals clear hX e0 e1 e2 d0 d1 d2 fq fq3 q3 qW rW tW FW f3 hO cW
          all_goals go_wp2_with (first | (go_at_call 43; refine hI.mono ?_; rintro e w4 ⟨rfl, f4⟩; have q4 := qX.keep f4 (fun h => h); have r4 := rX.keep f4 (fun h => h); have t4 := tX.keep f4 (fun h => h); have F4 := FX.trans f4; obtain ⟨h0, h1, h2⟩ := sbox_cells q4; obtain ⟨z0, z1, z2⟩ := sbox_cells r4; have fz := r4.frozen) | (go_at_call 36; refine (hL _).mono ?_; rintro e w5 ⟨rfl, f5⟩))
          all_goals refine bodyPost_ret (ret_st_tmp rfl rfl (sbox_set r4) rfl) rfl ?_
          all_goals have HPE : parseP s.data.toList = (61, [], 0, []) := by rw [HP'.out, HBI.out]; rfl
          all_goals exact ⟨Or.inl ⟨by rw [HPE]; simp, by rw [HPE]; rfl⟩, sbox_fr _ _ _ F4 (Or.inl (Nat.le_refl _))⟩
        · go_region_with (first | (go_at_call 42; refine (hO _ (Fr.refl none' W).drew).mono ?_; rintro e w3 ⟨rfl, f3⟩; replace f3 := f3.undrew; have q3 := qW.keep f3 (fun h => h); obtain ⟨e0, e1, e2⟩ := sbox_cells q3; have fq3 := q3.frozen))
          all_goals generalize hX : (w3.setCell ⟨w1.heap.size, 1, none⟩ (.int .i64 q)).setCell ⟨w1.heap.size, 2, none⟩ (.slice (some ⟨b, off + 1, none⟩) ts.length (c - 1)) = X
          all_goals have qX : Row X w1.heap.size #[.string lb, .int .i64 q, .slice (some ⟨b, off + 1, none⟩) ts.length (c - 1)] 67 := by rw [← hX]; exact (q3.setCell 1 _).setCell 2 _
          all_goals have rX : Row X w.heap.size #[.string { data := #[] }, .int .i64 0, .slice none 0 0] 67 := by rw [← hX]; exact ((rW.keep f3 (fun h => h)).setCell_other (p := ⟨w1.heap.size, 1, none⟩) hne _).setCell_other (p := ⟨w1.heap.size, 2, none⟩) hne _
          all_goals have FX : Fr none' w X := by rw [← hX]; exact ((FW.trans f3).setCell (p := ⟨w1.heap.size, 1, none⟩) (Or.inl hw1) _).setCell (p := ⟨w1.heap.size, 2, none⟩) (Or.inl hw1) _
          all_goals have tX : Row X b cs 95 := by rw [← hX]; exact row_two (tW.keep f3 (fun h => h)) q3 _ _
          all_goals have TX : Toks X (.slice (some ⟨b, off + 1, none⟩) ts.length (c - 1)) ts := Or.inr ⟨b, off + 1, c - 1, cs, rfl, by omega, tX, HX1.out⟩
          all_goals have hI := isitem_any (.string lb) q (.slice (some ⟨b, off + 1, none⟩) ts.length (c - 1)) ts X (HE.out.keep FX) TX
          all_goals rw [HBI.out] at hI
          all_goals have hL := fun w => layout_any q w
          all_goals simp only [strV] at hL
          all_goals obtain ⟨g0, g1, g2⟩ := sbox_cells qX
          all_goals clear hX e0 e1 e2 d0 d1 d2 fq fq3 q3 qW rW tW FW f3 hO cW
          all_goals go_wp2_with (first | (go_at_call 43; refine hI.mono ?_; rintro e w4 ⟨rfl, f4⟩; have q4 := qX.keep f4 (fun h => h); have r4 := rX.keep f4 (fun h => h); have t4 := tX.keep f4 (fun h => h); have F4 := FX.trans f4; obtain ⟨h0, h1, h2⟩ := sbox_cells q4; obtain ⟨z0, z1, z2⟩ := sbox_cells r4; have fz := r4.frozen) | (go_at_call 36; refine (hL _).mono ?_; rintro e w5 ⟨rfl, f5⟩))
          all_goals refine bodyPost_ret (ret_st_tmp rfl rfl (sbox_set r4) rfl) rfl ?_
          all_goals have HPE : parseP s.data.toList = (61, [], 0, []) := by rw [HP'.out, HBI.out]; rfl
          all_goals exact ⟨Or.inl ⟨by rw [HPE]; simp, by rw [HPE]; rfl⟩, sbox_fr _ _ _ F4 (Or.inl (Nat.le_refl _))⟩
      · by_cases hc1 : c = 1
        · subst hc1
          obtain rfl : ts = [] := List.length_eq_zero_iff.1 (by omega)
          go_region_with (first | (go_at_call 42; refine (hO _ (Fr.refl none' W).drew).mono ?_; rintro e w3 ⟨rfl, f3⟩; replace f3 := f3.undrew; have q3 := qW.keep f3 (fun h => h); obtain ⟨e0, e1, e2⟩ := sbox_cells q3; have fq3 := q3.frozen))
          all_goals generalize hX : (w3.setCell ⟨w1.heap.size, 1, none⟩ (.int .i64 q)).setCell ⟨w1.heap.size, 2, none⟩ (.slice (some ⟨b, off, none⟩) 0 0) = X
          all_goals have qX : Row X w1.heap.size #[.string lb, .int .i64 q, .slice (some ⟨b, off, none⟩) 0 0] 67 := by rw [← hX]; exact (q3.setCell 1 _).setCell 2 _
          all_goals have rX : Row X w.heap.size #[.string { data := #[] }, .int .i64 0, .slice none 0 0] 67 := by rw [← hX]; exact ((rW.keep f3 (fun h => h)).setCell_other (p := ⟨w1.heap.size, 1, none⟩) hne _).setCell_other (p := ⟨w1.heap.size, 2, none⟩) hne _
          all_goals have FX : Fr none' w X := by rw [← hX]; exact ((FW.trans f3).setCell (p := ⟨w1.heap.size, 1, none⟩) (Or.inl hw1) _).setCell (p := ⟨w1.heap.size, 2, none⟩) (Or.inl hw1) _
          all_goals have tX : Row X b cs 95 := by rw [← hX]; exact row_two (tW.keep f3 (fun h => h)) q3 _ _
          all_goals have TX : Toks X (.slice (some ⟨b, off, none⟩) 0 0) [] := Or.inl ⟨rfl, _, _, rfl⟩
          all_goals have hI := isitem_any (.string lb) q (.slice (some ⟨b, off, none⟩) 0 0) [] X (HE.out.keep FX) TX
          all_goals rw [HBI.out] at hI
          all_goals have hL := fun w => layout_any q w
          all_goals simp only [strV] at hL
          all_goals obtain ⟨g0, g1, g2⟩ := sbox_cells qX
          all_goals clear hX e0 e1 e2 d0 d1 d2 fq fq3 q3 qW rW tW FW f3 hO cW
          all_goals go_wp2_with (first | (go_at_call 43; refine hI.mono ?_; rintro e w4 ⟨rfl, f4⟩; have q4 := qX.keep f4 (fun h => h); have r4 := rX.keep f4 (fun h => h); have t4 := tX.keep f4 (fun h => h); have F4 := FX.trans f4; obtain ⟨h0, h1, h2⟩ := sbox_cells q4; obtain ⟨z0, z1, z2⟩ := sbox_cells r4; have fz := r4.frozen) | (go_at_call 36; refine (hL _).mono ?_; rintro e w5 ⟨rfl, f5⟩))
          all_goals
            have q5 := q4.keep f5 (fun h => h)
            have r5 := r4.keep f5 (fun h => h)
            have t5 := t4.keep f5 (fun h => h)
            have F5 := F4.trans f5
            have HLEN : Hid (([] : List Tok).length = (layB q).length) := by
              have := HBI.out
              unfold isItT at this
              simp only [Bool.and_eq_true] at this
              exact fitsL_len _ _ this.2
            have ha := (lay_small q).2
            obtain ⟨qb, hqb, hqe⟩ : ∃ qb : ByteArray, layB q = qb.data.toList ∧ (⟨(layB q).toArray⟩ : ByteArray) = qb := ⟨_, rfl, rfl⟩
            rw [hqe]
            have HQB : Hid (layB q = qb.data.toList) := hqb
            rw [hqb] at ha
            have HA : Hid (∀ c ∈ qb.data.toList, c.toNat < 128) := ha
            clear hqb hqe ha qX rX tX FX TX hI hL g0 g1 g2 q4 r4 t4 F4 h0 h1 h2 z0 z1 z2 fz f4 f5
            go_loopw [] (fun wr => ∃ p : Nat, p ≤ qb.size ∧ (∀ (j : Nat) c t, j < p → qb.data.toList[j]? = some c → ([] : List Tok)[j]? = some t → beyI t (c.toNat : Int) = false) ∧ Fr none' w5 wr ∧ It wr w5.heap.size qb p) (fun wr => qb.size - itPos wr w5.heap.size)
            case atStart => exact ⟨0, by omega, fun j c t hj => by omega, (Fr.refl _ _).alloc _, it_new w5 qb⟩
            case round =>
              obtain ⟨p, hp, hw, fk, ik⟩ := hrel
              have M1 : Hid (itPos wr w5.heap.size = p) := ik.pos
              have HW : Hid (∀ (j : Nat) c t, j < p → qb.data.toList[j]? = some c → ([] : List Tok)[j]? = some t → beyI t (c.toNat : Int) = false) := hw
              have HLQ : Hid (([] : List Tok).length = qb.size) := by show _ = _; rw [HLEN.out, HQB.out, ← Lib.size_eq]
              by_cases he : p = qb.size
              · have hn := fun ty => next_none (P := Tryz.prog) ik (by omega) ty
                have hno : beyL (layB q) ([] : List Tok) = false := by
                  rw [HQB.out]
                  exact beyL_all _ _ (fun j c t h1 h2 => HW.out j c t (by
                    rcases Nat.lt_or_ge j p with h | h
                    · exact h
                    · rw [List.getElem?_eq_none (by rw [← Lib.size_eq]; omega)] at h1; cases h1) h1 h2)
                have HNO : Hid (parseP s.data.toList = (0, (cutLT l).1, q, ([] : List Tok))) := by show _ = _; rw [HP'.out, HBI.out, hno]; rfl
                have q6 := q5.keep fk (fun h => h)
                have r6 := r5.keep fk (fun h => h)
                obtain ⟨h0, h1, h2⟩ := sbox_cells q6
                obtain ⟨z0, z1, z2⟩ := sbox_cells r6
                have fz := r6.frozen
                have T6 : Toks wr (.slice (some ⟨b, off, none⟩) 0 0) ([] : List Tok) := Or.inl ⟨rfl, _, _, rfl⟩
                clear hp hw ik M1 he hno
                go_wp2_with fail
                refine bodyPost_ret (ret_st_tmp rfl rfl (sbox_set r6) rfl) rfl ?_
                exact ⟨Or.inr ⟨by rw [HNO.out], .slice (some ⟨b, off, none⟩) 0 0, by rw [HNO.out, HLB.out]; rfl, by rw [HNO.out]; exact T6.sput r6 _ _ _⟩, sbox_fr _ _ _ (F5.trans fk) (Or.inl (Nat.le_refl _))⟩
              · exact absurd HLQ.out (by simp; omega)
        · go_region_with (first | (go_at_call 42; refine (hO _ (Fr.refl none' W).drew).mono ?_; rintro e w3 ⟨rfl, f3⟩; replace f3 := f3.undrew; have q3 := qW.keep f3 (fun h => h); obtain ⟨e0, e1, e2⟩ := sbox_cells q3; have fq3 := q3.frozen))
          all_goals generalize hX : (w3.setCell ⟨w1.heap.size, 1, none⟩ (.int .i64 q)).setCell ⟨w1.heap.size, 2, none⟩ (.slice (some ⟨b, off + 1, none⟩) ts.length (c - 1)) = X
          all_goals have qX : Row X w1.heap.size #[.string lb, .int .i64 q, .slice (some ⟨b, off + 1, none⟩) ts.length (c - 1)] 67 := by rw [← hX]; exact (q3.setCell 1 _).setCell 2 _
          all_goals have rX : Row X w.heap.size #[.string { data := #[] }, .int .i64 0, .slice none 0 0] 67 := by rw [← hX]; exact ((rW.keep f3 (fun h => h)).setCell_other (p := ⟨w1.heap.size, 1, none⟩) hne _).setCell_other (p := ⟨w1.heap.size, 2, none⟩) hne _
          all_goals have FX : Fr none' w X := by rw [← hX]; exact ((FW.trans f3).setCell (p := ⟨w1.heap.size, 1, none⟩) (Or.inl hw1) _).setCell (p := ⟨w1.heap.size, 2, none⟩) (Or.inl hw1) _
          all_goals have tX : Row X b cs 95 := by rw [← hX]; exact row_two (tW.keep f3 (fun h => h)) q3 _ _
          all_goals have TX : Toks X (.slice (some ⟨b, off + 1, none⟩) ts.length (c - 1)) ts := Or.inr ⟨b, off + 1, c - 1, cs, rfl, by omega, tX, HX1.out⟩
          all_goals have hI := isitem_any (.string lb) q (.slice (some ⟨b, off + 1, none⟩) ts.length (c - 1)) ts X (HE.out.keep FX) TX
          all_goals rw [HBI.out] at hI
          all_goals have hL := fun w => layout_any q w
          all_goals simp only [strV] at hL
          all_goals obtain ⟨g0, g1, g2⟩ := sbox_cells qX
          all_goals clear hX e0 e1 e2 d0 d1 d2 fq fq3 q3 qW rW tW FW f3 hO cW
          all_goals go_wp2_with (first | (go_at_call 43; refine hI.mono ?_; rintro e w4 ⟨rfl, f4⟩; have q4 := qX.keep f4 (fun h => h); have r4 := rX.keep f4 (fun h => h); have t4 := tX.keep f4 (fun h => h); have F4 := FX.trans f4; obtain ⟨h0, h1, h2⟩ := sbox_cells q4; obtain ⟨z0, z1, z2⟩ := sbox_cells r4; have fz := r4.frozen) | (go_at_call 36; refine (hL _).mono ?_; rintro e w5 ⟨rfl, f5⟩))
          all_goals
            have q5 := q4.keep f5 (fun h => h)
            have r5 := r4.keep f5 (fun h => h)
            have t5 := t4.keep f5 (fun h => h)
            have F5 := F4.trans f5
            have HLEN : Hid (ts.length = (layB q).length) := by
              have := HBI.out
              unfold isItT at this
              simp only [Bool.and_eq_true] at this
              exact fitsL_len _ _ this.2
            have ha := (lay_small q).2
            obtain ⟨qb, hqb, hqe⟩ : ∃ qb : ByteArray, layB q = qb.data.toList ∧ (⟨(layB q).toArray⟩ : ByteArray) = qb := ⟨_, rfl, rfl⟩
            rw [hqe]
            have HQB : Hid (layB q = qb.data.toList) := hqb
            rw [hqb] at ha
            have HA : Hid (∀ c ∈ qb.data.toList, c.toNat < 128) := ha
            clear hqb hqe ha qX rX tX FX TX hI hL g0 g1 g2 q4 r4 t4 F4 h0 h1 h2 z0 z1 z2 fz f4 f5
            go_loopw [] (fun wr => ∃ p : Nat, p ≤ qb.size ∧ (∀ (j : Nat) c t, j < p → qb.data.toList[j]? = some c → ts[j]? = some t → beyI t (c.toNat : Int) = false) ∧ Fr none' w5 wr ∧ It wr w5.heap.size qb p) (fun wr => qb.size - itPos wr w5.heap.size)
            case atStart => exact ⟨0, by omega, fun j c t hj => by omega, (Fr.refl _ _).alloc _, it_new w5 qb⟩
            case round =>
              obtain ⟨p, hp, hw, fk, ik⟩ := hrel
              have M1 : Hid (itPos wr w5.heap.size = p) := ik.pos
              have HW : Hid (∀ (j : Nat) c t, j < p → qb.data.toList[j]? = some c → ts[j]? = some t → beyI t (c.toNat : Int) = false) := hw
              have HLQ : Hid (ts.length = qb.size) := by show _ = _; rw [HLEN.out, HQB.out, ← Lib.size_eq]
              by_cases he : p = qb.size
              · have hn := fun ty => next_none (P := Tryz.prog) ik (by omega) ty
                have hno : beyL (layB q) ts = false := by
                  rw [HQB.out]
                  exact beyL_all _ _ (fun j c t h1 h2 => HW.out j c t (by
                    rcases Nat.lt_or_ge j p with h | h
                    · exact h
                    · rw [List.getElem?_eq_none (by rw [← Lib.size_eq]; omega)] at h1; cases h1) h1 h2)
                have HNO : Hid (parseP s.data.toList = (0, (cutLT l).1, q, ts)) := by show _ = _; rw [HP'.out, HBI.out, hno]; rfl
                have q6 := q5.keep fk (fun h => h)
                have r6 := r5.keep fk (fun h => h)
                obtain ⟨h0, h1, h2⟩ := sbox_cells q6
                obtain ⟨z0, z1, z2⟩ := sbox_cells r6
                have fz := r6.frozen
                have T6 : Toks wr (.slice (some ⟨b, off + 1, none⟩) ts.length (c - 1)) ts := Or.inr ⟨b, off + 1, c - 1, cs, rfl, by omega, t5.keep fk (fun h => h), HX1.out⟩
                clear hp hw ik M1 he hno
                go_wp2_with fail
                refine bodyPost_ret (ret_st_tmp rfl rfl (sbox_set r6) rfl) rfl ?_
                exact ⟨Or.inr ⟨by rw [HNO.out], .slice (some ⟨b, off + 1, none⟩) ts.length (c - 1), by rw [HNO.out, HLB.out]; rfl, by rw [HNO.out]; exact T6.sput r6 _ _ _⟩, sbox_fr _ _ _ (F5.trans fk) (Or.inl (Nat.le_refl _))⟩
              · have hs' : p < qb.size := by omega
                have hcx := HA.out _ (byte_in qb p hs')
                have hn := fun ty => next_some (P := Tryz.prog) ik hs' hcx ty
                have i2 := ik.set (p + 1)
                have f2 := fr_itset fk (Or.inl (Nat.le_refl _)) qb (p + 1)
                obtain ⟨x, hxx⟩ : ∃ x, qb[p]'hs' = x := ⟨_, rfl⟩
                have hq1 := bytes_lt qb p hs'
                rw [hxx] at hn hcx hq1
                obtain ⟨t', ht'⟩ : ∃ t', ts[p]? = some t' := ⟨_, List.getElem?_eq_getElem (by have := HLQ.out; omega)⟩
                obtain ⟨wn, hwn⟩ : ∃ wn, itSet wr w5.heap.size qb (p + 1) = wn := ⟨_, rfl⟩
                rw [hwn] at hn i2 f2
                have I2 : Hid (It wn w5.heap.size qb (p + 1)) := i2
                have r6 := r5.keep f2 (fun h => h)
                obtain ⟨h0, h1, h2⟩ := sbox_cells (q5.keep f2 (fun h => h))
                obtain ⟨z0, z1, z2⟩ := sbox_cells r6
                have fz := r6.frozen
                have e3 : wn.cell? ⟨b, off + 1 + p, none⟩ = some (tval t') := by
                  rw [(t5.keep f2 (fun h => h)).cell]
                  exact HX1.out p t' ht'
                have y2 : (p : Int) < ts.length := by have := HLQ.out; omega
                have HQ1 : Hid (qb.data.toList[p]? = some x) := hq1
                have HTT : Hid (ts[p]? = some t') := ht'
                have HP1 : Hid (p < qb.size) := hs'
                clear hp hw ik he hs' hcx hxx hq1 ht' hwn i2 fk
                obtain ⟨T9, x9, K9, hx9, hM, hEn, hB⟩ := bey_any t' (x.toNat : Int)
                rw [hx9] at e3
                obtain ⟨bf, hbf⟩ : ∃ bf, beyI t' (x.toNat : Int) = bf := ⟨_, rfl⟩
                rw [hbf] at hB
                have HBF : Hid (beyI t' (x.toNat : Int) = bf) := hbf
                clear hbf hx9
                cases bf
                · go_wp2_with (first | (refine (hB _).mono ?_; rintro e w6 ⟨rfl, rfl⟩))
                  go_roundw
                  case rel =>
                    refine ⟨p + 1, by have := HP1.out; omega, fun j c' t'' hj h1 h2 => ?_, f2, I2.out⟩
                    by_cases hj' : j = p
                    · subst hj'
                      rw [HQ1.out] at h1
                      rw [HTT.out] at h2
                      cases h1
                      cases h2
                      exact HBF.out
                    · exact HW.out j c' t'' (by omega) h1 h2
                  case measure => rw [I2.out.pos, M1.out]; have := HP1.out; omega
                · go_wp2_with (first | (refine (hB _).mono ?_; rintro e w6 ⟨rfl, rfl⟩))
                  refine bodyPost_ret (ret_st_tmp rfl rfl (sbox_set r6) rfl) rfl ?_
                  have HPE : parseP s.data.toList = (63, [], 0, []) := by rw [HP'.out, HBI.out, HQB.out, beyL_yes _ _ p x t' HQ1.out HTT.out HBF.out]; rfl
                  exact ⟨Or.inl ⟨by rw [HPE]; simp, by rw [HPE]; rfl⟩, sbox_fr _ _ _ (F5.trans f2) (Or.inl (Nat.le_refl _))⟩

end Go.Proofs.YtecipogfdhpjfaaGreatDoor
