/-
  Contracts of package sched's Stop, Drop, place, SetPriority, SetDomain over the translation. No statement is proved here.
-/
import Derived.Test.YtipfgenbfnkpfaaSdOps
namespace Go.Proofs.Ytipfgenbfnkpfaa
open Go.RowKit Go.Maps Go.WideMaps

theorem exQ {w w' : World} {p p' : Pb} {S S' : Sd} (h : Chg w p S w' p' S') (e : p'.b = p.b) (e1 : p'.m = p.m) (e2 : p'.B = p.B) : ∃ p', p'.b = p.b ∧ Chg w p S w' p' S' ∧ p'.m = p.m ∧ p'.B = p.B := ⟨p', e, h, e1, e2⟩

/-- All queues are short. -/
def Sh (S : Sd) : Prop := ∀ j, j < 256 → (S.q j).length ≤ 5000
theorem Sh.out {S : Sd} (h : Sh S) (t : Tk) : Sh (app S t gOut) := fun j hj => by
  show (uq S.q _ (gOut t.i) j).length ≤ 5000
  unfold uq
  split
  · exact Nat.le_trans (List.length_filter_le _ _) (h j hj)
  · exact h j hj

set_option maxRecDepth 100000 in
set_option maxHeartbeats 1000000 in
theorem stop_any (w : World) (p : Pb) (S : Sd) (h : IsS w p S) (ho : CurOk S) (i : Int) (hi : I64 i) (hl : Sh S) :
    Calls Try.prog 22 #[.pointer (some ⟨p.b, 0, none⟩), .int .i64 i] w fun e w' => e = .returned (.int .i64 (thrE S i)) ∧ ∃ p', p'.b = p.b ∧ Chg w p S w' p' (stoS S i) ∧ p'.m = p.m ∧ p'.B = p.B := by
  have c0 := h.cells.1
  have cc := h.cells.2.1
  unfold thrE stoS
  cases hf : fnd S.L i with
  | none =>
    have hL := h.map.look_none hi (map_none hf)
    have HS : Hid (∃ p', p'.b = p.b ∧ Chg w p S w p' S ∧ p'.m = p.m ∧ p'.B = p.B) := ⟨p, rfl, Chg.same h (Fr.refl _ _), rfl, rfl⟩
    clear h hi hf hl ho cc
    go_enter Try.func22, Try.ntmps22
    go_wp2
    go_ret
    exact ⟨rfl, HS.out⟩
  | some t =>
    have hL := h.map.look_some hi (map_some hf)
    have hmm := fnd_mem hf
    have r1 := h.tk t hmm.1
    rw [hmm.2] at r1
    have hB : p.B t.i = p.B i := by rw [hmm.2]
    have hok := h.good.all t hmm.1
    have R := ready_any w p S h ho hf
    have nb : p.B i ≠ p.b := by rw [← hB]; exact (h.bB hmm.1).1
    dsimp only
    cases hA : rdy S t with
    | true =>
      rw [hA] at R
      have hci : S.c ≠ i := by
        unfold rdy at hA
        rw [hmm.2] at hA
        simp at hA
        exact fun e => hA.2 e.symm
      simp only [if_true, if_neg hci]
      have HI : Hid (Calls Try.prog 46 #[.pointer (some ⟨p.b, 0, none⟩), pv (p.B i), .func (.func 47) #[] #[]] w fun e w1 => ∃ v, e = .returned v ∧ w1.cell? ⟨p.b, 257, none⟩ = some (curV p S.c) ∧ (binOp .eql 55 (pv (p.B i)) (curV p S.c)).run Try.prog w1 = .ok (.bool false) w1 ∧ w1.cell? ⟨p.B i, 4, none⟩ = some (.bool t.a) ∧ w1.frozen? ⟨p.B i, 4, none⟩ = false ∧ Hid (∃ p', p'.b = p.b ∧ Chg w p S (w1.setCell ⟨p.B i, 4, none⟩ (.bool false)) p' { app S t gOut with c := S.c, L := upd S.L i (setA false) } ∧ p'.m = p.m ∧ p'.B = p.B)) := (apply_k w p S h makes_out hf (hl _ hok.ky)).mono (by
        rintro e w1 ⟨v, V', rfl, hC⟩
        have h1 := hC.is
        have E := eql_cur h1 (show CurOk (app S t gOut) from ho) (show fnd (app S t gOut).L i = some t from hf)
        have e2 : (i == (app S t gOut).c) = false := by
          show (i == S.c) = false
          simpa using (fun e => hci e.symm : i ≠ S.c)
        rw [e2] at E
        have r2 : TkR w1 (p.B i) t := by have := h1.tk t hmm.1; rw [hmm.2] at this; exact this
        have C2 := h1.setTk (k := i) (t := t) hf (f := setA false) (fun _ => rfl) (hok.setA false) (w' := w1.setCell ⟨p.B i, 4, none⟩ (.bool false)) (by show Fr (at' (p.B t.i)) _ _; rw [hB]; exact fr_set _ _ _ _ (Fr.refl _ _)) (by show TkR _ (p.B t.i) _; rw [hB]; exact r2.setA false)
        exact ⟨v, rfl, h1.cells.2.1, E, r2.cells.2.2.2.2, r2.frozen 4, exQ (hC.trans C2) rfl rfl rfl⟩)
      clear h hi hf hl ho r1 hB hok hmm hA hci nb cc
      generalize curV p S.c = cv at *
      generalize p.B i = g at *
      generalize t.a = ta at *
      go_enter Try.func22, Try.ntmps22
      go_wp2_with (first | (go_at_call 54; refine R.mono ?_; rintro e w1 ⟨rfl, rfl⟩) | (go_at_call 46; refine HI.out.mono ?_; rintro e w1 ⟨v, rfl, c1, hE, ca, za, HC⟩))
      go_ret
      exact ⟨rfl, HC.out⟩
    | false =>
      rw [hA] at R
      have E := eql_cur h ho hf
      have ca := r1.cells.2.2.2.2
      have za := r1.frozen 4
      have zc := h.frozen 257
      simp only [Bool.false_eq_true, if_false]
      by_cases hci : S.c = i
      · rw [if_pos hci]
        have e2 : (i == S.c) = true := by simpa using hci.symm
        rw [e2] at E
        have C1 := h.setCur (-1)
        rw [curV_none] at C1
        have r2 : TkR (w.setCell ⟨p.b, 257, none⟩ (.pointer none)) (p.B i) t := by have := C1.is.tk t hmm.1; rw [hmm.2] at this; exact this
        have C2 := C1.is.setTk (k := i) (t := t) hf (f := setA false) (fun _ => rfl) (hok.setA false) (w' := (w.setCell ⟨p.b, 257, none⟩ (.pointer none)).setCell ⟨p.B i, 4, none⟩ (.bool false)) (by rw [hB]; exact fr_set _ _ _ _ (Fr.refl _ _)) (by rw [hB]; exact r2.setA false)
        have HC : Hid (∃ p', p'.b = p.b ∧ Chg w p S ((w.setCell ⟨p.b, 257, none⟩ (.pointer none)).setCell ⟨p.B i, 4, none⟩ (.bool false)) p' { S with c := -1, L := upd S.L i (setA false) } ∧ p'.m = p.m ∧ p'.B = p.B) := exQ (C1.trans C2) rfl rfl rfl
        have ca' := r2.cells.2.2.2.2
        have za' := r2.frozen 4
        have nb' : p.b ≠ p.B i := fun e => nb e.symm
        clear h hi hf hl ho r1 r2 hB hok hmm hA hci C1 C2 e2
        generalize curV p S.c = cv at *
        generalize p.B i = g at *
        generalize t.a = ta at *
        go_enter Try.func22, Try.ntmps22
        go_wp2_with (go_at_call 54; refine R.mono ?_; rintro e w1 ⟨rfl, rfl⟩)
        go_ret
        exact ⟨rfl, HC.out⟩
      · rw [if_neg hci]
        have e2 : (i == S.c) = false := by simpa using (fun e => hci e.symm : i ≠ S.c)
        rw [e2] at E
        have C2 := h.setTk (k := i) (t := t) hf (f := setA false) (fun _ => rfl) (hok.setA false) (w' := w.setCell ⟨p.B i, 4, none⟩ (.bool false)) (by rw [hB]; exact fr_set _ _ _ _ (Fr.refl _ _)) (by rw [hB]; exact r1.setA false)
        have HC : Hid (∃ p', p'.b = p.b ∧ Chg w p S (w.setCell ⟨p.B i, 4, none⟩ (.bool false)) p' { S with c := S.c, L := upd S.L i (setA false) } ∧ p'.m = p.m ∧ p'.B = p.B) := exQ C2 rfl rfl rfl
        clear h hi hf hl ho r1 hB hok hmm hA hci C2 e2
        generalize curV p S.c = cv at *
        generalize p.B i = g at *
        generalize t.a = ta at *
        go_enter Try.func22, Try.ntmps22
        go_wp2_with (go_at_call 54; refine R.mono ?_; rintro e w1 ⟨rfl, rfl⟩)
        go_ret
        exact ⟨rfl, HC.out⟩

theorem stoS_fnd (S : Sd) (i j : Int) : fnd (stoS S i).L j = (fnd S.L j).map fun t => if t.i = i then setA false t else t := by
  unfold stoS
  cases hf : fnd S.L i with
  | none =>
    dsimp only
    cases hj : fnd S.L j with
    | none => rfl
    | some t =>
      have : t.i ≠ i := fnd_none hf t (fnd_mem hj).1
      rw [Option.map_some, if_neg this]
  | some t =>
    dsimp only
    exact fnd_upd (f := setA false) (fun _ => rfl) j

set_option maxRecDepth 100000 in
set_option maxHeartbeats 1000000 in
theorem drop_any (w : World) (p : Pb) (S : Sd) (h : IsS w p S) (ho : CurOk S) (i : Int) (hi : I64 i) (hl : Sh S) :
    Calls Try.prog 27 #[.pointer (some ⟨p.b, 0, none⟩), .int .i64 i] w fun e w' => e = .returned (.int .i64 (thrE S i)) ∧ ∃ p', p'.b = p.b ∧ Chg w p S w' p' (droS S i) := by
  have R := stop_any w p S h ho i hi hl
  unfold droS
  cases hf : fnd S.L i with
  | none =>
    have e1 : thrE S i = 150 := by unfold thrE; rw [hf]
    have e2 : stoS S i = S := by unfold stoS; rw [hf]
    have e3 : del S.L i = S.L := by
      unfold del
      exact List.filter_eq_self.2 fun x hx => by
        have := fnd_none hf x hx
        simpa using this
    rw [e1, e2] at R
    rw [e1, e2, e3]
    have HR : Hid (Calls Try.prog 22 #[.pointer (some ⟨p.b, 0, none⟩), .int .i64 i] w fun e w' => e = .returned (.int .i64 150) ∧ ∃ p', p'.b = p.b ∧ Chg w p S w' p' S) := R.mono (by
      rintro e w1 ⟨rfl, p', q1, q2, _⟩
      exact ⟨rfl, p', q1, q2⟩)
    clear R h ho hl hi e1 e2 e3 hf
    go_enter Try.func27, Try.ntmps27
    go_wp2_with (go_at_call 22; refine HR.out.mono ?_; rintro e w1 ⟨rfl, hC⟩; have HC : Hid _ := hC; clear hC)
    go_ret
    exact ⟨rfl, HC.out⟩
  | some t =>
    have e1 : thrE S i = 0 := by unfold thrE; rw [hf]
    rw [e1] at R
    rw [e1]
    have HR : Hid (Calls Try.prog 22 #[.pointer (some ⟨p.b, 0, none⟩), .int .i64 i] w fun e w1 => e = .returned (.int .i64 0) ∧ w1.cell? ⟨p.b, 0, none⟩ = some (.map (some p.m)) ∧ ∃ w2, (Builtin.delete_ #[52, 3] 0 #[.map (some p.m), .int .i64 i]).run Try.prog w1 = .ok (.tuple #[]) w2 ∧ Hid ((∀ ty, (Builtin.delete_ #[52, 3] ty #[.map (some p.m), .int .i64 i]).run Try.prog w1 = .ok (.tuple #[]) w2) ∧ ∃ p', p'.b = p.b ∧ Chg w p S w2 p' { stoS S i with L := del (stoS S i).L i })) := R.mono (by
      rintro e w1 ⟨rfl, p', q1, q2, q3, q4⟩
      have h1 := q2.is
      have f1 : fnd (stoS S i).L i = some (setA false t) := by rw [stoS_fnd, hf, Option.map_some, if_pos (fnd_i hf)]
      have hm := h1.map
      rw [len_del h1.good f1] at hm
      obtain ⟨w2, hrun, hm2, f2⟩ := hm.drop hi (map_some f1) (f' := fun j => if j = i then none else mapF p' (stoS S i).L j) (fun _ => rfl)
      rw [q3] at hrun
      have c0 := h1.cells.1
      rw [q1, q3] at c0
      exact ⟨rfl, c0, w2, hrun 0, hrun, p', q1, q2.trans (h1.del f2 hm2)⟩)
    clear R h ho hl hi e1 hf
    generalize hX : ({ stoS S i with L := del (stoS S i).L i } : Sd) = X at *
    clear hX
    go_enter Try.func27, Try.ntmps27
    go_wp2_with (go_at_call 22; refine HR.out.mono ?_; rintro e w1 ⟨rfl, c0, w2, hr, HC⟩)
    go_ret
    exact ⟨rfl, HC.out.2⟩

set_option maxRecDepth 100000 in
set_option maxHeartbeats 1000000 in
theorem place_any (w : World) (p : Pb) (S : Sd) (h : IsS w p S) (ho : CurOk S) {i : Int} {t : Tk} (hf : fnd S.L i = some t) (q d : Int) (hq : 0 ≤ q ∧ q < 64) (hd : 0 ≤ d ∧ d < 4) (hl : Sh S) :
    Calls Try.prog 57 #[.pointer (some ⟨p.b, 0, none⟩), pv (p.B i), .int .i64 q, .int .i64 d] w fun e w' => ∃ v, e = .returned v ∧ ∃ p', p'.b = p.b ∧ Chg w p S w' p' (plaS S t q d) := by
  have hmm := fnd_mem hf
  have r1 := h.tk t hmm.1
  rw [hmm.2] at r1
  have hB : p.B t.i = p.B i := by rw [hmm.2]
  have hok := h.good.all t hmm.1
  have hokn := hok.setPD hq.1 hq.2 hd.1 hd.2
  have R := ready_any w p S h ho hf
  have fr2 : ∀ w1 : World, Fr (at' (p.B t.i)) w1 ((w1.setCell ⟨p.B i, 1, none⟩ (.int .i64 q)).setCell ⟨p.B i, 2, none⟩ (.int .i64 d)) := fun w1 => by rw [hB]; exact fr_set _ _ _ _ (fr_set _ _ _ _ (Fr.refl _ _))
  unfold plaS
  rw [hmm.2]
  cases hA : rdy S t with
  | true =>
    rw [hA] at R
    simp only [if_true]
    have HI : Hid (Calls Try.prog 46 #[.pointer (some ⟨p.b, 0, none⟩), pv (p.B i), .func (.func 47) #[] #[]] w fun e w1 => ∃ v, e = .returned v ∧ w1.cell? ⟨p.B i, 1, none⟩ = some (.int .i64 t.p) ∧ w1.cell? ⟨p.B i, 2, none⟩ = some (.int .i64 t.d) ∧ w1.frozen? ⟨p.B i, 1, none⟩ = false ∧ w1.frozen? ⟨p.B i, 2, none⟩ = false ∧ Hid (Calls Try.prog 46 #[.pointer (some ⟨p.b, 0, none⟩), pv (p.B i), .func (.func 43) #[] #[]] ((w1.setCell ⟨p.B i, 1, none⟩ (.int .i64 q)).setCell ⟨p.B i, 2, none⟩ (.int .i64 d)) fun e w2 => ∃ v, e = .returned v ∧ ∃ p', p'.b = p.b ∧ Chg w p S w2 p' (app { app S t gOut with L := upd S.L i (setPD q d) } (setPD q d t) gEnd))) := (apply_k w p S h makes_out hf (hl _ hok.ky)).mono (by
      rintro e w1 ⟨v, V', rfl, hC⟩
      have h1 := hC.is
      have r2 : TkR w1 (p.B i) t := by have := h1.tk t hmm.1; rw [hmm.2] at this; exact this
      have C2 := h1.setTk (k := i) (t := t) hf (f := setPD q d) (fun _ => rfl) hokn (fr2 w1) (by show TkR _ (p.B t.i) _; rw [hB]; exact r2.setPD q d)
      refine ⟨v, rfl, r2.cells.2.1, r2.cells.2.2.1, r2.frozen 1, r2.frozen 2, ?_⟩
      refine (apply_k _ _ _ C2.is makes_end (fnd_upd_same (L := (app S t gOut).L) hf (fun _ => rfl)) ((Sh.out hl t) _ hokn.ky)).mono ?_
      rintro e w2 ⟨v2, V2, rfl, hC2⟩
      exact ⟨v2, rfl, exP ((hC.trans C2).trans hC2) rfl⟩)
    clear h hf hl ho r1 hB hok hokn hmm hA fr2
    generalize p.B i = g at *
    generalize t.p = tp at *
    generalize t.d = td at *
    go_enter Try.func57, Try.ntmps57
    go_wp2_with (first | (go_at_call 54; refine R.mono ?_; rintro e w1 ⟨rfl, rfl⟩) | (go_at_call 46; refine HJ.out.mono ?_; rintro e w2 ⟨v, rfl, hC⟩; have HC : Hid _ := hC; clear hC) | (go_at_call 46; refine HI.out.mono ?_; rintro e w1 ⟨v, rfl, c1, c2, z1, z2, HJ⟩))
    refine post_void rfl rfl fun v => ?_
    exact ⟨v, rfl, HC.out⟩
  | false =>
    rw [hA] at R
    simp only [Bool.false_eq_true, if_false]
    have C2 := h.setTk (k := i) (t := t) hf (f := setPD q d) (fun _ => rfl) hokn (fr2 w) (by rw [hB]; exact r1.setPD q d)
    have HC : Hid (∃ p', p'.b = p.b ∧ Chg w p S ((w.setCell ⟨p.B i, 1, none⟩ (.int .i64 q)).setCell ⟨p.B i, 2, none⟩ (.int .i64 d)) p' { S with L := upd S.L i (setPD q d) }) := exP C2 rfl
    have c1 := r1.cells.2.1
    have c2 := r1.cells.2.2.1
    have z1 := r1.frozen 1
    have z2 := r1.frozen 2
    clear h hf hl ho r1 hB hok hokn hmm hA fr2 C2
    generalize p.B i = g at *
    generalize t.p = tp at *
    generalize t.d = td at *
    go_enter Try.func57, Try.ntmps57
    go_wp2_with (go_at_call 54; refine R.mono ?_; rintro e w1 ⟨rfl, rfl⟩)
    refine post_void rfl rfl fun v => ?_
    exact ⟨v, rfl, HC.out⟩

set_option maxRecDepth 100000 in
set_option maxHeartbeats 1000000 in
theorem setpri_any (w : World) (p : Pb) (S : Sd) (h : IsS w p S) (ho : CurOk S) (i q : Int) (hi : I64 i) (hl : Sh S) :
    Calls Try.prog 31 #[.pointer (some ⟨p.b, 0, none⟩), .int .i64 i, .int .i64 q] w fun e w' => e = .returned (.int .i64 (priE S i q)) ∧ ∃ p', p'.b = p.b ∧ Chg w p S w' p' (priS S i q) := by
  have c0 := h.cells.1
  have HS : Hid (∃ p', p'.b = p.b ∧ Chg w p S w p' S) := ⟨p, rfl, Chg.same h (Fr.refl _ _)⟩
  have P := fun W => pri_any q W
  unfold priE priS
  cases hf : fnd S.L i with
  | none =>
    have hL := h.map.look_none hi (map_none hf)
    clear h hi hf hl ho P
    go_enter Try.func31, Try.ntmps31
    go_wp2
    go_ret
    exact ⟨rfl, HS.out⟩
  | some t =>
    have hL := h.map.look_some hi (map_some hf)
    have hmm := fnd_mem hf
    have r1 := h.tk t hmm.1
    rw [hmm.2] at r1
    have cd := r1.cells.2.2.1
    have hok := h.good.all t hmm.1
    dsimp only
    cases hp : (decide (0 ≤ q) && decide (q < 64)) with
    | false =>
      rw [hp] at P
      have hn : ¬ (0 ≤ q ∧ q < 64) := by intro hh; simp [hh.1, hh.2] at hp
      rw [if_neg hn, if_neg hn]
      clear h hi hf hl ho hp hn r1 hok hmm cd
      go_enter Try.func31, Try.ntmps31
      go_wp2_with (go_at_call 49; refine (P _).mono ?_; rintro e w1 ⟨rfl, rfl⟩)
      go_ret
      exact ⟨rfl, HS.out⟩
    | true =>
      rw [hp] at P
      have hn : 0 ≤ q ∧ q < 64 := by simpa using hp
      rw [if_pos hn, if_pos hn]
      have HI : Hid _ := place_any w p S h ho hf q t.d hn ⟨hok.d0, by have := hok.d1; omega⟩ hl
      clear h hi hf hl ho hp hn r1 hok hmm HS
      generalize plaS S t q t.d = X at *
      generalize p.B i = g at *
      generalize t.d = td at *
      go_enter Try.func31, Try.ntmps31
      go_wp2_with (first | (go_at_call 49; refine (P _).mono ?_; rintro e w1 ⟨rfl, rfl⟩) | (go_at_call 57; refine (Calls.mono HI.out ?_); rintro e w1 ⟨v, rfl, hC⟩; have HC : Hid _ := hC; clear hC))
      go_ret
      exact ⟨rfl, HC.out⟩

set_option maxRecDepth 100000 in
set_option maxHeartbeats 1000000 in
theorem setdom_any (w : World) (p : Pb) (S : Sd) (h : IsS w p S) (ho : CurOk S) (i d : Int) (hi : I64 i) (hl : Sh S) :
    Calls Try.prog 33 #[.pointer (some ⟨p.b, 0, none⟩), .int .i64 i, .int .i64 d] w fun e w' => e = .returned (.int .i64 (domE S i d)) ∧ ∃ p', p'.b = p.b ∧ Chg w p S w' p' (domS S i d) := by
  have c0 := h.cells.1
  have HS : Hid (∃ p', p'.b = p.b ∧ Chg w p S w p' S) := ⟨p, rfl, Chg.same h (Fr.refl _ _)⟩
  have P := fun W => dom_any d W
  unfold domE domS
  cases hf : fnd S.L i with
  | none =>
    have hL := h.map.look_none hi (map_none hf)
    clear h hi hf hl ho P
    go_enter Try.func33, Try.ntmps33
    go_wp2
    go_ret
    exact ⟨rfl, HS.out⟩
  | some t =>
    have hL := h.map.look_some hi (map_some hf)
    have hmm := fnd_mem hf
    have r1 := h.tk t hmm.1
    rw [hmm.2] at r1
    have cd := r1.cells.2.1
    have hok := h.good.all t hmm.1
    dsimp only
    cases hp : (decide (0 ≤ d) && decide (d < 4)) with
    | false =>
      rw [hp] at P
      have hn : ¬ (0 ≤ d ∧ d < 4) := by intro hh; simp [hh.1, hh.2] at hp
      rw [if_neg hn, if_neg hn]
      clear h hi hf hl ho hp hn r1 hok hmm cd
      go_enter Try.func33, Try.ntmps33
      go_wp2_with (go_at_call 48; refine (P _).mono ?_; rintro e w1 ⟨rfl, rfl⟩)
      go_ret
      exact ⟨rfl, HS.out⟩
    | true =>
      rw [hp] at P
      have hn : 0 ≤ d ∧ d < 4 := by simpa using hp
      rw [if_pos hn, if_pos hn]
      have HI : Hid _ := place_any w p S h ho hf t.p d ⟨hok.p0, by have := hok.p1; omega⟩ hn hl
      clear h hi hf hl ho hp hn r1 hok hmm HS
      generalize plaS S t t.p d = X at *
      generalize p.B i = g at *
      generalize t.p = td at *
      go_enter Try.func33, Try.ntmps33
      go_wp2_with (first | (go_at_call 48; refine (P _).mono ?_; rintro e w1 ⟨rfl, rfl⟩) | (go_at_call 57; refine (Calls.mono HI.out ?_); rintro e w1 ⟨v, rfl, hC⟩; have HC : Hid _ := hC; clear hC))
      go_ret
      exact ⟨rfl, HC.out⟩

end Go.Proofs.Ytipfgenbfnkpfaa
