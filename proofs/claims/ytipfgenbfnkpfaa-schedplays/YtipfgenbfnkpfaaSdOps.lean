/-
  Contracts of package sched's Ready, Add, Wake, Yield over the translation. No statement is proved here.
-/
import Derived.Test.YtipfgenbfnkpfaaSdFun
namespace Go.Proofs.Ytipfgenbfnkpfaa
open Go.RowKit Go.Maps Go.WideMaps

theorem apply_k (w : World) (p : Pb) (S : Sd) (h : IsS w p S) {fn : Nat} {g : Int → List Int → List Int} (hm : Makes fn g) {k : Int} {t : Tk} (hf : fnd S.L k = some t) (hl : (S.q (ky t.d t.p)).length ≤ 5000) :
    Calls Try.prog 46 #[.pointer (some ⟨p.b, 0, none⟩), pv (p.B k), .func (.func fn) #[] #[]] w fun e w' => ∃ v V', e = .returned v ∧ Chg w p S w' { p with V := V' } (app S t g) := by
  have := apply_any w p S h hm hf hl
  rw [fnd_i hf] at this
  exact this

theorem eql_cur {w : World} {p : Pb} {S : Sd} (h : IsS w p S) (ho : CurOk S) {k : Int} {t : Tk} (hf : fnd S.L k = some t) : (binOp .eql 55 (pv (p.B k)) (curV p S.c)).run Try.prog w = .ok (.bool (k == S.c)) w := by
  have hmm := fnd_mem hf
  have r1 := h.tk t hmm.1
  rw [hmm.2] at r1
  by_cases hc : S.c = -1
  · have hk1 : (k == S.c) = false := by
      have := (h.good.all t hmm.1).i0
      rw [hc, ← hmm.2]
      simp
      omega
    rw [hk1, hc, curV_none]
    simp [go_sem, pv]
  · have hg := ho.get hc
    have r2 := h.tk _ (fnd_mem hg).1
    rw [fnd_i hg] at r2
    rw [curV_some hc, eql_ptr r1 r2, h.eqB hf hg]

theorem exP {w w' : World} {p p' : Pb} {S S' : Sd} (h : Chg w p S w' p' S') (e : p'.b = p.b) : ∃ p', p'.b = p.b ∧ Chg w p S w' p' S' := ⟨p', e, h⟩

/-! ### Ready -/
theorem nil_eq (w : World) : (binOp .eql 43 (.slice none 0 0) (.slice none 0 0)).run Try.prog w = .ok (.bool true) w := by kernel_rfl
theorem nil_ne (w : World) (a : Addr) (n c : Nat) : (binOp .eql 43 (.slice (some a) n c) (.slice none 0 0)).run Try.prog w = .ok (.bool false) w := by kernel_rfl
set_option maxHeartbeats 1000000 in
theorem clone_any (w : World) (v : Value) (l : List Int) (ho : w.ownsRow 0 3 1 v l.length (vI l)) (hl : l.length ≤ 5000) :
    Calls Try.prog 50 #[v] w fun e w' => ∃ v', e = .returned v' ∧ Fr none' w w' ∧ w'.ownsRow 0 3 1 v' l.length (vI l) ∧ ∀ k, some k = v'.ownBlock → w.heap.size ≤ k := by
  rcases own_form ho with ⟨rfl, rfl⟩ | ⟨b, cap, rfl⟩
  · have HO : Hid (w.ownsRow 0 3 1 (.slice none 0 0) ([] : List Int).length (vI [])) := ho
    clear ho
    have hE := nil_eq
    go_enter Try.func50, Try.ntmps50
    go_wp2
    go_ret
    exact ⟨_, rfl, Fr.refl _ _, HO.out, fun k hk => by cases hk⟩
  · obtain ⟨_, hlc, hcm, cur, hr, hs, hx⟩ := own_cells ho
    have f1 := (Fr.refl none' w).alloc (.cells #[] 3)
    have r1 := row_alloc w #[] 3
    have hr1 := hr.keep f1 (fun h => h)
    have o1 : (w.alloc (.cells #[] 3)).ownsRow 0 3 1 (.slice (some ⟨w.heap.size, 0, none⟩) 0 0) ([] : List Int).length (vI []) := own_of (l := []) r1 (by simp) (by simp) rfl (by simp)
    obtain ⟨v', w', hrun, f2, h2, h3⟩ := append_q (w.alloc (.cells #[] 3)) (.slice (some ⟨w.heap.size, 0, none⟩) 0 0) [] l ⟨b, 0, none⟩ cap o1 (by simp; omega) (fun j u hu => by
      rw [add_lit', Nat.zero_add, hr1.cell]
      unfold vI at hu
      rw [List.getElem?_map] at hu
      cases hj : l[j]? with
      | none => rw [hj] at hu; cases hu
      | some x => rw [hj] at hu; simp at hu; subst hu; exact hx j x hj)
    have HP : Hid (Fr none' w w' ∧ w'.ownsRow 0 3 1 v' l.length (vI l) ∧ ∀ k, some k = v'.ownBlock → w.heap.size ≤ k) := ⟨f1.newer (b := w.heap.size) (f2.mono (fun k _ e => own_is e)) (Nat.le_refl _), by simpa using h2, fun k hk => by
      rcases h3 with h3 | h3
      · rw [h3] at hk
        have := own_is hk
        omega
      · rw [h3] at hk
        have := Option.some.inj hk
        simp at this
        omega⟩
    clear f1 r1 hr1 o1 f2 h2 h3 ho hr hx hs hlc
    generalize l.length = n at *
    have hE := nil_ne
    go_enter Try.func50, Try.ntmps50
    go_wp2_with (at_builtin; refine wpList_append_runK rfl _ _ 43 rfl _ _ rfl rfl _ _ hrun ?_)
    go_ret
    exact ⟨_, rfl, HP.out⟩

set_option maxHeartbeats 1000000 in
theorem rea_any (w : World) (p : Pb) (S : Sd) (h : IsS w p S) (d q : Int) (hl : ∀ j, j < 256 → (S.q j).length ≤ 5000) :
    Calls Try.prog 18 #[.pointer (some ⟨p.b, 0, none⟩), .int .i64 d, .int .i64 q] w fun e w' => ∃ v', e = .returned v' ∧ Fr none' w w' ∧ w'.ownsRow 0 3 1 v' (reaL S d q).length (vI (reaL S d q)) ∧ ∀ k, some k = v'.ownBlock → w.heap.size ≤ k := by
  have on : Hid (w.ownsRow 0 3 1 (.slice none 0 0) ([] : List Int).length (vI [])) := ⟨rfl, Or.inl ⟨rfl, rfl⟩⟩
  have D := fun W => dom_any d W
  have P := fun W => pri_any q W
  cases hd : (decide (0 ≤ d) && decide (d < 4)) with
  | false =>
    rw [hd] at D
    have e1 : reaL S d q = [] := by unfold reaL; rw [if_neg (by intro hh; simp [hh.1, hh.2.1] at hd)]
    rw [e1]
    clear h hl e1 hd
    go_enter Try.func18, Try.ntmps18
    go_wp2_with (go_at_call 48; refine (D _).mono ?_; rintro e w1 ⟨rfl, rfl⟩)
    go_ret
    exact ⟨_, rfl, Fr.refl _ _, on.out, fun k hk => by cases hk⟩
  | true =>
    rw [hd] at D
    cases hp : (decide (0 ≤ q) && decide (q < 64)) with
    | false =>
      rw [hp] at P
      have e1 : reaL S d q = [] := by unfold reaL; rw [if_neg (by intro hh; simp [hh.2.2.1, hh.2.2.2] at hp)]
      rw [e1]
      clear h hl e1 hd hp
      go_enter Try.func18, Try.ntmps18
      go_wp2_with (first | (go_at_call 48; refine (D _).mono ?_; rintro e w1 ⟨rfl, rfl⟩) | (go_at_call 49; refine (P _).mono ?_; rintro e w1 ⟨rfl, rfl⟩))
      go_ret
      exact ⟨_, rfl, Fr.refl _ _, on.out, fun k hk => by cases hk⟩
    | true =>
      rw [hp] at P
      simp only [Bool.and_eq_true, decide_eq_true_eq] at hd hp
      have e1 : reaL S d q = S.q (ky d q) := by unfold reaL; rw [if_pos ⟨hd.1, hd.2, hp.1, hp.2⟩]
      rw [e1]
      obtain ⟨dn, rfl⟩ : ∃ n : Nat, d = n := ⟨d.toNat, by omega⟩
      obtain ⟨pn, rfl⟩ : ∃ n : Nat, q = n := ⟨q.toNat, by omega⟩
      have hkv : ky (dn : Int) (pn : Int) = dn * 64 + pn := by unfold ky; simp
      have hj : dn * 64 + pn < 256 := by omega
      rw [hkv]
      have cq := h.cellq _ hj
      rw [← Nat.add_assoc] at cq
      have HI : Hid (Calls Try.prog 50 #[p.V (dn * 64 + pn)] w fun e w' => ∃ v', e = .returned v' ∧ Fr none' w w' ∧ w'.ownsRow 0 3 1 v' (S.q (dn * 64 + pn)).length (vI (S.q (dn * 64 + pn))) ∧ ∀ k, some k = v'.ownBlock → w.heap.size ≤ k) := clone_any w _ _ (h.qu _ hj) (hl _ hj)
      have i1 : 0 ≤ (dn : Int) ∧ (dn : Int) < 4 := by omega
      have i2 : 0 ≤ (pn : Int) ∧ (pn : Int) < 64 := by omega
      clear h hl e1 hd hp hj hkv
      generalize p.V (dn * 64 + pn) = v at *
      generalize S.q (dn * 64 + pn) = l at *
      go_enter Try.func18, Try.ntmps18
      go_wp2_with (first | (go_at_call 48; refine (D _).mono ?_; rintro e w1 ⟨rfl, rfl⟩) | (go_at_call 49; refine (P _).mono ?_; rintro e w1 ⟨rfl, rfl⟩) | (go_at_call 50; refine HI.out.mono ?_; rintro e w1 ⟨v', rfl, hP⟩))
      go_ret
      exact ⟨_, rfl, hP⟩

/-! ### Add -/
set_option maxRecDepth 100000 in
set_option maxHeartbeats 1000000 in
theorem add_any (w : World) (p : Pb) (S : Sd) (h : IsS w p S) (ho : CurOk S) (i q d : Int) (hi : I64 i) :
    Calls Try.prog 19 #[.pointer (some ⟨p.b, 0, none⟩), .int .i64 i, .int .i64 q, .int .i64 d] w fun e w' => e = .returned (.int .i64 (addE S i q d)) ∧ ∃ p', p'.b = p.b ∧ Chg w p S w' p' (addS S i q d) := by
  have N := fun W => num_any i W
  have D := fun W => dom_any d W
  have P := fun W => pri_any q W
  have HS : Hid (∃ p', p'.b = p.b ∧ Chg w p S w p' S) := ⟨p, rfl, Chg.same h (Fr.refl _ _)⟩
  have no : ∀ {c : Prop}, (¬ (0 ≤ i ∧ i < 1024 ∧ 0 ≤ q ∧ q < 64 ∧ 0 ≤ d ∧ d < 4)) → addE S i q d = 1 ∧ addS S i q d = S := fun hh => by
    have e1 : addE S i q d = 1 := by unfold addE; rw [if_neg hh]
    exact ⟨e1, by unfold addS; rw [if_neg (by rw [e1]; omega)]⟩
  cases hn : (decide (0 ≤ i) && decide (i < 1024)) with
  | false =>
    rw [hn] at N
    obtain ⟨e1, e2⟩ := no (c := True) (by intro hh; simp [hh.1, hh.2.1] at hn)
    rw [e1, e2]
    clear h e1 e2 hn no hi ho
    go_enter Try.func19, Try.ntmps19
    go_wp2_with (go_at_call 51; refine (N _).mono ?_; rintro e w1 ⟨rfl, rfl⟩)
    go_ret
    exact ⟨rfl, HS.out⟩
  | true =>
    rw [hn] at N
    cases hp : (decide (0 ≤ q) && decide (q < 64)) with
    | false =>
      rw [hp] at P
      obtain ⟨e1, e2⟩ := no (c := True) (by intro hh; simp [hh.2.2.1, hh.2.2.2.1] at hp)
      rw [e1, e2]
      clear h e1 e2 hn no hp hi ho
      go_enter Try.func19, Try.ntmps19
      go_wp2_with (first | (go_at_call 51; refine (N _).mono ?_; rintro e w1 ⟨rfl, rfl⟩) | (go_at_call 49; refine (P _).mono ?_; rintro e w1 ⟨rfl, rfl⟩))
      go_ret
      exact ⟨rfl, HS.out⟩
    | true =>
      rw [hp] at P
      cases hd : (decide (0 ≤ d) && decide (d < 4)) with
      | false =>
        rw [hd] at D
        obtain ⟨e1, e2⟩ := no (c := True) (by intro hh; simp [hh.2.2.2.2.1, hh.2.2.2.2.2] at hd)
        rw [e1, e2]
        clear h e1 e2 hn no hp hd hi ho
        go_enter Try.func19, Try.ntmps19
        go_wp2_with (first | (go_at_call 51; refine (N _).mono ?_; rintro e w1 ⟨rfl, rfl⟩) | (go_at_call 49; refine (P _).mono ?_; rintro e w1 ⟨rfl, rfl⟩) | (go_at_call 48; refine (D _).mono ?_; rintro e w1 ⟨rfl, rfl⟩))
        go_ret
        exact ⟨rfl, HS.out⟩
      | true =>
        rw [hd] at D
        simp only [Bool.and_eq_true, decide_eq_true_eq] at hn hp hd
        have c0 := h.cells.1
        cases hf : fnd S.L i with
        | some t =>
          have e1 : addE S i q d = 130 := by unfold addE; rw [if_pos ⟨hn.1, hn.2, hp.1, hp.2, hd.1, hd.2⟩, hf]
          have e2 : addS S i q d = S := by unfold addS; rw [if_neg (by rw [e1]; omega)]
          rw [e1, e2]
          have hL := h.map.look_some hi (map_some hf)
          clear h e1 e2 hn no hp hd hi hf ho
          go_enter Try.func19, Try.ntmps19
          go_wp2_with (first | (go_at_call 51; refine (N _).mono ?_; rintro e w1 ⟨rfl, rfl⟩) | (go_at_call 49; refine (P _).mono ?_; rintro e w1 ⟨rfl, rfl⟩) | (go_at_call 48; refine (D _).mono ?_; rintro e w1 ⟨rfl, rfl⟩))
          go_ret
          exact ⟨rfl, HS.out⟩
        | none =>
          have e1 : addE S i q d = 0 := by unfold addE; rw [if_pos ⟨hn.1, hn.2, hp.1, hp.2, hd.1, hd.2⟩, hf]
          have e2 : addS S i q d = { S with L := S.L ++ [⟨i, q, d, 4, false⟩] } := by unfold addS; rw [if_pos e1]
          rw [e1, e2]
          have hL := h.map.look_none hi (map_none hf)
          have f0 := (Fr.refl none' w).alloc (.cells (tkA ⟨i, q, d, 4, false⟩) 40)
          have r0 : TkR (w.alloc (.cells (tkA ⟨i, q, d, 4, false⟩) 40)) w.heap.size ⟨i, q, d, 4, false⟩ := row_alloc w _ _
          have h0 := h.keep0 f0
          have hc : S.c ≠ i := by
            rcases ho with e | ⟨t, e⟩
            · omega
            · intro e'; rw [e'] at e; rw [e] at hf; cases hf
          obtain ⟨w2, hrun, hm2, f2⟩ := h0.map.store (len_le h.good) hi (map_none hf) w.heap.size (f' := fun j => if i = j then some w.heap.size else mapF p S.L j) (fun _ => rfl)
          have HC : Hid (∃ p', p'.b = p.b ∧ Chg w p S w2 p' { S with L := S.L ++ [⟨i, q, d, 4, false⟩] }) := exP (h.add (n := ⟨i, q, d, 4, false⟩) ⟨hn.1, by show i ≤ 1023; omega, hp.1, by show q ≤ 63; omega, hd.1, by show d ≤ 3; omega, by show (0 : Int) ≤ 4; omega, by show (4 : Int) ≤ 4; omega⟩ hc hf (Nat.le_refl _) f0 r0 f2 hm2) rfl
          dsimp only [tkA] at *
          clear h e1 e2 hn no hp hd hi hf ho f0 r0 h0 hm2 f2 hc HS
          go_enter Try.func19, Try.ntmps19
          go_wp2_with (first | (go_at_call 51; refine (N _).mono ?_; rintro e w1 ⟨rfl, rfl⟩) | (go_at_call 49; refine (P _).mono ?_; rintro e w1 ⟨rfl, rfl⟩) | (go_at_call 48; refine (D _).mono ?_; rintro e w1 ⟨rfl, rfl⟩))
          go_ret
          exact ⟨rfl, HC.out⟩

/-! ### Wake -/
theorem okT.setA {t : Tk} (h : okT t) (a : Bool) : okT (setA a t) := ⟨h.i0, h.i1, h.p0, h.p1, h.d0, h.d1, h.s0, h.s1⟩
theorem fnd_upd_same {L : List Tk} {k : Int} {t : Tk} {f : Tk → Tk} (hf : fnd L k = some t) (hi : ∀ t, (f t).i = t.i) : fnd (upd L k f) k = some (f t) := by
  rw [fnd_upd hi, hf, Option.map_some, if_pos (fnd_i hf)]

set_option maxRecDepth 100000 in
set_option maxHeartbeats 1000000 in
theorem wake_any (w : World) (p : Pb) (S : Sd) (h : IsS w p S) (i : Int) (hi : I64 i) (hl : ∀ j, j < 256 → (S.q j).length ≤ 5000) :
    Calls Try.prog 20 #[.pointer (some ⟨p.b, 0, none⟩), .int .i64 i] w fun e w' => e = .returned (.int .i64 (thrE S i)) ∧ ∃ p', p'.b = p.b ∧ Chg w p S w' p' (wakS S i) := by
  have c0 := h.cells.1
  unfold thrE wakS
  cases hf : fnd S.L i with
  | none =>
    have hL := h.map.look_none hi (map_none hf)
    have HS : Hid (∃ p', p'.b = p.b ∧ Chg w p S w p' S) := ⟨p, rfl, Chg.same h (Fr.refl _ _)⟩
    clear h hi hf hl
    go_enter Try.func20, Try.ntmps20
    go_wp2
    go_ret
    exact ⟨rfl, HS.out⟩
  | some t =>
    have hL := h.map.look_some hi (map_some hf)
    have hmm := fnd_mem hf
    have r1 := h.tk t hmm.1
    rw [hmm.2] at r1
    have ca := r1.cells.2.2.2.2
    dsimp only
    cases hA : t.a with
    | true =>
      rw [hA] at ca
      have HS : Hid (∃ p', p'.b = p.b ∧ Chg w p S w p' S) := ⟨p, rfl, Chg.same h (Fr.refl _ _)⟩
      simp only [if_true]
      clear h hi hf hl r1 hmm hA
      go_enter Try.func20, Try.ntmps20
      go_wp2
      go_ret
      exact ⟨rfl, HS.out⟩
    | false =>
      rw [hA] at ca
      have za := r1.frozen 4
      have hB : p.B t.i = p.B i := by rw [hmm.2]
      have C1 := h.setTk hf (f := setA true) (fun _ => rfl) ((h.good.all t hmm.1).setA true) (w' := w.setCell ⟨p.B i, 4, none⟩ (.bool true)) (by rw [hB]; exact fr_set _ _ _ _ (Fr.refl _ _)) (by rw [hB]; exact r1.setA true)
      have HI : Hid (Calls Try.prog 46 #[.pointer (some ⟨p.b, 0, none⟩), pv (p.B i), .func (.func 43) #[] #[]] (w.setCell ⟨p.B i, 4, none⟩ (.bool true)) fun e w' => ∃ v, e = .returned v ∧ ∃ p', p'.b = p.b ∧ Chg w p S w' p' (app { S with L := upd S.L i (setA true) } t gEnd)) := (apply_k _ p _ C1.is makes_end (fnd_upd_same hf (fun _ => rfl)) (hl _ (h.good.all t hmm.1).ky)).mono (by
        rintro e w' ⟨v, V', rfl, hC⟩
        exact ⟨v, rfl, exP (C1.trans hC) rfl⟩)
      simp only [Bool.false_eq_true, if_false]
      clear h hi hf hl r1 hmm hA C1 hB
      generalize p.B i = g at *
      go_enter Try.func20, Try.ntmps20
      go_wp2_with (go_at_call 46; refine HI.out.mono ?_; rintro e w1 ⟨v, rfl, hC⟩; have HC : Hid _ := hC; clear hC)
      go_ret
      exact ⟨rfl, HC.out⟩

/-! ### Yield -/
theorem okT.setSl {t : Tk} (h : okT t) {s : Int} (h0 : 0 ≤ s) (h1 : s ≤ 4) : okT (setSl s t) := ⟨h.i0, h.i1, h.p0, h.p1, h.d0, h.d1, h0, h1⟩
theorem okT.setPD {t : Tk} (h : okT t) {p d : Int} (h0 : 0 ≤ p) (h1 : p < 64) (h2 : 0 ≤ d) (h3 : d < 4) : okT (setPD p d t) := ⟨h.i0, h.i1, h0, by show p ≤ 63; omega, h2, by show d ≤ 3; omega, h.s0, h.s1⟩
theorem curT_upd {S : Sd} {f : Tk → Tk} (hf : fnd S.L S.c = some (curT S)) (hi : ∀ t, (f t).i = t.i) : curT { S with L := upd S.L S.c f } = f (curT S) := curT_of (S := { S with L := upd S.L S.c f }) (fnd_upd_same hf hi)

set_option maxRecDepth 100000 in
set_option maxHeartbeats 1000000 in
theorem yield_any (w : World) (p : Pb) (S : Sd) (h : IsS w p S) (ho : CurOk S) (hl : ∀ j, j < 256 → (S.q j).length ≤ 5000) :
    Calls Try.prog 23 #[.pointer (some ⟨p.b, 0, none⟩)] w fun e w' => e = .returned (.int .i64 (yieE S)) ∧ ∃ p', p'.b = p.b ∧ Chg w p S w' p' (yieS S) := by
  have cc := h.cells.2.1
  unfold yieE yieS
  by_cases hc : S.c = -1
  · rw [if_pos hc, if_pos hc]
    rw [hc, curV_none] at cc
    have HS : Hid (∃ p', p'.b = p.b ∧ Chg w p S w p' S) := ⟨p, rfl, Chg.same h (Fr.refl _ _)⟩
    clear h ho hl hc
    go_enter Try.func23, Try.ntmps23
    go_wp2
    go_ret
    exact ⟨rfl, HS.out⟩
  · rw [if_neg hc, if_neg hc]
    rw [curV_some hc] at cc
    have hf := ho.get hc
    have hmm := fnd_mem hf
    have r1 := h.tk _ hmm.1
    rw [hmm.2] at r1
    have cs := r1.cells.2.2.2.1
    have zs := r1.frozen 3
    have hB : p.B (curT S).i = p.B S.c := by rw [hmm.2]
    have C1 := h.setTk hf (f := setSl 4) (fun _ => rfl) ((h.good.all _ hmm.1).setSl (by omega) (by omega)) (w' := w.setCell ⟨p.B S.c, 3, none⟩ (.int .i64 4)) (by rw [hB]; exact fr_set _ _ _ _ (Fr.refl _ _)) (by rw [hB]; exact r1.setS 4)
    have hcu := curT_upd (f := setSl 4) hf (fun _ => rfl)
    have HI : Hid (Calls Try.prog 42 #[.pointer (some ⟨p.b, 0, none⟩), .func (.func 43) #[] #[]] (w.setCell ⟨p.B S.c, 3, none⟩ (.int .i64 4)) fun e w' => ∃ v, e = .returned v ∧ ∃ p', p'.b = p.b ∧ Chg w p S w' p' (back { S with L := upd S.L S.c (setSl 4) } gEnd)) := (back_any _ p _ C1.is makes_end hc (by rw [hcu]; exact fnd_upd_same hf (fun _ => rfl)) (by rw [hcu]; exact hl _ (h.good.all _ hmm.1).ky)).mono (by
      rintro e w' ⟨v, V', rfl, hC⟩
      exact ⟨v, rfl, exP (C1.trans hC) rfl⟩)
    clear h ho hl hf r1 hmm C1 hcu hB hc
    generalize p.B S.c = g at *
    go_enter Try.func23, Try.ntmps23
    go_wp2_with (go_at_call 42; refine HI.out.mono ?_; rintro e w1 ⟨v, rfl, hC⟩; have HC : Hid _ := hC; clear hC)
    go_ret
    exact ⟨rfl, HC.out⟩

end Go.Proofs.Ytipfgenbfnkpfaa
