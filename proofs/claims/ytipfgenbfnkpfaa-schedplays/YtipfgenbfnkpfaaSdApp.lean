/-
  Contracts of package sched's small functions over the translation: numbers, apply, putBack, ready. No statement is proved here.
-/
import Derived.Test.YtipfgenbfnkpfaaSdQue
import Derived.Deep.RegionWith
import Derived.LaidEql
namespace Go.Proofs.Ytipfgenbfnkpfaa
open Go.RowKit Go.Maps Go.WideMaps

theorem post_void {fn : Func} {R : Ending → World → Prop} {a : Act} {w : World} (hd : a.defers = []) (hr : fn.results = #[]) (h : ∀ v, R (.returned v) w) : bodyPost Try.prog fn R .normal a w :=
  ⟨hd, .tuple #[], by simp [results, hr], h _⟩

theorem num_any (n : Int) (w : World) : Calls Try.prog 51 #[.int .i64 n] w fun e w' => e = .returned (.bool (decide (0 ≤ n) && decide (n < 1024))) ∧ w' = w := by
  by_cases h : 0 ≤ n
  · have t1 : decide (0 ≤ n) = true := by simpa using h
    rw [t1]
    go_enter Try.func51, Try.ntmps51
    go_wp2
    go_ret
    exact ⟨rfl, rfl⟩
  · have t1 : decide (0 ≤ n) = false := by simpa using h
    rw [t1]
    go_enter Try.func51, Try.ntmps51
    go_wp2
    go_ret
    exact ⟨rfl, rfl⟩
theorem pri_any (n : Int) (w : World) : Calls Try.prog 49 #[.int .i64 n] w fun e w' => e = .returned (.bool (decide (0 ≤ n) && decide (n < 64))) ∧ w' = w := by
  by_cases h : 0 ≤ n
  · have t1 : decide (0 ≤ n) = true := by simpa using h
    rw [t1]
    go_enter Try.func49, Try.ntmps49
    go_wp2
    go_ret
    exact ⟨rfl, rfl⟩
  · have t1 : decide (0 ≤ n) = false := by simpa using h
    rw [t1]
    go_enter Try.func49, Try.ntmps49
    go_wp2
    go_ret
    exact ⟨rfl, rfl⟩
theorem dom_any (n : Int) (w : World) : Calls Try.prog 48 #[.int .i64 n] w fun e w' => e = .returned (.bool (decide (0 ≤ n) && decide (n < 4))) ∧ w' = w := by
  by_cases h : 0 ≤ n
  · have t1 : decide (0 ≤ n) = true := by simpa using h
    rw [t1]
    go_enter Try.func48, Try.ntmps48
    go_wp2
    go_ret
    exact ⟨rfl, rfl⟩
  · have t1 : decide (0 ≤ n) = false := by simpa using h
    rw [t1]
    go_enter Try.func48, Try.ntmps48
    go_wp2
    go_ret
    exact ⟨rfl, rfl⟩

set_option maxRecDepth 100000 in
set_option maxHeartbeats 2000000 in
theorem apply_any (w : World) (p : Pb) (S : Sd) (h : IsS w p S) {fn : Nat} {g : Int → List Int → List Int} (hm : Makes fn g) {k : Int} {t : Tk} (hf : fnd S.L k = some t) (hl : (S.q (ky t.d t.p)).length ≤ 5000) :
    Calls Try.prog 46 #[.pointer (some ⟨p.b, 0, none⟩), pv (p.B t.i), .func (.func fn) #[] #[]] w fun e w' => ∃ v V', e = .returned v ∧ Chg w p S w' { p with V := V' } (app S t g) := by
  have hmm := (fnd_mem hf).1
  have hok := h.good.all t hmm
  have hky := hok.ky
  obtain ⟨dn, hdn⟩ : ∃ n : Nat, t.d = n := ⟨t.d.toNat, by have := hok.d0; omega⟩
  obtain ⟨pn, hpn⟩ : ∃ n : Nat, t.p = n := ⟨t.p.toNat, by have := hok.p0; omega⟩
  have hkv : ky t.d t.p = dn * 64 + pn := by unfold ky; rw [hdn, hpn]; simp
  have i1 : 0 ≤ (dn : Int) ∧ (dn : Int) < 4 := by have := hok.d0; have := hok.d1; omega
  have i2 : 0 ≤ (pn : Int) ∧ (pn : Int) < 64 := by have := hok.p0; have := hok.p1; omega
  obtain ⟨d0, d1, d2, _, _⟩ := (h.tk t hmm).cells
  rw [hpn] at d1
  rw [hdn] at d2
  have cq := h.cellq _ hky
  have fz := h.frozen (1 + (ky t.d t.p))
  have hen := hm.ent
  obtain ⟨f2, hen2, hr1, hr2⟩ := hm.run
  have ho := h.qu _ hky
  rw [hkv] at cq fz
  rw [← Nat.add_assoc] at cq fz
  have HA : Hid (∀ w', Fr none' w w' → w'.cell? ⟨p.B t.i, 0, none⟩ = some (.int .i64 t.i) ∧ w'.cell? ⟨p.b, 1 + dn * 64 + pn, none⟩ = some (p.V (dn * 64 + pn)) ∧ w'.frozen? ⟨p.b, 1 + dn * 64 + pn, none⟩ = false) := fun w' f => by
    have h' := h.keep0 f
    have a := h'.cellq _ hky
    have b := h'.frozen (1 + ky t.d t.p)
    rw [hkv, ← Nat.add_assoc] at a b
    exact ⟨((h'.tk t hmm).cells).1, a, b⟩
  have HB : Hid (∀ w' c, Fr none' w w' → Row w' c #[.int .i64 t.i] 3 → w.heap.size ≤ c → Calls Try.prog f2 #[p.V (dn * 64 + pn), .pointer (some ⟨c, 0, none⟩)] w' fun e w3 => ∃ (qa : Option Addr) (qn qc : Nat), e = .returned (.slice qa qn qc) ∧ w3.cell? ⟨p.b, 1 + dn * 64 + pn, none⟩ = some (p.V (dn * 64 + pn)) ∧ w3.frozen? ⟨p.b, 1 + dn * 64 + pn, none⟩ = false ∧
      ∀ w4 w5, Fr none' w3 w4 → Fr none' (w4.setCell ⟨p.b, 1 + dn * 64 + pn, none⟩ (.slice qa qn qc)) w5 → ∃ V', Chg w p S w5 { p with V := V' } (app S t g)) := fun w' c f rc hc => by
    have h' := h.keep0 f
    have hcv : some c ≠ (p.V (ky t.d t.p)).ownBlock := fun e => by
      have := h.lt c (Or.inr (Or.inr (Or.inr (Or.inl ⟨_, hky, e⟩))))
      omega
    have q := hr2 w' (p.V (ky t.d t.p)) (S.q (ky t.d t.p)) t.i c rc hcv (h'.qu _ hky) hl
    rw [hkv] at q
    refine q.mono ?_
    rintro e w3 ⟨v', rfl, f3, o3, n3⟩
    have nb : ¬ some p.b = (p.V (dn * 64 + pn)).ownBlock := fun e => (h.bV (by rw [← hkv]; exact hky) e).1 rfl
    obtain ⟨cs, h0⟩ := h'.row
    have r3 : Row w3 p.b cs 57 := h0.row.keep f3 nb
    obtain ⟨qa, qn, qc, rfl⟩ : ∃ (qa : Option Addr) (qn qc : Nat), v' = .slice qa qn qc := by
      rcases own_form o3 with ⟨rfl, _⟩ | ⟨_, _, rfl⟩
      · exact ⟨_, _, _, rfl⟩
      · exact ⟨_, _, _, rfl⟩
    refine ⟨qa, qn, qc, rfl, ?_, r3.frozen _, fun w4 w5 f4 f5 => ?_⟩
    · rw [r3.cell, Nat.add_assoc]
      exact h0.cq _ (by rw [← hkv]; exact hky)
    · have hj : dn * 64 + pn < 256 := by rw [← hkv]; exact hky
      have := h'.setQ (j := dn * 64 + pn) hj (w1 := w4) (v := .slice qa qn qc) (f := g t.i) (f3.trans (f4.mono (fun _ _ h => h.elim))) (ownsRow_at o3 fun q _ hl => f4.block q hl (fun h => h)) n3
      rw [← Nat.add_assoc] at this
      refine ⟨uV p.V (dn * 64 + pn) (.slice qa qn qc), ?_⟩
      have e1 : app S t g = { S with q := uq S.q (dn * 64 + pn) (g t.i) } := by unfold app; rw [hkv]
      rw [e1]
      exact (this.before f h).after f5
  have HR : Hid (∀ w', Fr none' w w' → Calls Try.prog fn #[.int .i64 t.i] w' fun e w2 => ∃ c : Nat, e = .returned (.func (.func f2) #[] #[.pointer (some ⟨c, 0, none⟩)]) ∧ Fr none' w w2 ∧ Row w2 c #[.int .i64 t.i] 3 ∧ w.heap.size ≤ c) := fun w' f => (hr1 w' t.i).mono (by
    rintro e w2 ⟨c, rfl, f2, rc, hc⟩
    have := f.size
    exact ⟨c, rfl, f.trans f2, rc, by omega⟩)
  clear hr1 hr2 ho h hm hl hky hmm hok hf hkv hdn hpn
  generalize p.V (dn * 64 + pn) = v at *
  generalize p.B t.i = gB at *
  generalize hpb : p.b = b at *
  generalize t.i = id at *
  go_enter Try.func46, Try.ntmps46
  go_wp2_with fail
  go_quiet (fail)
  have F1 := fr_drewN w nq
  generalize w.drewN nq = w1 at *
  clear d0 d1 d2 cq fz
  obtain ⟨d0, cq, fz⟩ := HA.out w1 F1
  go_wp2_with fail
  go_region_with (first | (refine (HR.out _ (by first | exact F1 | exact F1.drew | exact F1.drew.drew | exact F1.drew.drew.drew)).mono ?_; rintro e w2 ⟨c, rfl, F2, rc, hc⟩; obtain ⟨d0', cq', fz'⟩ := HA.out w2 F2) | (refine (HB.out _ c (by first | exact F2 | exact F2.drew | exact F2.drew.drew | exact F2.drew.drew.drew) (by exact rc) hc).mono ?_; rintro e w3 ⟨qa, qn, qc, rfl, cq3, fz3, HC⟩; have HC' : Hid _ := HC; clear HC))
  all_goals refine post_void rfl rfl fun v => ?_
  all_goals obtain ⟨V', hc⟩ := (by first | exact HC'.out _ _ (Fr.refl _ _) (Fr.refl _ _) | exact HC'.out _ _ (Fr.refl none' _).drew (Fr.refl _ _) | exact HC'.out _ _ (Fr.refl none' _).drew.drew (Fr.refl _ _) : ∃ V', Chg w p S _ { b := b, m := p.m, B := p.B, V := V', T := p.T } (app S t g))
  all_goals exact ⟨v, V', rfl, hc⟩

end Go.Proofs.Ytipfgenbfnkpfaa
