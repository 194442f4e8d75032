/-
  The document's Descendants, List and Parent over the translation. No statement is proved here.
-/
import Derived.Test.YtjopmhidldemmaaCdtUnd
namespace Go.Proofs.Ytjopmhidldemmaa
open Go.RowKit Go.Maps Go.WideMaps

theorem under_any (L : List On) : ∀ (n : Nat), n ≤ 1000 → ∀ (F : List En) (d : Int) (l : List Nat), Pre L d l F → F.length ≤ n → UnderIs L F l
  | 0, hn, F, d, l, hP, hF => under_step F.length L (fun F' d' l' hP' hF' => by omega) F d l hP rfl (by omega)
  | n + 1, hn, F, d, l, hP, hF => under_step F.length L (fun F' d' l' hP' hF' => under_any L n (by omega) F' d' l' hP' (by omega)) F d l hP rfl (by omega)

set_option maxRecDepth 100000 in
set_option maxHeartbeats 1000000 in
theorem rlist_any (w : World) (B r : Nat) (q : Qr) (L : List On) (ro : List Nat) (F : List En) (h : IsR w B r q L ro) (hP : Pre L 0 ro F) (hF : F.length ≤ 1000) :
    Calls Try.prog 8 #[pv r] w fun e w' => ∃ v, e = .returned v ∧ RfS w' w.heap.size v (F.map (·.a)) ∧ Fr none' w w' := by
  have hU := under_any L F.length hF F 0 ro hP (Nat.le_refl _) w B r q ro h B q.u h.rts
  have c1 := h.c1
  generalize q.u = u at *
  clear h hP
  go_enter Try.func8, Try.ntmps8
  go_wp2_with fail
  refine hU.mono ?_
  rintro e w1 ⟨v, rfl, o1, f1⟩
  clear hU c1
  go_wp2
  go_ret
  exact ⟨v, rfl, OwnK.rfs o1, f1⟩

/-- What the document's Descendants tells. -/
def rdesF (L : List On) (a : Rf) (M : List Rf) : Prop := match fdR a L with
  | none => M = []
  | some k => ∃ (o : On) (d : Int) (G : List En), L[k]? = some o ∧ Pre L d o.ks G ∧ M = G.map (·.a) ∧ G.length ≤ 1000

set_option maxRecDepth 100000 in
set_option maxHeartbeats 1000000 in
theorem rdesc_any (w : World) (B r : Nat) (q : Qr) (L : List On) (ro : List Nat) (h : IsR w B r q L ro) (a : Rf) (M : List Rf) (hM : rdesF L a M) :
    Calls Try.prog 33 #[pv r, rfV a] w fun e w' => ∃ v, e = .returned v ∧ RfS w' w.heap.size v M ∧ Fr none' w w' := by
  have f1 := (Fr.refl none' w).alloc (.cells #[.int .i64 a.n, .int .i64 a.i] 33)
  have h1 := h.keep0 f1
  clear h
  go_enter Try.func33, Try.ntmps33
  go_wp2_with fail
  refine (find_any _ B r q L ro h1 a).mono ?_
  rintro e w1 ⟨rfl, f2⟩
  replace h1 := h1.keep0 f2
  replace f1 := f1.trans f2
  clear f2
  unfold rdesF at hM
  cases hfa : fdR a L with
  | none =>
    rw [hfa] at hM
    have hM' : M = [] := hM
    subst hM'
    rw [fdI_neg hfa]
    clear hM
    go_wp2
    go_ret
    exact ⟨_, rfl, Or.inl ⟨rfl, rfl⟩, f1⟩
  | some k =>
    rw [hfa] at hM
    obtain ⟨o, d, G, ho, hP, rfl, hGl⟩ := hM
    rw [fdI_pos hfa]
    have hk0 : decide ((k : Int) < 0) = false := decide_eq_false (by omega)
    obtain ⟨ad0, cap, hv, hnn⟩ := h1.form
    obtain ⟨g, rfl, _, _, _, e3, _⟩ := hnn k o ho
    have hkl := (List.getElem?_eq_some_iff.1 ho).1
    have hLL := h1.sm
    have c0 := h1.c0
    rw [hv] at c0
    have i1 : 0 ≤ (k : Int) ∧ (k : Int) < (L.length : Int) := by omega
    have hU := under_any L G.length hGl G d o.ks hP (Nat.le_refl _) w1 B r q ro h1 B (q.K k) (h1.kd k o ho)
    have F1 : Hid _ := ⟨f1⟩
    generalize q.K k = kx at *
    clear hnn hv h1 f1 hP ho hfa
    generalize L.length = N at *
    go_wp2_with fail
    refine hU.mono ?_
    rintro e w2 ⟨v, rfl, o1, f2⟩
    clear hU c0 e3
    go_wp2
    go_ret
    exact ⟨v, rfl, (OwnK.rfs o1).mono F1.out.size, F1.out.trans f2⟩

set_option maxRecDepth 100000 in
set_option maxHeartbeats 2000000 in
theorem rparent_any (w : World) (B r : Nat) (q : Qr) (L : List On) (ro : List Nat) (h : IsR w B r q L ro) (hG : GoodR L ro) (a : Rf) :
    Calls Try.prog 29 #[pv r, rfV a] w fun e w' => e = .returned (.tuple #[rfV (rparF L a).1, .bool (rparF L a).2]) ∧ Fr none' w w' := by
  have f1 := ((Fr.refl none' w).alloc (.cells #[.int .i64 a.n, .int .i64 a.i] 33)).alloc (.cells #[.int .i64 0, .int .i64 0] 33)
  have rp := row_alloc1 w (.cells #[.int .i64 a.n, .int .i64 a.i] 33) #[.int .i64 0, .int .i64 0] 33
  have h1 := h.keep0 f1
  obtain ⟨pr, hpr⟩ : ∃ pr, pr = rparF L a := ⟨_, rfl⟩
  rw [← hpr]
  have HPR : Hid (pr = rparF L a) := ⟨hpr⟩
  clear h hpr
  go_enter Try.func29, Try.ntmps29
  go_wp2_with fail
  refine (find_any _ B r q L ro h1 a).mono ?_
  rintro e w1 ⟨rfl, f2⟩
  replace h1 := h1.keep0 f2
  replace rp := rp.keep f2 (fun h => h)
  replace f1 := f1.trans f2
  clear f2
  cases hfa : fdR a L with
  | none =>
    rw [fdI_neg hfa]
    obtain rfl : pr = (rf0, false) := by rw [HPR.out]; simp [rparF, hfa]
    have p0 := rp.cell 0
    have p1 := rp.cell 1
    have z0 := rp.frozen 0
    have z1 := rp.frozen 1
    go_wp2
    have hq := (rp.setCell 0 (.int .i64 0)).setCell 1 (.int .i64 0)
    have hd0 : _ = some (Value.int .i64 0) := hq.cell 0
    have hd1 : _ = some (Value.int .i64 0) := hq.cell 1
    refine bodyPost_ret (v := .tuple #[.agg #[.int .i64 0, .int .i64 0], .bool false]) ?_ rfl ⟨rfl, (f1.setCell (p := ⟨w.heap.size + 1, 0, none⟩) (Or.inl (Nat.le_succ _)) _).setCell (p := ⟨w.heap.size + 1, 1, none⟩) (Or.inl (Nat.le_succ _)) _⟩
    simp [results, Try.f29, go_sem, hd0, hd1]
  | some k =>
    obtain ⟨o, ho, hgo, _⟩ := fdR_some hfa
    have hU : upAt L k = o.up := by unfold upAt; rw [ho]
    rw [fdI_pos hfa]
    have hk0 : decide ((k : Int) < 0) = false := decide_eq_false (by omega)
    obtain ⟨ad0, cap, hv, hnn⟩ := h1.form
    obtain ⟨g, rfl, _, _, e2, _, _⟩ := hnn k o ho
    have hkl := (List.getElem?_eq_some_iff.1 ho).1
    have hLL := h1.sm
    have c0 := h1.c0
    rw [hv] at c0
    have i1 : 0 ≤ (k : Int) ∧ (k : Int) < (L.length : Int) := by omega
    have p0 := rp.cell 0
    have p1 := rp.cell 1
    have z0 := rp.frozen 0
    have z1 := rp.frozen 1
    by_cases hu : o.up < 0
    · have hu0 : decide (o.up < 0) = true := decide_eq_true hu
      obtain rfl : pr = (rf0, false) := by rw [HPR.out]; simp [rparF, hfa, hU, hu]
      have F1 : Hid _ := ⟨f1⟩
      have RP : Hid _ := ⟨rp⟩
      clear hnn hv h1 f1 rp ho hfa hU hG HPR
      generalize L.length = N at *
      go_wp2
      have hq := (RP.out.setCell 0 (.int .i64 0)).setCell 1 (.int .i64 0)
      have hd0 : _ = some (Value.int .i64 0) := hq.cell 0
      have hd1 : _ = some (Value.int .i64 0) := hq.cell 1
      refine bodyPost_ret (v := .tuple #[.agg #[.int .i64 0, .int .i64 0], .bool false]) ?_ rfl ⟨rfl, (F1.out.setCell (p := ⟨w.heap.size + 1, 0, none⟩) (Or.inl (Nat.le_succ _)) _).setCell (p := ⟨w.heap.size + 1, 1, none⟩) (Or.inl (Nat.le_succ _)) _⟩
      simp [results, Try.f29, go_sem, hd0, hd1]
    · obtain ⟨c, hc, hcg, _⟩ := hG.pa k o ho hgo (by omega)
      obtain ⟨p, hp⟩ : ∃ p : Nat, o.up = (p : Int) := ⟨o.up.toNat, by omega⟩
      rw [hp] at hc e2
      have hc' : L[p]? = some c := hc
      have hu0 : decide ((p : Int) < 0) = false := decide_eq_false (by omega)
      obtain rfl : pr = (c.a, true) := by
        rw [HPR.out]
        unfold rparF
        simp only [hfa, hU, hp, Int.toNat_natCast, hc']
        exact if_neg (by omega)
      obtain ⟨g', eg, q0, q1, _⟩ := hnn p c hc'
      simp only [Option.some.injEq, Addr.mk.injEq, and_true] at eg
      subst eg
      have hpl := (List.getElem?_eq_some_iff.1 hc').1
      have i2 : 0 ≤ (p : Int) ∧ (p : Int) < (L.length : Int) := by omega
      have F1 : Hid _ := ⟨f1⟩
      have RP : Hid _ := ⟨rp⟩
      clear hnn hv h1 f1 rp ho hfa hU hG hc hc' hp hu HPR
      generalize L.length = N at *
      go_wp2_with fail
      go_region
      all_goals go_wp2
      all_goals (
        have hq := (RP.out.setCell 0 (.int .i64 c.a.n)).setCell 1 (.int .i64 c.a.i)
        have hd0 : _ = some (Value.int .i64 c.a.n) := (RP.out.setCell 0 (.int .i64 c.a.n)).cell 0
        have hd1 : _ = some (Value.int .i64 c.a.i) := hq.cell 1
        refine bodyPost_ret (v := .tuple #[.agg #[.int .i64 c.a.n, .int .i64 c.a.i], .bool true]) ?_ rfl ⟨rfl, ((F1.out.trans (Fr.refl none' w1).drew).setCell (p := ⟨w.heap.size + 1, 0, none⟩) (Or.inl (Nat.le_succ _)) _).setCell (p := ⟨w.heap.size + 1, 1, none⟩) (Or.inl (Nat.le_succ _)) _⟩
        simp [results, Try.f29, go_sem, hd0, hd1])

end Go.Proofs.Ytjopmhidldemmaa
