/-
  The document's Remove over the translation. No statement is proved here.
-/
import Derived.Test.YtjopmhidldemmaaCdtRefP
import Derived.Test.YtjopmhidldemmaaCdtRefC
namespace Go.Proofs.Ytjopmhidldemmaa
open Go.RowKit Go.Maps Go.WideMaps

def rremM (L : List On) (k : Nat) : List On := ups (upAt L k) (ksAt L k) L
def rremL (L : List On) (a : Rf) : List On := match fdR a L with
  | none => L
  | some k => setG (if upAt L k < 0 then rremM L k else setK (rremM L k) (upAt L k).toNat (replR k (ksAt L k) (ksAt (rremM L k) (upAt L k).toNat))) k
def rremR (L : List On) (ro : List Nat) (a : Rf) : List Nat := match fdR a L with
  | none => ro
  | some k => if upAt L k < 0 then replR k (ksAt L k) ro else ro

theorem ownk_base {w : World} {B B' : Nat} {e : TypeId} {k n : Nat} {v : Value} {L : List Value} (hB : B' ≤ B) (h : OwnK e k w B v n L) : OwnK e k w B' v n L := by
  obtain ⟨⟨hl, h1 | ⟨g, cap, cur, hv, hb, rest⟩⟩, hn⟩ := h
  · exact ⟨⟨hl, Or.inl h1⟩, hn⟩
  · exact ⟨⟨hl, Or.inr ⟨g, cap, cur, hv, Nat.le_trans hB hb, rest⟩⟩, hn⟩

structure RemOk (L : List On) (ro : List Nat) (a : Rf) : Prop where
  up : ∀ k o, fdR a L = some k → L[k]? = some o → o.up < L.length ∧ o.ks.length ≤ 1000 ∧ ∀ x ∈ o.ks, x < L.length
  pk : ∀ k o p, fdR a L = some k → L[k]? = some o → 0 ≤ o.up → L[o.up.toNat]? = some p → p.ks.length ≤ 1000
  ro : ro.length ≤ 1000

set_option maxRecDepth 100000 in
set_option maxHeartbeats 4000000 in
theorem rremove_any (w : World) (B r : Nat) (q : Qr) (L : List On) (ro : List Nat) (h : IsR w B r q L ro) (a : Rf) (hok : RemOk L ro a) :
    Calls Try.prog 19 #[pv r, rfV a] w fun e w' => e = .returned (.int .i64 (rremE L a)) ∧ ChgR w B r w' (rremL L a) (rremR L ro a) := by
  have f1 := (Fr.refl none' w).alloc (.cells #[.int .i64 a.n, .int .i64 a.i] 33)
  have h1 := h.keep0 f1
  have HH : Hid _ := ⟨h⟩
  clear h
  go_enter Try.func19, Try.ntmps19
  go_wp2_with fail
  refine (find_any _ B r q L ro h1 a).mono ?_
  rintro e w1 ⟨rfl, f2⟩
  replace h1 := h1.keep0 f2
  replace f1 := f1.trans f2
  clear f2
  cases hfa : fdR a L with
  | none =>
    rw [fdI_neg hfa]
    go_wp2
    go_ret
    exact ⟨by simp [rremE, hfa], by simp only [rremL, rremR, hfa]; exact ChgR.same HH.out f1⟩
  | some k =>
    rw [fdI_pos hfa]
    have hk0 : decide ((k : Int) < 0) = false := decide_eq_false (by omega)
    obtain ⟨o, ho, _⟩ := fdR_some hfa
    obtain ⟨hup, hks, hkx⟩ := hok.up k o hfa ho
    have hkl := (List.getElem?_eq_some_iff.1 ho).1
    have hU : upAt L k = o.up := by unfold upAt; rw [ho]
    have hKs : ksAt L k = o.ks := by unfold ksAt; rw [ho]
    obtain ⟨ad0, cap, hv, hn⟩ := h1.form
    obtain ⟨g, rfl, _, _, d2, d3, _⟩ := hn k o ho
    have c0 := h1.c0
    rw [hv] at c0
    obtain ⟨ka, kcap, hKk, hkc⟩ := (h1.kd k o ho).cells
    rw [hKk] at d3
    have HG : Hid (q.v = .slice (some ⟨g, 0, none⟩) L.length cap ∧ q.K k = .slice ka o.ks.length kcap) := ⟨hv, hKk⟩
    have HI1 : Hid _ := ⟨h1⟩
    have HF1 : Hid _ := ⟨f1⟩
    have HO : Hid _ := ⟨ho⟩
    obtain ⟨N, hN⟩ : ∃ N, N = L.length := ⟨_, rfl⟩
    obtain ⟨m, hm⟩ : ∃ m, m = o.ks.length := ⟨_, rfl⟩
    obtain ⟨u, hu⟩ : ∃ u, u = o.up := ⟨_, rfl⟩
    have HN : Hid (N = L.length ∧ m = o.ks.length ∧ u = o.up) := ⟨hN, hm, hu⟩
    rw [← hN] at c0 hkl
    rw [← hm] at d3
    rw [← hu] at d2
    have hN1000 : N ≤ 1000 := by rw [hN]; exact h1.sm
    have hm1000 : m ≤ 1000 := by rw [hm]; exact hks
    have i1 : 0 ≤ (k : Int) ∧ (k : Int) < (N : Int) := by omega
    have hupN : u < (N : Int) := by rw [hu, hN]; exact hup
    have HX : Hid (∀ x ∈ o.ks, x < N) := ⟨by rw [hN]; exact hkx⟩
    clear hN hm hu hv hn hKk hkc h1 f1 ho hks hup hkx
    go_wp2_with fail
    clear d2 d3 c0
    go_loopw [7] (fun i wr => ∃ j : Nat, j ≤ m ∧ i = .int .i64 (j : Int) ∧ Hid (IsR wr B r q (ups u (o.ks.take j) L) ro ∧ Fr (RefB B w) w wr)) (fun i _ => m - (intOf i).toNat)
    case atStart => exact ⟨0, by omega, rfl, ⟨by rw [List.take_zero]; exact HI1.out, refB_none HF1.out⟩⟩
    case round =>
      obtain ⟨j, hj, rfl, hR⟩ := hrel
      have hIs := hR.out.1
      have hMl : (ups u (o.ks.take j) L).length = N := by rw [ups_len, ← HN.out.1]
      obtain ⟨ad1, cap1, hv1, hn1⟩ := hIs.form
      rw [hMl] at hv1
      have hoM := ups_at u (l := o.ks.take j) HO.out
      obtain ⟨g1, e1, _, _, _, d3, _⟩ := hn1 k _ hoM
      obtain ⟨rfl, rfl⟩ : g1 = g ∧ cap1 = cap := by
        have := HG.out.1
        rw [hv1, e1] at this
        simp at this
        exact ⟨this.1, this.2.2⟩
      have c0 := hIs.c0
      rw [HG.out.1, ← HN.out.1] at c0
      rw [HG.out.2, ← HN.out.2.1] at d3
      have hKsW : Ks wr B (q.K k) o.ks := by
        have := hIs.kd k _ hoM
        split at this <;> exact this
      by_cases hlt : j < m
      · have hjl : j < o.ks.length := by rw [← HN.out.2.1]; exact hlt
        obtain ⟨ka', kcap', hKk', hkc'⟩ := hKsW.cells
        obtain ⟨gk, ek, dk⟩ := hkc' j o.ks[j] (List.getElem?_eq_getElem hjl)
        have hka : ka = ka' := by
          have := HG.out.2
          rw [hKk'] at this
          simp at this
          exact this.1.symm
        have HT : Hid (o.ks.take (j + 1) = o.ks.take j ++ [o.ks[j]]) := ⟨List.take_succ_eq_append_getElem hjl⟩
        have hx := HX.out o.ks[j] (List.getElem_mem hjl)
        generalize o.ks[j] = x at *
        rw [← hka] at ek
        rw [ek] at d3
        obtain ⟨ox, hxM⟩ : ∃ ox, (ups u (o.ks.take j) L)[x]? = some ox := ⟨_, List.getElem?_eq_getElem (by rw [hMl]; exact hx)⟩
        have hvM : q.v = .slice (some ⟨g1, 0, none⟩) (ups u (o.ks.take j) L).length cap1 := by rw [hMl, HG.out.1, HN.out.1]
        obtain ⟨g2, e2, _, _, x2, _, _⟩ := hn1 x _ hxM
        obtain rfl : g2 = g1 := by rw [e1] at e2; simp at e2; exact e2.symm
        have zx := hIs.frozen hvM (by rw [hMl]; omega) (x * 5 + 2)
        have hS := (hIs.setU hvM hxM u).keep0 ((Fr.refl none' _).drew)
        have fS := (fr_set wr g2 (x * 5 + 2) (.int .i64 u) (Fr.refl _ _)).drew
        have i2 : 0 ≤ (j : Int) ∧ (j : Int) < (m : Int) := by omega
        have i3 : 0 ≤ (x : Int) ∧ (x : Int) < (N : Int) := by omega
        have uk : decide ((j : Int) < (m : Int)) = true := decide_eq_true (by omega)
        have HS : Hid (IsR (wr.setCell ⟨g2, x * 5 + 2, none⟩ (.int .i64 u)).drew B r q (ups u (o.ks.take (j + 1)) L) ro ∧ Fr (RefB B w) w (wr.setCell ⟨g2, x * 5 + 2, none⟩ (.int .i64 u)).drew) := by
          refine ⟨?_, refB_trans hR.out.2 (fS.mono (fun k _ e => ?_))⟩
          · rw [HT.out, ups_app]
            exact hS
          · have e' : k = g2 := e
            rw [e']
            exact hIs.kinds g2 (Or.inr (Or.inl (by rw [hvM]; rfl)))
        clear hS fS hIs hR hn1 hvM hxM hKsW hkc' hKk' hoM hv1 e1 e2 hMl HT
        go_wp2_with fail
        go_region
        all_goals go_wp2_with fail
        all_goals go_roundw
        all_goals first
          | exact ⟨j + 1, by omega, by go_num, HS⟩
          | (simp [intOf]; omega)
      · obtain rfl : j = m := by omega
        have uk : decide ((j : Int) < (j : Int)) = false := decide_eq_false (by omega)
        have hM : ups u (o.ks.take j) L = rremM L k := by
          unfold rremM
          rw [hU, hKs, HN.out.2.1, List.take_length, HN.out.2.2]
        rw [hM] at hIs hMl hn1
        clear hM hv1 hoM
        have c1 := hIs.c1
        have hvM : q.v = .slice (some ⟨g1, 0, none⟩) (rremM L k).length cap1 := by rw [hMl, HG.out.1, HN.out.1]
        have HR2 : Hid (Fr (RefB B w) w wr) := ⟨hR.out.2⟩
        have HIs : Hid _ := ⟨hIs⟩
        have HVM : Hid _ := ⟨hvM⟩
        have HK2 : Hid _ := ⟨hKsW⟩
        by_cases hu0 : u < 0
        · have du : decide (u < 0) = true := decide_eq_true hu0
          obtain ⟨ua, ucap, hqu, _⟩ := hIs.rts.cells
          rw [hqu] at c1
          have hrep := replaced_any wr.drew B B q.u (q.K k) ro o.ks k (hIs.rts.keep0 ((Fr.refl none' wr).drew)) (hKsW.keep0 ((Fr.refl none' wr).drew)) hok.ro (by rw [← HN.out.2.1]; exact hm1000)
          rw [hqu, HG.out.2, ← HN.out.2.1] at hrep
          have rr := hIs.row
          obtain ⟨csg, rg⟩ : ∃ cs, Row wr g1 cs 64 := by
            obtain ⟨g', c', cu', e3, _, e4, _⟩ := hIs.own.row (by rw [hMl]; omega)
            rw [hvM] at e3
            simp at e3
            exact ⟨cu', by rw [e3.1]; exact e4⟩
          have hgr : g1 ≠ r := fun e => by
            have h' : wr.heap[g1]? = some (.cells csg 64 (0, 0)) := rg
            rw [e, show wr.heap[r]? = _ from rr] at h'
            cases h'
          have RR : Hid _ := ⟨rr⟩
          have RG : Hid _ := ⟨rg⟩
          obtain ⟨oM, hoM⟩ : ∃ oM, (rremM L k)[k]? = some oM := ⟨_, List.getElem?_eq_getElem (by rw [hMl]; omega)⟩
          obtain ⟨g9, e9, p0, p1, p2, p3, d4⟩ := hn1 k oM hoM
          clear p0 p1 p2 p3
          obtain rfl : g9 = g1 := by rw [e1] at e9; simp at e9; exact e9.symm
          have HOM : Hid _ := ⟨hoM⟩
          clear hIs hn1 hvM hKsW hqu hR HX e1 rr rg e9 hoM
          go_wp2_with fail
          refine wp_region_held (S := (fun w' => w'.cell? ⟨r, 0, none⟩ = some (.slice (some ⟨g9, 0, none⟩) N cap1) ∧ w'.cell? ⟨g9, k * 5 + 3, none⟩ = some (.slice ka j kcap))) (by kernel_rfl) ?_
          change wpAnyH _ _ _ _ _ _ _ _ (World.drew _)
          refine wpAnyH_take (i := 0) (v := ?_) rfl (by kernel_rfl) (by kernel_rfl) (by kernel_rfl) (fun _ _ _ h => h) (Or.inl ⟨by kernel_rfl, fun w hS => ?_⟩) ⟨c0, d3⟩ ?_
          rotate_left
          · go_simp
            try with_reducible rfl
          show wpAnyH _ _ _ _ _ _ _ (Act.put _ (some 54) _) _
          simp only [Act.put, List.setIfInBounds_toArray, List.set_cons_succ, List.set_cons_zero]
          refine wpAnyH_take (i := 1) (v := ?_) rfl (by kernel_rfl) (by kernel_rfl) (by kernel_rfl) (fun _ _ _ h => h) (Or.inl ⟨by kernel_rfl, fun w hS => ?_⟩) ⟨c0, d3⟩ ?_
          rotate_left
          · go_simp
            try with_reducible rfl
          show wpAnyH _ _ _ _ _ _ _ (Act.put _ (some 55) _) _
          simp only [Act.put, List.setIfInBounds_toArray, List.set_cons_succ, List.set_cons_zero]
          refine wpAnyH_take (i := 2) (v := ?_) rfl (by kernel_rfl) (by kernel_rfl) (by kernel_rfl) (fun _ _ _ h => h) (Or.inl ⟨by kernel_rfl, fun w hS => ?_⟩) ⟨c0, d3⟩ ?_
          rotate_left
          · go_simp
            try with_reducible rfl
          show wpAnyH _ _ _ _ _ _ _ (Act.put _ (some 56) _) _
          simp only [Act.put, List.setIfInBounds_toArray, List.set_cons_succ, List.set_cons_zero]
          refine wpAnyH_take (i := 3) (v := ?_) rfl (by kernel_rfl) (by kernel_rfl) (by kernel_rfl) (fun _ _ _ h => h) (Or.inl ⟨by kernel_rfl, fun w hS => ?_⟩) ⟨c0, d3⟩ ?_
          rotate_left
          · go_simp
            try with_reducible rfl
          show wpAnyH _ _ _ _ _ _ _ (Act.put _ (some 57) _) _
          simp only [Act.put, List.setIfInBounds_toArray, List.set_cons_succ, List.set_cons_zero]
          refine wpAnyH_take (i := 5) (v := ?_) rfl (by kernel_rfl) (by kernel_rfl) (by kernel_rfl) (fun _ _ _ h => h) (Or.inl ⟨by kernel_rfl, fun w hS => ?_⟩) ⟨c0, d3⟩ ?_
          rotate_left
          · go_simp
            try with_reducible rfl
          show wpAnyH _ _ _ _ _ _ _ (Act.put _ (some 59) _) _
          simp only [Act.put, List.setIfInBounds_toArray, List.set_cons_succ, List.set_cons_zero]
          refine wpAnyH_take (i := 6) (v := ?_) rfl (by kernel_rfl) (by kernel_rfl) (by kernel_rfl) (fun _ _ _ h => h) (Or.inl ⟨by kernel_rfl, fun w hS => ?_⟩) ⟨c0, d3⟩ ?_
          rotate_left
          · go_simp
            try with_reducible rfl
          show wpAnyH _ _ _ _ _ _ _ (Act.put _ (some 60) _) _
          simp only [Act.put, List.setIfInBounds_toArray, List.set_cons_succ, List.set_cons_zero]
          refine wpAnyH_take (i := 7) (v := ?_) rfl (by kernel_rfl) (by kernel_rfl) (by kernel_rfl) (fun _ _ _ h => h) (Or.inl ⟨by kernel_rfl, fun w hS => ?_⟩) ⟨c0, d3⟩ ?_
          rotate_left
          · go_simp
            try with_reducible rfl
          show wpAnyH _ _ _ _ _ _ _ (Act.put _ (some 61) _) _
          simp only [Act.put, List.setIfInBounds_toArray, List.set_cons_succ, List.set_cons_zero]
          refine wpAnyH_take (i := 8) (v := ?_) rfl (by kernel_rfl) (by kernel_rfl) (by kernel_rfl) (fun _ _ _ h => h) (Or.inl ⟨by kernel_rfl, fun w hS => ?_⟩) ⟨c0, d3⟩ ?_
          rotate_left
          · go_simp
            try with_reducible rfl
          show wpAnyH _ _ _ _ _ _ _ (Act.put _ (some 62) _) _
          simp only [Act.put, List.setIfInBounds_toArray, List.set_cons_succ, List.set_cons_zero]
          refine wpAnyH_take (i := 9) (v := ?_) rfl (by kernel_rfl) (by kernel_rfl) (by kernel_rfl) (fun _ _ _ h => h) (Or.inl ⟨by kernel_rfl, fun w hS => ?_⟩) ⟨c0, d3⟩ ?_
          rotate_left
          · go_simp
            try with_reducible rfl
          show wpAnyH _ _ _ _ _ _ _ (Act.put _ (some 63) _) _
          simp only [Act.put, List.setIfInBounds_toArray, List.set_cons_succ, List.set_cons_zero]
          refine wpAnyH_take (i := 10) (v := ?_) rfl (by kernel_rfl) (by kernel_rfl) (by kernel_rfl) (fun _ _ _ h => h) (Or.inl ⟨by kernel_rfl, fun w hS => ?_⟩) ⟨c0, d3⟩ ?_
          rotate_left
          · go_simp
            try with_reducible rfl
          show wpAnyH _ _ _ _ _ _ _ (Act.put _ (some 64) _) _
          simp only [Act.put, List.setIfInBounds_toArray, List.set_cons_succ, List.set_cons_zero]
          refine wpAnyH_take (i := 11) (v := ?_) rfl (by kernel_rfl) (by kernel_rfl) (by kernel_rfl) (fun _ _ _ h => h) (Or.inl ⟨by kernel_rfl, fun w hS => ?_⟩) ⟨c0, d3⟩ ?_
          rotate_left
          · go_simp
            try with_reducible rfl
          show wpAnyH _ _ _ _ _ _ _ (Act.put _ (some 65) _) _
          simp only [Act.put, List.setIfInBounds_toArray, List.set_cons_succ, List.set_cons_zero]
          refine wpAnyH_take (i := 12) (v := ?_) rfl (by kernel_rfl) (by kernel_rfl) (by kernel_rfl) (fun _ _ _ h => h) (Or.inl ⟨by kernel_rfl, fun w hS => ?_⟩) ⟨c0, d3⟩ ?_
          rotate_left
          · go_simp
            try with_reducible rfl
          show wpAnyH _ _ _ _ _ _ _ (Act.put _ (some 66) _) _
          simp only [Act.put, List.setIfInBounds_toArray, List.set_cons_succ, List.set_cons_zero]
          refine wpAnyH_take (i := 13) (v := ?_) rfl (by kernel_rfl) (by kernel_rfl) (by kernel_rfl) (fun _ _ _ h => h) (Or.inl ⟨by kernel_rfl, fun w hS => ?_⟩) ⟨c0, d3⟩ ?_
          rotate_left
          · go_simp
            try with_reducible rfl
          show wpAnyH _ _ _ _ _ _ _ (Act.put _ (some 67) _) _
          simp only [Act.put, List.setIfInBounds_toArray, List.set_cons_succ, List.set_cons_zero]
          refine wpAnyH_all (rs := [4]) (by kernel_rfl) (by simp) ?_
          intro i hi
          obtain rfl : i = 4 := by simpa using hi
          clear hi
          refine wpOp_step rfl (fun K hK => ?_)
          go_simp
          refine hK _ _ ⟨⟨c0, d3⟩, ?_⟩
          clear hK K
          refine wpAnyH_all (rs := [14]) (by kernel_rfl) (by simp) ?_
          intro i hi
          obtain rfl : i = 14 := by simpa using hi
          clear hi
          refine wpOp_step rfl (fun K hK => ?_)
          go_simp
          refine hrep.mono ?_
          rintro e w2 ⟨v, rfl, k2, f2⟩
          have k2' := ownk_base (B' := B) (Nat.le_trans (Nat.le_of_lt (Nat.lt_of_le_of_lt HIs.out.hi HIs.out.row.lt)) (Nat.le_refl _)) k2
          have fW : Fr none' wr w2 := ((Fr.refl none' wr).drew).trans f2
          have c0' := cell_keep fW c0 (fun h => h)
          have d3' := cell_keep fW d3 (fun h => h)
          have c1' := cell_keep fW c1 (fun h => h)
          have d4' := cell_keep fW d4 (fun h => h)
          have z1 := (RR.out.keep fW (fun h => h)).frozen 1
          obtain ⟨va, vcap, rfl, _⟩ := k2.cells
          refine hK _ _ ⟨⟨c0', d3'⟩, ?_⟩
          clear hK K hrep c0 d3 c1 d4
          refine wpAnyH_take (i := 15) (v := ?_) rfl (by kernel_rfl) (by kernel_rfl) (by kernel_rfl) (fun _ _ _ h => h) (Or.inl ⟨by kernel_rfl, fun w hS => ?_⟩) ⟨c0', d3'⟩ ?_
          rotate_left
          · go_simp
            try with_reducible rfl
          show wpAnyH _ _ _ _ _ _ _ (Act.put _ (some 69) _) _
          simp only [Act.put, List.setIfInBounds_toArray, List.set_cons_succ, List.set_cons_zero]
          refine wpAnyH_take (i := 16) (v := ?_) rfl (by kernel_rfl) (by kernel_rfl) (by kernel_rfl) (fun _ _ _ h => h) (Or.inl ⟨by kernel_rfl, fun w hS => ?_⟩) ⟨c0', d3'⟩ ?_
          rotate_left
          · go_simp
            try with_reducible rfl
          show wpAnyH _ _ _ _ _ _ _ (Act.put _ (some 70) _) _
          simp only [Act.put, List.setIfInBounds_toArray, List.set_cons_succ, List.set_cons_zero]
          obtain ⟨X, hX⟩ : ∃ X, X = w2.setCell ⟨r, 1, none⟩ (.slice va (replR k o.ks ro).length vcap) := ⟨_, rfl⟩
          obtain ⟨hI3, hF3⟩ := HIs.out.roots ((Fr.refl none' wr)) fW (fun _ h => h.elim) k2' hX
          have fX : Fr (at' r) w2 X := by rw [hX]; exact fr_set w2 r 1 _ (Fr.refl _ _)
          have cX0 : X.cell? ⟨r, 0, none⟩ = some (.slice (some ⟨g9, 0, none⟩) N cap1) := by have := hI3.c0; rw [show (⟨q.v, q.K, _⟩ : Qr).v = q.v from rfl, HG.out.1, ← HN.out.1] at this; exact this
          have dX3 := cell_keep fX d3' (fun e => hgr e)
          have dX4 := cell_keep fX d4' (fun e => hgr e)
          have hvX : (⟨q.v, q.K, .slice va (replR k o.ks ro).length vcap⟩ : Qr).v = .slice (some ⟨g9, 0, none⟩) (rremM L k).length cap1 := HVM.out
          have zX := hI3.frozen hvX (by rw [hMl]; omega) (k * 5 + 4)
          have hI4 := hI3.setG hvX HOM.out
          have HD : Hid (ChgR w B r (X.setCell ⟨g9, k * 5 + 4, none⟩ (.bool true)) (rremL L a) (rremR L ro a)) := by
            refine ⟨?_⟩
            simp only [rremL, rremR, hfa]
            rw [if_pos (by rw [hU, ← HN.out.2.2]; exact hu0), if_pos (by rw [hU, ← HN.out.2.2]; exact hu0), hKs]
            refine ⟨_, hI4, refB_trans HR2.out (refB_trans (hF3.mono (fun k _ e => ?_)) ((fr_set X g9 (k * 5 + 4) (.bool true) (Fr.refl _ _)).mono (fun k _ e => ?_)))⟩
            · have e' : k = r := e
              rw [e']
              exact HIs.out.kinds r (Or.inl rfl)
            · have e' : k = g9 := e
              rw [e']
              exact hI3.kinds g9 (Or.inr (Or.inl (by rw [hvX]; rfl)))
          have cX0' := cX0
          have dX3' := dX3
          rw [hX] at cX0' dX3'
          clear k2 k2' f2 fW hI3 hF3 hI4 fX RR RG HIs HR2 HVM HK2 hvX
          generalize (replR k o.ks ro).length = Q9 at *
          refine wpAnyH_all (rs := [17]) (by kernel_rfl) (by simp) ?_
          intro i hi
          obtain rfl : i = 17 := by simpa using hi
          clear hi
          refine wpOp_step rfl (fun K hK => ?_)
          go_simp
          refine hK _ _ ⟨⟨cX0', dX3'⟩, ?_⟩
          clear hK K
          refine wpAnyH_done (by kernel_rfl) ?_ _
          rw [← hX]
          clear hX c0' d3' c1' d4' z1 cX0' dX3'
          go_wp2
          go_ret
          exact ⟨by simp [rremE, hfa], HD.out⟩
        · obtain ⟨p, rfl⟩ : ∃ p : Nat, u = (p : Int) := ⟨u.toNat, by omega⟩
          have du : decide ((p : Int) < 0) = false := decide_eq_false (by omega)
          obtain ⟨pM, hpM⟩ : ∃ pM, (rremM L k)[p]? = some pM := ⟨_, List.getElem?_eq_getElem (by rw [hMl]; omega)⟩
          obtain ⟨g9, e9, p0, p1, p2, dp, p4⟩ := hn1 p pM hpM
          clear p0 p1 p2 p4
          obtain rfl : g9 = g1 := by rw [e1] at e9; simp at e9; exact e9.symm
          have hkP := hIs.kd p pM hpM
          obtain ⟨pa, pcap, hKp, _⟩ := hkP.cells
          have hpl : pM.ks.length ≤ 1000 := by
            obtain ⟨oP, hoP⟩ : ∃ oP, L[p]? = some oP := ⟨_, List.getElem?_eq_getElem (by rw [← HN.out.1]; omega)⟩
            have e5 : (rremM L k)[p]? = some _ := ups_at (upAt L k) (l := ksAt L k) hoP
            rw [hpM] at e5
            have e6 : pM.ks = oP.ks := by
              have := Option.some.inj e5
              rw [this]
              split <;> rfl
            rw [e6]
            exact hok.pk k o oP hfa HO.out (by rw [← HN.out.2.2]; omega) (by rw [← HN.out.2.2]; simpa using hoP)
          have hrep := replaced_any wr.drew B B (q.K p) (q.K k) pM.ks o.ks k (hkP.keep0 ((Fr.refl none' wr).drew)) (hKsW.keep0 ((Fr.refl none' wr).drew)) hpl (by rw [← HN.out.2.1]; exact hm1000)
          rw [hKp, HG.out.2, ← HN.out.2.1] at hrep
          rw [hKp] at dp
          have i4 : 0 ≤ (p : Int) ∧ (p : Int) < (N : Int) := by omega
          obtain ⟨csg, rg⟩ : ∃ cs, Row wr g9 cs 64 := by
            obtain ⟨g', c', cu', e3, _, e4, _⟩ := hIs.own.row (by rw [hMl]; omega)
            rw [hvM] at e3
            simp at e3
            exact ⟨cu', by rw [e3.1]; exact e4⟩
          have RG : Hid _ := ⟨rg⟩
          have HPM : Hid _ := ⟨hpM⟩
          clear hIs hn1 hvM hKsW hR HX e1 rg e9 hpM hkP hKp hpl c1
          go_wp2_with fail
          refine wp_region_held (S := (fun w' => w'.cell? ⟨r, 0, none⟩ = some (.slice (some ⟨g9, 0, none⟩) N cap1))) (by kernel_rfl) ?_
          change wpAnyH _ _ _ _ _ _ _ _ (World.drew _)
          refine wpAnyH_take (i := 0) (v := ?_) rfl (by kernel_rfl) (by kernel_rfl) (by kernel_rfl) (fun _ _ _ h => h) (Or.inl ⟨by kernel_rfl, fun w hS => ?_⟩) c0 ?_
          rotate_left
          · go_simp
            try with_reducible rfl
          show wpAnyH _ _ _ _ _ _ _ (Act.put _ (some 71) _) _
          simp only [Act.put, List.setIfInBounds_toArray, List.set_cons_succ, List.set_cons_zero]
          refine wpAnyH_take (i := 1) (v := ?_) rfl (by kernel_rfl) (by kernel_rfl) (by kernel_rfl) (fun _ _ _ h => h) (Or.inl ⟨by kernel_rfl, fun w hS => ?_⟩) c0 ?_
          rotate_left
          · go_simp
            try with_reducible rfl
          show wpAnyH _ _ _ _ _ _ _ (Act.put _ (some 72) _) _
          simp only [Act.put, List.setIfInBounds_toArray, List.set_cons_succ, List.set_cons_zero]
          refine wpAnyH_take (i := 2) (v := ?_) rfl (by kernel_rfl) (by kernel_rfl) (by kernel_rfl) (fun _ _ _ h => h) (Or.inl ⟨by kernel_rfl, fun w hS => ?_⟩) c0 ?_
          rotate_left
          · go_simp
            try with_reducible rfl
          show wpAnyH _ _ _ _ _ _ _ (Act.put _ (some 73) _) _
          simp only [Act.put, List.setIfInBounds_toArray, List.set_cons_succ, List.set_cons_zero]
          refine wpAnyH_take (i := 3) (v := ?_) rfl (by kernel_rfl) (by kernel_rfl) (by kernel_rfl) (fun _ _ _ h => h) (Or.inl ⟨by kernel_rfl, fun w hS => ?_⟩) c0 ?_
          rotate_left
          · go_simp
            try with_reducible rfl
          show wpAnyH _ _ _ _ _ _ _ (Act.put _ (some 74) _) _
          simp only [Act.put, List.setIfInBounds_toArray, List.set_cons_succ, List.set_cons_zero]
          refine wpAnyH_take (i := 4) (v := ?_) rfl (by kernel_rfl) (by kernel_rfl) (by kernel_rfl) (fun _ _ _ h => h) (Or.inl ⟨by kernel_rfl, fun w hS => ?_⟩) c0 ?_
          rotate_left
          · go_simp
            try with_reducible rfl
          show wpAnyH _ _ _ _ _ _ _ (Act.put _ (some 75) _) _
          simp only [Act.put, List.setIfInBounds_toArray, List.set_cons_succ, List.set_cons_zero]
          refine wpAnyH_take (i := 5) (v := ?_) rfl (by kernel_rfl) (by kernel_rfl) (by kernel_rfl) (fun _ _ _ h => h) (Or.inl ⟨by kernel_rfl, fun w hS => ?_⟩) c0 ?_
          rotate_left
          · go_simp
            try with_reducible rfl
          show wpAnyH _ _ _ _ _ _ _ (Act.put _ (some 76) _) _
          simp only [Act.put, List.setIfInBounds_toArray, List.set_cons_succ, List.set_cons_zero]
          refine wpAnyH_take (i := 6) (v := ?_) rfl (by kernel_rfl) (by kernel_rfl) (by kernel_rfl) (fun _ _ _ h => h) (Or.inl ⟨by kernel_rfl, fun w hS => ?_⟩) c0 ?_
          rotate_left
          · go_simp
            try with_reducible rfl
          show wpAnyH _ _ _ _ _ _ _ (Act.put _ (some 77) _) _
          simp only [Act.put, List.setIfInBounds_toArray, List.set_cons_succ, List.set_cons_zero]
          refine wpAnyH_take (i := 7) (v := ?_) rfl (by kernel_rfl) (by kernel_rfl) (by kernel_rfl) (fun _ _ _ h => h) (Or.inl ⟨by kernel_rfl, fun w hS => ?_⟩) c0 ?_
          rotate_left
          · go_simp
            try with_reducible rfl
          show wpAnyH _ _ _ _ _ _ _ (Act.put _ (some 78) _) _
          simp only [Act.put, List.setIfInBounds_toArray, List.set_cons_succ, List.set_cons_zero]
          refine wpAnyH_take (i := 8) (v := ?_) rfl (by kernel_rfl) (by kernel_rfl) (by kernel_rfl) (fun _ _ _ h => h) (Or.inl ⟨by kernel_rfl, fun w hS => ?_⟩) c0 ?_
          rotate_left
          · go_simp
            try with_reducible rfl
          show wpAnyH _ _ _ _ _ _ _ (Act.put _ (some 79) _) _
          simp only [Act.put, List.setIfInBounds_toArray, List.set_cons_succ, List.set_cons_zero]
          refine wpAnyH_take (i := 9) (v := ?_) rfl (by kernel_rfl) (by kernel_rfl) (by kernel_rfl) (fun _ _ _ h => h) (Or.inl ⟨by kernel_rfl, fun w hS => ?_⟩) c0 ?_
          rotate_left
          · go_simp
            try with_reducible rfl
          show wpAnyH _ _ _ _ _ _ _ (Act.put _ (some 80) _) _
          simp only [Act.put, List.setIfInBounds_toArray, List.set_cons_succ, List.set_cons_zero]
          refine wpAnyH_take (i := 10) (v := ?_) rfl (by kernel_rfl) (by kernel_rfl) (by kernel_rfl) (fun _ _ _ h => h) (Or.inl ⟨by kernel_rfl, fun w hS => ?_⟩) c0 ?_
          rotate_left
          · go_simp
            try with_reducible rfl
          show wpAnyH _ _ _ _ _ _ _ (Act.put _ (some 81) _) _
          simp only [Act.put, List.setIfInBounds_toArray, List.set_cons_succ, List.set_cons_zero]
          refine wpAnyH_take (i := 11) (v := ?_) rfl (by kernel_rfl) (by kernel_rfl) (by kernel_rfl) (fun _ _ _ h => h) (Or.inl ⟨by kernel_rfl, fun w hS => ?_⟩) c0 ?_
          rotate_left
          · go_simp
            try with_reducible rfl
          show wpAnyH _ _ _ _ _ _ _ (Act.put _ (some 82) _) _
          simp only [Act.put, List.setIfInBounds_toArray, List.set_cons_succ, List.set_cons_zero]
          refine wpAnyH_take (i := 13) (v := ?_) rfl (by kernel_rfl) (by kernel_rfl) (by kernel_rfl) (fun _ _ _ h => h) (Or.inl ⟨by kernel_rfl, fun w hS => ?_⟩) c0 ?_
          rotate_left
          · go_simp
            try with_reducible rfl
          show wpAnyH _ _ _ _ _ _ _ (Act.put _ (some 84) _) _
          simp only [Act.put, List.setIfInBounds_toArray, List.set_cons_succ, List.set_cons_zero]
          refine wpAnyH_take (i := 14) (v := ?_) rfl (by kernel_rfl) (by kernel_rfl) (by kernel_rfl) (fun _ _ _ h => h) (Or.inl ⟨by kernel_rfl, fun w hS => ?_⟩) c0 ?_
          rotate_left
          · go_simp
            try with_reducible rfl
          show wpAnyH _ _ _ _ _ _ _ (Act.put _ (some 85) _) _
          simp only [Act.put, List.setIfInBounds_toArray, List.set_cons_succ, List.set_cons_zero]
          refine wpAnyH_take (i := 15) (v := ?_) rfl (by kernel_rfl) (by kernel_rfl) (by kernel_rfl) (fun _ _ _ h => h) (Or.inl ⟨by kernel_rfl, fun w hS => ?_⟩) c0 ?_
          rotate_left
          · go_simp
            try with_reducible rfl
          show wpAnyH _ _ _ _ _ _ _ (Act.put _ (some 86) _) _
          simp only [Act.put, List.setIfInBounds_toArray, List.set_cons_succ, List.set_cons_zero]
          refine wpAnyH_take (i := 16) (v := ?_) rfl (by kernel_rfl) (by kernel_rfl) (by kernel_rfl) (fun _ _ _ h => h) (Or.inl ⟨by kernel_rfl, fun w hS => ?_⟩) c0 ?_
          rotate_left
          · go_simp
            try with_reducible rfl
          show wpAnyH _ _ _ _ _ _ _ (Act.put _ (some 87) _) _
          simp only [Act.put, List.setIfInBounds_toArray, List.set_cons_succ, List.set_cons_zero]
          refine wpAnyH_take (i := 17) (v := ?_) rfl (by kernel_rfl) (by kernel_rfl) (by kernel_rfl) (fun _ _ _ h => h) (Or.inl ⟨by kernel_rfl, fun w hS => ?_⟩) c0 ?_
          rotate_left
          · go_simp
            try with_reducible rfl
          show wpAnyH _ _ _ _ _ _ _ (Act.put _ (some 88) _) _
          simp only [Act.put, List.setIfInBounds_toArray, List.set_cons_succ, List.set_cons_zero]
          refine wpAnyH_take (i := 18) (v := ?_) rfl (by kernel_rfl) (by kernel_rfl) (by kernel_rfl) (fun _ _ _ h => h) (Or.inl ⟨by kernel_rfl, fun w hS => ?_⟩) c0 ?_
          rotate_left
          · go_simp
            try with_reducible rfl
          show wpAnyH _ _ _ _ _ _ _ (Act.put _ (some 89) _) _
          simp only [Act.put, List.setIfInBounds_toArray, List.set_cons_succ, List.set_cons_zero]
          refine wpAnyH_take (i := 19) (v := ?_) rfl (by kernel_rfl) (by kernel_rfl) (by kernel_rfl) (fun _ _ _ h => h) (Or.inl ⟨by kernel_rfl, fun w hS => ?_⟩) c0 ?_
          rotate_left
          · go_simp
            try with_reducible rfl
          show wpAnyH _ _ _ _ _ _ _ (Act.put _ (some 90) _) _
          simp only [Act.put, List.setIfInBounds_toArray, List.set_cons_succ, List.set_cons_zero]
          refine wpAnyH_take (i := 20) (v := ?_) rfl (by kernel_rfl) (by kernel_rfl) (by kernel_rfl) (fun _ _ _ h => h) (Or.inl ⟨by kernel_rfl, fun w hS => ?_⟩) c0 ?_
          rotate_left
          · go_simp
            try with_reducible rfl
          show wpAnyH _ _ _ _ _ _ _ (Act.put _ (some 91) _) _
          simp only [Act.put, List.setIfInBounds_toArray, List.set_cons_succ, List.set_cons_zero]
          refine wpAnyH_all (rs := [12, 21]) (by kernel_rfl) (by simp) ?_
          intro i hi
          have hi' : i = 12 ∨ i = 21 := by simpa using hi
          clear hi
          rcases hi' with rfl | rfl
          · refine wpOp_step rfl (fun K hK => ?_)
            go_simp
            refine hK _ _ ⟨c0, ?_⟩
            clear hK K
            refine wpAnyH_all (rs := [21]) (by kernel_rfl) (by simp) ?_
            intro i hi
            obtain rfl : i = 21 := by simpa using hi
            clear hi
            refine wpOp_step rfl (fun K hK => ?_)
            go_simp
            refine hK _ _ ⟨c0, ?_⟩
            clear hK K
            refine wpAnyH_all (rs := [22]) (by kernel_rfl) (by simp) ?_
            intro i hi
            obtain rfl : i = 22 := by simpa using hi
            clear hi
            refine wpOp_step rfl (fun K hK => ?_)
            go_simp
            refine hrep.mono ?_
            rintro e w2 ⟨v, rfl, k2, f2⟩
            have k2' := ownk_base (B' := B) (Nat.le_trans (Nat.le_of_lt (Nat.lt_of_le_of_lt HIs.out.hi HIs.out.row.lt)) (Nat.le_refl _)) k2
            have fW : Fr none' wr w2 := ((Fr.refl none' wr).drew).trans f2
            have c0' := cell_keep fW c0 (fun h => h)
            have dp' := cell_keep fW dp (fun h => h)
            have zp := (RG.out.keep fW (fun h => h)).frozen (p * 5 + 3)
            obtain ⟨va, vcap, rfl, _⟩ := k2.cells
            refine hK _ _ ⟨c0', ?_⟩
            clear hK K hrep c0 d3 dp
            refine wpAnyH_take (i := 23) (v := ?_) rfl (by kernel_rfl) (by kernel_rfl) (by kernel_rfl) (fun _ _ _ h => h) (Or.inl ⟨by kernel_rfl, fun w hS => ?_⟩) c0' ?_
            rotate_left
            · go_simp
              try with_reducible rfl
            show wpAnyH _ _ _ _ _ _ _ (Act.put _ (some 94) _) _
            simp only [Act.put, List.setIfInBounds_toArray, List.set_cons_succ, List.set_cons_zero]
            refine wpAnyH_take (i := 24) (v := ?_) rfl (by kernel_rfl) (by kernel_rfl) (by kernel_rfl) (fun _ _ _ h => h) (Or.inl ⟨by kernel_rfl, fun w hS => ?_⟩) c0' ?_
            rotate_left
            · go_simp
              try with_reducible rfl
            show wpAnyH _ _ _ _ _ _ _ (Act.put _ (some 95) _) _
            simp only [Act.put, List.setIfInBounds_toArray, List.set_cons_succ, List.set_cons_zero]
            obtain ⟨X, hX⟩ : ∃ X, X = w2.setCell ⟨g9, p * 5 + 3, none⟩ (.slice va (replR k o.ks pM.ks).length vcap) := ⟨_, rfl⟩
            obtain ⟨hI3, hF3⟩ := HIs.out.kids fW HVM.out HPM.out k2' hX
            have cX0 : X.cell? ⟨r, 0, none⟩ = some (.slice (some ⟨g9, 0, none⟩) N cap1) := by have := hI3.c0; rw [show (⟨q.v, updV q.K p _, q.u⟩ : Qr).v = q.v from rfl, HG.out.1, ← HN.out.1] at this; exact this
            have hlK : (setK (rremM L k) p (replR k o.ks pM.ks)).length = (rremM L k).length := setK_len _ _ _
            have hvX : (⟨q.v, updV q.K p (.slice va (replR k o.ks pM.ks).length vcap), q.u⟩ : Qr).v = .slice (some ⟨g9, 0, none⟩) (setK (rremM L k) p (replR k o.ks pM.ks)).length cap1 := by rw [hlK]; exact HVM.out
            have zX := hI3.frozen hvX (by rw [hlK, hMl]; omega) (k * 5 + 4)
            obtain ⟨oK, hoK⟩ : ∃ oK, (setK (rremM L k) p (replR k o.ks pM.ks))[k]? = some oK := ⟨_, List.getElem?_eq_getElem (by rw [hlK, hMl]; omega)⟩
            obtain ⟨a5, cap5, hv5, hn5⟩ := hI3.form
            obtain ⟨g5, e5, p0, p1, p2, p3, d5⟩ := hn5 k oK hoK
            clear p0 p1 p2 p3
            obtain rfl : g5 = g9 := by
              rw [hvX, e5] at hv5
              simp at hv5
              exact hv5.1.symm
            have hI4 := hI3.setG hvX hoK
            have HD : Hid (ChgR w B r (X.setCell ⟨g5, k * 5 + 4, none⟩ (.bool true)) (rremL L a) (rremR L ro a)) := by
              refine ⟨?_⟩
              simp only [rremL, rremR, hfa]
              have hpu : (upAt L k).toNat = p := by rw [hU, ← HN.out.2.2]; simp
              have hkp : ksAt (rremM L k) p = pM.ks := by unfold ksAt; rw [HPM.out]
              rw [if_neg (by rw [hU, ← HN.out.2.2]; omega), if_neg (by rw [hU, ← HN.out.2.2]; omega), hKs, hpu, hkp]
              refine ⟨_, hI4, refB_trans HR2.out (refB_trans (hF3.mono (fun k _ e => ?_)) ((fr_set X g5 (k * 5 + 4) (.bool true) (Fr.refl _ _)).mono (fun k _ e => ?_)))⟩
              · have e' : k = g5 := e
                rw [e']
                exact HIs.out.kinds g5 (Or.inr (Or.inl (by rw [HVM.out]; rfl)))
              · have e' : k = g5 := e
                rw [e']
                exact hI3.kinds g5 (Or.inr (Or.inl (by rw [hvX]; rfl)))
            have cX0' := cX0
            rw [hX] at cX0'
            clear k2 k2' f2 fW hI3 hF3 hI4 RG HIs HR2 HVM HK2 hvX hlK hoK hn5 hv5 e5 HPM
            generalize (replR k o.ks pM.ks).length = Q9 at *
            refine wpAnyH_all (rs := [25]) (by kernel_rfl) (by simp) ?_
            intro i hi
            obtain rfl : i = 25 := by simpa using hi
            clear hi
            refine wpOp_step rfl (fun K hK => ?_)
            go_simp
            refine hK _ _ ⟨cX0', ?_⟩
            clear hK K
            refine wpAnyH_done (by kernel_rfl) ?_ _
            rw [← hX]
            clear hX c0' dp' zp cX0'
            go_wp2
            go_ret
            exact ⟨by simp [rremE, hfa], HD.out⟩
          · refine wpOp_step rfl (fun K hK => ?_)
            go_simp
            refine hK _ _ ⟨c0, ?_⟩
            clear hK K
            refine wpAnyH_all (rs := [12]) (by kernel_rfl) (by simp) ?_
            intro i hi
            obtain rfl : i = 12 := by simpa using hi
            clear hi
            refine wpOp_step rfl (fun K hK => ?_)
            go_simp
            refine hK _ _ ⟨c0, ?_⟩
            clear hK K
            refine wpAnyH_all (rs := [22]) (by kernel_rfl) (by simp) ?_
            intro i hi
            obtain rfl : i = 22 := by simpa using hi
            clear hi
            refine wpOp_step rfl (fun K hK => ?_)
            go_simp
            refine hrep.mono ?_
            rintro e w2 ⟨v, rfl, k2, f2⟩
            have k2' := ownk_base (B' := B) (Nat.le_trans (Nat.le_of_lt (Nat.lt_of_le_of_lt HIs.out.hi HIs.out.row.lt)) (Nat.le_refl _)) k2
            have fW : Fr none' wr w2 := ((Fr.refl none' wr).drew).trans f2
            have c0' := cell_keep fW c0 (fun h => h)
            have dp' := cell_keep fW dp (fun h => h)
            have zp := (RG.out.keep fW (fun h => h)).frozen (p * 5 + 3)
            obtain ⟨va, vcap, rfl, _⟩ := k2.cells
            refine hK _ _ ⟨c0', ?_⟩
            clear hK K hrep c0 d3 dp
            refine wpAnyH_take (i := 23) (v := ?_) rfl (by kernel_rfl) (by kernel_rfl) (by kernel_rfl) (fun _ _ _ h => h) (Or.inl ⟨by kernel_rfl, fun w hS => ?_⟩) c0' ?_
            rotate_left
            · go_simp
              try with_reducible rfl
            show wpAnyH _ _ _ _ _ _ _ (Act.put _ (some 94) _) _
            simp only [Act.put, List.setIfInBounds_toArray, List.set_cons_succ, List.set_cons_zero]
            refine wpAnyH_take (i := 24) (v := ?_) rfl (by kernel_rfl) (by kernel_rfl) (by kernel_rfl) (fun _ _ _ h => h) (Or.inl ⟨by kernel_rfl, fun w hS => ?_⟩) c0' ?_
            rotate_left
            · go_simp
              try with_reducible rfl
            show wpAnyH _ _ _ _ _ _ _ (Act.put _ (some 95) _) _
            simp only [Act.put, List.setIfInBounds_toArray, List.set_cons_succ, List.set_cons_zero]
            obtain ⟨X, hX⟩ : ∃ X, X = w2.setCell ⟨g9, p * 5 + 3, none⟩ (.slice va (replR k o.ks pM.ks).length vcap) := ⟨_, rfl⟩
            obtain ⟨hI3, hF3⟩ := HIs.out.kids fW HVM.out HPM.out k2' hX
            have cX0 : X.cell? ⟨r, 0, none⟩ = some (.slice (some ⟨g9, 0, none⟩) N cap1) := by have := hI3.c0; rw [show (⟨q.v, updV q.K p _, q.u⟩ : Qr).v = q.v from rfl, HG.out.1, ← HN.out.1] at this; exact this
            have hlK : (setK (rremM L k) p (replR k o.ks pM.ks)).length = (rremM L k).length := setK_len _ _ _
            have hvX : (⟨q.v, updV q.K p (.slice va (replR k o.ks pM.ks).length vcap), q.u⟩ : Qr).v = .slice (some ⟨g9, 0, none⟩) (setK (rremM L k) p (replR k o.ks pM.ks)).length cap1 := by rw [hlK]; exact HVM.out
            have zX := hI3.frozen hvX (by rw [hlK, hMl]; omega) (k * 5 + 4)
            obtain ⟨oK, hoK⟩ : ∃ oK, (setK (rremM L k) p (replR k o.ks pM.ks))[k]? = some oK := ⟨_, List.getElem?_eq_getElem (by rw [hlK, hMl]; omega)⟩
            obtain ⟨a5, cap5, hv5, hn5⟩ := hI3.form
            obtain ⟨g5, e5, p0, p1, p2, p3, d5⟩ := hn5 k oK hoK
            clear p0 p1 p2 p3
            obtain rfl : g5 = g9 := by
              rw [hvX, e5] at hv5
              simp at hv5
              exact hv5.1.symm
            have hI4 := hI3.setG hvX hoK
            have HD : Hid (ChgR w B r (X.setCell ⟨g5, k * 5 + 4, none⟩ (.bool true)) (rremL L a) (rremR L ro a)) := by
              refine ⟨?_⟩
              simp only [rremL, rremR, hfa]
              have hpu : (upAt L k).toNat = p := by rw [hU, ← HN.out.2.2]; simp
              have hkp : ksAt (rremM L k) p = pM.ks := by unfold ksAt; rw [HPM.out]
              rw [if_neg (by rw [hU, ← HN.out.2.2]; omega), if_neg (by rw [hU, ← HN.out.2.2]; omega), hKs, hpu, hkp]
              refine ⟨_, hI4, refB_trans HR2.out (refB_trans (hF3.mono (fun k _ e => ?_)) ((fr_set X g5 (k * 5 + 4) (.bool true) (Fr.refl _ _)).mono (fun k _ e => ?_)))⟩
              · have e' : k = g5 := e
                rw [e']
                exact HIs.out.kinds g5 (Or.inr (Or.inl (by rw [HVM.out]; rfl)))
              · have e' : k = g5 := e
                rw [e']
                exact hI3.kinds g5 (Or.inr (Or.inl (by rw [hvX]; rfl)))
            have cX0' := cX0
            rw [hX] at cX0'
            clear k2 k2' f2 fW hI3 hF3 hI4 RG HIs HR2 HVM HK2 hvX hlK hoK hn5 hv5 e5 HPM
            generalize (replR k o.ks pM.ks).length = Q9 at *
            refine wpAnyH_all (rs := [25]) (by kernel_rfl) (by simp) ?_
            intro i hi
            obtain rfl : i = 25 := by simpa using hi
            clear hi
            refine wpOp_step rfl (fun K hK => ?_)
            go_simp
            refine hK _ _ ⟨cX0', ?_⟩
            clear hK K
            refine wpAnyH_done (by kernel_rfl) ?_ _
            rw [← hX]
            clear hX c0' dp' zp cX0'
            go_wp2
            go_ret
            exact ⟨by simp [rremE, hfa], HD.out⟩

end Go.Proofs.Ytjopmhidldemmaa
