/-
  The contract of the document's find (package viceroyref10) over the translation. No statement is proved here.
-/
import Derived.Test.YthmombgogmgobaaIoRef
import Derived.Test.YthmombgogmgobaaWalkRefS
import Derived.Test.YthmombgogmgobaaRefMore
import Derived.Deep.RegionHeld3
namespace Go.Proofs.Ythmombgogmgobaa
open Go.RowKit

theorem okR_look (s p wt : Int) (o : Option Li) : okL s p wt o = (o.isSome && ((lkL o).s == s && ((lkL o).p == p && bits .and .i64 (lkL o).r wt != 0))) := by
  cases o <;> rfl
theorem cells5f {w : World} {b : Nat} {c0 c1 c2 c3 c4 : Value} {t : TypeId} (h : Row w b #[c0, c1, c2, c3, c4] t) : w.cell? ⟨b, 0, none⟩ = some c0 ∧ w.cell? ⟨b, 1, none⟩ = some c1 ∧ w.cell? ⟨b, 2, none⟩ = some c2 ∧ w.cell? ⟨b, 3, none⟩ = some c3 ∧ w.cell? ⟨b, 4, none⟩ = some c4 := ⟨h.cell 0, h.cell 1, h.cell 2, h.cell 3, h.cell 4⟩
theorem rea_of {bs : List UInt8} {nf : Nat} {S : Io} {s p wt K F : Int} (hK : fndK bs nf S s p wt = K) (hF : fndF bs nf S s p wt = F) : reaK bs nf S s p wt = (if K = 0 ∧ (nf : Int) ≤ F then 3 else K) ∧ reaF bs nf S s p wt = (if K = 0 ∧ (nf : Int) ≤ F then 0 else F) := by
  unfold reaK reaF
  rw [hK, hF]
  exact ⟨rfl, rfl⟩

set_option maxHeartbeats 4000000 in
set_option maxRecDepth 100000 in
theorem rfind_at (w : World) (j : Nat) (v : Value) (S : Io) (P bf nf : Nat) (bs : List UInt8) (s p : Nat) (wt : Int) (h : RiAt w j v S) (hR : IsRef w P bf nf bs) (d1 : P ≠ j) (d2 : bf ≠ j) (hs : s < 16) (hp : p < 1024) :
    Calls Try.prog 59 #[.pointer (some ⟨j, 0, none⟩), .pointer (some ⟨P, 0, none⟩), .int .i64 (s : Int), .int .i64 (p : Int), .int .i64 wt] w fun e w' =>
      e = .returned (.tuple #[.int .i64 (reaF bs nf S s p wt), .int .i64 (reaK bs nf S s p wt)]) ∧ Fr (at' j) w w' ∧ RiAt w' j v (fndS bs nf S s p wt) := by
  obtain ⟨q, hq⟩ : ∃ q, q = lkL (S.ln (p % 8)) := ⟨_, rfl⟩
  obtain ⟨on, hon⟩ : ∃ on, on = (S.ln (p % 8)).isSome := ⟨_, rfl⟩
  have ep : ((p : Int) % 8).toNat = p % 8 := by omega
  have hok := okR_look s p wt (S.ln (p % 8))
  rw [← hq, ← hon] at hok
  obtain ⟨k, hk⟩ : ∃ k, k = p % 8 := ⟨_, rfl⟩
  have hk8 : k < 8 := by omega
  have hkp : (p : Int) % 8 = (k : Int) := by omega
  have ik : 0 ≤ (k : Int) ∧ (k : Int) < 8 := by omega
  obtain ⟨c0, c1, c2, c3, c4⟩ := h.line k hk8
  rw [hk, ← hon] at c0
  rw [hk, ← hq] at c1 c2 c3 c4
  rw [← hk] at c0 c1 c2 c3 c4 hok ep
  have HQ : Hid (q = lkL (S.ln k) ∧ on = (S.ln k).isSome ∧ okL s p wt (S.ln k) = (on && (q.s == (s : Int) && (q.p == (p : Int) && bits .and .i64 q.r wt != 0))) ∧ k = p % 8) := ⟨by rw [hk]; exact hq, by rw [hk]; exact hon, hok, hk⟩
  have F1 := (Fr.refl none' w).alloc (.cells #[.bool on, .int .i64 q.s, .int .i64 q.p, .int .i64 q.f, .int .i64 q.r] 77)
  have R1 := row_alloc w #[.bool on, .int .i64 q.s, .int .i64 q.p, .int .i64 q.f, .int .i64 q.r] 77
  have h1 := h.keep0 F1
  have r1 := hR.keep F1 (fun h => h) (fun h => h)
  have hjl := h.lt j (Or.inl rfl)
  clear hq hon hok hk
  go_enter Try.func59, Try.ntmps59
  go_upto_region 2 with fail
  obtain ⟨W, hW⟩ : ∃ W, W = w.alloc (.cells #[.bool on, .int .i64 q.s, .int .i64 q.p, .int .i64 q.f, .int .i64 q.r] 77) := ⟨_, rfl⟩
  obtain ⟨G, hG⟩ : ∃ G, G = w.heap.size := ⟨_, rfl⟩
  rw [← hW] at F1 R1 h1 r1 ⊢
  rw [← hG] at R1 ⊢
  have hGj : G ≠ j := by omega
  have hGP : P < G ∧ bf < G := by have a := hR.head.lt; have b := hR.row.lt; omega
  have HG : Hid (G = w.heap.size ∧ Fr none' w W ∧ RiAt W j v S ∧ P < G ∧ bf < G ∧ ∀ k, riO j v k → k < G) := ⟨hG, F1, h1, hGP.1, hGP.2, fun k hk => by rw [hG]; exact h.lt k hk⟩
  clear hW hG h hR c0 c1 c2 c3 c4 hjl hGP F1
  obtain ⟨e0, e1, e2, e3, e4⟩ := cells5f R1
  cases hc : okL s p wt (S.ln k) with
  | true =>
    have hcc := HQ.out.2.2.1
    rw [hc] at hcc
    have hcc' := hcc.symm
    simp only [Bool.and_eq_true] at hcc'
    obtain ⟨t1, t2, t3, t4⟩ := hcc'
    have t5 : (bits .and .i64 q.r wt == 0) = false := by simpa using t4
    have t2' : (q.s != (s : Int)) = false := by simpa using t2
    have t3' : (q.p != (p : Int)) = false := by simpa using t3
    have eK : fndK bs nf S s p wt = 0 := by unfold fndK; rw [ep, hc]; rfl
    have eF : fndF bs nf S s p wt = q.f := by
      unfold fndF
      rw [ep, hc, HQ.out.1]
      have := HQ.out.2.1
      cases hl : S.ln k with
      | none => rw [hl, t1] at this; cases this
      | some l => rfl
    have eS : fndS bs nf S s p wt = S := by unfold fndS; rw [ep, hc]; rfl
    have hre := rea_of eK eF
    have HES : Hid (fndS bs nf S s p wt = S) := eS
    clear hcc t4 t2 t3 eK eF eS ep hc
    subst t1
    have rW := r1
    have HT : Hid (Fr (at' j) w W ∧ RiAt W j v S) := ⟨HG.out.2.1.mono (fun _ _ h => h.elim), HG.out.2.2.1⟩
    clear r1 h1 R1
    by_cases hF : (nf : Int) ≤ q.f
    · have HRE : Hid (reaK bs nf S s p wt = 3 ∧ reaF bs nf S s p wt = 0 ∧ fndS bs nf S s p wt = S) := ⟨by rw [hre.1, if_pos ⟨rfl, hF⟩], by rw [hre.2, if_pos ⟨rfl, hF⟩], HES.out⟩
      clear hre
      have t9 : decide ((nf : Int) ≤ q.f) = true := decide_eq_true hF
      clear hF
      have hQ : ∀ n, Calls Try.prog 72 #[.pointer (some ⟨P, 0, none⟩)] (W.drewN n) fun e w' => e = .returned (.int .i64 (nf : Int)) ∧ w' = W.drewN n := fun n => (rframes_any _ _ _ _ _ (rW.keep (fr_drewN _ n) (fun h => h) (fun h => h))).mono (fun _ _ h => ⟨h.1, h.2.symm⟩)
      go_wp2_with fail
      go_quiet ((go_at_call 72; refine Calls.quiet_of_same (hQ _)))
      go_wp2_with fail
      go_ret2
      rw [HRE.out.1, HRE.out.2.1, HRE.out.2.2]
      exact ⟨rfl, HT.out.1.trans ((fr_drewN _ _).mono (fun _ _ h => h.elim)), HT.out.2.keep0 (fr_drewN _ _)⟩
    · have HRE : Hid (reaK bs nf S s p wt = 0 ∧ reaF bs nf S s p wt = q.f ∧ fndS bs nf S s p wt = S) := ⟨by rw [hre.1, if_neg (fun e => hF e.2)], by rw [hre.2, if_neg (fun e => hF e.2)], HES.out⟩
      clear hre
      have t9 : decide ((nf : Int) ≤ q.f) = false := decide_eq_false hF
      clear hF
      have hQ : ∀ n, Calls Try.prog 72 #[.pointer (some ⟨P, 0, none⟩)] (W.drewN n) fun e w' => e = .returned (.int .i64 (nf : Int)) ∧ w' = W.drewN n := fun n => (rframes_any _ _ _ _ _ (rW.keep (fr_drewN _ n) (fun h => h) (fun h => h))).mono (fun _ _ h => ⟨h.1, h.2.symm⟩)
      go_wp2_with fail
      go_quiet ((go_at_call 72; refine Calls.quiet_of_same (hQ _)))
      go_wp2_with fail
      go_ret2
      rw [HRE.out.1, HRE.out.2.1, HRE.out.2.2]
      exact ⟨rfl, HT.out.1.trans ((fr_drewN _ _).mono (fun _ _ h => h.elim)), HT.out.2.keep0 (fr_drewN _ _)⟩
  | false =>
    have hcc := HQ.out.2.2.1
    rw [hc] at hcc
    have HCC : Hid (false = (on && (q.s == (s : Int) && (q.p == (p : Int) && bits .and .i64 q.r wt != 0)))) := hcc
    clear hcc
    go_cut [44] from 23 to 44 (fun c wx => c = .bool true ∧ wx = W)
    case first =>
      cases t1 : on with
      | false => subst t1; go_wp2_with fail; go_meet; exact ⟨rfl, rfl⟩
      | true =>
      subst t1
      cases t2 : (q.s == (s : Int)) with
      | false =>
        have t2' : (q.s != (s : Int)) = true := by simpa using t2
        go_wp2_with fail; go_meet; exact ⟨rfl, rfl⟩
      | true =>
      have t2' : (q.s != (s : Int)) = false := by simpa using t2
      cases t3 : (q.p == (p : Int)) with
      | false =>
        have t3' : (q.p != (p : Int)) = true := by simpa using t3
        go_wp2_with fail; go_meet; exact ⟨rfl, rfl⟩
      | true =>
      have t3' : (q.p != (p : Int)) = false := by simpa using t3
      have t4 : (bits .and .i64 q.r wt == 0) = true := by have := HCC.out; rw [t2, t3] at this; simpa using this.symm
      go_wp2_with fail
      go_meet
      exact ⟨rfl, rfl⟩
    case rest =>
    obtain ⟨rfl, rfl⟩ := hcut
    have cr := h1.roots s hs
    have hro' := h1.ok.ro s
    have i1 : 0 ≤ (s : Int) ∧ (s : Int) < 16 := by omega
    have eK : fndK bs nf S s p wt = walkK bs nf (S.ro s) p wt := by unfold fndK; rw [ep, hc]; rfl
    have eF : fndF bs nf S s p wt = walkFr bs nf (S.ro s) p wt := by unfold fndF; rw [ep, hc]; rfl
    have eS : fndS bs nf S s p wt = if walkK bs nf (S.ro s) p wt = 0 then { S with ln := ioset S.ln k (some ⟨s, p, (single bs nf (S.ro s) p).fr, (single bs nf (S.ro s) p).ri⟩) } else S := by unfold fndS; rw [ep, hc]; rfl
    have HE : Hid (fndK bs nf S s p wt = walkK bs nf (S.ro s) p wt ∧ fndF bs nf S s p wt = walkFr bs nf (S.ro s) p wt ∧ fndS bs nf S s p wt = if walkK bs nf (S.ro s) p wt = 0 then { S with ln := ioset S.ln k (some ⟨s, p, (single bs nf (S.ro s) p).fr, (single bs nf (S.ro s) p).ri⟩) } else S) := ⟨eK, eF, eS⟩
    obtain ⟨ro, hro⟩ : ∃ ro, ro = S.ro s := ⟨_, rfl⟩
    rw [← hro] at cr hro' HE
    have hrb : -1 ≤ ro ∧ ro ≤ 1023 := by omega
    have HRO : Hid (ro = S.ro s) := hro
    clear eK eF eS HQ HCC hc ep hro hro'
    by_cases hr1 : ro = -1
    · have ek : walkK bs nf ro p wt = 1 := by unfold walkK; rw [if_pos hr1]
      have hre := rea_of HE.out.1 HE.out.2.1
      rw [walkFr, ek] at hre
      have HRE : Hid (reaK bs nf S s p wt = 1 ∧ reaF bs nf S s p wt = 0 ∧ fndS bs nf S s p wt = S) := ⟨hre.1, hre.2, by rw [HE.out.2.2, ek]; rfl⟩
      subst hr1
      clear ek hre r1 h1 e0 e1 e2 e3 e4 R1
      go_wp2_with fail
      go_ret2
      rw [HRE.out.1, HRE.out.2.1, HRE.out.2.2]
      exact ⟨rfl, HG.out.2.1.mono (fun _ _ h => h.elim), HG.out.2.2.1⟩
    · have tr : (ro + 1 == 0) = false := by simp; omega
      obtain ⟨X, hX⟩ : ∃ X, X = single bs nf ro p := ⟨_, rfl⟩
      have HX : Hid (X = single bs nf ro p ∧ ro ≠ -1) := ⟨hX, hr1⟩
      have hC := fun w' (hR : IsRef w' P bf nf bs) => rsingle_any w' P bf nf bs ro (p : Int) hR
      rw [← hX] at hC
      clear hr1 hX
      go_wp2_with fail
      refine (hC _ r1).mono ?_
      rintro e w2 ⟨rfl, f2⟩
      have f3 := f2.alloc (.cells #[.int .i64 X.ft.k, .int .i64 X.ft.s, .int .i64 X.ft.l, .bool X.ft.wk, .int .i64 X.ft.p] 43)
      have r3 := row_alloc w2 #[.int .i64 X.ft.k, .int .i64 X.ft.s, .int .i64 X.ft.l, .bool X.ft.wk, .int .i64 X.ft.p] 43
      have h3 := h1.keep0 f3
      have q3 := R1.keep f3 (fun h => h)
      have rr3 := r1.keep f3 (fun h => h) (fun h => h)
      have HF3 : Hid (Fr none' w (w2.alloc (.cells #[.int .i64 X.ft.k, .int .i64 X.ft.s, .int .i64 X.ft.l, .bool X.ft.wk, .int .i64 X.ft.p] 43)) ∧ RiAt (w2.alloc (.cells #[.int .i64 X.ft.k, .int .i64 X.ft.s, .int .i64 X.ft.l, .bool X.ft.wk, .int .i64 X.ft.p] 43)) j v S) := ⟨HG.out.2.1.trans f3, h3⟩
      clear f2 f3 h1 r1 cr tr e0 e1 e2 e3 e4 R1 hC
      by_cases hkk : X.ft.k = 0
      · have tk : (X.ft.k != 0) = false := by simp [hkk]
        by_cases hb : bits .and .i64 X.ri wt = 0
        · have tb : (bits .and .i64 X.ri wt == 0) = true := by simp [hb]
          have ek : walkK bs nf ro p wt = 2 := by
            unfold walkK
            rw [if_neg HX.out.2, ← HX.out.1, if_neg (by simp [hkk]), if_pos hb]
          have hre := rea_of HE.out.1 HE.out.2.1
          rw [walkFr, ek] at hre
          have HRE : Hid (reaK bs nf S s p wt = 2 ∧ reaF bs nf S s p wt = 0 ∧ fndS bs nf S s p wt = S) := ⟨hre.1, hre.2, by rw [HE.out.2.2, ek]; rfl⟩
          clear hkk hb ek h3 hre q3 rr3
          obtain ⟨g0, g1, g2, g3, g4⟩ := cells5 r3
          go_wp2_with fail
          go_ret2
          rw [HRE.out.1, HRE.out.2.1, HRE.out.2.2]
          exact ⟨rfl, HF3.out.1.mono (fun _ _ h => h.elim), HF3.out.2⟩
        · have tb : (bits .and .i64 X.ri wt == 0) = false := by simp [hb]
          have ek : walkK bs nf ro p wt = 0 := by
            unfold walkK
            rw [if_neg HX.out.2, ← HX.out.1, if_neg (by simp [hkk]), if_neg hb]
          have eff : walkFr bs nf ro p wt = X.fr := by unfold walkFr; rw [ek, if_pos rfl, ← HX.out.1]
          have hre := rea_of HE.out.1 HE.out.2.1
          rw [eff, ek] at hre
          have hes := HE.out.2.2
          rw [ek, if_pos rfl] at hes
          have hes' : fndS bs nf S s p wt = { S with ln := ioset S.ln k (some ⟨s, p, X.fr, X.ri⟩) } := by rw [hes, ← HX.out.1]
          have HES : Hid (fndS bs nf S s p wt = { S with ln := ioset S.ln k (some ⟨s, p, X.fr, X.ri⟩) }) := hes'
          clear hkk hb ek eff hes hes' HE
          obtain ⟨g0, g1, g2, g3, g4⟩ := cells5 r3
          obtain ⟨e0, e1, e2, e3, e4⟩ := cells5f q3
          have y0 := q3.frozen 0
          have y1 := q3.frozen 1
          have y2 := q3.frozen 2
          have y3 := q3.frozen 3
          have y4 := q3.frozen 4
          go_upto_region 11 with fail
          obtain ⟨W3, hW3⟩ : ∃ W3, W3 = put5 (w2.alloc (.cells #[.int .i64 X.ft.k, .int .i64 X.ft.s, .int .i64 X.ft.l, .bool X.ft.wk, .int .i64 X.ft.p] 43)) G (.bool true) (.int .i64 (s : Int)) (.int .i64 (p : Int)) (.int .i64 X.fr) (.int .i64 X.ri) := ⟨_, rfl⟩
          have q4 : Row W3 G #[.bool true, .int .i64 (s : Int), .int .i64 (p : Int), .int .i64 X.fr, .int .i64 X.ri] 77 := by rw [hW3]; exact q3.put5 _ _ _ _ _
          have F4 : Fr (at' G) (w2.alloc (.cells #[.int .i64 X.ft.k, .int .i64 X.ft.s, .int .i64 X.ft.l, .bool X.ft.wk, .int .i64 X.ft.p] 43)) W3 := by rw [hW3]; exact (Fr.refl (at' G) _).put5 (Or.inr (show at' G G from rfl)) _ _ _ _ _
          have h4 := h3.keep F4 (fun k hk e => by have a := HG.out.2.2.2.2.2 k hk; have b : k = G := e; omega)
          have r4 := rr3.keep F4 (fun e => by have a := HG.out.2.2.2.1; have b : P = G := e; omega) (fun e => by have a := HG.out.2.2.2.2.1; have b : bf = G := e; omega)
          have HF4 : Hid (Fr none' w W3) := HF3.out.1.newer F4 (by rw [HG.out.1]; exact Nat.le_refl _)
          unfold put5 at hW3
          rw [← hW3]
          clear hW3 HF3 h3 rr3 r3 q3 F4 g0 g1 g2 g3 g4 e0 e1 e2 e3 e4 y0 y1 y2 y3 y4
          obtain ⟨e0, e1, e2, e3, e4⟩ := cells5f q4
          obtain ⟨x0, x1, x2, x3, x4⟩ := h4.line k hk8
          obtain ⟨z0, z1, z2, z3, z4⟩ := h4.frozen5 k
          have hfr := (single_range bs nf ro p).1
          rw [← HX.out.1] at hfr
          have h5 : RiAt (put5r W3 j k true ⟨s, p, X.fr, X.ri⟩) j v { S with ln := ioset S.ln k (some ⟨s, p, X.fr, X.ri⟩) } := h4.setLine hk8 (some ⟨s, p, X.fr, X.ri⟩) true ⟨s, p, X.fr, X.ri⟩ rfl rfl (h4.ok.line hk8 (fun l e => by cases e; exact hfr))
          have r5 := r4.keep (fr_put5r W3 j k true ⟨s, p, X.fr, X.ri⟩) d1 d2
          have q5 := q4.keep (fr_put5r W3 j k true ⟨s, p, X.fr, X.ri⟩) hGj
          have F5 : Fr (at' j) w (put5r W3 j k true ⟨s, p, X.fr, X.ri⟩) := (HF4.out.mono (fun _ _ h => h.elim)).trans (fr_put5r W3 j k true ⟨s, p, X.fr, X.ri⟩)
          have H5 : Hid (RiAt (put5r W3 j k true ⟨s, p, X.fr, X.ri⟩).drew j v { S with ln := ioset S.ln k (some ⟨s, p, X.fr, X.ri⟩) } ∧ IsRef (put5r W3 j k true ⟨s, p, X.fr, X.ri⟩).drew P bf nf bs ∧ Row (put5r W3 j k true ⟨s, p, X.fr, X.ri⟩).drew G #[.bool true, .int .i64 (s : Int), .int .i64 (p : Int), .int .i64 X.fr, .int .i64 X.ri] 77 ∧ Fr (at' j) w (put5r W3 j k true ⟨s, p, X.fr, X.ri⟩).drew) := ⟨h5.keep0 (Fr.refl none' _).drew, r5.keep (Fr.refl none' _).drew (fun h => h) (fun h => h), q5.drew, F5.drew⟩
          clear h5 r5 q5 F5 h4 r4 q4
          go_cut [] from 80 to 86 (fun wx => wx = (put5r W3 j k true ⟨s, p, X.fr, X.ri⟩).drew)
          case first =>
            go_region
            all_goals (go_wp2_with fail; go_meet; rfl)
          case rest =>
          subst hcut
          clear e0 e1 e2 e3 e4 x0 x1 x2 x3 x4 z0 z1 z2 z3 z4
          obtain ⟨W5, hW5⟩ : ∃ W5, W5 = (put5r W3 j k true ⟨s, p, X.fr, X.ri⟩).drew := ⟨_, rfl⟩
          rw [← hW5] at H5 ⊢
          clear hW5
          have rW := H5.out.2.1
          obtain ⟨e0, e1, e2, e3, e4⟩ := cells5f H5.out.2.2.1
          have HT : Hid (Fr (at' j) w W5 ∧ RiAt W5 j v { S with ln := ioset S.ln k (some ⟨s, p, X.fr, X.ri⟩) }) := ⟨H5.out.2.2.2, H5.out.1⟩
          by_cases hF : (nf : Int) ≤ X.fr
          · have HRE : Hid (reaK bs nf S s p wt = 3 ∧ reaF bs nf S s p wt = 0 ∧ fndS bs nf S s p wt = { S with ln := ioset S.ln k (some ⟨s, p, X.fr, X.ri⟩) }) := ⟨by rw [hre.1, if_pos (by simp [hF])], by rw [hre.2, if_pos (by simp [hF])], HES.out⟩
            clear hre
            have t9 : decide ((nf : Int) ≤ X.fr) = true := decide_eq_true hF
            clear hF
            have hQ : ∀ n, Calls Try.prog 72 #[.pointer (some ⟨P, 0, none⟩)] (W5.drewN n) fun e w' => e = .returned (.int .i64 (nf : Int)) ∧ w' = W5.drewN n := fun n => (rframes_any _ _ _ _ _ (rW.keep (fr_drewN _ n) (fun h => h) (fun h => h))).mono (fun _ _ h => ⟨h.1, h.2.symm⟩)
            go_wp2_with fail
            go_quiet ((go_at_call 72; refine Calls.quiet_of_same (hQ _)))
            go_wp2_with fail
            go_ret2
            rw [HRE.out.1, HRE.out.2.1, HRE.out.2.2]
            exact ⟨rfl, HT.out.1.trans ((fr_drewN _ _).mono (fun _ _ h => h.elim)), HT.out.2.keep0 (fr_drewN _ _)⟩
          · have HRE : Hid (reaK bs nf S s p wt = 0 ∧ reaF bs nf S s p wt = X.fr ∧ fndS bs nf S s p wt = { S with ln := ioset S.ln k (some ⟨s, p, X.fr, X.ri⟩) }) := ⟨by rw [hre.1, if_neg (fun e => hF e.2)], by rw [hre.2, if_neg (fun e => hF e.2)], HES.out⟩
            clear hre
            have t9 : decide ((nf : Int) ≤ X.fr) = false := decide_eq_false hF
            clear hF
            have hQ : ∀ n, Calls Try.prog 72 #[.pointer (some ⟨P, 0, none⟩)] (W5.drewN n) fun e w' => e = .returned (.int .i64 (nf : Int)) ∧ w' = W5.drewN n := fun n => (rframes_any _ _ _ _ _ (rW.keep (fr_drewN _ n) (fun h => h) (fun h => h))).mono (fun _ _ h => ⟨h.1, h.2.symm⟩)
            go_wp2_with fail
            go_quiet ((go_at_call 72; refine Calls.quiet_of_same (hQ _)))
            go_wp2_with fail
            go_ret2
            rw [HRE.out.1, HRE.out.2.1, HRE.out.2.2]
            exact ⟨rfl, HT.out.1.trans ((fr_drewN _ _).mono (fun _ _ h => h.elim)), HT.out.2.keep0 (fr_drewN _ _)⟩
      · have tk : (X.ft.k != 0) = true := by simp [hkk]
        have ek : walkK bs nf ro p wt = X.ft.k := by
          unfold walkK
          rw [if_neg HX.out.2, ← HX.out.1, if_pos hkk]
        have hre := rea_of HE.out.1 HE.out.2.1
        rw [walkFr, ek, if_neg hkk, if_neg (fun e => hkk e.1), if_neg (fun e => hkk e.1)] at hre
        have HRE : Hid (reaK bs nf S s p wt = X.ft.k ∧ reaF bs nf S s p wt = 0 ∧ fndS bs nf S s p wt = S) := ⟨hre.1, hre.2, by rw [HE.out.2.2, ek, if_neg hkk]⟩
        clear hkk ek h3 hre q3 rr3
        obtain ⟨g0, g1, g2, g3, g4⟩ := cells5 r3
        go_wp2_with fail
        go_quiet (fail)
        go_wp2_with fail
        go_ret2
        rw [HRE.out.1, HRE.out.2.1, HRE.out.2.2]
        exact ⟨rfl, ((HF3.out.1.trans (fr_drewN _ _)).mono (fun _ _ h => h.elim)), HF3.out.2.keep0 (fr_drewN _ _)⟩

end Go.Proofs.Ythmombgogmgobaa
