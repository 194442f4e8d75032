/-
  The contracts of package iommu's find and reach over the translation. No statement is proved here.
-/
import Derived.Test.YthmombgogmgobaaIoTake
import Derived.Test.YthmombgogmgobaaFrames
import Derived.Deep.RegionHeld3
import Derived.Deep.RegionWith
namespace Go.Proofs.Ythmombgogmgobaa
open Go.RowKit

theorem LM.look {w : World} {b : Nat} {f : Nat → Option Li} (h : LM w b f) {k : Nat} (hk : k < 8) :
    (Instr.lookup 87 (.map (some b)) (.int .i64 (k : Int)) true).run Try.prog w = .ok (.tuple #[.agg #[.int .i64 (lkL (f k)).s, .int .i64 (lkL (f k)).p, .int .i64 (lkL (f k)).f, .int .i64 (lkL (f k)).r], .bool (f k).isSome]) w := by
  cases hf : f k with
  | none => exact h.look_none hk hf
  | some q => exact h.look_some hk hf

theorem okL_look (s p wt : Int) (o : Option Li) : okL s p wt o = (o.isSome && ((lkL o).s == s && ((lkL o).p == p && bits .and .i64 (lkL o).r wt != 0))) := by
  cases o <;> rfl

/-- What the first statement of 'find' reads, in a world. -/
def FndS (b m p : Nat) (q : Li) (on : Bool) (w : World) : Prop := w.cell? ⟨b, 16, none⟩ = some (.map (some m)) ∧ (Instr.lookup 87 (.map (some m)) (.int .i64 ((p : Int) % 8)) true).run Try.prog w = .ok (.tuple #[.agg #[.int .i64 q.s, .int .i64 q.p, .int .i64 q.f, .int .i64 q.r], .bool on]) w
theorem IoAt.fnd {w : World} {b m : Nat} {v : Value} {S : Io} (h : IoAt w b m v S) (p : Nat) : FndS b m p (lkL (S.ln (p % 8))) (S.ln (p % 8)).isSome w := by
  have hL := h.ln.look (k := p % 8) (by omega)
  rw [show ((p % 8 : Nat) : Int) = (p : Int) % 8 from by omega] at hL
  exact ⟨h.cells.1, hL⟩

set_option maxHeartbeats 4000000 in
set_option maxRecDepth 100000 in
theorem find_at (w : World) (b m : Nat) (v : Value) (S : Io) (P bf nf : Nat) (bs : List UInt8) (s p : Nat) (wt : Int) (h : IoAt w b m v S) (hR : IsRam w P bf nf bs) (hs : s < 16) (hp : p < 1024) :
    Calls Try.prog 64 #[.pointer (some ⟨b, 0, none⟩), .pointer (some ⟨P, 0, none⟩), .int .i64 (s : Int), .int .i64 (p : Int), .int .i64 wt] w fun e w' =>
      e = .returned (.tuple #[.int .i64 (fndF bs nf S s p wt), .int .i64 (fndK bs nf S s p wt)]) ∧ Fr (at' m) w w' ∧ IoAt w' b m v (fndS bs nf S s p wt) := by
  obtain ⟨q, hq⟩ : ∃ q, q = lkL (S.ln (p % 8)) := ⟨_, rfl⟩
  obtain ⟨on, hon⟩ : ∃ on, on = (S.ln (p % 8)).isSome := ⟨_, rfl⟩
  have hk0 : FndS b m p q on w.drew := by rw [hq, hon]; exact (h.keep0 (Fr.refl none' w).drew).fnd p
  have hk1 : ∀ cs : Array Value, FndS b m p q on (w.alloc (.cells cs 112)).drew := fun cs => by rw [hq, hon]; exact (h.keep0 ((Fr.refl none' w).alloc _).drew).fnd p
  have ep : ((p : Int) % 8).toNat = p % 8 := by omega
  have hok := okL_look s p wt (S.ln (p % 8))
  rw [← hq, ← hon] at hok
  have HQ : Hid (q = lkL (S.ln (p % 8)) ∧ on = (S.ln (p % 8)).isSome ∧ okL s p wt (S.ln (p % 8)) = (on && (q.s == (s : Int) && (q.p == (p : Int) && bits .and .i64 q.r wt != 0)))) := ⟨hq, hon, hok⟩
  have HH : Hid (IoAt w b m v S ∧ IsRam w P bf nf bs) := ⟨h, hR⟩
  clear hq hon hok h hR
  go_enter Try.func64, Try.ntmps64
  go_upto_region 1 with fail
  go_cut [12, 13] from 12 to 25 (fun x y wx => x = .pointer (some ⟨w.heap.size, 0, none⟩) ∧ y = .bool on ∧ wx = (w.alloc (.cells #[.int .i64 q.s, .int .i64 q.p, .int .i64 q.f, .int .i64 q.r] 112)).drew)
  case first =>
    go_region_held3 (fun w' => w'.cell? ⟨b, 16, none⟩ = some (.map (some m)) ∧ (Instr.lookup 87 (.map (some m)) (.int .i64 ((p : Int) % 8)) true).run Try.prog w' = .ok (.tuple #[.agg #[.int .i64 q.s, .int .i64 q.p, .int .i64 q.f, .int .i64 q.r], .bool on]) w') (first | with_reducible exact hk0 | with_reducible exact hk1 _ | exact hk0 | exact hk1 _) (first | (go_at_call 76; refine (ioentry_any _ hp _).mono ?_; rintro e w1 ⟨rfl, rfl⟩))
    all_goals (go_wp2_with fail; go_meet; exact ⟨rfl, rfl, rfl⟩)
  case rest =>
  obtain ⟨rfl, rfl, hwx⟩ := hcut
  have F1 : Fr none' w wc := by rw [hwx]; exact ((Fr.refl none' w).alloc _).drew
  have R1 : Row wc w.heap.size #[.int .i64 q.s, .int .i64 q.p, .int .i64 q.f, .int .i64 q.r] 112 := by rw [hwx]; exact (row_alloc w _ _).drew
  obtain ⟨G, hG⟩ : ∃ G, G = w.heap.size := ⟨_, rfl⟩
  rw [← hG] at R1 ⊢
  have HW : Hid (Fr none' w wc) := F1
  have h1 := HH.out.1.keep0 F1
  have r1 := HH.out.2.keep F1 (fun h => h) (fun h => h)
  have hGb : G ≠ b ∧ G ≠ m := by have := HH.out.1.lt b (Or.inl rfl); have := HH.out.1.lt m (Or.inr (Or.inl rfl)); omega
  obtain ⟨d0, d1, d2, d3⟩ := row4 R1
  have HI : Hid (IoAt wc b m v S ∧ IsRam wc P bf nf bs ∧ G = w.heap.size) := ⟨h1, r1, hG⟩
  clear hwx hk0 hk1 HH F1 hG
  cases hc : okL s p wt (S.ln (p % 8)) with
  | true =>
    have hcc := HQ.out.2.2
    rw [hc] at hcc
    have hcc' := hcc.symm
    simp only [Bool.and_eq_true] at hcc'
    obtain ⟨t1, t2, t3, t4⟩ := hcc'
    have t4' : (bits .and .i64 q.r wt != 0) = true := t4
    clear hcc
    subst t1
    go_wp2_with fail
    go_ret2
    have eK : fndK bs nf S s p wt = 0 := by unfold fndK; rw [ep, hc]; rfl
    have eF : fndF bs nf S s p wt = q.f := by
      unfold fndF
      rw [ep, hc, HQ.out.1]
      have := HQ.out.2.1
      cases hl : S.ln (p % 8) with
      | none => rw [hl] at this; cases this
      | some l => rfl
    have eS : fndS bs nf S s p wt = S := by unfold fndS; rw [ep, hc]; rfl
    rw [eK, eF, eS]
    exact ⟨rfl, HW.out.mono (fun _ _ h => h.elim), HI.out.1⟩
  | false =>
    have hcc := HQ.out.2.2
    rw [hc] at hcc
    have HCC : Hid (false = (on && (q.s == (s : Int) && (q.p == (p : Int) && bits .and .i64 q.r wt != 0)))) := hcc
    clear hcc
    go_upto_region 2 with fail
    go_cut [45] from 26 to 45 (fun c wx => c = .bool false ∧ wx = wc)
    case first =>
      cases t1 : on with
      | false => subst t1; go_wp2_with fail; go_meet; exact ⟨rfl, rfl⟩
      | true =>
      subst t1
      cases t2 : (q.s == (s : Int)) with
      | false => go_wp2_with fail; go_meet; exact ⟨rfl, rfl⟩
      | true =>
      cases t3 : (q.p == (p : Int)) with
      | false => go_wp2_with fail; go_meet; exact ⟨rfl, rfl⟩
      | true =>
      have t4 : (bits .and .i64 q.r wt != 0) = false := by have := HCC.out; rw [t2, t3] at this; simpa using this.symm
      go_wp2_with fail
      go_meet
      exact ⟨rfl, rfl⟩
    case rest =>
    obtain ⟨rfl, rfl⟩ := hcut
    have cr := HI.out.1.roots s hs
    have i1 : 0 ≤ (s : Int) ∧ (s : Int) < 16 := by omega
    have eK : fndK bs nf S s p wt = walkK bs nf (S.ro s) p wt := by unfold fndK; rw [ep, hc]; rfl
    have eF : fndF bs nf S s p wt = walkFr bs nf (S.ro s) p wt := by unfold fndF; rw [ep, hc]; rfl
    have eS : fndS bs nf S s p wt = if walkK bs nf (S.ro s) p wt = 0 then { S with ln := ioset S.ln (p % 8) (some ⟨s, p, (single bs nf (S.ro s) p).fr, (single bs nf (S.ro s) p).ri⟩) } else S := by unfold fndS; rw [ep, hc]; rfl
    have HE : Hid (fndK bs nf S s p wt = walkK bs nf (S.ro s) p wt ∧ fndF bs nf S s p wt = walkFr bs nf (S.ro s) p wt ∧ fndS bs nf S s p wt = if walkK bs nf (S.ro s) p wt = 0 then { S with ln := ioset S.ln (p % 8) (some ⟨s, p, (single bs nf (S.ro s) p).fr, (single bs nf (S.ro s) p).ri⟩) } else S) := ⟨eK, eF, eS⟩
    clear eK eF eS d0 d1 d2 d3 R1 HQ HCC hc ep
    by_cases hro : S.ro s = -1
    · have tr : (S.ro s == -1) = true := by simp [hro]
      have ek : walkK bs nf (S.ro s) p wt = 1 := by unfold walkK; rw [if_pos hro]
      have HEK : Hid (walkK bs nf (S.ro s) p wt = 1) := ek
      clear hro ek h1 r1
      go_wp2_with fail
      go_ret2
      have ek := HEK.out
      rw [HE.out.1, HE.out.2.1, HE.out.2.2, ek, walkFr, ek]
      exact ⟨rfl, HW.out.mono (fun _ _ h => h.elim), HI.out.1⟩
    · have tr : (S.ro s == -1) = false := by simp [hro]
      obtain ⟨X, hX⟩ : ∃ X, X = single bs nf (S.ro s) p := ⟨_, rfl⟩
      have HX : Hid (X = single bs nf (S.ro s) p ∧ S.ro s ≠ -1) := ⟨hX, hro⟩
      clear hro
      go_wp2_with fail
      refine (single_any _ P bf nf bs _ _ r1).mono ?_
      rintro e w2 ⟨rfl, f2⟩
      rw [← hX]
      have f3 := f2.alloc (.cells #[.int .i64 X.ft.k, .int .i64 X.ft.s, .int .i64 X.ft.l, .bool X.ft.wk, .int .i64 X.ft.p] 43)
      have r3 := row_alloc w2 #[.int .i64 X.ft.k, .int .i64 X.ft.s, .int .i64 X.ft.l, .bool X.ft.wk, .int .i64 X.ft.p] 43
      have h3 := h1.keep0 f3
      have HF3 : Hid (Fr none' w (w2.alloc (.cells #[.int .i64 X.ft.k, .int .i64 X.ft.s, .int .i64 X.ft.l, .bool X.ft.wk, .int .i64 X.ft.p] 43)) ∧ IoAt (w2.alloc (.cells #[.int .i64 X.ft.k, .int .i64 X.ft.s, .int .i64 X.ft.l, .bool X.ft.wk, .int .i64 X.ft.p] 43)) b m v S) := ⟨HW.out.trans f3, h3⟩
      clear f2 f3 h1 r1 hX cr tr HW HI
      by_cases hk : X.ft.k = 0
      · have tk : (X.ft.k != 0) = false := by simp [hk]
        by_cases hb : bits .and .i64 X.ri wt = 0
        · have tb : (bits .and .i64 X.ri wt == 0) = true := by simp [hb]
          have ek : walkK bs nf (S.ro s) p wt = 2 := by
            unfold walkK
            rw [if_neg HX.out.2, ← HX.out.1, if_neg (by simp [hk]), if_pos hb]
          have HEK : Hid (walkK bs nf (S.ro s) p wt = 2) := ek
          clear hk hb ek h3
          obtain ⟨g0, g1, g2, g3, g4⟩ := cells5 r3
          go_wp2_with fail
          go_ret2
          have ek := HEK.out
          rw [HE.out.1, HE.out.2.1, HE.out.2.2, ek, walkFr, ek]
          exact ⟨rfl, HF3.out.1.mono (fun _ _ h => h.elim), HF3.out.2⟩
        · have tb : (bits .and .i64 X.ri wt == 0) = false := by simp [hb]
          have ek : walkK bs nf (S.ro s) p wt = 0 := by
            unfold walkK
            rw [if_neg HX.out.2, ← HX.out.1, if_neg (by simp [hk]), if_neg hb]
          have HEK : Hid (walkK bs nf (S.ro s) p wt = 0) := ek
          clear hk hb ek
          obtain ⟨g0, g1, g2, g3, g4⟩ := cells5 r3
          go_upto_region 11 with fail
          obtain ⟨w4, hw4⟩ : ∃ w4, w4 = w2.alloc (.cells #[.int .i64 X.ft.k, .int .i64 X.ft.s, .int .i64 X.ft.l, .bool X.ft.wk, .int .i64 X.ft.p] 43) := ⟨_, rfl⟩
          rw [← hw4] at h3 r3 HF3 g0 g1 g2 g3 g4 ⊢
          clear hw4
          obtain ⟨c0, _, _⟩ := h3.cells
          have h4 := h3.keep0 (Fr.refl none' w4).drew
          obtain ⟨w5, hrun, hm5, f5⟩ := h4.ln.store (k := p % 8) (by omega) ⟨s, p, X.fr, X.ri⟩
          rw [show ((p % 8 : Nat) : Int) = (p : Int) % 8 from by omega] at hrun
          have hfr := (single_range bs nf (S.ro s) p).1
          rw [← HX.out.1] at hfr
          have h5 : IoAt w5 b m v { S with ln := ioset S.ln (p % 8) (some ⟨s, p, X.fr, X.ri⟩) } := h4.setLn hm5 f5 (h4.ok.line (by omega) (fun l e => by cases e; exact hfr))
          have H5 : Hid (IoAt w5 b m v { S with ln := ioset S.ln (p % 8) (some ⟨s, p, X.fr, X.ri⟩) } ∧ Fr (at' m) w w5) := ⟨h5, (HF3.out.1.drew.mono (fun _ _ h => h.elim)).trans f5⟩
          clear h3 h4 h5 hm5 f5 hfr r3 g0 g1 g2 g3 g4
          go_region_with (go_at_call 76; refine (ioentry_any _ hp _).mono ?_; rintro e w1 ⟨rfl, rfl⟩)
          all_goals
            go_wp2_with fail
            go_ret2
            have ek := HEK.out
            rw [HE.out.1, HE.out.2.1, HE.out.2.2, walkFr, ek, if_pos rfl, if_pos rfl, ← HX.out.1]
            exact ⟨rfl, H5.out.2, H5.out.1⟩
      · have tk : (X.ft.k != 0) = true := by simp [hk]
        have ek : walkK bs nf (S.ro s) p wt = X.ft.k := by
          unfold walkK
          rw [if_neg HX.out.2, ← HX.out.1, if_pos hk]
        have HEK : Hid (walkK bs nf (S.ro s) p wt = X.ft.k ∧ X.ft.k ≠ 0) := ⟨ek, hk⟩
        clear hk ek h3
        obtain ⟨g0, g1, g2, g3, g4⟩ := cells5 r3
        go_wp2_with fail
        go_quiet (fail)
        go_wp2_with fail
        go_ret2
        have ek := HEK.out.1
        rw [HE.out.1, HE.out.2.1, HE.out.2.2, walkFr, ek, if_neg HEK.out.2, if_neg HEK.out.2]
        exact ⟨rfl, ((HF3.out.1.trans (fr_drewN _ _)).mono (fun _ _ h => h.elim)), HF3.out.2.keep0 (fr_drewN _ _)⟩

end Go.Proofs.Ythmombgogmgobaa
