/-
  The contract of the document's Reset over the translation. No statement is proved here.
-/
import Derived.Test.YtcmhndkbcfpbbaaUtRefC
namespace Go.Proofs.Ytcmhndkbcfpbbaa
open Go.RowKit

theorem IsQ.off {w : World} {q : Qb} {L : List Rg} (h : IsQ w q L) {b : Nat} {cs : Array Value} {t : TypeId} (r : Row w b cs t) (h1 : t ≠ 33) (h2 : t ≠ 39) (z : Nat) (hz : q.s z) : z ≠ b := by
  rcases hz with rfl | hz
  · exact row_ne h.row r (fun e => h1 e.symm)
  · intro e
    subst e
    obtain ⟨_, o | ⟨g', cap, cur, hv, _, hg, _⟩⟩ := h.own
    · rw [o.1] at hz; simp [Value.ownBlock] at hz
    · rw [hv] at hz
      have : z = g' := by simpa [Value.ownBlock] using hz
      subst this
      exact row_ne (show Row w z cur 39 from hg) r (fun e => h2 e.symm) rfl

/-- The document's pool, its units, its memory, behind j units. -/
structure RrI (w wr : World) (q : Qb) (L : List Rg) (k : Int) (x : Rg) (ub pr br nf : Nat) (bs : List UInt8) (u : Int) (j : Nat) : Prop where
  isQ : IsQ wr q (setM L k (x.m - j))
  un : Row wr ub #[.int .i64 (u - j)] 75
  ram : IsRef wr pr br nf (clrN nf x.d (x.f + x.m) bs j)
  fr : Fr (fun z => q.s z ∨ z = ub ∨ z = br) w wr

section
variable {w wr : World} {q : Qb} {L : List Rg} {k : Int} {x : Rg} {ub pr br nf : Nat} {bs : List UInt8} {u : Int} {j i : Nat}
theorem at_setM {L : List Rg} {k m : Int} {x : Rg} {i : Nat} (hi : L[i]? = some x) (hx : x.f = k) : (setM L k m)[i]? = some ⟨x.f, x.n, m, x.d⟩ := by
  unfold setM
  rw [List.getElem?_map, hi, Option.map_some, if_pos hx]
theorem RrI.taken {w1 : World} (h : RrI w wr q L k x ub pr br nf bs u j) (f : Fr (at' ub) wr w1) :
    IsQ w1 q (setM L k (x.m - j)) ∧ IsRef w1 pr br nf (clrN nf x.d (x.f + x.m) bs j) ∧ Fr (fun z => q.s z ∨ z = ub ∨ z = br) w w1 :=
  ⟨h.isQ.keep f (fun z hz e => h.isQ.off h.un (by decide) (by decide) z hz e), h.ram.keep f (fun e => row_ne h.ram.head h.un (by decide) e) (fun e => row_ne h.ram.row h.un (by decide) e), h.fr.trans (f.mono (fun z _ e => Or.inr (Or.inl e)))⟩
theorem rmarked {w1 : World} {g cap : Nat} (hg : GoodL L) (hi : L[i]? = some x) (hk : x.f = k) (hj : (j : Int) < x.m) (hp : IsQ w1 q (setM L k (x.m - j))) (hv : q.v = .slice (some ⟨g, 0, none⟩) L.length cap) (r : Row w1 ub #[.int .i64 (u - j - 1)] 75) (hr : IsRef w1 pr br nf (clrN nf x.d (x.f + x.m) bs j)) (f : Fr (fun z => q.s z ∨ z = ub ∨ z = br) w w1) :
    IsQ (w1.setCell ⟨g, i * 4 + 2, none⟩ (.int .i64 (x.m - j - 1))) q (setM L k (x.m - ((j + 1 : Nat) : Int))) ∧ Row (w1.setCell ⟨g, i * 4 + 2, none⟩ (.int .i64 (x.m - j - 1))) ub #[.int .i64 (u - ((j + 1 : Nat) : Int))] 75 ∧ IsRef (w1.setCell ⟨g, i * 4 + 2, none⟩ (.int .i64 (x.m - j - 1))) pr br nf (clrN nf x.d (x.f + x.m) bs j) ∧ Fr (fun z => q.s z ∨ z = ub ∨ z = br) w (w1.setCell ⟨g, i * 4 + 2, none⟩ (.int .i64 (x.m - j - 1))) := by
  have hx := okR_iff.1 (hg.all x (List.mem_of_getElem? hi))
  have e1 : x.m - ((j + 1 : Nat) : Int) = x.m - j - 1 := by omega
  have e2 : u - ((j + 1 : Nat) : Int) = u - j - 1 := by omega
  have hs : q.s g := Or.inr (by rw [hv]; rfl)
  have hq := hp.mark (at_setM hi hk) (g := g) (cap := cap) (by rw [len_setM]; exact hv) (m := x.m - j - 1) (by dsimp only; omega)
  dsimp only at hq
  rw [hk, setM_setM] at hq
  have ff : Fr (at' g) w1 (w1.setCell ⟨g, i * 4 + 2, none⟩ (.int .i64 (x.m - j - 1))) := fr_set _ _ _ _ (Fr.refl _ _)
  rw [e1, e2]
  exact ⟨hq, r.keep ff (fun e => hp.off r (by decide) (by decide) g hs (Eq.symm e)), hr.keep ff (fun e => hp.off hr.head (by decide) (by decide) g hs (Eq.symm e)) (fun e => hp.off hr.row (by decide) (by decide) g hs (Eq.symm e)), f.trans (ff.mono (fun z _ e => Or.inl (by rw [show z = g from e]; exact hs)))⟩
theorem rcleared {w1 w2 : World} (hd : x.d = false) (hp : IsQ w1 q (setM L k (x.m - ((j + 1 : Nat) : Int)))) (r : Row w1 ub #[.int .i64 (u - ((j + 1 : Nat) : Int))] 75) (hr : IsRef w1 pr br nf (clrN nf x.d (x.f + x.m) bs j)) (f : Fr (fun z => q.s z ∨ z = ub ∨ z = br) w w1)
    (f2 : Fr (at' br) w1 w2) (r2 : IsRef w2 pr br nf (clearB (clrN nf x.d (x.f + x.m) bs j) (x.f + (x.m - j - 1)) nf)) : RrI w w2 q L k x ub pr br nf bs u (j + 1) := by
  refine ⟨hp.keep f2 (fun z hz e => hp.off hr.row (by decide) (by decide) z hz e), r.keep f2 (fun e => row_ne r hr.row (by decide) e), ?_, f.trans (f2.mono (fun z _ e => Or.inr (Or.inr e)))⟩
  unfold clrN
  rw [if_neg (by rw [hd]; decide)]
  rwa [show x.f + x.m - ((j : Int) + 1) = x.f + (x.m - j - 1) by omega]
end

def cellQ (w : World) (g o : Nat) : Nat := match w.cell? ⟨g, o, none⟩ with
  | some (.int _ m) => m.toNat
  | _ => 0

set_option maxRecDepth 100000 in
set_option maxHeartbeats 2000000 in
theorem rreset_core (w : World) (q : Qb) (L : List Rg) (h : IsQ w q L) (k : Int) (x : Rg) (hf : fnd L k = some x) (ub pr br nf : Nat) (bs : List UInt8) (U : Nat) (hu : (U : Int) ≤ 9223372036854775807) (rr : IsRef w pr br nf bs) (ru : Row w ub #[.int .i64 (U : Int)] 75)
    (E : Int) (N : Nat) (hE : (x.m ≤ (U : Int) ∧ E = 0 ∧ (N : Int) = x.m) ∨ ((U : Int) < x.m ∧ E = 3 ∧ N = U)) :
    Calls Try.prog 31 #[.pointer (some ⟨q.b, 0, none⟩), .pointer (some ⟨pr, 0, none⟩), .int .i64 k, .pointer (some ⟨ub, 0, none⟩)] w fun e w' => e = .returned (.int .i64 E) ∧ RrI w w' q L k x ub pr br nf bs U N := by
  have T := rat_any w q L h k
  have G := h.good
  have hx := G.ok hf
  have hI : Hid (RrI w w q L k x ub pr br nf bs U 0) := ⟨by rw [show x.m - ((0 : Nat) : Int) = x.m by omega, setM_same G hf]; exact h, by rw [show (U : Int) - ((0 : Nat) : Int) = U by omega]; exact ru, rr, Fr.refl _ _⟩
  have HG : Hid (GoodL L ∧ fnd L k = some x ∧ x.f = k ∧ IsQ w q L) := ⟨G, hf, (fnd_mem hf).2, h⟩
  have HE : Hid ((x.m ≤ (U : Int) ∧ E = 0 ∧ (N : Int) = x.m) ∨ ((U : Int) < x.m ∧ E = 3 ∧ N = U)) := hE
  have hm0 : x.m ≤ 1024 := by omega
  have hf0 : 0 ≤ x.f ∧ x.f ≤ 1024 := by omega
  clear h hf rr ru G hE hx
  go_enter Try.func31, Try.ntmps31
  go_wp2_with fail
  refine T.mono ?_
  rintro e w1 ⟨rfl, ⟨hf', rfl⟩ | ⟨i, x', hf', hi, rfl⟩⟩
  · rw [HG.out.2.1] at hf'; cases hf'
  · rw [HG.out.2.1] at hf'
    cases hf'
    obtain ⟨g, cap, N', cb, c0, c1, c2, c3, hlt, hnl, fz, vv, nn⟩ := HG.out.2.2.2.rm (f := k) hi
    have HV : Hid (q.v = .slice (some ⟨g, 0, none⟩) L.length cap ∧ N' = L.length ∧ L[i]? = some x) := ⟨vv, nn, hi⟩
    have HC : Hid (∀ wr m, IsQ wr q (setM L k m) → wr.cell? ⟨q.b, 0, none⟩ = some (.slice (some ⟨g, 0, none⟩) N' cap) ∧ wr.cell? ⟨g, i * 4 + 2, none⟩ = some (.int .i64 m) ∧ wr.cell? ⟨g, i * 4 + 3, none⟩ = some (.bool x.d) ∧ wr.frozen? ⟨g, i * 4 + 2, none⟩ = false) := fun wr m hq => by
      obtain ⟨g', cap', N2, b1, b2, b3, b4, b5, _, _, b8, b9, b10⟩ := hq.rm (f := k) (at_setM hi HG.out.2.2.1)
      rw [HV.out.1, len_setM] at b9
      simp only [Value.slice.injEq, Option.some.injEq, Addr.mk.injEq, and_true, true_and] at b9
      obtain ⟨rfl, rfl⟩ := b9
      rw [len_setM, ← HV.out.2.1] at b10
      subst b10
      exact ⟨b1, b4, b5, b8 _⟩
    have i1 : 0 ≤ (i : Int) ∧ (i : Int) < (N' : Int) := by omega
    clear T hi vv nn fz cb c0 c1 c2 c3
    go_wp2_with fail
    go_loopw [] (fun wr => ∃ j : Nat, (j : Int) ≤ x.m ∧ j ≤ U ∧ Hid (RrI w1 wr q L k x ub pr br nf bs U j)) (fun wr => cellQ wr g (i * 4 + 2))
    case atStart =>
      have := HG.out.1.ok HG.out.2.1
      exact ⟨0, by omega, by omega, hI⟩
    case round =>
      obtain ⟨j, hj1, hj2, HI⟩ := hrel
      clear hI
      obtain ⟨b1, b2, b3, b4⟩ := HC.out wr _ HI.out.isQ
      have HM : Hid (cellQ wr g (i * 4 + 2) = (x.m - (j : Int)).toNat) := by unfold cellQ; rw [b2]; rfl
      by_cases hlt2 : (j : Int) < x.m
      · have hp1 : 0 < x.m - (j : Int) := by omega
        by_cases hun : j < U
        · have T := rtake_yes wr ub ((U : Int) - j) HI.out.un (by omega) (by omega)
          go_wp2_with fail
          refine T.mono ?_
          rintro e wa ⟨rfl, r1, f1⟩
          clear T b1 b2 b3 b4
          obtain ⟨hp, hr, hfr⟩ := HI.out.taken f1
          obtain ⟨b1, b2, b3, b4⟩ := HC.out wa _ hp
          have HK : Hid _ := rmarked HG.out.1 HV.out.2.2 HG.out.2.2.1 hlt2 hp HV.out.1 r1 hr hfr
          clear hp hr hfr r1 f1 HI
          have w3 : IntKind.i64.wrap (x.m - (j : Int) - 1) = x.m - (j : Int) - 1 := w64 (by omega) (by omega)
          obtain ⟨a1, a2, a3, a4⟩ := HK.out
          replace a1 := a1.keep0 (Fr.refl none' _).drew
          replace a2 := a2.keep (Fr.refl none' _).drew (fun h => h)
          replace a3 := a3.drew
          replace a4 := a4.drew
          clear HK
          have bb1 := HC.out _ _ a1
          rw [show x.m - ((j + 1 : Nat) : Int) = x.m - j - 1 by omega] at bb1
          have HM2 : Hid (cellQ (wa.setCell ⟨g, i * 4 + 2, none⟩ (.int .i64 (x.m - j - 1))).drew g (i * 4 + 2) = (x.m - (j : Int) - 1).toNat) := by unfold cellQ; rw [bb1.2.1]; rfl
          rcases Bool.eq_false_or_eq_true x.d with hd | hd
          · skip
            rw [hd] at b3
            have HN : Hid (RrI w1 (wa.setCell ⟨g, i * 4 + 2, none⟩ (.int .i64 (x.m - j - 1))).drew q L k x ub pr br nf bs U (j + 1)) := ⟨a1, a2, by unfold clrN; rw [if_pos hd]; exact a3, a4⟩
            clear a1 a2 a3 a4
            go_wp2_with fail
            go_region
            all_goals go_wp2_with fail
            all_goals go_roundw
            all_goals first
              | exact ⟨j + 1, by omega, by omega, HN⟩
              | (have := HM.out; have := HM2.out; omega)
          · skip
            rw [hd] at b3
            have HN : Hid (∀ w2, Fr (at' br) (wa.setCell ⟨g, i * 4 + 2, none⟩ (.int .i64 (x.m - j - 1))).drew w2 → IsRef w2 pr br nf (clearB (clrN nf x.d (x.f + x.m) bs j) (k + (x.m - j - 1)) nf) → RrI w1 w2 q L k x ub pr br nf bs U (j + 1)) := fun w2 f2 r2 => rcleared hd a1 a2 a3 a4 f2 (by rw [show x.f + (x.m - (j : Int) - 1) = k + (x.m - j - 1) by rw [HG.out.2.2.1]]; exact r2)
            have C := rclear_any _ pr br nf _ (k + (x.m - j - 1)) a3
            have w4 : IntKind.i64.wrap (k + (x.m - (j : Int) - 1)) = k + (x.m - (j : Int) - 1) := w64 (by have := HG.out.2.2.1; omega) (by have := HG.out.2.2.1; omega)
            clear a1 a2 a3 a4
            go_wp2_with fail
            go_region
            all_goals go_wp2_with (go_at_call 49; refine C.mono ?_; rintro e w2 ⟨⟨z, rfl⟩, f2, r2⟩)
            all_goals have HN2 : Hid (RrI w1 w2 q L k x ub pr br nf bs U (j + 1)) := HN.out w2 f2 r2
            all_goals clear HN f2 r2 C
            all_goals have HM3 : Hid (cellQ w2 g (i * 4 + 2) = (x.m - ((j + 1 : Nat) : Int)).toNat) := by unfold cellQ; rw [(HC.out w2 _ HN2.out.isQ).2.1]; rfl
            all_goals go_roundw
            all_goals first
              | exact ⟨j + 1, by omega, by omega, HN2⟩
              | (have := HM.out; have := HM3.out; omega)
        · have T := rtake_no wr ub (by have := HI.out.un; rw [show (U : Int) - j = 0 by omega] at this; exact this)
          go_wp2_with fail
          refine T.mono ?_
          rintro e wa ⟨rfl, rfl⟩
          go_wp2_with fail
          go_ret
          have := HE.out
          obtain rfl : E = 3 := by omega
          obtain rfl : N = j := by omega
          exact ⟨rfl, HI.out⟩
      · have hp1 : ¬ 0 < x.m - (j : Int) := by omega
        go_wp2_with fail
        go_ret
        have := HE.out
        obtain rfl : E = 0 := by omega
        obtain rfl : N = j := by omega
        exact ⟨rfl, HI.out⟩

theorem rreset_any (w : World) (q : Qb) (L : List Rg) (h : IsQ w q L) (k : Int) (ub pr br nf : Nat) (bs : List UInt8) (u : Int) (hu : u ≤ 9223372036854775807) (rr : IsRef w pr br nf bs) (ru : Row w ub #[.int .i64 (max 0 u)] 75) :
    Calls Try.prog 31 #[.pointer (some ⟨q.b, 0, none⟩), .pointer (some ⟨pr, 0, none⟩), .int .i64 k, .pointer (some ⟨ub, 0, none⟩)] w fun e w' => e = .returned (.int .i64 (rstE L k u)) ∧ IsQ w' q (rstS L k u) ∧ Row w' ub #[.int .i64 (max 0 (rstU L k u))] 75 ∧ IsRef w' pr br nf (rstB L k u nf bs) ∧ Fr (fun z => q.s z ∨ z = ub ∨ z = br) w w' := by
  unfold rstE rstS rstU rstB
  cases hf : fnd L k with
  | none =>
    have T := rat_any w q L h k
    have HH : Hid (IsQ w q L ∧ Row w ub #[.int .i64 (max 0 u)] 75 ∧ IsRef w pr br nf bs) := ⟨h, ru, rr⟩
    dsimp only
    clear h rr ru
    generalize max 0 u = mu at *
    go_enter Try.func31, Try.ntmps31
    go_wp2_with fail
    refine T.mono ?_
    rintro e w1 ⟨rfl, ⟨hf', rfl⟩ | ⟨i, x', hf', hi, rfl⟩⟩
    · clear T hf hf'
      go_wp2_with fail
      go_ret
      exact ⟨rfl, HH.out.1, HH.out.2.1, HH.out.2.2, Fr.refl _ _⟩
    · rw [hf] at hf'; cases hf'
  | some x =>
    have hx := h.good.ok hf
    have hN : ((rstN u x.m).toNat : Int) = rstN u x.m := by unfold rstN; omega
    have eU : (((max 0 u).toNat : Nat) : Int) = max 0 u := by omega
    refine (rreset_core w q L h k x hf ub pr br nf bs (max 0 u).toNat (by omega) rr (by rw [eU]; exact ru) (if x.m ≤ max 0 u then 0 else 3) (rstN u x.m).toNat ?_).mono ?_
    · unfold rstN
      split
      · left; omega
      · right; omega
    · rintro e w' ⟨rfl, r⟩
      refine ⟨rfl, ?_, ?_, r.ram, r.fr⟩
      · have := r.isQ; rw [hN] at this; exact this
      · have := r.un
        rw [hN, eU] at this
        rw [show max 0 (u - rstN u x.m) = max 0 u - rstN u x.m by unfold rstN; omega]
        exact this

end Go.Proofs.Ytcmhndkbcfpbbaa
