/-
  Contracts of package untyped's take and Reset over the translation. No statement is proved here.
-/
import Derived.Test.YtcmhndkbcfpbbaaUtRoom
import Derived.Test.YtcmhndkbcfpbbaaClr
import Derived.Deep.RegionWith
namespace Go.Proofs.Ytcmhndkbcfpbbaa
open Go.RowKit Go.Maps Go.WideMaps

set_option maxHeartbeats 400000 in
theorem take_no (w : World) (u : Nat) (n : Int) (h : Row w u #[.int .i64 n] 3) (hn : n ≤ 0) : Calls Try.prog 41 #[.pointer (some ⟨u, 0, none⟩)] w fun e w' => e = .returned (.bool false) ∧ w' = w := by
  have c0 : w.cell? ⟨u, 0, none⟩ = some (.int .i64 n) := h.cell 0
  clear h
  go_enter Try.func41, Try.ntmps41
  go_wp2
  go_ret
  exact ⟨rfl, rfl⟩

set_option maxHeartbeats 400000 in
theorem take_yes (w : World) (u : Nat) (n : Int) (h : Row w u #[.int .i64 n] 3) (hn : 0 < n) (hm : n ≤ 9223372036854775807) : Calls Try.prog 41 #[.pointer (some ⟨u, 0, none⟩)] w fun e w' => e = .returned (.bool true) ∧ Row w' u #[.int .i64 (n - 1)] 3 ∧ Fr (at' u) w w' := by
  have c0 : w.cell? ⟨u, 0, none⟩ = some (.int .i64 n) := h.cell 0
  have z0 := h.frozen 0
  have HR : Hid (Row (w.setCell ⟨u, 0, none⟩ (.int .i64 (n - 1))) u #[.int .i64 (n - 1)] 3) := h.setCell 0 _
  have w1 : IntKind.i64.wrap (n - 1) = n - 1 := w64 (by omega) (by omega)
  clear h
  go_enter Try.func41, Try.ntmps41
  go_wp2
  go_ret
  exact ⟨rfl, HR.out, fr_set _ _ _ _ (Fr.refl _ _)⟩

/-! ### Reset -/
def clrN (nf : Nat) (d : Bool) (top : Int) (bs : List UInt8) : Nat → List UInt8
  | 0 => bs
  | j + 1 => if d = true then clrN nf d top bs j else clearB (clrN nf d top bs j) (top - ((j : Int) + 1)) nf

def rstB (L : List Rg) (k u : Int) (nf : Nat) (bs : List UInt8) : List UInt8 := match fnd L k with
  | none => bs
  | some x => clrN nf x.d (x.f + x.m) bs (rstN u x.m).toNat

theorem length_clrN (nf : Nat) (d : Bool) (top : Int) (bs : List UInt8) (j : Nat) : (clrN nf d top bs j).length = bs.length := by
  induction j with
  | zero => rfl
  | succ j ih =>
    unfold clrN
    split
    · exact ih
    · rw [length_clearB, ih]

/-- The pool, the units' cell, the memory, behind j units. -/
structure RsI (w wr : World) (p : Pb) (L : List Rg) (k : Int) (x : Rg) (ub pm bm nf : Nat) (bs : List UInt8) (u : Int) (j : Nat) : Prop where
  isP : IsP wr p (setM L k (x.m - j))
  un : Row wr ub #[.int .i64 (u - j)] 3
  ram : IsRam wr pm bm nf (clrN nf x.d (x.f + x.m) bs j)
  fr : Fr (fun q => p.s L q ∨ q = ub ∨ q = bm) w wr

theorem s_setM {p : Pb} {L : List Rg} {k m : Int} {q : Nat} : p.s (setM L k m) q → p.s L q := by
  rintro (h | h | ⟨n, hn, h⟩)
  · exact Or.inl h
  · exact Or.inr (Or.inl h)
  · obtain ⟨y, hy, e, _⟩ := mem_setM hn
    exact Or.inr (Or.inr ⟨y, hy, by rw [← e]; exact h⟩)

/-- A pool is none of a row's block of another type. -/
theorem IsP.off {w : World} {p : Pb} {L : List Rg} (h : IsP w p L) {b : Nat} {cs : Array Value} {t : TypeId} (r : Row w b cs t) (h1 : t ≠ 66) (h2 : t ≠ 39) (q : Nat) (hq : p.s L q) : q ≠ b := by
  rcases hq with rfl | rfl | ⟨n, hn, rfl⟩
  · exact row_ne h.row r (fun e => h1 e.symm)
  · exact h.map.ne r
  · exact row_ne (h.rg n hn) r (fun e => h2 e.symm)

section
variable {w wr : World} {p : Pb} {L : List Rg} {k : Int} {x : Rg} {ub pm bm nf : Nat} {bs : List UInt8} {u : Int} {j : Nat}
theorem RsI.reg (hf : fnd L k = some x) : fnd (setM L k (x.m - j)) k = some ⟨x.f, x.n, x.m - j, x.d⟩ := by
  rw [fnd_setM, hf, Option.map_some, if_pos (fnd_mem hf).2]
theorem RsI.row (h : RsI w wr p L k x ub pm bm nf bs u j) (hf : fnd L k = some x) : RgR wr (p.B x.f) ⟨x.f, x.n, x.m - j, x.d⟩ :=
  h.isP.rg _ (fnd_mem (RsI.reg hf)).1
/-- Behind a unit taken. -/
theorem RsI.taken {w1 : World} (h : RsI w wr p L k x ub pm bm nf bs u j) (f : Fr (at' ub) wr w1) :
    IsP w1 p (setM L k (x.m - j)) ∧ IsRam w1 pm bm nf (clrN nf x.d (x.f + x.m) bs j) ∧ Fr (fun q => p.s L q ∨ q = ub ∨ q = bm) w w1 := by
  refine ⟨h.isP.keep f (fun q hq e => h.isP.off h.un (by decide) (by decide) q hq e), h.ram.keep f (fun e => row_ne h.ram.head h.un (by decide) e) (fun e => row_ne h.ram.row h.un (by decide) e), h.fr.trans (f.mono (fun q _ e => Or.inr (Or.inl e)))⟩
/-- Behind the mark turned. -/
theorem marked {w1 : World} (g : GoodL L) (hf : fnd L k = some x) (hj : (j : Int) < x.m) (hp : IsP w1 p (setM L k (x.m - j))) (r : Row w1 ub #[.int .i64 (u - j - 1)] 3) (hr : IsRam w1 pm bm nf (clrN nf x.d (x.f + x.m) bs j)) (f : Fr (fun q => p.s L q ∨ q = ub ∨ q = bm) w w1) :
    IsP (w1.setCell ⟨p.B x.f, 2, none⟩ (.int .i64 (x.m - j - 1))) p (setM L k (x.m - ((j + 1 : Nat) : Int))) ∧ Row (w1.setCell ⟨p.B x.f, 2, none⟩ (.int .i64 (x.m - j - 1))) ub #[.int .i64 (u - ((j + 1 : Nat) : Int))] 3 ∧ IsRam (w1.setCell ⟨p.B x.f, 2, none⟩ (.int .i64 (x.m - j - 1))) pm bm nf (clrN nf x.d (x.f + x.m) bs j) ∧ Fr (fun q => p.s L q ∨ q = ub ∨ q = bm) w (w1.setCell ⟨p.B x.f, 2, none⟩ (.int .i64 (x.m - j - 1))) := by
  have hm := (fnd_mem hf).1
  have hx := g.ok hf
  have hf' : fnd (setM L k (x.m - j)) k = some ⟨x.f, x.n, x.m - j, x.d⟩ := by rw [fnd_setM, hf, Option.map_some, if_pos (fnd_mem hf).2]
  have e1 : x.m - ((j + 1 : Nat) : Int) = x.m - j - 1 := by omega
  have e2 : u - ((j + 1 : Nat) : Int) = u - j - 1 := by omega
  have hq := hp.mark hf' (m := x.m - j - 1) (by dsimp only; omega)
  rw [setM_setM] at hq
  have rg := hp.rg _ (fnd_mem hf').1
  have ff : Fr (at' (p.B x.f)) w1 (w1.setCell ⟨p.B x.f, 2, none⟩ (.int .i64 (x.m - j - 1))) := fr_set _ _ _ _ (Fr.refl _ _)
  rw [e1, e2]
  exact ⟨hq, r.keep ff (fun e => row_ne r rg (by decide) e), hr.keep ff (fun e => row_ne hr.head rg (by decide) e) (fun e => row_ne hr.row rg (by decide) e), f.trans (ff.mono (fun q _ e => Or.inl (Or.inr (Or.inr ⟨x, hm, e⟩))))⟩
/-- Behind the frame cleared. -/
theorem cleared {w1 w2 : World} (hd : x.d = false) (hp : IsP w1 p (setM L k (x.m - ((j + 1 : Nat) : Int)))) (r : Row w1 ub #[.int .i64 (u - ((j + 1 : Nat) : Int))] 3) (hr : IsRam w1 pm bm nf (clrN nf x.d (x.f + x.m) bs j)) (f : Fr (fun q => p.s L q ∨ q = ub ∨ q = bm) w w1)
    (f2 : Fr (at' bm) w1 w2) (r2 : IsRam w2 pm bm nf (clearB (clrN nf x.d (x.f + x.m) bs j) (x.f + (x.m - j - 1)) nf)) : RsI w w2 p L k x ub pm bm nf bs u (j + 1) := by
  refine ⟨hp.keep f2 (fun q hq e => hp.off hr.row (by decide) (by decide) q hq e), r.keep f2 (fun e => row_ne r hr.row (by decide) e), ?_, f.trans (f2.mono (fun q _ e => Or.inr (Or.inr e)))⟩
  unfold clrN
  rw [if_neg (by rw [hd]; decide)]
  rwa [show x.f + x.m - ((j : Int) + 1) = x.f + (x.m - j - 1) by omega]
end

def cellM (w : World) (g : Nat) : Nat := match w.cell? ⟨g, 2, none⟩ with
  | some (.int _ m) => m.toNat
  | _ => 0
theorem cellM_row {w : World} {g : Nat} {x : Rg} (h : RgR w g x) : cellM w g = x.m.toNat := by
  unfold cellM; rw [h.cells.2.2.1]

set_option maxRecDepth 100000 in
set_option maxHeartbeats 1000000 in
theorem reset_none (w : World) (p : Pb) (L : List Rg) (h : IsP w p L) (k : Int) (hk : I64 k) (hf : fnd L k = none) (r u : Value) : Calls Try.prog 24 #[.pointer (some ⟨p.b, 0, none⟩), r, .int .i64 k, u] w fun e w' => e = .returned (.int .i64 131) ∧ w' = w := by
  have c0 := h.cell
  have hL := h.map.look_none hk (map_none hf)
  clear h hk hf
  go_enter Try.func24, Try.ntmps24
  go_wp2
  go_ret
  exact ⟨rfl, rfl⟩

set_option maxRecDepth 100000 in
set_option maxHeartbeats 2000000 in
theorem reset_core (w : World) (p : Pb) (L : List Rg) (h : IsP w p L) (k : Int) (hk : I64 k) (x : Rg) (hf : fnd L k = some x) (ub pm bm nf : Nat) (bs : List UInt8) (u : Int) (hu : I64 u) (rr : IsRam w pm bm nf bs) (ru : Row w ub #[.int .i64 u] 3)
    (U : Nat) (hU : (u ≤ 0 ∧ U = 0) ∨ (0 < u ∧ u = (U : Int))) (E : Int) (N : Nat) (hE : (x.m ≤ (U : Int) ∧ E = 0 ∧ (N : Int) = x.m) ∨ ((U : Int) < x.m ∧ E = 3 ∧ N = U)) :
    Calls Try.prog 24 #[.pointer (some ⟨p.b, 0, none⟩), .pointer (some ⟨pm, 0, none⟩), .int .i64 k, .pointer (some ⟨ub, 0, none⟩)] w fun e w' => e = .returned (.int .i64 E) ∧ RsI w w' p L k x ub pm bm nf bs u N := by
  have c0 := h.cell
  have hL := h.map.look_some hk (map_some hf)
  have G := h.good
  have hx := G.ok hf
  have hI : Hid (RsI w w p L k x ub pm bm nf bs u 0) := ⟨by rw [show x.m - ((0 : Nat) : Int) = x.m by omega, setM_same G hf]; exact h, by rw [show u - ((0 : Nat) : Int) = u by omega]; exact ru, rr, Fr.refl _ _⟩
  have HG : Hid (GoodL L ∧ fnd L k = some x) := ⟨G, hf⟩
  have HU : Hid (I64 u ∧ ((u ≤ 0 ∧ U = 0) ∨ (0 < u ∧ u = (U : Int)))) := ⟨hu, hU⟩
  have HE : Hid ((x.m ≤ (U : Int) ∧ E = 0 ∧ (N : Int) = x.m) ∨ ((U : Int) < x.m ∧ E = 3 ∧ N = U)) := hE
  obtain ⟨g, hg⟩ : ∃ g, g = p.B x.f := ⟨_, rfl⟩
  rw [← hg] at hL
  have HB : Hid (g = p.B x.f) := hg
  have hm0 : x.m ≤ 1024 := by omega
  have hf0 : 0 ≤ x.f ∧ x.f ≤ 1024 := by omega
  clear h hk hf rr ru G hg hU hE hu hx
  go_enter Try.func24, Try.ntmps24
  go_wp2_with fail
  go_loopw [] (fun wr => ∃ j : Nat, (j : Int) ≤ x.m ∧ j ≤ U ∧ Hid (RsI w wr p L k x ub pm bm nf bs u j)) (fun wr => cellM wr g)
  case atStart =>
    have := HG.out.1.ok HG.out.2
    exact ⟨0, by omega, by omega, hI⟩
  case round =>
    obtain ⟨j, hj1, hj2, HI⟩ := hrel
    clear c0 hL hI
    have rw1 := HI.out.row HG.out.2
    rw [← HB.out] at rw1
    obtain ⟨d0, d1, d2, d3⟩ := rw1.cells
    have HM : Hid (cellM wr g = (x.m - (j : Int)).toNat) := cellM_row rw1
    dsimp only at d0 d1 d2 d3
    clear rw1
    by_cases hlt : (j : Int) < x.m
    · have hp1 : 0 < x.m - (j : Int) := by omega
      by_cases hun : j < U
      · have T := take_yes wr ub (u - j) HI.out.un (by have := HU.out.2; omega) (by have := HU.out.1.2; have := HU.out.2; omega)
        go_wp2_with fail
        refine T.mono ?_
        rintro e w1 ⟨rfl, r1, f1⟩
        clear T d0 d1 d2 d3
        obtain ⟨hp, hr, hfr⟩ := HI.out.taken f1
        have HK : Hid _ := marked HG.out.1 HG.out.2 hlt hp r1 hr hfr
        have rw1 := hp.rg _ (fnd_mem (RsI.reg HG.out.2)).1
        dsimp only at rw1
        rw [← HB.out] at rw1 HK
        obtain ⟨d0, d1, d2, d3⟩ := rw1.cells
        have z2 := rw1.frozen 2
        dsimp only at d0 d1 d2 d3
        clear rw1 hp hr hfr r1 f1 HI
        have w3 : IntKind.i64.wrap (x.m - (j : Int) - 1) = x.m - (j : Int) - 1 := w64 (by omega) (by omega)
        have w3' : wrap64 (x.m - (j : Int) - 1) = x.m - (j : Int) - 1 := w64' (by omega) (by omega)
        have rw2 : RgR (w1.setCell ⟨g, 2, none⟩ (.int .i64 (x.m - j - 1))) g ⟨x.f, x.n, x.m - ((j + 1 : Nat) : Int), x.d⟩ := by
          have := HK.out.1.rg _ (fnd_mem (RsI.reg (j := j + 1) HG.out.2)).1
          dsimp only at this
          rw [← HB.out] at this
          exact this
        have HM2 : Hid (cellM (w1.setCell ⟨g, 2, none⟩ (.int .i64 (x.m - j - 1))) g = (x.m - ((j + 1 : Nat) : Int)).toNat) := cellM_row rw2
        clear rw2
        cases hd : x.d with
        | true =>
          rw [hd] at d3
          go_wp2_with fail
          go_roundw
          case rel =>
            refine ⟨j + 1, by omega, by omega, ?_⟩
            obtain ⟨a1, a2, a3, a4⟩ := HK.out
            refine ⟨a1, a2, ?_, a4⟩
            unfold clrN
            rw [if_pos hd]
            exact a3
          case measure =>
            have := HM.out
            have := HM2.out
            omega
        | false =>
          rw [hd] at d3
          obtain ⟨a1, a2, a3, a4⟩ := HK.out
          have HC : Hid _ := fun w2 => cleared (w2 := w2) hd a1 a2 a3 a4
          have w4 : IntKind.i64.wrap (x.f + (x.m - (j : Int) - 1)) = x.f + (x.m - (j : Int) - 1) := w64 (by omega) (by omega)
          have w4' : wrap64 (x.f + (x.m - (j : Int) - 1)) = x.f + (x.m - (j : Int) - 1) := w64' (by omega) (by omega)
          have A3 := a3.keep (Fr.refl none' _).drew (fun h => h) (fun h => h)
          clear a1 a2 a4 HK
          go_wp2_with fail
          go_region_with (go_at_call 42; refine (clear_any _ pm bm nf _ _ A3).mono ?_; rintro e w2 ⟨⟨z, rfl⟩, f2, r2⟩)
          all_goals go_wp2_with fail
          all_goals have HN : Hid (RsI w w2 p L k x ub pm bm nf bs u (j + 1)) := HC.out w2 ((Fr.refl _ _).drew.trans f2) r2
          all_goals clear HC f2 r2
          all_goals have rw3 := HN.out.row HG.out.2
          all_goals rw [← HB.out] at rw3
          all_goals have HM3 : Hid (cellM w2 g = (x.m - ((j + 1 : Nat) : Int)).toNat) := cellM_row rw3
          all_goals clear rw3
          all_goals go_roundw
          all_goals first
            | exact ⟨j + 1, by omega, by omega, HN⟩
            | (have := HM.out; have := HM3.out; omega)
      · have T := take_no wr ub (u - j) HI.out.un (by have := HU.out.2; omega)
        go_wp2_with fail
        refine T.mono ?_
        rintro e w1 ⟨rfl, rfl⟩
        go_wp2_with fail
        go_ret
        have := HE.out
        obtain rfl : E = 3 := by omega
        obtain rfl : N = j := by omega
        exact ⟨rfl, HI.out⟩
    · have hp1 : ¬ 0 < x.m - (j : Int) := by omega
      go_wp2_with fail
      go_ret
      have := HE.out
      obtain rfl : E = 0 := by omega
      obtain rfl : N = j := by omega
      exact ⟨rfl, HI.out⟩

theorem reset_any (w : World) (p : Pb) (L : List Rg) (h : IsP w p L) (k : Int) (hk : I64 k) (ub pm bm nf : Nat) (bs : List UInt8) (u : Int) (hu : I64 u) (rr : IsRam w pm bm nf bs) (ru : Row w ub #[.int .i64 u] 3) :
    Calls Try.prog 24 #[.pointer (some ⟨p.b, 0, none⟩), .pointer (some ⟨pm, 0, none⟩), .int .i64 k, .pointer (some ⟨ub, 0, none⟩)] w fun e w' => e = .returned (.int .i64 (rstE L k u)) ∧ IsP w' p (rstS L k u) ∧ Row w' ub #[.int .i64 (rstU L k u)] 3 ∧ IsRam w' pm bm nf (rstB L k u nf bs) ∧ Fr (fun q => p.s L q ∨ q = ub ∨ q = bm) w w' := by
  unfold rstE rstS rstU rstB
  cases hf : fnd L k with
  | none =>
    refine (reset_none w p L h k hk hf _ _).mono ?_
    rintro e w' ⟨rfl, rfl⟩
    exact ⟨rfl, h, ru, rr, Fr.refl _ _⟩
  | some x =>
    have hx := h.good.ok hf
    have hN : ((rstN u x.m).toNat : Int) = rstN u x.m := by unfold rstN; omega
    refine (reset_core w p L h k hk x hf ub pm bm nf bs u hu rr ru (max 0 u).toNat (by omega) (if x.m ≤ max 0 u then 0 else 3) (rstN u x.m).toNat ?_).mono ?_
    · unfold rstN
      split
      · left; omega
      · right; omega
    · rintro e w' ⟨rfl, r⟩
      refine ⟨rfl, ?_, ?_, r.ram, r.fr⟩
      · have := r.isP; rw [hN] at this; exact this
      · have := r.un; rw [hN] at this; exact this

theorem s_rst {p : Pb} {L : List Rg} {k u : Int} {q : Nat} : p.s (rstS L k u) q → p.s L q := by
  unfold rstS
  cases fnd L k with
  | none => exact fun h => h
  | some x => exact s_setM

end Go.Proofs.Ytcmhndkbcfpbbaa
