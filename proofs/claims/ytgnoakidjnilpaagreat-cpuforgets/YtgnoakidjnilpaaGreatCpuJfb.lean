/-
  Proved: the statement CpuForgetsSaid: for every world, every state and every number the law CpuForgets of the Go text returns true, and each argument reads afterwards as it read before. No condition but the form's own.
-/
import Derived.Test.YtgnoakidjnilpaaGreatCpuJfa
import Derived.ChangeKeysEq
import Derived.Deep.CutRange
import Derived.Test.YtgnoakidjnilpaaGreatCpuJb
import Derived.Test.YtgnoakidjnilpaaGreatFrame
import Derived.Test.YtgnoakidjnilpaaGreatSame
import Derived.Test.YtgnoakidjnilpaaGreatGrow
import Derived.Test.YtgnoakidjnilpaaGreatRefFrame
import Derived.Deep.CutBlock
import Derived.Test.YtgnoakidjnilpaaGreatRows
import Derived.Test.YtgnoakidjnilpaaGreatBase
import Derived.Deep.Fields
import Derived.SizedLaws
import Derived.OpenShut
import Derived.ShutString
import Derived.ChangeOld
/- CpuExPure -/
namespace Go.Proofs.YtgnoakidjnilpaaGreat
open Go.RowKit

theorem ex_fetch (W : Nat) : nested (exB W) 16 (-1) 3 0 4 = ⟨1, 5, f0⟩ := by kernel_rfl
theorem ex_bytes (W : Nat) : ((exB W).drop 64).take 4 = bytesOf 4 W := by kernel_rfl
theorem ex_word (W : Nat) (hW : W < 4294967296) : loadV (exB W) 64 4 16 = (W : Int) := by
  have h : errOf 64 4 16 = 0 := by decide
  unfold loadV
  rw [if_pos h]
  show ((numOf (((exB W).drop 64).take 4) : Nat) : Int) = _
  rw [ex_bytes, numOf_bytesOf, Nat.mod_eq_of_lt (by simpa using hW)]

theorem ex_idx (page : Int) : idx (fun _ => zl) 1 0 page 8 = -1 := idx_none (fun j _ => by unfold hit; simp [zl, emp, leq])

/-- The machine behind the fetch; the work behind it. -/
def exM (W : Nat) (g : Bool) : Mc := rcM (M0 (exB W) g) 16 1 0 (-1) 3 0 4 0
def exX (W : Nat) (c : Cp) : Wk := ⟨0, 0, none, 1, 0, -1, 3, 0, 0, W, (dOp (W : Int)).toNat, (dA (W : Int)).toNat, (dB (W : Int)).toNat, (dC (W : Int)).toNat, (dI (W : Int)).toNat, c.setP 4⟩

theorem ex_reach (W : Nat) (g : Bool) : rcF (M0 (exB W) g) 16 1 0 (-1) 3 0 4 = f0 ∧ rcP (M0 (exB W) g) 16 1 0 (-1) 3 0 4 = 64 := by
  have hi : hitR (M0 (exB W) g).T 1 0 0 4 = false := by
    show hitR (fun _ => zl) 1 0 0 4 = false
    unfold hitR
    rw [ex_idx]
    rfl
  have hx : reachX (M0 (exB W) g).bs 16 (M0 (exB W) g).T 1 0 (-1) 3 0 4 = f0 := by
    unfold reachX
    rw [if_neg (by rw [hi]; decide)]
    show (nested (exB W) 16 (-1) 3 0 4).ft = f0
    rw [ex_fetch]
  have hf : reachF (M0 (exB W) g).bs 16 (M0 (exB W) g).T 1 0 (-1) 3 0 4 = 1 := by
    unfold reachF
    rw [if_neg (by rw [hi]; decide)]
    show (nested (exB W) 16 (-1) 3 0 4).fr = 1
    rw [ex_fetch]
  have h1 : rcF (M0 (exB W) g) 16 1 0 (-1) 3 0 4 = f0 := by
    unfold rcF
    show (if (reachX (M0 (exB W) g).bs 16 (M0 (exB W) g).T 1 0 (-1) 3 0 4).k ≠ 0 then _ else if ((16 : Nat) : Int) ≤ reachF (M0 (exB W) g).bs 16 (M0 (exB W) g).T 1 0 (-1) 3 0 4 then _ else f0) = f0
    rw [hx, hf]
    rfl
  refine ⟨h1, ?_⟩
  unfold rcP
  rw [h1]
  show (if f0.k ≠ 0 then 0 else reachF (M0 (exB W) g).bs 16 (M0 (exB W) g).T 1 0 (-1) 3 0 4 * 64 + 0 % 64) = 64
  rw [hf]
  rfl

theorem ex_step (W : Nat) (hW : W < 4294967296) (hd : i_decOk (W : Int) = true) (g : Bool) (c : Cp) (hp : c.pc = 0) (hf : spF g c = -1) (ha : spA g c = 0) (hg : isG (exX W c).op = false ∨ g = true) :
    stepR 16 (M0 (exB W) g) c 1 3 0 = ((exec 16 (exM W g) (exX W c)).1, stC c (exec 16 (exM W g) (exX W c)), (exec 16 (exM W g) (exX W c)).2.2) := by
  have hb : ¬ c.bad := by unfold Cp.bad; rw [hp]; decide
  have hv : (M0 (exB W) g).V.isSome = g := by cases g <;> rfl
  have hw : wkP g c 1 3 0 = ⟨0, 0, none, 1, 0, -1, 3, 0, 0, 0, 0, 0, 0, 0, 0, c.setP 4⟩ := by unfold wkP; rw [hf, ha, hp]; rfl
  have hfx : fX 16 (M0 (exB W) g) (wkP g c 1 3 0) = ⟨0, 0, none, 1, 0, -1, 3, 0, 0, W, 0, 0, 0, 0, 0, c.setP 4⟩ := by
    rw [hw]
    unfold fX
    show ({ p := 0, t := 0, v := none, vm := 1, sd := 0, fi := -1, se := 3, ix := 0, pc := 0, wd := (loadV (exB W) (rcP (M0 (exB W) g) 16 1 0 (-1) 3 0 4) 4 16).toNat, op := 0, a := 0, b := 0, c := 0, imm := 0, z := c.setP 4 } : Wk) = _
    rw [(ex_reach W g).2, ex_word W hW, Int.toNat_natCast]
  have hD : doR 16 (M0 (exB W) g) (wkP g c 1 3 0) = exec 16 (exM W g) (exX W c) := by
    unfold doR
    rw [hfx, hw]
    show (if (rcF (M0 (exB W) g) 16 1 0 (-1) 3 0 4).k ≠ 0 then _ else if i_decOk (W : Int) = false then _ else if isG (exX W c).op = true ∧ (M0 (exB W) g).V = none then _ else exec 16 (exM W g) (exX W c)) = _
    rw [(ex_reach W g).1, if_neg (by decide), if_neg (by rw [hd]; decide), if_neg ?_]
    rintro ⟨h1, h2⟩
    rcases hg with hg | hg
    · rw [hg] at h1; exact absurd h1 (by decide)
    · subst hg; exact absurd h2 (by intro h; cases h)
  unfold stepR
  rw [if_neg hb, hv, hD]

/-- States held against each other. -/
def ceq (c d : Cp) : Bool := (List.range 16).all (fun i => ((c.r i : Nat) : Int) == ((d.r i : Nat) : Int)) && (c.pc == d.pc && (List.range 8).all (fun i => ((c.s i : Nat) : Int) == ((d.s i : Nat) : Int)))
theorem ceq_self (c : Cp) : ceq c c = true := by simp [ceq]

theorem part_u32 {xs : Array Value} {i : Nat} {x : Int} (h : xs[i]? = some (.int .u32 x)) (w : World) : (part 26 xs i).run Tryz.prog w = .ok (.int .u32 x) w := by
  simp [part, isAgg, run_underlying Tryz.underlying26, h]

theorem eqItems_u32 (d : Nat) (xs ys : Array Value) (f g : Nat → Int) (w : World) : ∀ is : List Nat, (∀ i ∈ is, xs[i]? = some (.int .u32 (f i)) ∧ ys[i]? = some (.int .u32 (g i))) → (Op.eqItems (d + 1) 26 1 xs ys is).run Tryz.prog w = .ok (is.all (fun i => f i == g i)) w
  | [], _ => by simp [Op.eqItems]
  | i :: is, h => by
    have h1 := h i (by simp)
    have ih := eqItems_u32 d xs ys f g w is (fun j hj => h j (by simp [hj]))
    have p1 := part_u32 (i := i * 1) (by rw [Nat.mul_one]; exact h1.1) w
    have p2 := part_u32 (i := i * 1) (by rw [Nat.mul_one]; exact h1.2) w
    simp only [Op.eqItems, Sem.run_bind, p1, p2, Result.andThen_ok, run_equalIn_int w d 26 .u32 .u32 (f i) (g i) Tryz.underlying26]
    cases hh : (f i == g i) with
    | false => simp [hh]
    | true => simp [hh, ih]

theorem cells_u32 : Tryz.prog.cellsOf 26 = 1 := by kernel_rfl
theorem info_u32 : ∃ i, Tryz.prog.info? 26 = some i := by
  have h : (Tryz.prog.info? 26).isSome = true := by kernel_rfl
  exact Option.isSome_iff_exists.1 h

theorem eq_regs (c d : Cp) (w : World) : (Op.equalIn 9999 27 (.agg #[.int .u32 ((c.r 0 : Nat) : Int), .int .u32 ((c.r 1 : Nat) : Int), .int .u32 ((c.r 2 : Nat) : Int), .int .u32 ((c.r 3 : Nat) : Int), .int .u32 ((c.r 4 : Nat) : Int), .int .u32 ((c.r 5 : Nat) : Int), .int .u32 ((c.r 6 : Nat) : Int), .int .u32 ((c.r 7 : Nat) : Int), .int .u32 ((c.r 8 : Nat) : Int), .int .u32 ((c.r 9 : Nat) : Int), .int .u32 ((c.r 10 : Nat) : Int), .int .u32 ((c.r 11 : Nat) : Int), .int .u32 ((c.r 12 : Nat) : Int), .int .u32 ((c.r 13 : Nat) : Int), .int .u32 ((c.r 14 : Nat) : Int), .int .u32 ((c.r 15 : Nat) : Int)]) (.agg #[.int .u32 ((d.r 0 : Nat) : Int), .int .u32 ((d.r 1 : Nat) : Int), .int .u32 ((d.r 2 : Nat) : Int), .int .u32 ((d.r 3 : Nat) : Int), .int .u32 ((d.r 4 : Nat) : Int), .int .u32 ((d.r 5 : Nat) : Int), .int .u32 ((d.r 6 : Nat) : Int), .int .u32 ((d.r 7 : Nat) : Int), .int .u32 ((d.r 8 : Nat) : Int), .int .u32 ((d.r 9 : Nat) : Int), .int .u32 ((d.r 10 : Nat) : Int), .int .u32 ((d.r 11 : Nat) : Int), .int .u32 ((d.r 12 : Nat) : Int), .int .u32 ((d.r 13 : Nat) : Int), .int .u32 ((d.r 14 : Nat) : Int), .int .u32 ((d.r 15 : Nat) : Int)])).run Tryz.prog w = .ok ((List.range 16).all (fun i => ((c.r i : Nat) : Int) == ((d.r i : Nat) : Int))) w := by
  obtain ⟨i, hi⟩ := info_u32
  rw [show (9999 : Nat) = 9998 + 1 by rfl, run_equalIn_array w 9998 _ _ Tryz.underlying27 hi, cells_u32]
  refine eqItems_u32 9997 _ _ (fun i => ((c.r i : Nat) : Int)) (fun i => ((d.r i : Nat) : Int)) w _ (fun j hj => ?_)
  have hj' : j < 16 := List.mem_range.1 hj
  have : j = 0 ∨ j = 1 ∨ j = 2 ∨ j = 3 ∨ j = 4 ∨ j = 5 ∨ j = 6 ∨ j = 7 ∨ j = 8 ∨ j = 9 ∨ j = 10 ∨ j = 11 ∨ j = 12 ∨ j = 13 ∨ j = 14 ∨ j = 15 := by omega
  rcases this with rfl | rfl | rfl | rfl | rfl | rfl | rfl | rfl | rfl | rfl | rfl | rfl | rfl | rfl | rfl | rfl <;> exact ⟨rfl, rfl⟩
theorem eq_syss (c d : Cp) (w : World) : (Op.equalIn 9999 28 (.agg #[.int .u32 ((c.s 0 : Nat) : Int), .int .u32 ((c.s 1 : Nat) : Int), .int .u32 ((c.s 2 : Nat) : Int), .int .u32 ((c.s 3 : Nat) : Int), .int .u32 ((c.s 4 : Nat) : Int), .int .u32 ((c.s 5 : Nat) : Int), .int .u32 ((c.s 6 : Nat) : Int), .int .u32 ((c.s 7 : Nat) : Int)]) (.agg #[.int .u32 ((d.s 0 : Nat) : Int), .int .u32 ((d.s 1 : Nat) : Int), .int .u32 ((d.s 2 : Nat) : Int), .int .u32 ((d.s 3 : Nat) : Int), .int .u32 ((d.s 4 : Nat) : Int), .int .u32 ((d.s 5 : Nat) : Int), .int .u32 ((d.s 6 : Nat) : Int), .int .u32 ((d.s 7 : Nat) : Int)])).run Tryz.prog w = .ok ((List.range 8).all (fun i => ((c.s i : Nat) : Int) == ((d.s i : Nat) : Int))) w := by
  obtain ⟨i, hi⟩ := info_u32
  rw [show (9999 : Nat) = 9998 + 1 by rfl, run_equalIn_array w 9998 _ _ Tryz.underlying28 hi, cells_u32]
  refine eqItems_u32 9997 _ _ (fun i => ((c.s i : Nat) : Int)) (fun i => ((d.s i : Nat) : Int)) w _ (fun j hj => ?_)
  have hj' : j < 8 := List.mem_range.1 hj
  have : j = 0 ∨ j = 1 ∨ j = 2 ∨ j = 3 ∨ j = 4 ∨ j = 5 ∨ j = 6 ∨ j = 7 := by omega
  rcases this with rfl | rfl | rfl | rfl | rfl | rfl | rfl | rfl <;> exact ⟨rfl, rfl⟩

set_option maxHeartbeats 2000000 in
theorem neq_cpu (c d : Cp) (w : World) : (binOp .neq 30 (.agg (cpA c)) (.agg (cpA d))).run Tryz.prog w = .ok (.bool !(ceq c d)) w := by
  have h1 := eq_regs c d
  have h2 := eq_syss c d
  unfold ceq
  obtain ⟨x, hx⟩ : ∃ x, (List.range 16).all (fun i => ((c.r i : Nat) : Int) == ((d.r i : Nat) : Int)) = x := ⟨_, rfl⟩
  obtain ⟨y, hy⟩ : ∃ y, (List.range 8).all (fun i => ((c.s i : Nat) : Int) == ((d.s i : Nat) : Int)) = y := ⟨_, rfl⟩
  rw [hx] at h1 ⊢
  rw [hy] at h2 ⊢
  rw [cpA_eq, cpA_eq]
  clear hx hy
  cases x <;> cases y <;> cases hp : (c.pc == d.pc) <;> simp [go_sem, h1, h2, hp]
set_option maxHeartbeats 2000000 in
theorem eql_cpu (c d : Cp) (w : World) : (binOp .eql 30 (.agg (cpA c)) (.agg (cpA d))).run Tryz.prog w = .ok (.bool (ceq c d)) w := by
  have h1 := eq_regs c d
  have h2 := eq_syss c d
  unfold ceq
  obtain ⟨x, hx⟩ : ∃ x, (List.range 16).all (fun i => ((c.r i : Nat) : Int) == ((d.r i : Nat) : Int)) = x := ⟨_, rfl⟩
  obtain ⟨y, hy⟩ : ∃ y, (List.range 8).all (fun i => ((c.s i : Nat) : Int) == ((d.s i : Nat) : Int)) = y := ⟨_, rfl⟩
  rw [hx] at h1 ⊢
  rw [hy] at h2 ⊢
  rw [cpA_eq, cpA_eq]
  clear hx hy
  cases x <;> cases y <;> cases hp : (c.pc == d.pc) <;> simp [go_sem, h1, h2, hp]

end Go.Proofs.YtgnoakidjnilpaaGreat

/- CpuSysP -/
namespace Go.Proofs.YtgnoakidjnilpaaGreat
open Go.RowKit

def cin (w : Nat) : Cp := (zc.setR 2 w).setS 6 77
theorem cin_ok {w : Nat} (h : w < 4294967296) : (cin w).Ok := (zc_ok.setR 2 h).setS 6 (by decide)
def W1 (n : Nat) : Nat := 335675392 + n
def W2 (n : Nat) : Nat := 321912832 + n
theorem enc1 {n : Nat} (h : n < 65536) : i_encW 20 0 2 0 (n : Int) = (W1 n : Int) := by
  have hr : rightI 20 0 2 0 (n : Int) = true := by
    simp [rightI, kf, hA, hB, hC, hI, fld]
    omega
  unfold i_encW
  rw [if_pos hr]
  unfold wordI W1
  omega
theorem enc2 {n : Nat} (h : n < 65536) : i_encW 19 3 0 0 (n : Int) = (W2 n : Int) := by
  have hr : rightI 19 3 0 0 (n : Int) = true := by
    simp [rightI, kf, hA, hB, hC, hI, fld]
    omega
  unfold i_encW
  rw [if_pos hr]
  unfold wordI W2
  omega

theorem dec1 {n : Nat} (h : n < 65536) : i_decOk (W1 n : Int) = true ∧ dOp (W1 n : Int) = 20 ∧ dA (W1 n : Int) = 0 ∧ dB (W1 n : Int) = 2 ∧ dC (W1 n : Int) = 0 ∧ dI (W1 n : Int) = n := by
  have hr : rightI 20 0 2 0 (n : Int) = true := by
    simp [rightI, kf, hA, hB, hC, hI, fld]
    omega
  have hw : (W1 n : Int) = wordI 20 0 2 0 (n : Int) := by unfold W1 wordI; omega
  obtain ⟨h1, h2, h3, h4, h5, h6⟩ := i_dec_back hr
  rw [hw]
  refine ⟨?_, h1, h2, h3, h4, h5⟩
  cases hd : i_decOk (wordI 20 0 2 0 (n : Int)) with
  | true => rfl
  | false => unfold dE at h6; rw [if_neg (by rw [hd]; decide)] at h6; exact absurd h6 (by decide)
theorem dec2 {n : Nat} (h : n < 65536) : i_decOk (W2 n : Int) = true ∧ dOp (W2 n : Int) = 19 ∧ dA (W2 n : Int) = 3 ∧ dB (W2 n : Int) = 0 ∧ dC (W2 n : Int) = 0 ∧ dI (W2 n : Int) = n := by
  have hr : rightI 19 3 0 0 (n : Int) = true := by
    simp [rightI, kf, hA, hB, hC, hI, fld]
    omega
  have hw : (W2 n : Int) = wordI 19 3 0 0 (n : Int) := by unfold W2 wordI; omega
  obtain ⟨h1, h2, h3, h4, h5, h6⟩ := i_dec_back hr
  rw [hw]
  refine ⟨?_, h1, h2, h3, h4, h5⟩
  cases hd : i_decOk (wordI 19 3 0 0 (n : Int)) with
  | true => rfl
  | false => unfold dE at h6; rw [if_neg (by rw [hd]; decide)] at h6; exact absurd h6 (by decide)

theorem exX1 {n : Nat} (h : n < 65536) (c : Cp) : exX (W1 n) c = ⟨0, 0, none, 1, 0, -1, 3, 0, 0, W1 n, 20, 0, 2, 0, n, c.setP 4⟩ := by
  obtain ⟨_, h1, h2, h3, h4, h5⟩ := dec1 h
  unfold exX
  rw [h1, h2, h3, h4, h5, Int.toNat_natCast]
  rfl
theorem exX2 {n : Nat} (h : n < 65536) (c : Cp) : exX (W2 n) c = ⟨0, 0, none, 1, 0, -1, 3, 0, 0, W2 n, 19, 3, 0, 0, n, c.setP 4⟩ := by
  obtain ⟨_, h1, h2, h3, h4, h5⟩ := dec2 h
  unfold exX
  rw [h1, h2, h3, h4, h5, Int.toNat_natCast]
  rfl

theorem sp_low {c : Cp} (h : c.s 0 = 0) : spF true c = -1 ∧ spA true c = 0 := by
  unfold spF spA
  rw [h]
  exact ⟨rfl, rfl⟩

theorem sys1_hi {n w : Nat} (h : n < 65536) (hn : 5 < n) : (stepR 16 (M0 (exB (W1 n)) true) (cin w) 1 3 0).2.1 = cin w ∧ (stepR 16 (M0 (exB (W1 n)) true) (cin w) 1 3 0).2.2 = ⟨7, n, 0, f0⟩ := by
  rw [ex_step (W1 n) (by unfold W1; omega) (dec1 h).1 true (cin w) rfl (sp_low rfl).1 (sp_low rfl).2 (Or.inr rfl), exX1 h]
  have e : exec 16 (exM (W1 n) true) ⟨0, 0, none, 1, 0, -1, 3, 0, 0, W1 n, 20, 0, 2, 0, n, (cin w).setP 4⟩ = (wrM (exM (W1 n) true) (exM (W1 n) true).S ⟨0, 0, none, 1, 0, -1, 3, 0, 0, W1 n, 20, 0, 2, 0, n, (cin w).setP 4⟩, wrX ⟨0, 0, none, 1, 0, -1, 3, 0, 0, W1 n, 20, 0, 2, 0, n, (cin w).setP 4⟩, wrT ⟨0, 0, none, 1, 0, -1, 3, 0, 0, W1 n, 20, 0, 2, 0, n, (cin w).setP 4⟩) := rfl
  have ht : wrT ⟨0, 0, none, 1, 0, -1, 3, 0, 0, W1 n, 20, 0, 2, 0, n, (cin w).setP 4⟩ = ⟨7, n, 0, f0⟩ := if_pos (show (5 : Int) < (n : Int) by omega)
  rw [e]
  refine ⟨?_, ht⟩
  show (if (wrT ⟨0, 0, none, 1, 0, -1, 3, 0, 0, W1 n, 20, 0, 2, 0, n, (cin w).setP 4⟩).ca = 0 ∨ (wrT ⟨0, 0, none, 1, 0, -1, 3, 0, 0, W1 n, 20, 0, 2, 0, n, (cin w).setP 4⟩).ca = 10 then _ else cin w) = cin w
  rw [ht]
  rfl
theorem sys1_lo {n w : Nat} (h : n ≤ 5) : (stepR 16 (M0 (exB (W1 n)) true) (cin w) 1 3 0).2.1 = ((cin w).setP 4).setS n w ∧ (stepR 16 (M0 (exB (W1 n)) true) (cin w) 1 3 0).2.2 = t0 := by
  rw [ex_step (W1 n) (by unfold W1; omega) (dec1 (by omega)).1 true (cin w) rfl (sp_low rfl).1 (sp_low rfl).2 (Or.inr rfl), exX1 (by omega)]
  have e : exec 16 (exM (W1 n) true) ⟨0, 0, none, 1, 0, -1, 3, 0, 0, W1 n, 20, 0, 2, 0, n, (cin w).setP 4⟩ = (wrM (exM (W1 n) true) (exM (W1 n) true).S ⟨0, 0, none, 1, 0, -1, 3, 0, 0, W1 n, 20, 0, 2, 0, n, (cin w).setP 4⟩, wrX ⟨0, 0, none, 1, 0, -1, 3, 0, 0, W1 n, 20, 0, 2, 0, n, (cin w).setP 4⟩, wrT ⟨0, 0, none, 1, 0, -1, 3, 0, 0, W1 n, 20, 0, 2, 0, n, (cin w).setP 4⟩) := rfl
  have ht : wrT ⟨0, 0, none, 1, 0, -1, 3, 0, 0, W1 n, 20, 0, 2, 0, n, (cin w).setP 4⟩ = t0 := if_neg (show ¬ (5 : Int) < (n : Int) by omega)
  have hx : wrX ⟨0, 0, none, 1, 0, -1, 3, 0, 0, W1 n, 20, 0, 2, 0, n, (cin w).setP 4⟩ = ⟨0, 0, none, 1, 0, -1, 3, 0, 0, W1 n, 20, 0, 2, 0, n, ((cin w).setP 4).setS n w⟩ := if_neg (show ¬ (5 : Int) < (n : Int) by omega)
  rw [e]
  refine ⟨?_, ht⟩
  show (if (wrT ⟨0, 0, none, 1, 0, -1, 3, 0, 0, W1 n, 20, 0, 2, 0, n, (cin w).setP 4⟩).ca = 0 ∨ (wrT ⟨0, 0, none, 1, 0, -1, 3, 0, 0, W1 n, 20, 0, 2, 0, n, (cin w).setP 4⟩).ca = 10 then (wrX ⟨0, 0, none, 1, 0, -1, 3, 0, 0, W1 n, 20, 0, 2, 0, n, (cin w).setP 4⟩).z else cin w) = _
  rw [ht, hx]
  rfl
theorem sys2_hi {n : Nat} (h : n < 65536) (hn : 6 < n) (c : Cp) (hp : c.pc = 0) (hs : c.s 0 = 0) : (stepR 16 (M0 (exB (W2 n)) true) c 1 3 0).2.1 = c ∧ (stepR 16 (M0 (exB (W2 n)) true) c 1 3 0).2.2 = ⟨7, n, 0, f0⟩ := by
  rw [ex_step (W2 n) (by unfold W2; omega) (dec2 h).1 true c hp (sp_low hs).1 (sp_low hs).2 (Or.inr rfl), exX2 h]
  have e : exec 16 (exM (W2 n) true) ⟨0, 0, none, 1, 0, -1, 3, 0, 0, W2 n, 19, 3, 0, 0, n, c.setP 4⟩ = (exM (W2 n) true, rdX ⟨0, 0, none, 1, 0, -1, 3, 0, 0, W2 n, 19, 3, 0, 0, n, c.setP 4⟩, rdT ⟨0, 0, none, 1, 0, -1, 3, 0, 0, W2 n, 19, 3, 0, 0, n, c.setP 4⟩) := rfl
  have ht : rdT ⟨0, 0, none, 1, 0, -1, 3, 0, 0, W2 n, 19, 3, 0, 0, n, c.setP 4⟩ = ⟨7, n, 0, f0⟩ := if_pos (show (6 : Int) < (n : Int) by omega)
  rw [e]
  refine ⟨?_, ht⟩
  show (if (rdT ⟨0, 0, none, 1, 0, -1, 3, 0, 0, W2 n, 19, 3, 0, 0, n, c.setP 4⟩).ca = 0 ∨ (rdT ⟨0, 0, none, 1, 0, -1, 3, 0, 0, W2 n, 19, 3, 0, 0, n, c.setP 4⟩).ca = 10 then _ else c) = c
  rw [ht]
  rfl
theorem sys2_lo {n : Nat} (h : n ≤ 6) (c : Cp) (hp : c.pc = 0) (hs : c.s 0 = 0) : (stepR 16 (M0 (exB (W2 n)) true) c 1 3 0).2.1 = (c.setP 4).setR 3 (c.s n) ∧ (stepR 16 (M0 (exB (W2 n)) true) c 1 3 0).2.2 = t0 := by
  rw [ex_step (W2 n) (by unfold W2; omega) (dec2 (by omega)).1 true c hp (sp_low hs).1 (sp_low hs).2 (Or.inr rfl), exX2 (by omega)]
  have e : exec 16 (exM (W2 n) true) ⟨0, 0, none, 1, 0, -1, 3, 0, 0, W2 n, 19, 3, 0, 0, n, c.setP 4⟩ = (exM (W2 n) true, rdX ⟨0, 0, none, 1, 0, -1, 3, 0, 0, W2 n, 19, 3, 0, 0, n, c.setP 4⟩, rdT ⟨0, 0, none, 1, 0, -1, 3, 0, 0, W2 n, 19, 3, 0, 0, n, c.setP 4⟩) := rfl
  have ht : rdT ⟨0, 0, none, 1, 0, -1, 3, 0, 0, W2 n, 19, 3, 0, 0, n, c.setP 4⟩ = t0 := if_neg (show ¬ (6 : Int) < (n : Int) by omega)
  have hx : rdX ⟨0, 0, none, 1, 0, -1, 3, 0, 0, W2 n, 19, 3, 0, 0, n, c.setP 4⟩ = ⟨0, 0, none, 1, 0, -1, 3, 0, 0, W2 n, 19, 3, 0, 0, n, (c.setP 4).setR 3 (c.s n)⟩ := if_neg (show ¬ (6 : Int) < (n : Int) by omega)
  rw [e]
  refine ⟨?_, ht⟩
  show (if (rdT ⟨0, 0, none, 1, 0, -1, 3, 0, 0, W2 n, 19, 3, 0, 0, n, c.setP 4⟩).ca = 0 ∨ (rdT ⟨0, 0, none, 1, 0, -1, 3, 0, 0, W2 n, 19, 3, 0, 0, n, c.setP 4⟩).ca = 10 then (rdX ⟨0, 0, none, 1, 0, -1, 3, 0, 0, W2 n, 19, 3, 0, 0, n, c.setP 4⟩).z else c) = _
  rw [ht, hx]
  rfl

end Go.Proofs.YtgnoakidjnilpaaGreat

/- CpuSystemA -/
namespace Go.Proofs.YtgnoakidjnilpaaGreat
open Go.RowKit

/-- Step of a guest's example, what it leaves said outright. -/
theorem exSt (w : World) (B : Bm) (b : Bk) (bs : List UInt8) (c c' : Cp) (t : Tr) (T : Array Value) (hv : B.v = some b) (hok : c.Ok) (hM : IsMc w B 16 (M0 bs true)) (hc : (stepR 16 (M0 bs true) c 1 3 0).2.1 = c' ∧ (stepR 16 (M0 bs true) c 1 3 0).2.2 = t) (hT : trL t = T) :
    Calls Tryz.prog 9 #[.agg #[.pointer (some ⟨B.p, 0, none⟩), .pointer (some ⟨B.bt, 0, none⟩), .pointer (some ⟨b.b, 0, none⟩)], .agg (cpA c), .int .i64 1, .int .i64 3, .int .i64 0] w fun e w' => e = .returned (.tuple #[.agg (cpA c'), .agg T]) ∧ Fr B.s w w' := by
  have h := Step_any w B 16 (M0 bs true) c hok 1 3 0 hM (M0_few bs true) (by decide)
  rw [hv, hc.1, hc.2, hT] at h
  exact h.mono (fun e w' ⟨a, f, _, o⟩ => ⟨a, f⟩)

theorem isMc_at {w w' : World} {B : Bm} {g : Nat} {nf : Nat} {M : Mc} (h : IsMc w B nf M) (f : Fr (at' g) w w') (h1 : ∀ k, (B.s k ∨ k = B.p) → k ≠ g) : IsMc w' B nf M :=
  h.keep f (h1 _ (Or.inr rfl)) (h1 _ (Or.inl (Or.inl rfl))) (h1 _ (Or.inl (Or.inr (Or.inl rfl)))) (fun k hk => h1 k (Or.inl (Or.inr (Or.inr hk))))

theorem load_partG {P : Program} {ops : Array Oper} {rest : List Oper} {o : Oper} {a : Act} {w : World} {Q : Exit → Act → World → Prop} (hgd : Region.wanted o (yielded ops a.tmps) = true) (ty : TypeId) (x : Operand) (ho : o.op = .load ty x)
    (g : Nat) (hx : a.eval x = .pointer (some ⟨g, 0, none⟩)) (cs : Array Value) (d : TypeDesc) (hc : ∀ j v, cs[j]? = some v → w.cell? ⟨g, j, none⟩ = some v)
    (hu : P.underlying ty = some d) (hd : (match d with | .struct _ | .array _ _ => true | _ => false) = true) (hi : (P.info? ty).map (·.size) = some cs.size)
    (h : wpList P ops Q rest (a.put o.dst (.agg cs)) w) : wpList P ops Q (o :: rest) a w := by
  refine BigFrame.wpList_want hgd fun K hK => ?_
  have hl : (loadCells ⟨g, 0, none⟩ cs.toList.length).run P w = .ok cs.toList.toArray w :=
    run_loadCells_list (P := P) w ⟨g, 0, none⟩ cs.toList (fun j v hv => by
      rw [add_lit', Nat.zero_add]
      exact hc j v (by simpa using hv))
  have hv : (loadVar ty ⟨g, 0, none⟩).run P w = .ok (.agg cs) w := by
    cases hq : P.info? ty with
    | none => simp [hq] at hi
    | some i =>
      have hs : i.size = cs.size := by simpa [hq] using hi
      have hagg : (isAgg ty).run P w = .ok true w := by
        unfold isAgg
        rw [Sem.run_bind, run_underlying hu w]
        cases d <;> simp_all
      simp only [Array.length_toList, Array.toArray_toList] at hl
      simp [loadVar, Sem.run_bind, hagg, sizeOf, typeInfo, hq, hs, hl]
  unfold Oper.wp execOp
  simp only [ho, hx, Instr.loadAt, Instr.sureAddr, Sem.run_bind, Sem.run_pure, Result.andThen_ok, hv]
  exact hK _ _ h

theorem cpA_setP (c : Cp) (x : Int) : (cpA c).setIfInBounds 16 (.int .i64 x) = cpA (c.setP x) := rfl
theorem cpA_set0 (c : Cp) : (cpA c).setIfInBounds 17 (.int .u32 0) = cpA (c.setS 0 0) := rfl
theorem cinA (x : Nat) : ((#[.int .u32 0, .int .u32 0, .int .u32 0, .int .u32 0, .int .u32 0, .int .u32 0, .int .u32 0, .int .u32 0, .int .u32 0, .int .u32 0, .int .u32 0, .int .u32 0, .int .u32 0, .int .u32 0, .int .u32 0, .int .u32 0, .int .i64 0, .int .u32 0, .int .u32 0, .int .u32 0, .int .u32 0, .int .u32 0, .int .u32 0, .int .u32 0, .int .u32 0] : Array Value).setIfInBounds 2 (.int .u32 (x : Int))).setIfInBounds 23 (.int .u32 77) = cpA (cin x) := rfl
theorem cp_at {w : World} {g : Nat} {c : Cp} {t : TypeId} (h : Row w g (cpA c) t) : ∀ j v, (cpA c)[j]? = some v → w.cell? ⟨g, j, none⟩ = some v := fun j _ hv => (h.cell j).trans hv

end Go.Proofs.YtgnoakidjnilpaaGreat

/- CpuRun -/
namespace Go.Proofs.YtgnoakidjnilpaaGreat
open Go.RowKit

theorem ret_ctk {fn : Func} {p q u : Tmp} {tmps : Array Value} {g g' : Nat} {A cs : Array Value} {w : World} (h : fn.results = #[.cell p 30, .cell q 52, .tmp u]) (hp : tmps.getD p undef = .pointer (some ⟨g, 0, none⟩)) (hq : tmps.getD q undef = .pointer (some ⟨g', 0, none⟩)) (hr : Row w g A 30) (hs : A.size = 25) (hr' : Row w g' cs 52) (hs' : cs.size = 8) :
    (results fn tmps).run Tryz.prog w = .ok (.tuple #[.agg A, .agg cs, tmps.getD u undef]) w := by
  have hl : (loadVar 30 ⟨g, 0, none⟩).run Tryz.prog w = .ok (.agg A) w := by
    have := run_loadVar_mid (P := Tryz.prog) w g 0 30 A.toList _ (fun j v hv => by rw [Nat.zero_add, hr.cell]; simpa using hv) Tryz.underlying30 rfl (by rw [Array.length_toList, hs]; exact size_cpu)
    simpa using this
  have hl' := load_trap hr' hs'
  have hp' : tmps[p]?.getD undef = .pointer (some ⟨g, 0, none⟩) := by simpa using hp
  have hq' : tmps[q]?.getD undef = .pointer (some ⟨g', 0, none⟩) := by simpa using hq
  simp only [results, h]
  simp [Result.andThen, hp', hq', asAddr, hl, hl']

theorem wrap_up {k : Nat} (h : k ≤ 1000) : wrap64 ((k : Int) + 1) = ((k + 1 : Nat) : Int) := by unfold wrap64; omega

/-- What a round of Run finds. -/
structure Rn (w wr : World) (B : Bm) (nf N gM gA gZ gT : Nat) (M : Mc) (c : Cp) (vm se : Int) (k : Nat) : Prop where
  f : Fr B.s w wr
  rM : Row wr gM #[.pointer (some ⟨B.p, 0, none⟩), .pointer (some ⟨B.bt, 0, none⟩), ptrV (B.v.map Bk.b)] 37
  rA : Row wr gA (cpA (seqR nf M c vm se k).2) 30
  rZ : Row wr gZ (cpA zc) 30
  rT : Row wr gT #[.int .i64 0, .int .i64 0, .int .i64 0, .int .i64 0, .int .i64 0, .int .i64 0, .bool false, .int .i64 0] 52
  m : IsMc wr B nf (seqR nf M c vm se k).1
  o : Ops wr N
  t : ∀ j, j < k → (trapK nf M c vm se j).ca = 0
  ok : (seqR nf M c vm se k).2.Ok
  sz : N + 30 ≤ wr.heap.size

set_option maxRecDepth 100000 in
set_option maxHeartbeats 4000000 in
theorem Run_any (w : World) (B : Bm) (nf : Nat) (M : Mc) (c : Cp) (hok : c.Ok) (vm se : Int) (many : Nat) (hmy : many ≤ 1000) (hM : IsMc w B nf M) (hm : M.few 0) :
    Calls Tryz.prog 11 #[.agg #[.pointer (some ⟨B.p, 0, none⟩), .pointer (some ⟨B.bt, 0, none⟩), ptrV (B.v.map Bk.b)], .agg (cpA c), .int .i64 vm, .int .i64 se, .int .i64 (many : Int)] w fun e w' => ∃ k M' c' T, e = .returned (.tuple #[.agg (cpA c'), .agg (trL T), .int .i64 (k : Nat)]) ∧ Fr B.s w w' ∧ IsMc w' B nf M' ∧ Ran nf M c vm se many k M' c' T ∧ c'.Ok := by
  have HB : Hid (∀ k, (B.s k ∨ k = B.p) → k < w.heap.size) := hM.ltp
  have hz : ∀ w, Sem.run Tryz.prog (zeroValue 30) w = .ok (.agg (cpA zc)) w := zero_cpu
  obtain ⟨v0, hv0⟩ : ∃ v0, v0 = (((w.alloc (.cells #[.pointer (some ⟨B.p, 0, none⟩), .pointer (some ⟨B.bt, 0, none⟩), ptrV (B.v.map Bk.b)] 37)).alloc (.cells (cpA c) 30)).alloc (.cells (cpA zc) 30)).alloc (.cells #[.int .i64 0, .int .i64 0, .int .i64 0, .int .i64 0, .int .i64 0, .int .i64 0, .bool false, .int .i64 0] 52) := ⟨_, rfl⟩
  have f0 : Fr none' w v0 := by rw [hv0]; exact ((((Fr.refl none' w).alloc _).alloc _).alloc _).alloc _
  have rM : Row v0 w.heap.size #[.pointer (some ⟨B.p, 0, none⟩), .pointer (some ⟨B.bt, 0, none⟩), ptrV (B.v.map Bk.b)] 37 := by rw [hv0]; exact (((row_alloc _ _ _).alloc _).alloc _).alloc _
  have rA : Row v0 (w.heap.size + 1) (cpA c) 30 := by rw [hv0]; exact ((row_at (by simp)).alloc _).alloc _
  have rZ : Row v0 (w.heap.size + 1 + 1) (cpA zc) 30 := by rw [hv0]; exact (row_at (by simp)).alloc _
  have rT : Row v0 (w.heap.size + 1 + 1 + 1) #[.int .i64 0, .int .i64 0, .int .i64 0, .int .i64 0, .int .i64 0, .int .i64 0, .bool false, .int .i64 0] 52 := by rw [hv0]; exact row_at (by simp)
  have hsz : Hid (v0.heap.size = w.heap.size + 4) := by show _ = _; rw [hv0]; simp
  have u1000 : decide ((1000 : Int) < (many : Int)) = false := decide_eq_false (by omega)
  have v1000 : ¬ ((1000 : Int) < (many : Int)) := by omega
  have HMY : Hid (many ≤ 1000) := hmy
  clear hmy
  go_enter Tryz.func11, Tryz.ntmps11
  go_upto_region 1 with fail
  rw [← hv0]
  clear hv0 hz
  obtain ⟨gM, hgM⟩ : ∃ g, g = w.heap.size := ⟨_, rfl⟩
  obtain ⟨gA, hgA⟩ : ∃ g, g = w.heap.size + 1 := ⟨_, rfl⟩
  obtain ⟨gZ, hgZ⟩ : ∃ g, g = w.heap.size + 1 + 1 := ⟨_, rfl⟩
  obtain ⟨gT, hgT⟩ : ∃ g, g = w.heap.size + 1 + 1 + 1 := ⟨_, rfl⟩
  rw [← hgT] at rT ⊢
  rw [← hgZ] at rZ ⊢
  rw [← hgA] at rA ⊢
  rw [← hgM] at rM ⊢
  have HN : Hid (gM = w.heap.size ∧ gA = w.heap.size + 1 ∧ gZ = w.heap.size + 2 ∧ gT = w.heap.size + 3) := by show _ ∧ _; omega
  clear hgA hgZ hgT hgM
  go_wp2_with fail
  refine (ops_any v0 v0.heap.size rfl).mono ?_
  rintro e v1 ⟨rfl, g1, hO⟩
  obtain ⟨N, hN⟩ : ∃ N, N = v0.heap.size := ⟨_, rfl⟩
  rw [← hN] at hO ⊢
  have HNN : Hid (N = w.heap.size + 4) := by show _ = _; rw [hN, hsz.out]
  have hR : Hid (Rn w v1 B nf N gM gA gZ gT M c vm se 0) := by
    have hlt := hO.list.lt
    refine ⟨(f0.trans g1).mono (fun _ _ h => h.elim), rM.keep g1 (fun h => h), rA.keep g1 (fun h => h), rZ.keep g1 (fun h => h), rT.keep g1 (fun h => h), (hM.keep0 f0).keep0 g1, hO, fun j hj => absurd hj (Nat.not_lt_zero j), hok, by omega⟩
  clear hN f0 g1 rM rA rZ rT hO hsz hM hok
  go_wp2_with fail
  go_loopw [14, 15] (fun i p wr => ∃ k : Nat, k ≤ many ∧ i = .int .i64 (k : Int) ∧ Hid (Rn w wr B nf N gM gA gZ gT M c vm se k)) (fun i _ _ => many - (intOf i).toNat)
  case atStart => exact ⟨0, Nat.zero_le _, rfl, hR⟩
  case round =>
    clear hR
    obtain ⟨k, hk, rfl, RR⟩ := hrel
    by_cases hlt : k < many
    · have uk : decide ((k : Int) < (many : Int)) = true := decide_eq_true (by omega)
      obtain ⟨cc0, cc1, cc2⟩ : wr.cell? ⟨gM, 0, none⟩ = some (.pointer (some ⟨B.p, 0, none⟩)) ∧ wr.cell? ⟨gM, 1, none⟩ = some (.pointer (some ⟨B.bt, 0, none⟩)) ∧ wr.cell? ⟨gM, 2, none⟩ = some (ptrV (B.v.map Bk.b)) := ⟨RR.out.rM.cell 0, RR.out.rM.cell 1, RR.out.rM.cell 2⟩
      go_upto_region 5 with fail
      clear cc0 cc1 cc2 uk u1000 v1000
      have rU := row_alloc wr #[.int .i64 0, .int .i64 0, .int .i64 0, .int .i64 0, .int .i64 0, .int .i64 0, .bool false, .int .i64 0] 52
      have fU := (Fr.refl none' wr).alloc (.cells #[.int .i64 0, .int .i64 0, .int .i64 0, .int .i64 0, .int .i64 0, .int .i64 0, .bool false, .int .i64 0] 52)
      obtain ⟨va, hva⟩ : ∃ va, va = wr.alloc (.cells #[.int .i64 0, .int .i64 0, .int .i64 0, .int .i64 0, .int .i64 0, .int .i64 0, .bool false, .int .i64 0] 52) := ⟨_, rfl⟩
      obtain ⟨gU, hgU⟩ : ∃ gU, gU = wr.heap.size := ⟨_, rfl⟩
      rw [← hva] at rU fU ⊢
      rw [← hgU] at rU ⊢
      have HU : Hid (N + 30 ≤ gU) := by show _ ≤ _; rw [hgU]; exact RR.out.sz
      clear hva hgU
      have f1 := RR.out.f.trans (fU.mono (fun _ _ h => h.elim))
      have rM := RR.out.rM.keep fU (fun h => h)
      have rA := RR.out.rA.keep fU (fun h => h)
      have rZ := RR.out.rZ.keep fU (fun h => h)
      have rT := RR.out.rT.keep fU (fun h => h)
      have hM := RR.out.m.keep0 fU
      have hO := RR.out.o.keep fU (fun _ _ _ h => h)
      have HF : Hid ((seqR nf M c vm se k).1.few (2 * k)) := few_seq hm c vm se k
      have HT : Hid (∀ j, j < k → (trapK nf M c vm se j).ca = 0) := RR.out.t
      obtain ⟨R, hR⟩ : ∃ R, stepI nf (seqR nf M c vm se k).1 (seqR nf M c vm se k).2 vm se = R := ⟨_, rfl⟩
      have HQ : Hid (seqR nf M c vm se (k + 1) = (R.1, R.2.1) ∧ trapK nf M c vm se k = R.2.2 ∧ (R.2.2.ca = 0 → R.2.2 = _root_.Go.Proofs.YtgnoakidjnilpaaGreat.t0)) := by
        refine ⟨by rw [← hR]; rfl, by rw [← hR]; rfl, ?_⟩
        rw [← hR]; exact step_zero nf _ _ vm se _
      have hok := RR.out.ok
      have HKM : Hid (k < many) := hlt
      clear RR fU hk hlt
      obtain ⟨S1, hS⟩ : ∃ S1, seqR nf M c vm se k = S1 := ⟨_, rfl⟩
      rw [hS] at rA hM HF hR hok
      obtain ⟨M1, c1⟩ := S1
      replace rA : Row va gA (cpA c1) 30 := rA
      replace hM : IsMc va B nf M1 := hM
      replace HF : Hid (M1.few (2 * k)) := HF
      replace hR : stepI nf M1 c1 vm se = R := hR
      replace hok : c1.Ok := hok
      have SA : ∀ ix, (ix = c1.pc / 4 % 8 ∨ c1.bad) → Calls Tryz.prog 37 #[.slice (some ⟨N + 29, 0, none⟩) 26 26, .agg #[.pointer (some ⟨B.p, 0, none⟩), .pointer (some ⟨B.bt, 0, none⟩), ptrV (B.v.map Bk.b)], .agg (cpA c1), .int .i64 vm, .int .i64 se, .int .i64 ix] va fun e w' => e = .returned (.tuple #[.agg (cpA R.2.1), .agg (trL R.2.2)]) ∧ Fr B.s va w' ∧ IsMc w' B nf R.1 ∧ R.2.1.Ok := by
        intro ix hix
        have h := step_any va N B nf M1 c1 hok vm se ix hO hM HF.out (by have := HKM.out; have := HMY.out; omega) (fun j hj => Or.inl (by have := HB.out j hj; have := HNN.out; omega))
        have e : stepR nf M1 c1 vm se ix = R := by
          rcases hix with rfl | hb
          · exact hR
          · rw [step_bad_ix hb]; exact hR
        rw [e] at h
        exact h
      have cpc := cp_cell rA
      obtain ⟨cc0, cc1, cc2⟩ : va.cell? ⟨gM, 0, none⟩ = some (.pointer (some ⟨B.p, 0, none⟩)) ∧ va.cell? ⟨gM, 1, none⟩ = some (.pointer (some ⟨B.bt, 0, none⟩)) ∧ va.cell? ⟨gM, 2, none⟩ = some (ptrV (B.v.map Bk.b)) := ⟨rM.cell 0, rM.cell 1, rM.cell 2⟩
      clear hR hM hok HF
      obtain ⟨Mx, cx, Tx⟩ := R
      have SB : ∀ ix, Hid (ix = c1.pc / 4 % 8 ∨ c1.bad) → Calls Tryz.prog 37 #[.slice (some ⟨N + 29, 0, none⟩) 26 26, .agg #[.pointer (some ⟨B.p, 0, none⟩), .pointer (some ⟨B.bt, 0, none⟩), ptrV (B.v.map Bk.b)], .agg (cpA c1), .int .i64 vm, .int .i64 se, .int .i64 ix] va fun e w' => e = .returned (.tuple #[.agg (cpA cx), .agg (trL Tx)]) ∧ Fr B.s va w' ∧ IsMc w' B nf Mx ∧ cx.Ok := fun ix h => SA ix h.out
      clear SA
      by_cases hb : c1.bad
      · have HBB : Hid c1.bad := hb
        clear hb
        go_wp2_with (refine wpList_load_part rfl 30 _ rfl gA rfl (cpA c1) _ (cp_at rA) Tryz.underlying30 rfl (size_cpA c1) ?_)
        refine (SB _ (Or.inr HBB.out)).mono ?_
        rintro e v2 ⟨rfl, g2, hM2, hok2⟩
        clear SB cc0 cc1 cc2 cpc
        have ns : ∀ j, w.heap.size ≤ j → ¬ B.s j := fun j hj e => by have := HB.out j (Or.inl e); omega
        replace rM := rM.keep g2 (ns _ (by have := HN.out; omega))
        replace rA := rA.keep g2 (ns _ (by have := HN.out; omega))
        replace rZ := rZ.keep g2 (ns _ (by have := HN.out; omega))
        replace rT := rT.keep g2 (ns _ (by have := HN.out; omega))
        replace rU := rU.keep g2 (ns _ (by have := HU.out; have := HNN.out; omega))
        replace hO := hO.keep g2 (fun j h1 _ => ns j (by have := HNN.out; omega))
        replace f1 := f1.trans g2
        clear g2
        have dA : ∀ j, j ≠ gA → ¬ at' gA j := fun j h e => h e
        have dU : ∀ j, j ≠ gU → ¬ at' gU j := fun j h e => h e
        have rU1 := rU.keep (fr_row v2 gA (cpA cx)) (dA _ (by have := HU.out; have := HN.out; have := HNN.out; omega))
        have rM1 := (rM.keep (fr_row v2 gA (cpA cx)) (dA _ (by have := HN.out; omega))).keep (fr_row _ gU (trL Tx)) (dU _ (by have := HU.out; have := HN.out; have := HNN.out; omega))
        have rA1 : Row ((v2.setRow gA (cpA cx)).setRow gU (trL Tx)) gA (cpA cx) 30 := (rA.setRow).keep (fr_row _ gU (trL Tx)) (dU _ (by have := HU.out; have := HN.out; have := HNN.out; omega))
        have rZ1 := (rZ.keep (fr_row v2 gA (cpA cx)) (dA _ (by have := HN.out; omega))).keep (fr_row _ gU (trL Tx)) (dU _ (by have := HU.out; have := HN.out; have := HNN.out; omega))
        have rT1 := (rT.keep (fr_row v2 gA (cpA cx)) (dA _ (by have := HN.out; omega))).keep (fr_row _ gU (trL Tx)) (dU _ (by have := HU.out; have := HN.out; have := HNN.out; omega))
        have rU2 : Row ((v2.setRow gA (cpA cx)).setRow gU (trL Tx)) gU (trL Tx) 52 := rU1.setRow
        have f2 := fr_rowS (fr_rowS f1 (g := gA) (by have := HN.out; omega) (cpA cx)) (g := gU) (by have := HU.out; have := HNN.out; omega) (trL Tx)
        have m1 := isMc_past hM2 (fr_row v2 gA (cpA cx)) (fun j hj e => by have e' : j = gA := e; have := HB.out j hj; have := HN.out; omega)
        have m2 := isMc_past m1 (fr_row _ gU (trL Tx)) (fun j hj e => by have e' : j = gU := e; have := HB.out j hj; have := HU.out; have := HNN.out; omega)
        have o2 := (hO.keep (fr_row v2 gA (cpA cx)) (fun j h1 _ e => by have e' : j = gA := e; have := HN.out; have := HNN.out; omega)).keep (fr_row _ gU (trL Tx)) (fun j h1 h2 e => by have e' : j = gU := e; have := HU.out; omega)
        have z2 : Hid (N + 30 ≤ ((v2.setRow gA (cpA cx)).setRow gU (trL Tx)).heap.size) := by have := rU2.lt; have := HU.out; show _ ≤ _; omega
        clear rM rZ rT hM2 m1 hO f1
        have lo : (cpA c1).size = (cpA cx).size := by rw [cpA_size, cpA_size]
        have AA : Hid (Row ((v2.setRow gA (cpA cx)).setRow gU (trL Tx)) gM #[.pointer (some ⟨B.p, 0, none⟩), .pointer (some ⟨B.bt, 0, none⟩), ptrV (B.v.map Bk.b)] 37 ∧ Row ((v2.setRow gA (cpA cx)).setRow gU (trL Tx)) gA (cpA cx) 30 ∧ Row ((v2.setRow gA (cpA cx)).setRow gU (trL Tx)) gZ (cpA zc) 30 ∧ Row ((v2.setRow gA (cpA cx)).setRow gU (trL Tx)) gT #[.int .i64 0, .int .i64 0, .int .i64 0, .int .i64 0, .int .i64 0, .int .i64 0, .bool false, .int .i64 0] 52 ∧ Row ((v2.setRow gA (cpA cx)).setRow gU (trL Tx)) gU (trL Tx) 52 ∧ Fr B.s w ((v2.setRow gA (cpA cx)).setRow gU (trL Tx)) ∧ IsMc ((v2.setRow gA (cpA cx)).setRow gU (trL Tx)) B nf Mx ∧ Ops ((v2.setRow gA (cpA cx)).setRow gU (trL Tx)) N) := ⟨rM1, rA1, rZ1, rT1, rU2, f2, m2, o2⟩
        clear rM1 rA1 rZ1 rT1 rU2 f2 m2 o2
        go_upto_region 6 with (first | refine wpList_store_row rfl 30 _ _ rfl gA (cpA cx) rfl rfl 30 (cpA c1) rA (size_cpA cx) lo (cpA_one cx) ?_ | refine wpList_store_row rfl 52 _ _ rfl gU (trL Tx) rfl rfl 52 #[.int .i64 0, .int .i64 0, .int .i64 0, .int .i64 0, .int .i64 0, .int .i64 0, .bool false, .int .i64 0] rU1 size_trap rfl (trL_one Tx) ?_)
        clear rA rU rU1 lo
        obtain ⟨v3, hv3⟩ : ∃ v3, v3 = (v2.setRow gA (cpA cx)).setRow gU (trL Tx) := ⟨_, rfl⟩
        rw [← hv3] at AA z2 ⊢
        clear hv3
        have uc : v3.cell? ⟨gU, 0, none⟩ = some (.int .i64 Tx.ca) := AA.out.2.2.2.2.1.cell 0
        have HOK : Hid cx.Ok := hok2
        clear hok2
        by_cases ht : Tx.ca = 0
        · have ut : (Tx.ca != 0) = false := by simpa using ht
          have HTZ : Hid (Tx.ca = 0) := ht
          have hk9 : k ≤ 1000 := by have := HKM.out; have := HMY.out; omega
          clear ht
          go_wp2_with fail
          go_roundw
          case rel =>
            refine ⟨k + 1, by have := HKM.out; omega, by simp, ?_⟩
            obtain ⟨a1, a2, a3, a4, a5, a6, a7, a8⟩ := AA.out
            obtain ⟨q1, q2, q3⟩ := HQ.out
            refine ⟨a6, a1, ?_, a3, a4, ?_, a8, ?_, ?_, z2.out⟩
            · rw [q1]; exact a2
            · rw [q1]; exact a7
            · intro j hj
              by_cases e : j < k
              · exact HT.out j e
              · obtain rfl : j = k := by omega
                rw [q2]; exact HTZ.out
            · rw [q1]; exact HOK.out
          case measure =>
            have := HKM.out
            simp [intOf]; omega
        · have ut : (Tx.ca != 0) = true := by simpa using ht
          have HTZ : Hid (Tx.ca ≠ 0) := ht
          clear ht
          go_upto_region 7 with fail
          obtain ⟨a1, a2, a3, a4, a5, a6, a7, a8⟩ := AA.out
          clear uc ut AA
          refine wp_region_held (S := fun w' => Row w' gA (cpA cx) 30 ∧ Row w' gU (trL Tx) 52) (by kernel_rfl) ?_
          change wpAnyH _ _ _ _ _ _ _ _ (World.drew _)
          refine wpAnyH_take (i := 0) (v := .agg (cpL cx).toArray) rfl (by kernel_rfl) (by kernel_rfl) (by kernel_rfl) (fun _ _ _ h => h) (yieldsIf_load_mid (by kernel_rfl) 30 _ rfl gA 0 rfl (cpL cx) _ (fun _ h => range_row h.1) Tryz.underlying30 rfl (size_cpL cx)) ⟨a2.drew, a5.drew⟩ ?_
          show wpAnyH _ _ _ _ _ _ _ (Act.put _ (some 37) _) _
          simp only [Act.put, List.setIfInBounds_toArray, List.set_cons_succ, List.set_cons_zero]
          refine wpAnyH_take (i := 1) (v := .agg ([.int .i64 Tx.ca, .int .i64 Tx.nu, .int .i64 Tx.ad, .int .i64 Tx.f.k, .int .i64 Tx.f.s, .int .i64 Tx.f.l, .bool Tx.f.wk, .int .i64 Tx.f.p]).toArray) rfl (by kernel_rfl) (by kernel_rfl) (by kernel_rfl) (fun _ _ _ h => h) (yieldsIf_load_mid (by kernel_rfl) 52 _ rfl gU 0 rfl ([.int .i64 Tx.ca, .int .i64 Tx.nu, .int .i64 Tx.ad, .int .i64 Tx.f.k, .int .i64 Tx.f.s, .int .i64 Tx.f.l, .bool Tx.f.wk, .int .i64 Tx.f.p]) _ (fun _ h => range_row' h.2) Tryz.underlying52 rfl size_trap) ⟨a2.drew, a5.drew⟩ ?_
          show wpAnyH _ _ _ _ _ _ _ (Act.put _ (some 38) _) _
          simp only [Act.put, List.setIfInBounds_toArray, List.set_cons_succ, List.set_cons_zero]
          refine wpAnyH_take (i := 2) (v := ?_) rfl (by kernel_rfl) (by kernel_rfl) (by kernel_rfl) (fun _ _ _ h => h) (Or.inl ⟨by kernel_rfl, fun w hS => ?_⟩) ⟨a2.drew, a5.drew⟩ ?_
          rotate_left
          · go_simp
            try with_reducible rfl
          show wpAnyH _ _ _ _ _ _ _ (Act.put _ (some 39) _) _
          simp only [Act.put, List.setIfInBounds_toArray, List.set_cons_succ, List.set_cons_zero]
          have dZ : ∀ j, j ≠ gZ → ¬ at' gZ j := fun j h e => h e
          have dT : ∀ j, j ≠ gT → ¬ at' gT j := fun j h e => h e
          have b2 := a2.drew.keep (fr_row _ gZ (cpA cx)) (dZ _ (by have := HN.out; omega))
          have b5 := a5.drew.keep (fr_row _ gZ (cpA cx)) (dZ _ (by have := HU.out; have := HN.out; have := HNN.out; omega))
          have b4 := a4.drew.keep (fr_row _ gZ (cpA cx)) (dZ _ (by have := HN.out; omega))
          have e2 := b2.keep (fr_row _ gT (trL Tx)) (dT _ (by have := HN.out; omega))
          have e5 := b5.keep (fr_row _ gT (trL Tx)) (dT _ (by have := HU.out; have := HN.out; have := HNN.out; omega))
          have eZ : Row (((v3.drew).setRow gZ (cpA cx)).setRow gT (trL Tx)) gZ (cpA cx) 30 := (a3.drew.setRow).keep (fr_row _ gT (trL Tx)) (dT _ (by have := HN.out; omega))
          have eT : Row (((v3.drew).setRow gZ (cpA cx)).setRow gT (trL Tx)) gT (trL Tx) 52 := b4.setRow
          have f3 := fr_rowS (fr_rowS a6.drew (g := gZ) (by have := HN.out; omega) (cpA cx)) (g := gT) (by have := HN.out; omega) (trL Tx)
          have m1 := isMc_past (isMc_past (a7.keep0 (Fr.refl none' v3).drew) (fr_row _ gZ (cpA cx)) (fun j hj e => by have e' : j = gZ := e; have := HB.out j hj; have := HN.out; omega)) (fr_row _ gT (trL Tx)) (fun j hj e => by have e' : j = gT := e; have := HB.out j hj; have := HN.out; omega)
          have lo : (cpA zc).size = (cpA cx).size := by rw [cpA_size, cpA_size]
          refine wpAnyH_all (rs := [3]) (by kernel_rfl) (by simp) ?_
          intro i hi
          obtain rfl : i = 3 := by simpa using hi
          clear hi
          refine wpOp_mk rfl (by kernel_rfl) ?_
          refine wp_store_row 30 _ _ rfl gZ (cpA cx) rfl rfl 30 (cpA zc) a3.drew (size_cpA cx) lo (cpA_one cx) ?_
          refine ⟨⟨b2, b5⟩, ?_⟩
          show wpAnyH _ _ _ _ _ _ _ _ _
          refine wpAnyH_all (rs := [4]) (by kernel_rfl) (by simp) ?_
          intro i hi
          obtain rfl : i = 4 := by simpa using hi
          clear hi
          refine wpOp_mk rfl (by kernel_rfl) ?_
          refine wp_store_row 52 _ _ rfl gT (trL Tx) rfl rfl 52 #[.int .i64 0, .int .i64 0, .int .i64 0, .int .i64 0, .int .i64 0, .int .i64 0, .bool false, .int .i64 0] b4 size_trap rfl (trL_one Tx) ?_
          refine ⟨⟨e2, e5⟩, ?_⟩
          show wpAnyH _ _ _ _ _ _ _ _ _
          refine wpAnyH_take (i := 5) (v := ?_) rfl (by kernel_rfl) (by kernel_rfl) (by kernel_rfl) (fun _ _ _ h => h) (Or.inl ⟨by kernel_rfl, fun w hS => ?_⟩) ⟨e2, e5⟩ ?_
          rotate_left
          · go_simp
            try with_reducible rfl
          show wpAnyH _ _ _ _ _ _ _ (Act.put _ (some 12) _) _
          go_simp
          refine wpAnyH_done (by kernel_rfl) ?_ _
          go_wp2_with fail
          refine bodyPost_ret (ret_ctk rfl rfl rfl eZ (cpA_size _) eT rfl) rfl ?_
          refine ⟨k, Mx, cx, Tx, rfl, f3, m1, ⟨HT.out, Or.inr ⟨HKM.out, ?_, ?_, ?_, ?_⟩⟩, HOK.out⟩
          · rw [HQ.out.2.1]; exact HTZ.out
          · rw [HQ.out.1]
          · rw [HQ.out.1]
          · exact HQ.out.2.1.symm
      · have hp : 0 ≤ c1.pc ∧ c1.pc ≤ 65535 := by unfold Cp.bad at hb; omega
        obtain ⟨hp0, hp1⟩ := hp
        clear hb
        go_wp2_with (refine wpList_load_part rfl 30 _ rfl gA rfl (cpA c1) _ (cp_at rA) Tryz.underlying30 rfl (size_cpA c1) ?_)
        refine (SB _ (Or.inl rfl)).mono ?_
        rintro e v2 ⟨rfl, g2, hM2, hok2⟩
        clear SB cc0 cc1 cc2 cpc
        have ns : ∀ j, w.heap.size ≤ j → ¬ B.s j := fun j hj e => by have := HB.out j (Or.inl e); omega
        replace rM := rM.keep g2 (ns _ (by have := HN.out; omega))
        replace rA := rA.keep g2 (ns _ (by have := HN.out; omega))
        replace rZ := rZ.keep g2 (ns _ (by have := HN.out; omega))
        replace rT := rT.keep g2 (ns _ (by have := HN.out; omega))
        replace rU := rU.keep g2 (ns _ (by have := HU.out; have := HNN.out; omega))
        replace hO := hO.keep g2 (fun j h1 _ => ns j (by have := HNN.out; omega))
        replace f1 := f1.trans g2
        clear g2
        have dA : ∀ j, j ≠ gA → ¬ at' gA j := fun j h e => h e
        have dU : ∀ j, j ≠ gU → ¬ at' gU j := fun j h e => h e
        have rU1 := rU.keep (fr_row v2 gA (cpA cx)) (dA _ (by have := HU.out; have := HN.out; have := HNN.out; omega))
        have rM1 := (rM.keep (fr_row v2 gA (cpA cx)) (dA _ (by have := HN.out; omega))).keep (fr_row _ gU (trL Tx)) (dU _ (by have := HU.out; have := HN.out; have := HNN.out; omega))
        have rA1 : Row ((v2.setRow gA (cpA cx)).setRow gU (trL Tx)) gA (cpA cx) 30 := (rA.setRow).keep (fr_row _ gU (trL Tx)) (dU _ (by have := HU.out; have := HN.out; have := HNN.out; omega))
        have rZ1 := (rZ.keep (fr_row v2 gA (cpA cx)) (dA _ (by have := HN.out; omega))).keep (fr_row _ gU (trL Tx)) (dU _ (by have := HU.out; have := HN.out; have := HNN.out; omega))
        have rT1 := (rT.keep (fr_row v2 gA (cpA cx)) (dA _ (by have := HN.out; omega))).keep (fr_row _ gU (trL Tx)) (dU _ (by have := HU.out; have := HN.out; have := HNN.out; omega))
        have rU2 : Row ((v2.setRow gA (cpA cx)).setRow gU (trL Tx)) gU (trL Tx) 52 := rU1.setRow
        have f2 := fr_rowS (fr_rowS f1 (g := gA) (by have := HN.out; omega) (cpA cx)) (g := gU) (by have := HU.out; have := HNN.out; omega) (trL Tx)
        have m1 := isMc_past hM2 (fr_row v2 gA (cpA cx)) (fun j hj e => by have e' : j = gA := e; have := HB.out j hj; have := HN.out; omega)
        have m2 := isMc_past m1 (fr_row _ gU (trL Tx)) (fun j hj e => by have e' : j = gU := e; have := HB.out j hj; have := HU.out; have := HNN.out; omega)
        have o2 := (hO.keep (fr_row v2 gA (cpA cx)) (fun j h1 _ e => by have e' : j = gA := e; have := HN.out; have := HNN.out; omega)).keep (fr_row _ gU (trL Tx)) (fun j h1 h2 e => by have e' : j = gU := e; have := HU.out; omega)
        have z2 : Hid (N + 30 ≤ ((v2.setRow gA (cpA cx)).setRow gU (trL Tx)).heap.size) := by have := rU2.lt; have := HU.out; show _ ≤ _; omega
        clear rM rZ rT hM2 m1 hO f1
        have lo : (cpA c1).size = (cpA cx).size := by rw [cpA_size, cpA_size]
        have AA : Hid (Row ((v2.setRow gA (cpA cx)).setRow gU (trL Tx)) gM #[.pointer (some ⟨B.p, 0, none⟩), .pointer (some ⟨B.bt, 0, none⟩), ptrV (B.v.map Bk.b)] 37 ∧ Row ((v2.setRow gA (cpA cx)).setRow gU (trL Tx)) gA (cpA cx) 30 ∧ Row ((v2.setRow gA (cpA cx)).setRow gU (trL Tx)) gZ (cpA zc) 30 ∧ Row ((v2.setRow gA (cpA cx)).setRow gU (trL Tx)) gT #[.int .i64 0, .int .i64 0, .int .i64 0, .int .i64 0, .int .i64 0, .int .i64 0, .bool false, .int .i64 0] 52 ∧ Row ((v2.setRow gA (cpA cx)).setRow gU (trL Tx)) gU (trL Tx) 52 ∧ Fr B.s w ((v2.setRow gA (cpA cx)).setRow gU (trL Tx)) ∧ IsMc ((v2.setRow gA (cpA cx)).setRow gU (trL Tx)) B nf Mx ∧ Ops ((v2.setRow gA (cpA cx)).setRow gU (trL Tx)) N) := ⟨rM1, rA1, rZ1, rT1, rU2, f2, m2, o2⟩
        clear rM1 rA1 rZ1 rT1 rU2 f2 m2 o2
        go_upto_region 6 with (first | refine wpList_store_row rfl 30 _ _ rfl gA (cpA cx) rfl rfl 30 (cpA c1) rA (size_cpA cx) lo (cpA_one cx) ?_ | refine wpList_store_row rfl 52 _ _ rfl gU (trL Tx) rfl rfl 52 #[.int .i64 0, .int .i64 0, .int .i64 0, .int .i64 0, .int .i64 0, .int .i64 0, .bool false, .int .i64 0] rU1 size_trap rfl (trL_one Tx) ?_)
        clear rA rU rU1 lo
        obtain ⟨v3, hv3⟩ : ∃ v3, v3 = (v2.setRow gA (cpA cx)).setRow gU (trL Tx) := ⟨_, rfl⟩
        rw [← hv3] at AA z2 ⊢
        clear hv3
        have uc : v3.cell? ⟨gU, 0, none⟩ = some (.int .i64 Tx.ca) := AA.out.2.2.2.2.1.cell 0
        have HOK : Hid cx.Ok := hok2
        clear hok2
        by_cases ht : Tx.ca = 0
        · have ut : (Tx.ca != 0) = false := by simpa using ht
          have HTZ : Hid (Tx.ca = 0) := ht
          have hk9 : k ≤ 1000 := by have := HKM.out; have := HMY.out; omega
          clear ht
          go_wp2_with fail
          go_roundw
          case rel =>
            refine ⟨k + 1, by have := HKM.out; omega, by simp, ?_⟩
            obtain ⟨a1, a2, a3, a4, a5, a6, a7, a8⟩ := AA.out
            obtain ⟨q1, q2, q3⟩ := HQ.out
            refine ⟨a6, a1, ?_, a3, a4, ?_, a8, ?_, ?_, z2.out⟩
            · rw [q1]; exact a2
            · rw [q1]; exact a7
            · intro j hj
              by_cases e : j < k
              · exact HT.out j e
              · obtain rfl : j = k := by omega
                rw [q2]; exact HTZ.out
            · rw [q1]; exact HOK.out
          case measure =>
            have := HKM.out
            simp [intOf]; omega
        · have ut : (Tx.ca != 0) = true := by simpa using ht
          have HTZ : Hid (Tx.ca ≠ 0) := ht
          clear ht
          go_upto_region 7 with fail
          obtain ⟨a1, a2, a3, a4, a5, a6, a7, a8⟩ := AA.out
          clear uc ut AA
          refine wp_region_held (S := fun w' => Row w' gA (cpA cx) 30 ∧ Row w' gU (trL Tx) 52) (by kernel_rfl) ?_
          change wpAnyH _ _ _ _ _ _ _ _ (World.drew _)
          refine wpAnyH_take (i := 0) (v := .agg (cpL cx).toArray) rfl (by kernel_rfl) (by kernel_rfl) (by kernel_rfl) (fun _ _ _ h => h) (yieldsIf_load_mid (by kernel_rfl) 30 _ rfl gA 0 rfl (cpL cx) _ (fun _ h => range_row h.1) Tryz.underlying30 rfl (size_cpL cx)) ⟨a2.drew, a5.drew⟩ ?_
          show wpAnyH _ _ _ _ _ _ _ (Act.put _ (some 37) _) _
          simp only [Act.put, List.setIfInBounds_toArray, List.set_cons_succ, List.set_cons_zero]
          refine wpAnyH_take (i := 1) (v := .agg ([.int .i64 Tx.ca, .int .i64 Tx.nu, .int .i64 Tx.ad, .int .i64 Tx.f.k, .int .i64 Tx.f.s, .int .i64 Tx.f.l, .bool Tx.f.wk, .int .i64 Tx.f.p]).toArray) rfl (by kernel_rfl) (by kernel_rfl) (by kernel_rfl) (fun _ _ _ h => h) (yieldsIf_load_mid (by kernel_rfl) 52 _ rfl gU 0 rfl ([.int .i64 Tx.ca, .int .i64 Tx.nu, .int .i64 Tx.ad, .int .i64 Tx.f.k, .int .i64 Tx.f.s, .int .i64 Tx.f.l, .bool Tx.f.wk, .int .i64 Tx.f.p]) _ (fun _ h => range_row' h.2) Tryz.underlying52 rfl size_trap) ⟨a2.drew, a5.drew⟩ ?_
          show wpAnyH _ _ _ _ _ _ _ (Act.put _ (some 38) _) _
          simp only [Act.put, List.setIfInBounds_toArray, List.set_cons_succ, List.set_cons_zero]
          refine wpAnyH_take (i := 2) (v := ?_) rfl (by kernel_rfl) (by kernel_rfl) (by kernel_rfl) (fun _ _ _ h => h) (Or.inl ⟨by kernel_rfl, fun w hS => ?_⟩) ⟨a2.drew, a5.drew⟩ ?_
          rotate_left
          · go_simp
            try with_reducible rfl
          show wpAnyH _ _ _ _ _ _ _ (Act.put _ (some 39) _) _
          simp only [Act.put, List.setIfInBounds_toArray, List.set_cons_succ, List.set_cons_zero]
          have dZ : ∀ j, j ≠ gZ → ¬ at' gZ j := fun j h e => h e
          have dT : ∀ j, j ≠ gT → ¬ at' gT j := fun j h e => h e
          have b2 := a2.drew.keep (fr_row _ gZ (cpA cx)) (dZ _ (by have := HN.out; omega))
          have b5 := a5.drew.keep (fr_row _ gZ (cpA cx)) (dZ _ (by have := HU.out; have := HN.out; have := HNN.out; omega))
          have b4 := a4.drew.keep (fr_row _ gZ (cpA cx)) (dZ _ (by have := HN.out; omega))
          have e2 := b2.keep (fr_row _ gT (trL Tx)) (dT _ (by have := HN.out; omega))
          have e5 := b5.keep (fr_row _ gT (trL Tx)) (dT _ (by have := HU.out; have := HN.out; have := HNN.out; omega))
          have eZ : Row (((v3.drew).setRow gZ (cpA cx)).setRow gT (trL Tx)) gZ (cpA cx) 30 := (a3.drew.setRow).keep (fr_row _ gT (trL Tx)) (dT _ (by have := HN.out; omega))
          have eT : Row (((v3.drew).setRow gZ (cpA cx)).setRow gT (trL Tx)) gT (trL Tx) 52 := b4.setRow
          have f3 := fr_rowS (fr_rowS a6.drew (g := gZ) (by have := HN.out; omega) (cpA cx)) (g := gT) (by have := HN.out; omega) (trL Tx)
          have m1 := isMc_past (isMc_past (a7.keep0 (Fr.refl none' v3).drew) (fr_row _ gZ (cpA cx)) (fun j hj e => by have e' : j = gZ := e; have := HB.out j hj; have := HN.out; omega)) (fr_row _ gT (trL Tx)) (fun j hj e => by have e' : j = gT := e; have := HB.out j hj; have := HN.out; omega)
          have lo : (cpA zc).size = (cpA cx).size := by rw [cpA_size, cpA_size]
          refine wpAnyH_all (rs := [3]) (by kernel_rfl) (by simp) ?_
          intro i hi
          obtain rfl : i = 3 := by simpa using hi
          clear hi
          refine wpOp_mk rfl (by kernel_rfl) ?_
          refine wp_store_row 30 _ _ rfl gZ (cpA cx) rfl rfl 30 (cpA zc) a3.drew (size_cpA cx) lo (cpA_one cx) ?_
          refine ⟨⟨b2, b5⟩, ?_⟩
          show wpAnyH _ _ _ _ _ _ _ _ _
          refine wpAnyH_all (rs := [4]) (by kernel_rfl) (by simp) ?_
          intro i hi
          obtain rfl : i = 4 := by simpa using hi
          clear hi
          refine wpOp_mk rfl (by kernel_rfl) ?_
          refine wp_store_row 52 _ _ rfl gT (trL Tx) rfl rfl 52 #[.int .i64 0, .int .i64 0, .int .i64 0, .int .i64 0, .int .i64 0, .int .i64 0, .bool false, .int .i64 0] b4 size_trap rfl (trL_one Tx) ?_
          refine ⟨⟨e2, e5⟩, ?_⟩
          show wpAnyH _ _ _ _ _ _ _ _ _
          refine wpAnyH_take (i := 5) (v := ?_) rfl (by kernel_rfl) (by kernel_rfl) (by kernel_rfl) (fun _ _ _ h => h) (Or.inl ⟨by kernel_rfl, fun w hS => ?_⟩) ⟨e2, e5⟩ ?_
          rotate_left
          · go_simp
            try with_reducible rfl
          show wpAnyH _ _ _ _ _ _ _ (Act.put _ (some 12) _) _
          go_simp
          refine wpAnyH_done (by kernel_rfl) ?_ _
          go_wp2_with fail
          refine bodyPost_ret (ret_ctk rfl rfl rfl eZ (cpA_size _) eT rfl) rfl ?_
          refine ⟨k, Mx, cx, Tx, rfl, f3, m1, ⟨HT.out, Or.inr ⟨HKM.out, ?_, ?_, ?_, ?_⟩⟩, HOK.out⟩
          · rw [HQ.out.2.1]; exact HTZ.out
          · rw [HQ.out.1]
          · rw [HQ.out.1]
          · exact HQ.out.2.1.symm
    · have hkm : k = many := by omega
      subst hkm
      have uk : decide ((k : Int) < (k : Int)) = false := decide_eq_false (by omega)
      have rA := RR.out.rA
      have rZ := RR.out.rZ
      have rT := RR.out.rT
      have f1 := RR.out.f
      have hM := RR.out.m
      have HT : Hid (∀ j, j < k → (trapK nf M c vm se j).ca = 0) := RR.out.t
      have HOK : Hid ((seqR nf M c vm se k).2.Ok) := RR.out.ok
      have HS : Hid (seqR nf M c vm se k = seqR nf M c vm se k) := rfl
      clear RR hk hlt
      obtain ⟨M1, hM1⟩ : ∃ q, q = (seqR nf M c vm se k).1 := ⟨_, rfl⟩
      obtain ⟨c1, hc1⟩ : ∃ q, q = (seqR nf M c vm se k).2 := ⟨_, rfl⟩
      rw [← hM1] at hM
      rw [← hc1] at rA HOK
      have HE : Hid (M1 = (seqR nf M c vm se k).1 ∧ c1 = (seqR nf M c vm se k).2) := ⟨hM1, hc1⟩
      clear hM1 hc1 HS
      have lo : (cpA zc).size = (cpA c1).size := by rw [cpA_size, cpA_size]
      have dT : ∀ j, j ≠ gT → ¬ at' gT j := fun j h e => h e
      have rT1 := rT.keep (fr_row wr gZ (cpA c1)) (fun e => by have e' : gT = gZ := e; have := HN.out; omega)
      have eZ : Row ((wr.setRow gZ (cpA c1)).setRow gT #[.int .i64 0, .int .i64 0, .int .i64 0, .int .i64 0, .int .i64 0, .int .i64 0, .bool false, .int .i64 0]) gZ (cpA c1) 30 := (rZ.setRow).keep (fr_row _ gT #[.int .i64 0, .int .i64 0, .int .i64 0, .int .i64 0, .int .i64 0, .int .i64 0, .bool false, .int .i64 0]) (dT _ (by have := HN.out; omega))
      have eT : Row ((wr.setRow gZ (cpA c1)).setRow gT #[.int .i64 0, .int .i64 0, .int .i64 0, .int .i64 0, .int .i64 0, .int .i64 0, .bool false, .int .i64 0]) gT #[.int .i64 0, .int .i64 0, .int .i64 0, .int .i64 0, .int .i64 0, .int .i64 0, .bool false, .int .i64 0] 52 := rT1.setRow
      have f3 := fr_rowS (fr_rowS f1 (g := gZ) (by have := HN.out; omega) (cpA c1)) (g := gT) (by have := HN.out; omega) #[.int .i64 0, .int .i64 0, .int .i64 0, .int .i64 0, .int .i64 0, .int .i64 0, .bool false, .int .i64 0]
      have m1 := isMc_past (isMc_past hM (fr_row _ gZ (cpA c1)) (fun j hj e => by have e' : j = gZ := e; have := HB.out j hj; have := HN.out; omega)) (fr_row _ gT #[.int .i64 0, .int .i64 0, .int .i64 0, .int .i64 0, .int .i64 0, .int .i64 0, .bool false, .int .i64 0]) (fun j hj e => by have e' : j = gT := e; have := HB.out j hj; have := HN.out; omega)
      have ZZ : Hid (Row ((wr.setRow gZ (cpA c1)).setRow gT #[.int .i64 0, .int .i64 0, .int .i64 0, .int .i64 0, .int .i64 0, .int .i64 0, .bool false, .int .i64 0]) gZ (cpA c1) 30 ∧ Row ((wr.setRow gZ (cpA c1)).setRow gT #[.int .i64 0, .int .i64 0, .int .i64 0, .int .i64 0, .int .i64 0, .int .i64 0, .bool false, .int .i64 0]) gT #[.int .i64 0, .int .i64 0, .int .i64 0, .int .i64 0, .int .i64 0, .int .i64 0, .bool false, .int .i64 0] 52 ∧ Fr B.s w ((wr.setRow gZ (cpA c1)).setRow gT #[.int .i64 0, .int .i64 0, .int .i64 0, .int .i64 0, .int .i64 0, .int .i64 0, .bool false, .int .i64 0]) ∧ IsMc ((wr.setRow gZ (cpA c1)).setRow gT #[.int .i64 0, .int .i64 0, .int .i64 0, .int .i64 0, .int .i64 0, .int .i64 0, .bool false, .int .i64 0]) B nf M1) := ⟨eZ, eT, f3, m1⟩
      clear eZ eT f3 m1
      go_wp2_with (first | refine wpList_load_part rfl 30 _ rfl gA rfl (cpA c1) _ (cp_at rA) Tryz.underlying30 rfl (size_cpA c1) ?_ | refine wpList_store_row rfl 30 _ _ rfl gZ (cpA c1) rfl rfl 30 (cpA zc) rZ (size_cpA c1) lo (cpA_one c1) ?_ | refine wpList_store_row rfl 52 _ _ rfl gT #[.int .i64 0, .int .i64 0, .int .i64 0, .int .i64 0, .int .i64 0, .int .i64 0, .bool false, .int .i64 0] rfl rfl 52 #[.int .i64 0, .int .i64 0, .int .i64 0, .int .i64 0, .int .i64 0, .int .i64 0, .bool false, .int .i64 0] rT1 size_trap rfl (by simp [Value.oneCell']) ?_)
      obtain ⟨eZ, eT, f3, m1⟩ := ZZ.out
      refine bodyPost_ret (ret_ctk rfl rfl rfl eZ (cpA_size _) eT rfl) rfl ?_
      refine ⟨k, M1, c1, _root_.Go.Proofs.YtgnoakidjnilpaaGreat.t0, rfl, f3, m1, ⟨HT.out, Or.inl ⟨rfl, HE.out.1, HE.out.2, rfl⟩⟩, HOK.out⟩

end Go.Proofs.YtgnoakidjnilpaaGreat

/- CpuRunsA -/
namespace Go.Proofs.YtgnoakidjnilpaaGreat
open Go.RowKit

theorem fr_far {S : Nat → Prop} {w a b : World} (f : Fr none' w a) (g : Fr S a b) (h : ∀ k, S k → w.heap.size ≤ k) : Fr none' w b :=
  ⟨g.os.trans f.os, g.tape.trans f.tape, g.output.trans f.output, Nat.le_trans f.size g.size, fun k hk hn => by
    rw [g.block k (Nat.lt_of_lt_of_le hk f.size) (fun e => by have := h k e; omega)]; exact f.block k hk hn⟩

/-- Two machines apart, beside the world and the state that came in. -/
structure Ro (w wr : World) (gx gc g8 g10 : Nat) (X : Array Value) (c : Cp) (O1 O2 : Bo) (M1 M2 : Mc) : Prop where
  f : Fr none' w wr
  rx : Row wr gx X 25
  rc : Row wr gc (cpA c) 30
  r8 : Row wr g8 O1.a 44
  r10 : Row wr g10 O2.a 44
  m1 : IsMc wr O1.B 16 M1
  m2 : IsMc wr O2.B 16 M2
  s1 : ∀ k, (O1.B.s k ∨ k = O1.B.p) → gc < k ∧ k < g8
  s2 : ∀ k, (O2.B.s k ∨ k = O2.B.p) → g8 < k ∧ k < g10
  g : w.heap.size ≤ gx ∧ gx < gc ∧ gc < g8 ∧ g8 < g10

section
variable {w wr wr' : World} {gx gc g8 g10 : Nat} {X : Array Value} {c : Cp} {O1 O2 : Bo} {M1 M2 M' : Mc}
theorem Ro.keep0 (h : Ro w wr gx gc g8 g10 X c O1 O2 M1 M2) (k : Fr none' wr wr') : Ro w wr' gx gc g8 g10 X c O1 O2 M1 M2 :=
  ⟨h.f.trans k, h.rx.keep k (fun h => h), h.rc.keep k (fun h => h), h.r8.keep k (fun h => h), h.r10.keep k (fun h => h), h.m1.keep0 k, h.m2.keep0 k, h.s1, h.s2, h.g⟩
theorem Ro.at (h : Ro w wr gx gc g8 g10 X c O1 O2 M1 M2) {g : Nat} (k : Fr (at' g) wr wr') (hg : g10 < g) : Ro w wr' gx gc g8 g10 X c O1 O2 M1 M2 := by
  obtain ⟨h1, h2, h3, h4⟩ := h.g
  have n : ∀ j, j ≠ g → ¬ at' g j := fun j h e => h e
  exact ⟨fr_far h.f k (fun j e => by have e' : j = g := e; omega), h.rx.keep k (n _ (by omega)), h.rc.keep k (n _ (by omega)), h.r8.keep k (n _ (by omega)), h.r10.keep k (n _ (by omega)), isMc_past h.m1 k (fun j hj => n j (by have := h.s1 j hj; omega)), isMc_past h.m2 k (fun j hj => n j (by have := h.s2 j hj; omega)), h.s1, h.s2, h.g⟩
theorem Ro.run1 (h : Ro w wr gx gc g8 g10 X c O1 O2 M1 M2) (k : Fr O1.B.s wr wr') (m : IsMc wr' O1.B 16 M') : Ro w wr' gx gc g8 g10 X c O1 O2 M' M2 := by
  obtain ⟨h1, h2, h3, h4⟩ := h.g
  have n : ∀ j, j ≤ gc ∨ g8 ≤ j → ¬ O1.B.s j := fun j hj e => by have := h.s1 j (Or.inl e); omega
  exact ⟨fr_far h.f k (fun j e => by have := h.s1 j (Or.inl e); omega), h.rx.keep k (n _ (by omega)), h.rc.keep k (n _ (by omega)), h.r8.keep k (n _ (by omega)), h.r10.keep k (n _ (by omega)), m,
    h.m2.keep k (n _ (by have := h.s2 _ (Or.inr rfl); omega)) (n _ (by have := h.s2 _ (Or.inl (Or.inl rfl)); omega)) (n _ (by have := h.s2 _ (Or.inl (Or.inr (Or.inl rfl))); omega)) (fun j hj => n j (by have := h.s2 j (Or.inl (Or.inr (Or.inr hj))); omega)), h.s1, h.s2, h.g⟩
theorem Ro.run2 (h : Ro w wr gx gc g8 g10 X c O1 O2 M1 M2) (k : Fr O2.B.s wr wr') (m : IsMc wr' O2.B 16 M') : Ro w wr' gx gc g8 g10 X c O1 O2 M1 M' := by
  obtain ⟨h1, h2, h3, h4⟩ := h.g
  have n : ∀ j, j ≤ g8 ∨ g10 ≤ j → ¬ O2.B.s j := fun j hj e => by have := h.s2 j (Or.inl e); omega
  exact ⟨fr_far h.f k (fun j e => by have := h.s2 j (Or.inl e); omega), h.rx.keep k (n _ (by omega)), h.rc.keep k (n _ (by omega)), h.r8.keep k (n _ (by omega)), h.r10.keep k (n _ (by omega)),
    h.m1.keep k (n _ (by have := h.s1 _ (Or.inr rfl); omega)) (n _ (by have := h.s1 _ (Or.inl (Or.inl rfl)); omega)) (n _ (by have := h.s1 _ (Or.inl (Or.inr (Or.inl rfl))); omega)) (fun j hj => n j (by have := h.s1 j (Or.inl (Or.inr (Or.inr hj))); omega)), m, h.s1, h.s2, h.g⟩
end

/-- Traps held against each other. -/
theorem eq_trap (t : Tr) (w : World) : (binOp .eql 52 (.agg (trL t)) (.agg (trL t))).run Tryz.prog w = .ok (.bool true) w := by
  unfold trL
  simp [go_sem]

theorem tr_at {w : World} {g : Nat} {t : Tr} {ty : TypeId} (h : Row w g (trL t) ty) : ∀ j v, (trL t)[j]? = some v → w.cell? ⟨g, j, none⟩ = some v := fun j _ hv => (h.cell j).trans hv

/-- Where the law's own steps stand. -/
def Stand (M : Mc) (c : Cp) (vm se : Int) (many k : Nat) (M' : Mc) (D : Cp) (T : Tr) : Prop :=
  (∀ j, j < k → (trapK 16 M c vm se j).ca = 0) ∧ ((k ≤ many ∧ T.ca = 0 ∧ M' = (seqR 16 M c vm se k).1 ∧ D = (seqR 16 M c vm se k).2 ∧ T = _root_.Go.Proofs.YtgnoakidjnilpaaGreat.t0) ∨ (k < many ∧ T.ca ≠ 0 ∧ M' = (seqR 16 M c vm se (k + 1)).1 ∧ D = (seqR 16 M c vm se (k + 1)).2 ∧ T = trapK 16 M c vm se k))

theorem Stand.ran {M : Mc} {c : Cp} {vm se : Int} {many k : Nat} {M' : Mc} {D : Cp} {T : Tr} (h : Stand M c vm se many k M' D T) (e : k = many ∨ T.ca ≠ 0) : Ran 16 M c vm se many k M' D T := by
  obtain ⟨h1, h2⟩ := h
  refine ⟨h1, ?_⟩
  rcases h2 with ⟨_, b, c1, c2, c3⟩ | ⟨a, b, c1, c2, c3⟩
  · rcases e with e | e
    · exact Or.inl ⟨e, c1, c2, c3⟩
    · exact absurd b e
  · exact Or.inr ⟨a, by rw [← c3]; exact b, c1, c2, c3⟩

/-- One more step. -/
theorem Stand.step {M : Mc} {c : Cp} {vm se : Int} {many k : Nat} {M' : Mc} {D : Cp} {T : Tr} (h : Stand M c vm se many k M' D T) (hk : k < many) (ht : T.ca = 0) :
    ((stepI 16 M' D vm se).2.2.ca = 0 → Stand M c vm se many (k + 1) (stepI 16 M' D vm se).1 (stepI 16 M' D vm se).2.1 (stepI 16 M' D vm se).2.2) ∧ ((stepI 16 M' D vm se).2.2.ca ≠ 0 → Stand M c vm se many k (stepI 16 M' D vm se).1 (stepI 16 M' D vm se).2.1 (stepI 16 M' D vm se).2.2) := by
  obtain ⟨h1, h2⟩ := h
  rcases h2 with ⟨_, b, rfl, rfl, c3⟩ | ⟨a, b, _⟩
  · refine ⟨fun e => ⟨fun j hj => ?_, Or.inl ⟨by omega, e, rfl, rfl, step_zero 16 _ _ vm se _ e⟩⟩, fun e => ⟨h1, Or.inr ⟨hk, e, rfl, rfl, rfl⟩⟩⟩
    by_cases q : j < k
    · exact h1 j q
    · obtain rfl : j = k := by omega
      exact e
  · exact absurd ht b

theorem Stand.few {M : Mc} {c : Cp} {vm se : Int} {many k : Nat} {M' : Mc} {D : Cp} {T : Tr} (h : Stand M c vm se many k M' D T) (hm : M.few 0) : M'.few (2 * (k + 1)) := by
  rcases h.2 with ⟨_, _, rfl, _⟩ | ⟨_, _, rfl, _⟩
  · exact few_mono (few_seq hm c vm se k) (by omega)
  · exact few_seq hm c vm se (k + 1)

/-- What a round of the law's own steps finds. -/
structure Lp (w wr : World) (gx gc g8 g10 g12 g13 g15 g16 : Nat) (X : Array Value) (c : Cp) (O1 O2 : Bo) (Ma : Mc) (p1 : Cp) (s1 : Tr) (MM : Mc) (vm se : Int) (many k : Nat) (M' : Mc) (D : Cp) (T : Tr) : Prop where
  ro : Ro w wr gx gc g8 g10 X c O1 O2 Ma M'
  r12 : Row wr g12 (cpA p1) 30
  r13 : Row wr g13 (trL s1) 52
  r15 : Row wr g15 (cpA D) 30
  r16 : Row wr g16 (trL T) 52
  st : Stand MM c vm se many k M' D T
  ok : D.Ok

theorem ix_eq {p : Int} (h0 : 0 ≤ p) (h1 : p ≤ 65535) : (wrap64 (p.tdiv 4)).tmod 8 = p / 4 % 8 := by
  have e1 : p.tdiv 4 = p / 4 := Int.tdiv_eq_ediv_of_nonneg h0
  have e2 : wrap64 (p / 4) = p / 4 := by unfold wrap64; omega
  rw [e1, e2, Int.tmod_eq_emod_of_nonneg (by omega)]

/-- Is there a trap in that block? -/
def tm (w : World) (g : Nat) : Nat := match w.cell? ⟨g, 0, none⟩ with
  | some (.int _ x) => if x = 0 then 1 else 0
  | _ => 0
theorem tm_row {w : World} {g : Nat} {T : Tr} {t : TypeId} (h : Row w g (trL T) t) : tm w g = if T.ca = 0 then 1 else 0 := by
  have e : w.cell? ⟨g, 0, none⟩ = some (.int .i64 T.ca) := h.cell 0
  unfold tm
  rw [e]

end Go.Proofs.YtgnoakidjnilpaaGreat

/- CpuTrapsA -/
namespace Go.Proofs.YtgnoakidjnilpaaGreat
open Go.RowKit

/-- One machine, beside the world and the state that came in. -/
structure Rt (w wr : World) (gx gc g8 : Nat) (X : Array Value) (c : Cp) (O1 : Bo) (M1 : Mc) : Prop where
  f : Fr none' w wr
  rx : Row wr gx X 25
  rc : Row wr gc (cpA c) 30
  r8 : Row wr g8 O1.a 44
  m1 : IsMc wr O1.B 16 M1
  s1 : ∀ k, (O1.B.s k ∨ k = O1.B.p) → gc < k ∧ k < g8
  g : w.heap.size ≤ gx ∧ gx < gc ∧ gc < g8

section
variable {w wr wr' : World} {gx gc g8 : Nat} {X : Array Value} {c : Cp} {O1 : Bo} {M1 M' : Mc}
theorem Rt.far (h : Rt w wr gx gc g8 X c O1 M1) {S : Nat → Prop} (k : Fr S wr wr') (hS : ∀ j, S j → g8 < j) : Rt w wr' gx gc g8 X c O1 M1 := by
  obtain ⟨h1, h2, h3⟩ := h.g
  have n : ∀ j, j ≤ g8 → ¬ S j := fun j hj e => by have := hS j e; omega
  exact ⟨fr_far h.f k (fun j e => by have := hS j e; omega), h.rx.keep k (n _ (by omega)), h.rc.keep k (n _ (by omega)), h.r8.keep k (n _ (by omega)),
    h.m1.keep k (n _ (by have := h.s1 _ (Or.inr rfl); omega)) (n _ (by have := h.s1 _ (Or.inl (Or.inl rfl)); omega)) (n _ (by have := h.s1 _ (Or.inl (Or.inr (Or.inl rfl))); omega)) (fun j hj => n j (by have := h.s1 j (Or.inl (Or.inr (Or.inr hj))); omega)), h.s1, h.g⟩
theorem Rt.keep0 (h : Rt w wr gx gc g8 X c O1 M1) (k : Fr none' wr wr') : Rt w wr' gx gc g8 X c O1 M1 := h.far k (fun _ e => e.elim)
theorem Rt.run (h : Rt w wr gx gc g8 X c O1 M1) (k : Fr O1.B.s wr wr') (m : IsMc wr' O1.B 16 M') : Rt w wr' gx gc g8 X c O1 M' := by
  obtain ⟨h1, h2, h3⟩ := h.g
  have n : ∀ j, j ≤ gc ∨ g8 ≤ j → ¬ O1.B.s j := fun j hj e => by have := h.s1 j (Or.inl e); omega
  exact ⟨fr_far h.f k (fun j e => by have := h.s1 j (Or.inl e); omega), h.rx.keep k (n _ (by omega)), h.rc.keep k (n _ (by omega)), h.r8.keep k (n _ (by omega)), m, h.s1, h.g⟩
end

/-- Bytes of the law's own. -/
def Ob (base : Nat) (w : World) (v : Value) (L : List UInt8) : Prop := base ≤ w.heap.size ∧ w.ownsRow base 5 1 v L.length (L.map U8)

theorem ob_none {base : Nat} {w : World} (h : base ≤ w.heap.size) : Ob base w (.slice none 0 0) [] := ⟨h, by simp, Or.inl ⟨rfl, rfl⟩⟩

theorem ob_keep {S : Nat → Prop} {base : Nat} {w w' : World} {v : Value} {L : List UInt8} (h : Ob base w v L) (f : Fr S w w') (hs : ∀ k, S k → k < base) : Ob base w' v L := by
  obtain ⟨h0, hl, h | ⟨g, cap, cur, hv, hb, hg, hc, hm, hz, ht⟩⟩ := h
  · exact ⟨Nat.le_trans h0 f.size, hl, Or.inl h⟩
  · exact ⟨Nat.le_trans h0 f.size, hl, Or.inr ⟨g, cap, cur, hv, hb, (f.block g (Row.lt (show Row w g cur 5 from hg)) (fun e => by have := hs g e; omega)).trans hg, hc, hm, hz, ht⟩⟩

theorem ob_block {base : Nat} {w : World} {v : Value} {L : List UInt8} (h : Ob base w v L) (k : Nat) (hk : some k = v.ownBlock) : base ≤ k := by
  obtain ⟨_, _, h | ⟨g, cap, cur, hv, hb, _⟩⟩ := h
  · rw [h.1] at hk; simp [Value.ownBlock] at hk
  · rw [hv] at hk; simp [Value.ownBlock] at hk; omega

theorem ob_out {base : Nat} {w : World} {v : Value} {L : List UInt8} (h : Ob base w v L) (hL : L.length = 1024) : ∃ g cap, v = .slice (some ⟨g, 0, none⟩) 1024 cap ∧ base ≤ g ∧ Begins w g L cap := by
  have hv : v ≠ .slice none 0 0 := by
    obtain ⟨_, _, h | ⟨g, cap, cur, hv, _⟩⟩ := h
    · have : L.length = 0 := h.2
      omega
    · rw [hv]; intro e; cases e
  obtain ⟨g, cap, e, hb, hB, _⟩ := own_begins h.2 hv
  rw [hL] at e
  exact ⟨g, cap, e, hb, hB⟩

theorem take_more (bs : List UInt8) (k : Nat) : bs.take (64 * k) ++ frameOf bs k = bs.take (64 * (k + 1)) := by
  unfold frameOf
  rw [Nat.mul_comm k 64, show 64 * (k + 1) = 64 * k + 64 by omega, List.take_add]

end Go.Proofs.YtgnoakidjnilpaaGreat

/- CpuForgA -/
namespace Go.Proofs.YtgnoakidjnilpaaGreat
open Go.RowKit

theorem neq_trap (t : Tr) (w : World) : (binOp .neq 52 (.agg (trL t)) (.agg (trL t))).run Tryz.prog w = .ok (.bool false) w := by
  unfold trL
  simp [go_sem]

section
variable {w wr wr' : World} {gx gc g8 g10 : Nat} {X : Array Value} {c c' : Cp} {O1 O2 : Bo} {M1 M2 M' : Mc}
/-- The state turned. -/
theorem Ro.cpu (h : Ro w wr gx gc g8 g10 X c O1 O2 M1 M2) (c' : Cp) : Ro w (wr.setRow gc (cpA c')) gx gc g8 g10 X c' O1 O2 M1 M2 := by
  obtain ⟨h1, h2, h3, h4⟩ := h.g
  have n : ∀ j, j ≠ gc → ¬ at' gc j := fun j h e => h e
  have k := fr_row wr gc (cpA c')
  exact ⟨fr_far h.f k (fun j e => by have e' : j = gc := e; omega), h.rx.keep k (n _ (by omega)), h.rc.setRow, h.r8.keep k (n _ (by omega)), h.r10.keep k (n _ (by omega)), isMc_past h.m1 k (fun j hj => n j (by have := h.s1 j hj; omega)), isMc_past h.m2 k (fun j hj => n j (by have := h.s2 j hj; omega)), h.s1, h.s2, h.g⟩
/-- The other one forgets. -/
theorem Ro.fg (h : Ro w wr gx gc g8 g10 X c O1 O2 M1 M2) (k : Fr (at' O2.B.bt) wr wr') (t : IsTlb wr' O2.B.bt (wipe (fun _ => true) M2.T) M2.fo M2.mi) : Ro w wr' gx gc g8 g10 X c O1 O2 M1 M2.fg := by
  have m := h.m2
  refine h.run2 (k.mono (fun j _ e => Or.inr (Or.inl e))) ⟨m.ram.keep k (fun e => m.d1 e) (fun e => m.d2 e), t, m.vg.keep k (fun b hb j hj e => ?_), m.d1, m.d2, m.d3, m.e1, m.e2, m.e3⟩
  apply m.e3
  have e' : j = O2.B.bt := e
  rw [← e']
  show O2.B.g j
  unfold Bm.g
  rw [hb]
  exact hj
end

/-- Of the first pages none may be written that is a table, or that a table says. -/
def NoW (bs : List UInt8) (sn k : Nat) : Prop := ∀ g : Nat, g < k → (single bs 16 (sn : Int) (g : Int)).ft.k = 0 → bits .and .i64 (single bs 16 (sn : Int) (g : Int)).ri 2 ≠ 0 →
    (single bs 16 (sn : Int) (g : Int)).fr ≠ (sn : Int) ∧ ∀ i : Nat, i < 32 → de ((half bs sn i : Nat) : Int) = 0 → dv ((half bs sn i : Nat) : Int) = true → df ((half bs sn i : Nat) : Int) ≠ (single bs 16 (sn : Int) (g : Int)).fr
theorem now_zero (bs : List UInt8) (sn : Nat) : NoW bs sn 0 := fun g hg => by omega
theorem now_step {bs : List UInt8} {sn k : Nat} (h : NoW bs sn k) (hk : (single bs 16 (sn : Int) (k : Int)).ft.k = 0 → bits .and .i64 (single bs 16 (sn : Int) (k : Int)).ri 2 ≠ 0 → (single bs 16 (sn : Int) (k : Int)).fr ≠ (sn : Int) ∧ ∀ i : Nat, i < 32 → de ((half bs sn i : Nat) : Int) = 0 → dv ((half bs sn i : Nat) : Int) = true → df ((half bs sn i : Nat) : Int) ≠ (single bs 16 (sn : Int) (k : Int)).fr) : NoW bs sn (k + 1) := fun g hg => by
  by_cases e : g = k
  · subst e; exact hk
  · exact h g (by omega)
theorem now_shut {bs : List UInt8} {sn : Nat} (hl : bs.length = 1024) (h : NoW bs sn 1024) : Shut bs (sn : Int) := by
  refine ⟨hl, by omega, fun ⟨g, hg, h1, h2, h3⟩ => (h g hg h1 h2).1 h3, fun i hi a1 _ _ ⟨g, hg, h1, h2, h3⟩ => ?_⟩
  rw [Int.toNat_natCast] at a1 h3
  have hd : de ((half bs sn i : Nat) : Int) = 0 := by
    cases hd : decOk ((half bs sn i : Nat) : Int) with
    | true => unfold de; rw [if_pos hd]
    | false => unfold dv at a1; rw [hd] at a1; cases a1
  exact (h g hg h1 h2).2 i hi hd a1 h3.symm

end Go.Proofs.YtgnoakidjnilpaaGreat

/- CpuForgWalk -/
namespace Go.Proofs.YtgnoakidjnilpaaGreat
open Go.RowKit

theorem bo_one (O : Bo) : (O.a).all (·.oneCell') = true := by
  unfold Bo.a
  cases O.B.v <;> cases O.vr <;> simp [ptrV, Value.oneCell']

set_option maxRecDepth 100000 in
set_option maxHeartbeats 4000000 in
theorem forg_walk (w : World) (a0 a1 : Option Addr) (len cap len1 cap1 : Nat) (vm : Int) (sn : Nat) (P : Nat → Pu) (Q : Nat → Wo) (hl : len ≤ 9223372036854775807) (hl1 : len1 ≤ 9223372036854775807) (hP : Pus w a0 len P) (hQ : Wos w a1 len1 Q) (c : Cp) (hok : c.Ok) (steps : Int) (hsn : sn < 16) :
    Calls Tryz.prog 5 #[.agg #[.slice a0 len cap, .slice a1 len1 cap1, .bool false, .int .i64 vm, .int .i64 (sn : Int)], .agg (cpA c), .int .i64 steps] w fun e w' => e = .returned (.bool true) ∧ Fr none' w w' := by
  have hz : ∀ w, Sem.run Tryz.prog (zeroValue 30) w = .ok (.agg (cpA zc)) w := zero_cpu
  have f0 := ((Fr.refl none' w).alloc (.cells #[.slice a0 len cap, .slice a1 len1 cap1, .bool false, .int .i64 vm, .int .i64 (sn : Int)] 25)).alloc (.cells (cpA c) 30)
  have rx := (row_alloc w #[.slice a0 len cap, .slice a1 len1 cap1, .bool false, .int .i64 vm, .int .i64 (sn : Int)] 25).alloc (.cells (cpA c) 30)
  have rc := row_at (W := w.alloc (.cells #[.slice a0 len cap, .slice a1 len1 cap1, .bool false, .int .i64 vm, .int .i64 (sn : Int)] 25)) (n := w.heap.size + 1) (cs := cpA c) (t := 30) (by simp)
  have u0 : decide ((sn : Int) < 0) = false := decide_eq_false (by omega)
  have u15 : decide (15 < (sn : Int)) = false := decide_eq_false (by omega)
  have HL : Hid (len ≤ 9223372036854775807 ∧ len1 ≤ 9223372036854775807) := ⟨hl, hl1⟩
  clear hl hl1
  go_enter Tryz.func5, Tryz.ntmps5
  go_wp2_with fail
  refine (awake_any _).mono ?_
  rintro e w1 ⟨rfl, g1⟩
  replace f0 := f0.trans g1
  replace rx := rx.keep g1 (fun h => h)
  replace rc := rc.keep g1 (fun h => h)
  clear g1
  obtain ⟨gx, hgx⟩ : ∃ q, q = w.heap.size := ⟨_, rfl⟩
  obtain ⟨gc, hgc⟩ : ∃ q, q = w.heap.size + 1 := ⟨_, rfl⟩
  rw [← hgc] at rc ⊢
  rw [← hgx] at rx ⊢
  have HG : Hid (gx = w.heap.size ∧ gc = w.heap.size + 1) := ⟨hgx, hgc⟩
  clear hgx hgc
  have hP1 := hP.keep f0
  have hQ1 := hQ.keep f0
  clear hP hQ
  obtain ⟨x0, x1, x2, x3, x4⟩ : w1.cell? ⟨gx, 0, none⟩ = some (.slice a0 len cap) ∧ w1.cell? ⟨gx, 1, none⟩ = some (.slice a1 len1 cap1) ∧ w1.cell? ⟨gx, 2, none⟩ = some (.bool false) ∧ w1.cell? ⟨gx, 3, none⟩ = some (.int .i64 vm) ∧ w1.cell? ⟨gx, 4, none⟩ = some (.int .i64 (sn : Int)) := ⟨rx.cell 0, rx.cell 1, rx.cell 2, rx.cell 3, rx.cell 4⟩
  go_wp2_with fail
  refine (made_any w1 a0 a1 len cap len1 cap1 false vm (sn : Int) P Q HL.out.1 HL.out.2 hP1 hQ1).mono ?_
  rintro e w2 ⟨O1, rfl, g2, hB1⟩
  clear x0 x1 x2 x3 x4
  obtain ⟨BS, hMM⟩ : ∃ BS, BS = wB (pB P (min len 100)) Q (min len1 300) := ⟨_, rfl⟩
  rw [← hMM] at hB1
  have HRF : Hid (IsRef w2 O1.pr O1.br 16 BS) := hB1.r
  have II1 : Hid (∀ k, (O1.B.s k ∨ k = O1.B.p) → w1.heap.size ≤ k ∧ k < w2.heap.size) := hB1.in
  have L1 : Hid (gc < w1.heap.size) := rc.lt
  have L2 : Hid (w1.heap.size ≤ w2.heap.size) := g2.size
  have z8 := row_alloc w2 #[.pointer none, .pointer none, .pointer none, .pointer none, .pointer none, .pointer none] 44
  have g3 : Fr none' w2 ((w2.alloc (.cells #[.pointer none, .pointer none, .pointer none, .pointer none, .pointer none, .pointer none] 44)).setRow w2.heap.size O1.a) := ((Fr.refl none' w2).alloc _).newer (fr_row _ w2.heap.size _) (Nat.le_refl _)
  have rr : Row ((w2.alloc (.cells #[.pointer none, .pointer none, .pointer none, .pointer none, .pointer none, .pointer none] 44)).setRow w2.heap.size O1.a) w2.heap.size O1.a 44 := z8.setRow
  have GG : Hid (Fr none' w2 ((w2.alloc (.cells #[.pointer none, .pointer none, .pointer none, .pointer none, .pointer none, .pointer none] 44)).setRow w2.heap.size O1.a) ∧ Row ((w2.alloc (.cells #[.pointer none, .pointer none, .pointer none, .pointer none, .pointer none, .pointer none] 44)).setRow w2.heap.size O1.a) w2.heap.size O1.a 44) := ⟨g3, rr⟩
  clear g3 rr
  go_upto_region 5 with (refine wpList_store_row rfl 44 _ _ rfl w2.heap.size O1.a rfl rfl 44 #[.pointer none, .pointer none, .pointer none, .pointer none, .pointer none, .pointer none] z8 size_both rfl (bo_one O1) ?_)
  obtain ⟨g3, r8⟩ := GG.out
  clear GG z8
  obtain ⟨w3, hw3⟩ : ∃ q, q = (w2.alloc (.cells #[.pointer none, .pointer none, .pointer none, .pointer none, .pointer none, .pointer none] 44)).setRow w2.heap.size O1.a := ⟨_, rfl⟩
  rw [← hw3] at g3 r8 ⊢
  clear hw3
  have m1 := hB1.m.keep0 g3
  have L3 : Hid (w2.heap.size < w3.heap.size) := r8.lt
  replace g2 := g2.trans g3
  replace hP1 := hP1.keep g2
  replace hQ1 := hQ1.keep g2
  replace rx := rx.keep g2 (fun h => h)
  replace rc := rc.keep g2 (fun h => h)
  replace f0 := f0.trans g2
  replace HRF : Hid (IsRef w3 O1.pr O1.br 16 BS) := HRF.out.keep g3 (fun h => h) (fun h => h)
  clear g2 g3 hB1
  obtain ⟨g8, hg8⟩ : ∃ q, q = w2.heap.size := ⟨_, rfl⟩
  rw [← hg8] at r8 ⊢
  have H8 : Hid (g8 = w2.heap.size) := hg8
  clear hg8
  obtain ⟨x0, x1, x2, x3, x4⟩ : w3.cell? ⟨gx, 0, none⟩ = some (.slice a0 len cap) ∧ w3.cell? ⟨gx, 1, none⟩ = some (.slice a1 len1 cap1) ∧ w3.cell? ⟨gx, 2, none⟩ = some (.bool false) ∧ w3.cell? ⟨gx, 3, none⟩ = some (.int .i64 vm) ∧ w3.cell? ⟨gx, 4, none⟩ = some (.int .i64 (sn : Int)) := ⟨rx.cell 0, rx.cell 1, rx.cell 2, rx.cell 3, rx.cell 4⟩
  go_wp2_with fail
  refine (made_any w3 a0 a1 len cap len1 cap1 false vm (sn : Int) P Q HL.out.1 HL.out.2 hP1 hQ1).mono ?_
  rintro e w4 ⟨O2, rfl, g2, hB2⟩
  clear x0 x1 x2 x3 x4 hP1 hQ1
  rw [← hMM] at hB2
  have II2 : Hid (∀ k, (O2.B.s k ∨ k = O2.B.p) → w3.heap.size ≤ k ∧ k < w4.heap.size) := hB2.in
  have z10 := row_alloc w4 #[.pointer none, .pointer none, .pointer none, .pointer none, .pointer none, .pointer none] 44
  have g3 : Fr none' w4 ((w4.alloc (.cells #[.pointer none, .pointer none, .pointer none, .pointer none, .pointer none, .pointer none] 44)).setRow w4.heap.size O2.a) := ((Fr.refl none' w4).alloc _).newer (fr_row _ w4.heap.size _) (Nat.le_refl _)
  have rr : Row ((w4.alloc (.cells #[.pointer none, .pointer none, .pointer none, .pointer none, .pointer none, .pointer none] 44)).setRow w4.heap.size O2.a) w4.heap.size O2.a 44 := z10.setRow
  have GG : Hid (Fr none' w4 ((w4.alloc (.cells #[.pointer none, .pointer none, .pointer none, .pointer none, .pointer none, .pointer none] 44)).setRow w4.heap.size O2.a) ∧ Row ((w4.alloc (.cells #[.pointer none, .pointer none, .pointer none, .pointer none, .pointer none, .pointer none] 44)).setRow w4.heap.size O2.a) w4.heap.size O2.a 44) := ⟨g3, rr⟩
  clear g3 rr
  go_upto_region 8 with (refine wpList_store_row rfl 44 _ _ rfl w4.heap.size O2.a rfl rfl 44 #[.pointer none, .pointer none, .pointer none, .pointer none, .pointer none, .pointer none] z10 size_both rfl (bo_one O2) ?_)
  obtain ⟨g3, r10⟩ := GG.out
  clear GG z10
  obtain ⟨w5, hw5⟩ : ∃ q, q = (w4.alloc (.cells #[.pointer none, .pointer none, .pointer none, .pointer none, .pointer none, .pointer none] 44)).setRow w4.heap.size O2.a := ⟨_, rfl⟩
  rw [← hw5] at g3 r10 ⊢
  clear hw5
  have m2 := hB2.m.keep0 g3
  replace g2 := g2.trans g3
  have RO : Hid (Ro w w5 gx gc g8 w4.heap.size #[.slice a0 len cap, .slice a1 len1 cap1, .bool false, .int .i64 vm, .int .i64 (sn : Int)] c O1 O2 (M0 BS false) (M0 BS false)) := by
    refine ⟨f0.trans g2, rx.keep g2 (fun h => h), rc.keep g2 (fun h => h), r8.keep g2 (fun h => h), r10, m1.keep0 g2, m2, ?_, ?_, ?_⟩
    · intro k hk
      have h1 := II1.out k hk
      have h2 := L1.out
      have h3 := H8.out
      omega
    · intro k hk
      have h1 := II2.out k hk
      have h2 := L3.out
      have h3 := H8.out
      omega
    · have h1 := HG.out
      have h2 := L1.out
      have h3 := L2.out
      have h4 := H8.out
      have h5 := L3.out
      have h6 := II2.out _ (Or.inr rfl)
      omega
  replace HRF : Hid (IsRef w5 O1.pr O1.br 16 BS) := HRF.out.keep g2 (fun h => h) (fun h => h)
  clear f0 rx rc r8 r10 m1 m2 g2 g3 hB2 II1 II2 L1 L2 L3 H8 HG hMM
  obtain ⟨g10, hg10⟩ : ∃ q, q = w4.heap.size := ⟨_, rfl⟩
  rw [← hg10] at RO ⊢
  clear hg10
  have LL : Hid (Ro w w5 gx gc g8 g10 #[.slice a0 len cap, .slice a1 len1 cap1, .bool false, .int .i64 vm, .int .i64 (sn : Int)] c O1 O2 (M0 BS false) (M0 BS false) ∧ IsRef w5 O1.pr O1.br 16 BS) := ⟨RO.out, HRF.out⟩
  clear RO HRF u0 u15
  go_wp2_with fail
  go_loopw [12, 13, 14, 15, 16, 17, 18, 19, 20] (fun i a b d e f m n o wr => ∃ k : Nat, k ≤ 1024 ∧ i = .int .i64 (k : Int) ∧ Hid (Ro w wr gx gc g8 g10 #[.slice a0 len cap, .slice a1 len1 cap1, .bool false, .int .i64 vm, .int .i64 (sn : Int)] c O1 O2 (M0 BS false) (M0 BS false) ∧ IsRef wr O1.pr O1.br 16 BS ∧ NoW BS sn k)) (fun i _ _ _ _ _ _ _ _ _ => 1024 - (intOf i).toNat)
  case atStart => exact ⟨0, by omega, rfl, ⟨LL.out.1, LL.out.2, now_zero _ _⟩⟩
  case round =>
    clear LL
    obtain ⟨k, hk, rfl, HH⟩ := hrel
    by_cases hlt : k < 1024
    · have uk : decide ((k : Int) < 1024) = true := decide_eq_true (by omega)
      have y3 : wr.cell? ⟨g8, 3, none⟩ = some (.pointer (some ⟨O1.pr, 0, none⟩)) := HH.out.1.r8.cell 3
      have x4 : wr.cell? ⟨gx, 4, none⟩ = some (.int .i64 (sn : Int)) := HH.out.1.rx.cell 4
      have S := rsingle_any wr O1.pr O1.br 16 BS (sn : Int) (k : Int) HH.out.2.1
      obtain ⟨R, hR⟩ : ∃ R, R = single BS 16 (sn : Int) (k : Int) := ⟨_, rfl⟩
      rw [← hR] at S
      have HR : Hid (R = single BS 16 (sn : Int) (k : Int)) := hR
      clear hR
      obtain ⟨fr, ri, ⟨fk, fs, fl, fw, fp⟩⟩ := R
      dsimp only at S
      go_wp2_with fail
      refine S.mono ?_
      rintro e w6 ⟨rfl, f6⟩
      replace f6 := f6.alloc (.cells #[.int .i64 fk, .int .i64 fs, .int .i64 fl, .bool fw, .int .i64 fp] 50)
      have rF := row_alloc w6 #[.int .i64 fk, .int .i64 fs, .int .i64 fl, .bool fw, .int .i64 fp] 50
      replace HH : Hid (Ro w (w6.alloc (.cells #[.int .i64 fk, .int .i64 fs, .int .i64 fl, .bool fw, .int .i64 fp] 50)) gx gc g8 g10 #[.slice a0 len cap, .slice a1 len1 cap1, .bool false, .int .i64 vm, .int .i64 (sn : Int)] c O1 O2 (M0 BS false) (M0 BS false) ∧ IsRef (w6.alloc (.cells #[.int .i64 fk, .int .i64 fs, .int .i64 fl, .bool fw, .int .i64 fp] 50)) O1.pr O1.br 16 BS ∧ NoW BS sn k) := ⟨HH.out.1.keep0 f6, HH.out.2.1.keep f6 (fun h => h) (fun h => h), HH.out.2.2⟩
      clear f6 y3 x4 S
      have y3 : (w6.alloc (.cells #[.int .i64 fk, .int .i64 fs, .int .i64 fl, .bool fw, .int .i64 fp] 50)).cell? ⟨g8, 3, none⟩ = some (.pointer (some ⟨O1.pr, 0, none⟩)) := HH.out.1.r8.cell 3
      have x4 : (w6.alloc (.cells #[.int .i64 fk, .int .i64 fs, .int .i64 fl, .bool fw, .int .i64 fp] 50)).cell? ⟨gx, 4, none⟩ = some (.int .i64 (sn : Int)) := HH.out.1.rx.cell 4
      have S := rget_ok (w6.alloc (.cells #[.int .i64 fk, .int .i64 fs, .int .i64 fl, .bool fw, .int .i64 fp] 50)) O1.pr O1.br 16 BS sn (k / 32) HH.out.2.1 hsn (by omega)
      have uq : ((k / 32 : Nat) : Int) = (k : Int) / 32 := by omega
      rw [uq] at S
      clear uq
      have uq : IntKind.i64.wrap ((k : Int) / 32) = (k : Int) / 32 := by simp [IntKind.wrap, IntKind.bits, IntKind.signed]; omega
      obtain ⟨bv, hbv⟩ : ∃ bv, bv = dv ((half BS sn (k / 32) : Nat) : Int) := ⟨_, rfl⟩
      obtain ⟨bl, hbl⟩ : ∃ bl, bl = dl ((half BS sn (k / 32) : Nat) : Int) := ⟨_, rfl⟩
      obtain ⟨ir, hir⟩ : ∃ ir, ir = dr ((half BS sn (k / 32) : Nat) : Int) := ⟨_, rfl⟩
      obtain ⟨fd, hfd⟩ : ∃ fd, fd = df ((half BS sn (k / 32) : Nat) : Int) := ⟨_, rfl⟩
      obtain ⟨er, her⟩ : ∃ er, er = de ((half BS sn (k / 32) : Nat) : Int) := ⟨_, rfl⟩
      rw [← hbv, ← hbl, ← hir, ← hfd, ← her] at S
      have HD : Hid (bv = dv ((half BS sn (k / 32) : Nat) : Int) ∧ fd = df ((half BS sn (k / 32) : Nat) : Int) ∧ er = de ((half BS sn (k / 32) : Nat) : Int)) := ⟨hbv, hfd, her⟩
      clear hbv hbl hir hfd her
      go_wp2_with fail
      refine S.mono ?_
      rintro e w7 ⟨rfl, f7⟩
      replace f7 := f7.alloc (.cells #[.bool bv, .bool bl, .int .i64 ir, .int .i64 fd] 71)
      replace rF := rF.keep f7 (fun h => h)
      replace HH : Hid (Ro w (w7.alloc (.cells #[.bool bv, .bool bl, .int .i64 ir, .int .i64 fd] 71)) gx gc g8 g10 #[.slice a0 len cap, .slice a1 len1 cap1, .bool false, .int .i64 vm, .int .i64 (sn : Int)] c O1 O2 (M0 BS false) (M0 BS false) ∧ IsRef (w7.alloc (.cells #[.bool bv, .bool bl, .int .i64 ir, .int .i64 fd] 71)) O1.pr O1.br 16 BS ∧ NoW BS sn k) := ⟨HH.out.1.keep0 f7, HH.out.2.1.keep f7 (fun h => h) (fun h => h), HH.out.2.2⟩
      clear f7 y3 x4 S uq HD
      have x4 : (w7.alloc (.cells #[.bool bv, .bool bl, .int .i64 ir, .int .i64 fd] 71)).cell? ⟨gx, 4, none⟩ = some (.int .i64 (sn : Int)) := HH.out.1.rx.cell 4
      have fk0 : (w7.alloc (.cells #[.bool bv, .bool bl, .int .i64 ir, .int .i64 fd] 71)).cell? ⟨w6.heap.size, 0, none⟩ = some (.int .i64 fk) := rF.cell 0
      have nx : (fk = 0 → bits .and .i64 ri 2 ≠ 0 → fr ≠ (sn : Int) ∧ ∀ i : Nat, i < 32 → de ((half BS sn i : Nat) : Int) = 0 → dv ((half BS sn i : Nat) : Int) = true → df ((half BS sn i : Nat) : Int) ≠ fr) → NoW BS sn (k + 1) := fun hh => now_step HH.out.2.2 (by rw [← HR.out]; exact hh)
      by_cases hfk : fk = 0
      · have ua : (fk == 0) = true := by simpa using hfk
        by_cases hri : bits .and .i64 ri 2 = 0
        · have ub : (bits .and .i64 ri 2 != 0) = false := by simpa using hri
          have NX : Hid (NoW BS sn (k + 1)) := nx (fun _ h => absurd hri h)
          clear nx hri hfk HR hk uk
          go_wp2_with fail
          obtain ⟨W, hW⟩ : ∃ W, W = w7.alloc (.cells #[.bool bv, .bool bl, .int .i64 ir, .int .i64 fd] 71) := ⟨_, rfl⟩
          rw [← hW] at HH rF fk0 ⊢
          clear hW x4
          generalize w6.heap.size = gF at *
          generalize w7.heap.size = gE at *
          go_loopw [18, 19, 20] (fun i m n wq => i = .int .i64 0 ∧ wq = W) (fun _ _ _ _ => 0)
          case atStart => exact ⟨rfl, rfl⟩
          case round =>
            obtain ⟨rfl, rfl⟩ := hrel
            go_wp2_with fail
            go_roundw
            case rel => exact ⟨k + 1, by omega, by go_num, ⟨HH.out.1, HH.out.2.1, NX.out⟩⟩
            case measure => simp [intOf]; omega
        · have ub : (bits .and .i64 ri 2 != 0) = true := by simpa using hri
          by_cases e1 : fr = (sn : Int)
          · have ue : (fr == (sn : Int)) = true := by simpa using e1
            have HE : Hid (Fr none' w _) := HH.out.1.f
            clear nx hri hfk HR hk uk HH rF e1
            go_wp2_with fail
            go_ret
            exact ⟨rfl, HE.out⟩
          · have ue : (fr == (sn : Int)) = false := by simpa using e1
            have NX : Hid ((∀ i : Nat, i < 32 → de ((half BS sn i : Nat) : Int) = 0 → dv ((half BS sn i : Nat) : Int) = true → df ((half BS sn i : Nat) : Int) ≠ fr) → NoW BS sn (k + 1)) := fun h => nx (fun _ _ => ⟨e1, h⟩)
            clear nx hri hfk HR hk e1
            by_cases e2 : er = 0
            · have uf : (er == 0) = true := by simpa using e2
              by_cases e3 : fr = fd
              · have ug : (fr == fd) = true := by simpa using e3
                have HE : Hid (Fr none' w _) := HH.out.1.f
                clear NX uk HH rF e2 e3
                go_wp2_with fail
                go_ret
                exact ⟨rfl, HE.out⟩
              · have ug : (fr == fd) = false := by simpa using e3
                clear e2 e3
                go_wp2_with fail
                obtain ⟨W, hW⟩ : ∃ W, W = w7.alloc (.cells #[.bool bv, .bool bl, .int .i64 ir, .int .i64 fd] 71) := ⟨_, rfl⟩
                rw [← hW] at HH rF fk0 ⊢
                clear hW x4 fk0
                generalize w6.heap.size = gF at *
                generalize w7.heap.size = gE at *
                have HI : Hid (Ro w W gx gc g8 g10 #[.slice a0 len cap, .slice a1 len1 cap1, .bool false, .int .i64 vm, .int .i64 (sn : Int)] c O1 O2 (M0 BS false) (M0 BS false) ∧ IsRef W O1.pr O1.br 16 BS ∧ Row W gF #[.int .i64 fk, .int .i64 fs, .int .i64 fl, .bool fw, .int .i64 fp] 50) := ⟨HH.out.1, HH.out.2.1, rF⟩
                clear rF HH
                go_loopw [18, 19, 20] (fun i m n wq => ∃ j : Nat, j ≤ 32 ∧ i = .int .i64 (j : Int) ∧ Hid (Ro w wq gx gc g8 g10 #[.slice a0 len cap, .slice a1 len1 cap1, .bool false, .int .i64 vm, .int .i64 (sn : Int)] c O1 O2 (M0 BS false) (M0 BS false) ∧ IsRef wq O1.pr O1.br 16 BS ∧ Row wq gF #[.int .i64 fk, .int .i64 fs, .int .i64 fl, .bool fw, .int .i64 fp] 50 ∧ ∀ i : Nat, i < j → de ((half BS sn i : Nat) : Int) = 0 → dv ((half BS sn i : Nat) : Int) = true → df ((half BS sn i : Nat) : Int) ≠ fr)) (fun i _ _ _ => 32 - (intOf i).toNat)
                case atStart => exact ⟨0, by omega, rfl, ⟨HI.out.1, HI.out.2.1, HI.out.2.2, fun i hi => by omega⟩⟩
                case round =>
                  clear HI uk
                  obtain ⟨j, hj, rfl, HH⟩ := hrel
                  have fk0 : wr.cell? ⟨gF, 0, none⟩ = some (.int .i64 fk) := HH.out.2.2.1.cell 0
                  by_cases hlj : j < 32
                  · have uj : decide ((j : Int) < 32) = true := decide_eq_true (by omega)
                    have y3 : wr.cell? ⟨g8, 3, none⟩ = some (.pointer (some ⟨O1.pr, 0, none⟩)) := HH.out.1.r8.cell 3
                    have x4 : wr.cell? ⟨gx, 4, none⟩ = some (.int .i64 (sn : Int)) := HH.out.1.rx.cell 4
                    have S2 := rget_ok wr O1.pr O1.br 16 BS sn j HH.out.2.1 hsn hlj
                    obtain ⟨bv2, hbv⟩ : ∃ bv, bv = dv ((half BS sn j : Nat) : Int) := ⟨_, rfl⟩
                    obtain ⟨bl2, hbl⟩ : ∃ bl, bl = dl ((half BS sn j : Nat) : Int) := ⟨_, rfl⟩
                    obtain ⟨ir2, hir⟩ : ∃ ir, ir = dr ((half BS sn j : Nat) : Int) := ⟨_, rfl⟩
                    obtain ⟨fd2, hfd⟩ : ∃ fd, fd = df ((half BS sn j : Nat) : Int) := ⟨_, rfl⟩
                    obtain ⟨er2, her⟩ : ∃ er, er = de ((half BS sn j : Nat) : Int) := ⟨_, rfl⟩
                    rw [← hbv, ← hbl, ← hir, ← hfd, ← her] at S2
                    have HD2 : Hid (bv2 = dv ((half BS sn j : Nat) : Int) ∧ fd2 = df ((half BS sn j : Nat) : Int) ∧ er2 = de ((half BS sn j : Nat) : Int)) := ⟨hbv, hfd, her⟩
                    clear hbv hbl hir hfd her
                    have more : Hid (¬ (er2 = 0 ∧ bv2 = true ∧ fd2 = fr) → ∀ i : Nat, i < j + 1 → de ((half BS sn i : Nat) : Int) = 0 → dv ((half BS sn i : Nat) : Int) = true → df ((half BS sn i : Nat) : Int) ≠ fr) := fun hno i hi a1 a2 a3 => by
                      by_cases e : i < j
                      · exact HH.out.2.2.2 i e a1 a2 a3
                      · obtain rfl : i = j := by omega
                        exact hno ⟨HD2.out.2.2.trans a1, HD2.out.1.trans a2, HD2.out.2.1.trans a3⟩
                    go_wp2_with fail
                    refine S2.mono ?_
                    rintro e w8 ⟨rfl, f8⟩
                    replace f8 := f8.alloc (.cells #[.bool bv2, .bool bl2, .int .i64 ir2, .int .i64 fd2] 71)
                    have HN : Hid (Ro w (w8.alloc (.cells #[.bool bv2, .bool bl2, .int .i64 ir2, .int .i64 fd2] 71)) gx gc g8 g10 #[.slice a0 len cap, .slice a1 len1 cap1, .bool false, .int .i64 vm, .int .i64 (sn : Int)] c O1 O2 (M0 BS false) (M0 BS false) ∧ IsRef (w8.alloc (.cells #[.bool bv2, .bool bl2, .int .i64 ir2, .int .i64 fd2] 71)) O1.pr O1.br 16 BS ∧ Row (w8.alloc (.cells #[.bool bv2, .bool bl2, .int .i64 ir2, .int .i64 fd2] 71)) gF #[.int .i64 fk, .int .i64 fs, .int .i64 fl, .bool fw, .int .i64 fp] 50) := ⟨HH.out.1.keep0 f8, HH.out.2.1.keep f8 (fun h => h) (fun h => h), HH.out.2.2.1.keep f8 (fun h => h)⟩
                    clear f8 y3 x4 S2 HH fk0 HD2
                    by_cases q1 : er2 = 0
                    · have v1 : (er2 == 0) = true := by simpa using q1
                      cases bv2 with
                      | false =>
                        have HM : Hid _ := more.out (fun h => by cases h.2.1)
                        clear more q1
                        go_wp2_with fail
                        go_roundw
                        case rel => exact ⟨j + 1, by omega, by go_num, ⟨HN.out.1, HN.out.2.1, HN.out.2.2, HM.out⟩⟩
                        case measure => simp [intOf]; omega
                      | true =>
                        by_cases q2 : fd2 = fr
                        · have v2 : (fd2 == fr) = true := by simpa using q2
                          have HE : Hid (Fr none' w _) := HN.out.1.f
                          clear more q1 q2 HN
                          go_wp2_with fail
                          go_ret
                          exact ⟨rfl, HE.out⟩
                        · have v2 : (fd2 == fr) = false := by simpa using q2
                          have HM : Hid _ := more.out (fun h => q2 h.2.2)
                          clear more q1 q2
                          go_wp2_with fail
                          go_roundw
                          case rel => exact ⟨j + 1, by omega, by go_num, ⟨HN.out.1, HN.out.2.1, HN.out.2.2, HM.out⟩⟩
                          case measure => simp [intOf]; omega
                    · have v1 : (er2 == 0) = false := by simpa using q1
                      have HM : Hid _ := more.out (fun h => q1 h.1)
                      clear more q1
                      go_wp2_with fail
                      go_roundw
                      case rel => exact ⟨j + 1, by omega, by go_num, ⟨HN.out.1, HN.out.2.1, HN.out.2.2, HM.out⟩⟩
                      case measure => simp [intOf]; omega
                  · have uj : decide ((j : Int) < 32) = false := decide_eq_false (by omega)
                    have HN : Hid (Ro w wr gx gc g8 g10 #[.slice a0 len cap, .slice a1 len1 cap1, .bool false, .int .i64 vm, .int .i64 (sn : Int)] c O1 O2 (M0 BS false) (M0 BS false) ∧ IsRef wr O1.pr O1.br 16 BS ∧ NoW BS sn (k + 1)) := ⟨HH.out.1, HH.out.2.1, NX.out (fun i hi => HH.out.2.2.2 i (by omega))⟩
                    clear HH hlj hj
                    go_wp2_with fail
                    go_roundw
                    case rel => exact ⟨k + 1, by omega, by go_num, HN⟩
                    case measure => simp [intOf]; omega
            · have uf : (er == 0) = false := by simpa using e2
              clear e2
              go_wp2_with fail
              obtain ⟨W, hW⟩ : ∃ W, W = w7.alloc (.cells #[.bool bv, .bool bl, .int .i64 ir, .int .i64 fd] 71) := ⟨_, rfl⟩
              rw [← hW] at HH rF fk0 ⊢
              clear hW x4 fk0
              generalize w6.heap.size = gF at *
              generalize w7.heap.size = gE at *
              have HI : Hid (Ro w W gx gc g8 g10 #[.slice a0 len cap, .slice a1 len1 cap1, .bool false, .int .i64 vm, .int .i64 (sn : Int)] c O1 O2 (M0 BS false) (M0 BS false) ∧ IsRef W O1.pr O1.br 16 BS ∧ Row W gF #[.int .i64 fk, .int .i64 fs, .int .i64 fl, .bool fw, .int .i64 fp] 50) := ⟨HH.out.1, HH.out.2.1, rF⟩
              clear rF HH
              go_loopw [18, 19, 20] (fun i m n wq => ∃ j : Nat, j ≤ 32 ∧ i = .int .i64 (j : Int) ∧ Hid (Ro w wq gx gc g8 g10 #[.slice a0 len cap, .slice a1 len1 cap1, .bool false, .int .i64 vm, .int .i64 (sn : Int)] c O1 O2 (M0 BS false) (M0 BS false) ∧ IsRef wq O1.pr O1.br 16 BS ∧ Row wq gF #[.int .i64 fk, .int .i64 fs, .int .i64 fl, .bool fw, .int .i64 fp] 50 ∧ ∀ i : Nat, i < j → de ((half BS sn i : Nat) : Int) = 0 → dv ((half BS sn i : Nat) : Int) = true → df ((half BS sn i : Nat) : Int) ≠ fr)) (fun i _ _ _ => 32 - (intOf i).toNat)
              case atStart => exact ⟨0, by omega, rfl, ⟨HI.out.1, HI.out.2.1, HI.out.2.2, fun i hi => by omega⟩⟩
              case round =>
                clear HI uk
                obtain ⟨j, hj, rfl, HH⟩ := hrel
                have fk0 : wr.cell? ⟨gF, 0, none⟩ = some (.int .i64 fk) := HH.out.2.2.1.cell 0
                by_cases hlj : j < 32
                · have uj : decide ((j : Int) < 32) = true := decide_eq_true (by omega)
                  have y3 : wr.cell? ⟨g8, 3, none⟩ = some (.pointer (some ⟨O1.pr, 0, none⟩)) := HH.out.1.r8.cell 3
                  have x4 : wr.cell? ⟨gx, 4, none⟩ = some (.int .i64 (sn : Int)) := HH.out.1.rx.cell 4
                  have S2 := rget_ok wr O1.pr O1.br 16 BS sn j HH.out.2.1 hsn hlj
                  obtain ⟨bv2, hbv⟩ : ∃ bv, bv = dv ((half BS sn j : Nat) : Int) := ⟨_, rfl⟩
                  obtain ⟨bl2, hbl⟩ : ∃ bl, bl = dl ((half BS sn j : Nat) : Int) := ⟨_, rfl⟩
                  obtain ⟨ir2, hir⟩ : ∃ ir, ir = dr ((half BS sn j : Nat) : Int) := ⟨_, rfl⟩
                  obtain ⟨fd2, hfd⟩ : ∃ fd, fd = df ((half BS sn j : Nat) : Int) := ⟨_, rfl⟩
                  obtain ⟨er2, her⟩ : ∃ er, er = de ((half BS sn j : Nat) : Int) := ⟨_, rfl⟩
                  rw [← hbv, ← hbl, ← hir, ← hfd, ← her] at S2
                  have HD2 : Hid (bv2 = dv ((half BS sn j : Nat) : Int) ∧ fd2 = df ((half BS sn j : Nat) : Int) ∧ er2 = de ((half BS sn j : Nat) : Int)) := ⟨hbv, hfd, her⟩
                  clear hbv hbl hir hfd her
                  have more : Hid (¬ (er2 = 0 ∧ bv2 = true ∧ fd2 = fr) → ∀ i : Nat, i < j + 1 → de ((half BS sn i : Nat) : Int) = 0 → dv ((half BS sn i : Nat) : Int) = true → df ((half BS sn i : Nat) : Int) ≠ fr) := fun hno i hi a1 a2 a3 => by
                    by_cases e : i < j
                    · exact HH.out.2.2.2 i e a1 a2 a3
                    · obtain rfl : i = j := by omega
                      exact hno ⟨HD2.out.2.2.trans a1, HD2.out.1.trans a2, HD2.out.2.1.trans a3⟩
                  go_wp2_with fail
                  refine S2.mono ?_
                  rintro e w8 ⟨rfl, f8⟩
                  replace f8 := f8.alloc (.cells #[.bool bv2, .bool bl2, .int .i64 ir2, .int .i64 fd2] 71)
                  have HN : Hid (Ro w (w8.alloc (.cells #[.bool bv2, .bool bl2, .int .i64 ir2, .int .i64 fd2] 71)) gx gc g8 g10 #[.slice a0 len cap, .slice a1 len1 cap1, .bool false, .int .i64 vm, .int .i64 (sn : Int)] c O1 O2 (M0 BS false) (M0 BS false) ∧ IsRef (w8.alloc (.cells #[.bool bv2, .bool bl2, .int .i64 ir2, .int .i64 fd2] 71)) O1.pr O1.br 16 BS ∧ Row (w8.alloc (.cells #[.bool bv2, .bool bl2, .int .i64 ir2, .int .i64 fd2] 71)) gF #[.int .i64 fk, .int .i64 fs, .int .i64 fl, .bool fw, .int .i64 fp] 50) := ⟨HH.out.1.keep0 f8, HH.out.2.1.keep f8 (fun h => h) (fun h => h), HH.out.2.2.1.keep f8 (fun h => h)⟩
                  clear f8 y3 x4 S2 HH fk0 HD2
                  by_cases q1 : er2 = 0
                  · have v1 : (er2 == 0) = true := by simpa using q1
                    cases bv2 with
                    | false =>
                      have HM : Hid _ := more.out (fun h => by cases h.2.1)
                      clear more q1
                      go_wp2_with fail
                      go_roundw
                      case rel => exact ⟨j + 1, by omega, by go_num, ⟨HN.out.1, HN.out.2.1, HN.out.2.2, HM.out⟩⟩
                      case measure => simp [intOf]; omega
                    | true =>
                      by_cases q2 : fd2 = fr
                      · have v2 : (fd2 == fr) = true := by simpa using q2
                        have HE : Hid (Fr none' w _) := HN.out.1.f
                        clear more q1 q2 HN
                        go_wp2_with fail
                        go_ret
                        exact ⟨rfl, HE.out⟩
                      · have v2 : (fd2 == fr) = false := by simpa using q2
                        have HM : Hid _ := more.out (fun h => q2 h.2.2)
                        clear more q1 q2
                        go_wp2_with fail
                        go_roundw
                        case rel => exact ⟨j + 1, by omega, by go_num, ⟨HN.out.1, HN.out.2.1, HN.out.2.2, HM.out⟩⟩
                        case measure => simp [intOf]; omega
                  · have v1 : (er2 == 0) = false := by simpa using q1
                    have HM : Hid _ := more.out (fun h => q1 h.1)
                    clear more q1
                    go_wp2_with fail
                    go_roundw
                    case rel => exact ⟨j + 1, by omega, by go_num, ⟨HN.out.1, HN.out.2.1, HN.out.2.2, HM.out⟩⟩
                    case measure => simp [intOf]; omega
                · have uj : decide ((j : Int) < 32) = false := decide_eq_false (by omega)
                  have HN : Hid (Ro w wr gx gc g8 g10 #[.slice a0 len cap, .slice a1 len1 cap1, .bool false, .int .i64 vm, .int .i64 (sn : Int)] c O1 O2 (M0 BS false) (M0 BS false) ∧ IsRef wr O1.pr O1.br 16 BS ∧ NoW BS sn (k + 1)) := ⟨HH.out.1, HH.out.2.1, NX.out (fun i hi => HH.out.2.2.2 i (by omega))⟩
                  clear HH hlj hj
                  go_wp2_with fail
                  go_roundw
                  case rel => exact ⟨k + 1, by omega, by go_num, HN⟩
                  case measure => simp [intOf]; omega
      · have ua : (fk == 0) = false := by simpa using hfk
        have NX : Hid (NoW BS sn (k + 1)) := nx (fun h => absurd h hfk)
        clear nx hfk HR hk uk
        go_wp2_with fail
        obtain ⟨W, hW⟩ : ∃ W, W = w7.alloc (.cells #[.bool bv, .bool bl, .int .i64 ir, .int .i64 fd] 71) := ⟨_, rfl⟩
        rw [← hW] at HH rF fk0 ⊢
        clear hW x4
        generalize w6.heap.size = gF at *
        generalize w7.heap.size = gE at *
        go_loopw [18, 19, 20] (fun i m n wq => i = .int .i64 0 ∧ wq = W) (fun _ _ _ _ => 0)
        case atStart => exact ⟨rfl, rfl⟩
        case round =>
          obtain ⟨rfl, rfl⟩ := hrel
          go_wp2_with fail
          go_roundw
          case rel => exact ⟨k + 1, by omega, by go_num, ⟨HH.out.1, HH.out.2.1, NX.out⟩⟩
          case measure => simp [intOf]; omega
    · have E1 : Hid (k = 1024) := by show k = 1024; omega
      have uk : decide ((k : Int) < 1024) = false := decide_eq_false (by omega)
      clear hlt hk
      have hSh : Hid (Shut BS (sn : Int)) := now_shut HH.out.1.m1.ram.len (by rw [← E1.out]; exact HH.out.2.2)
      obtain ⟨w6, hw6⟩ : ∃ w6, w6 = wr := ⟨_, rfl⟩
      rw [← hw6] at HH ⊢
      clear hw6 wr
      have RO2 : Hid (Ro w w6 gx gc g8 g10 #[.slice a0 len cap, .slice a1 len1 cap1, .bool false, .int .i64 vm, .int .i64 (sn : Int)] c O1 O2 (M0 BS false) (M0 BS false)) := HH.out.1
      clear HH
      have rcc := RO2.out.rc
      have q21 := row_alloc w6 (cpA zc) 30
      have lp : (cpA zc).size = (cpA c).size := by rw [cpA_size, cpA_size]
      have GG : Hid (Fr none' w6 ((w6.alloc (.cells (cpA zc) 30)).setRow w6.heap.size (cpA c)) ∧ Row ((w6.alloc (.cells (cpA zc) 30)).setRow w6.heap.size (cpA c)) w6.heap.size (cpA c) 30) := ⟨((Fr.refl none' w6).alloc _).newer (fr_row _ w6.heap.size (cpA c)) (Nat.le_refl _), q21.setRow⟩
      go_upto_region 22 with (first | refine wpList_load_part rfl 30 _ rfl gc rfl (cpA c) _ (cp_at rcc) Tryz.underlying30 rfl (size_cpA c) ?_ | refine wpList_store_row rfl 30 _ _ rfl w6.heap.size (cpA c) rfl rfl 30 (cpA zc) q21 (size_cpA c) lp (cpA_one c) ?_)
      clear q21 lp rcc uk
      obtain ⟨fA, rd⟩ := GG.out
      clear GG
      obtain ⟨w7, hw7⟩ : ∃ q, q = (w6.alloc (.cells (cpA zc) 30)).setRow w6.heap.size (cpA c) := ⟨_, rfl⟩
      rw [← hw7] at fA rd ⊢
      clear hw7
      have HGD : Hid (g10 < w6.heap.size) := RO2.out.r10.lt
      obtain ⟨gd, hgd⟩ : ∃ q, q = w6.heap.size := ⟨_, rfl⟩
      rw [← hgd] at rd HGD ⊢
      clear hgd
      have LC : Hid (∃ Ma Mb c1, Ro w w7 gx gc g8 g10 #[.slice a0 len cap, .slice a1 len1 cap1, .bool false, .int .i64 vm, .int .i64 (sn : Int)] c1 O1 O2 Ma Mb ∧ Row w7 gd (cpA c1) 30 ∧ Fo BS vm (sn : Int) Ma Mb (2 * 0) ∧ c1.Ok) := ⟨_, _, c, RO2.out.keep0 fA, rd, fo_new hSh.out vm, hok⟩
      clear RO2 fA rd hok
      go_wp2_with fail
      go_loopw [22, 23, 24, 25, 26] (fun x a b d e wr => ∃ i : Nat, i ≤ 60 ∧ x = .int .i64 (i : Int) ∧ Hid (∃ Ma Mb c1, Ro w wr gx gc g8 g10 #[.slice a0 len cap, .slice a1 len1 cap1, .bool false, .int .i64 vm, .int .i64 (sn : Int)] c1 O1 O2 Ma Mb ∧ Row wr gd (cpA c1) 30 ∧ Fo BS vm (sn : Int) Ma Mb (2 * i) ∧ c1.Ok)) (fun x _ _ _ _ _ => 60 - (intOf x).toNat)
      case atStart => exact ⟨0, by omega, rfl, LC⟩
      case round =>
        clear LC
        obtain ⟨i, hi, rfl, HH⟩ := hrel
        obtain ⟨Ma, Mb, c1, hRo, hrd, hFo, hok1⟩ := HH.out
        have RO3 : Hid (Ro w wr gx gc g8 g10 #[.slice a0 len cap, .slice a1 len1 cap1, .bool false, .int .i64 vm, .int .i64 (sn : Int)] c1 O1 O2 Ma Mb) := hRo
        have HFO : Hid (Fo BS vm (sn : Int) Ma Mb (2 * i)) := hFo
        have HOK : Hid c1.Ok := hok1
        have HRD : Hid (Row wr gd (cpA c1) 30) := hrd
        clear HH hRo hrd hFo hok1
        by_cases hst : (i : Int) < steps
        · have u1 : decide ((i : Int) < steps) = true := decide_eq_true hst
          by_cases hi60 : i < 60
          · have u2 : decide ((i : Int) < 60) = true := decide_eq_true (by omega)
            obtain ⟨y0, y1, y2⟩ : wr.cell? ⟨g8, 0, none⟩ = some (.pointer (some ⟨O1.B.p, 0, none⟩)) ∧ wr.cell? ⟨g8, 1, none⟩ = some (.pointer (some ⟨O1.B.bt, 0, none⟩)) ∧ wr.cell? ⟨g8, 2, none⟩ = some (ptrV (O1.B.v.map Bk.b)) := ⟨RO3.out.r8.cell 0, RO3.out.r8.cell 1, RO3.out.r8.cell 2⟩
            obtain ⟨x3, x4⟩ : wr.cell? ⟨gx, 3, none⟩ = some (.int .i64 vm) ∧ wr.cell? ⟨gx, 4, none⟩ = some (.int .i64 (sn : Int)) := ⟨RO3.out.rx.cell 3, RO3.out.rx.cell 4⟩
            have rcc := RO3.out.rc
            have S1 := Step_any wr O1.B 16 Ma c1 HOK.out vm (sn : Int) ((i : Int) % 8) RO3.out.m1 HFO.out.fa (by omega)
            have S2 : ∀ W, IsMc W O2.B 16 Mb.fg → _ := fun W hW => Step_any W O2.B 16 Mb.fg c1 HOK.out vm (sn : Int) 0 hW (fg_few HFO.out.fb) (by omega)
            have FS := fo_step HFO.out hSh.out c1 ((i : Int) % 8) 0
            obtain ⟨R, hR⟩ : ∃ R, R = stepR 16 Ma c1 vm (sn : Int) ((i : Int) % 8) := ⟨_, rfl⟩
            obtain ⟨R', hR'⟩ : ∃ R, R = stepR 16 Mb.fg c1 vm (sn : Int) 0 := ⟨_, rfl⟩
            rw [← hR] at S1 FS
            rw [← hR'] at S2 FS
            clear hR hR'
            obtain ⟨Ma', c2, T2⟩ := R
            obtain ⟨Mb', c3, T3⟩ := R'
            obtain ⟨e0, _, hFo2⟩ := FS
            simp only [Prod.mk.injEq] at e0
            obtain ⟨rfl, rfl⟩ := e0
            have HF2 : Hid (Fo BS vm (sn : Int) Ma' Mb' (2 * (i + 1))) := hFo2
            clear hFo2
            dsimp only at S1 S2
            go_wp2_with (refine wpList_load_part rfl 30 _ rfl gc rfl (cpA c1) _ (cp_at rcc) Tryz.underlying30 rfl (size_cpA c1) ?_)
            refine S1.mono ?_
            rintro e w9 ⟨rfl, g2, hM2, hok2⟩
            have HO2 : Hid c2.Ok := hok2
            have n8 : ∀ j, g8 ≤ j → ¬ O1.B.s j := fun j hj e => by have := RO3.out.s1 j (Or.inl e); omega
            have hlt8 : g8 < gd := by have := HGD.out; have := RO3.out.g; omega
            have RO4 : Hid (Ro w w9 gx gc g8 g10 #[.slice a0 len cap, .slice a1 len1 cap1, .bool false, .int .i64 vm, .int .i64 (sn : Int)] c1 O1 O2 Ma' Mb) := RO3.out.run1 g2 hM2
            have rd := HRD.out.keep g2 (n8 _ (by omega))
            clear S1 y0 y1 y2 x3 x4 rcc hok2 g2 hM2 n8 hlt8 RO3 HRD
            have q12 : Row ((w9.alloc (.cells (cpA zc) 30)).alloc (.cells #[.int .i64 0, .int .i64 0, .int .i64 0, .int .i64 0, .int .i64 0, .int .i64 0, .bool false, .int .i64 0] 52)) w9.heap.size (cpA zc) 30 := (row_alloc w9 (cpA zc) 30).alloc _
            have q13 : Row ((w9.alloc (.cells (cpA zc) 30)).alloc (.cells #[.int .i64 0, .int .i64 0, .int .i64 0, .int .i64 0, .int .i64 0, .int .i64 0, .bool false, .int .i64 0] 52)) (w9.heap.size + 1) #[.int .i64 0, .int .i64 0, .int .i64 0, .int .i64 0, .int .i64 0, .int .i64 0, .bool false, .int .i64 0] 52 := row_at (by simp)
            have q13' := q13.keep (fr_row _ w9.heap.size (cpA c2)) (fun e => by have e' : w9.heap.size + 1 = w9.heap.size := e; omega)
            have lp : (cpA zc).size = (cpA c2).size := by rw [cpA_size, cpA_size]
            have GG : Hid (Fr none' w9 ((((w9.alloc (.cells (cpA zc) 30)).alloc (.cells #[.int .i64 0, .int .i64 0, .int .i64 0, .int .i64 0, .int .i64 0, .int .i64 0, .bool false, .int .i64 0] 52)).setRow w9.heap.size (cpA c2)).setRow (w9.heap.size + 1) (trL T2)) ∧ Row ((((w9.alloc (.cells (cpA zc) 30)).alloc (.cells #[.int .i64 0, .int .i64 0, .int .i64 0, .int .i64 0, .int .i64 0, .int .i64 0, .bool false, .int .i64 0] 52)).setRow w9.heap.size (cpA c2)).setRow (w9.heap.size + 1) (trL T2)) w9.heap.size (cpA c2) 30 ∧ Row ((((w9.alloc (.cells (cpA zc) 30)).alloc (.cells #[.int .i64 0, .int .i64 0, .int .i64 0, .int .i64 0, .int .i64 0, .int .i64 0, .bool false, .int .i64 0] 52)).setRow w9.heap.size (cpA c2)).setRow (w9.heap.size + 1) (trL T2)) (w9.heap.size + 1) (trL T2) 52) :=
              ⟨((((Fr.refl none' w9).alloc _).alloc _).newer (fr_row _ w9.heap.size (cpA c2)) (Nat.le_refl _)).newer (fr_row _ (w9.heap.size + 1) (trL T2)) (Nat.le_succ _), (q12.setRow).keep (fr_row _ (w9.heap.size + 1) _) (fun e => by have e' : w9.heap.size = w9.heap.size + 1 := e; omega), q13'.setRow⟩
            clear q13
            go_upto_region 26 with (first | refine wpList_store_row rfl 30 _ _ rfl w9.heap.size (cpA c2) rfl rfl 30 (cpA zc) q12 (size_cpA c2) lp (cpA_one c2) ?_ | refine wpList_store_row rfl 52 _ _ rfl (w9.heap.size + 1) (trL T2) rfl rfl 52 #[.int .i64 0, .int .i64 0, .int .i64 0, .int .i64 0, .int .i64 0, .int .i64 0, .bool false, .int .i64 0] q13' size_trap rfl (trL_one T2) ?_)
            clear q12 q13' lp
            obtain ⟨fA, r23, r24⟩ := GG.out
            clear GG
            obtain ⟨w10, hw2⟩ : ∃ q, q = (((w9.alloc (.cells (cpA zc) 30)).alloc (.cells #[.int .i64 0, .int .i64 0, .int .i64 0, .int .i64 0, .int .i64 0, .int .i64 0, .bool false, .int .i64 0] 52)).setRow w9.heap.size (cpA c2)).setRow (w9.heap.size + 1) (trL T2) := ⟨_, rfl⟩
            rw [← hw2] at fA r23 r24 ⊢
            clear hw2
            obtain ⟨g23, hga⟩ : ∃ q, q = w9.heap.size := ⟨_, rfl⟩
            obtain ⟨g24, hgb⟩ : ∃ q, q = w9.heap.size + 1 := ⟨_, rfl⟩
            rw [← hgb] at r24 ⊢
            rw [← hga] at r23 ⊢
            have HX : Hid (gd < g23 ∧ g24 = g23 + 1) := by have := rd.lt; show _ ∧ _; omega
            clear hga hgb
            replace RO4 : Hid (Ro w w10 gx gc g8 g10 #[.slice a0 len cap, .slice a1 len1 cap1, .bool false, .int .i64 vm, .int .i64 (sn : Int)] c1 O1 O2 Ma' Mb) := RO4.out.keep0 fA
            replace rd := rd.keep fA (fun h => h)
            clear fA
            have y1 : w10.cell? ⟨g10, 1, none⟩ = some (.pointer (some ⟨O2.B.bt, 0, none⟩)) := RO4.out.r10.cell 1
            have SF := flush_all w10 O2.B.bt Mb.T Mb.fo Mb.mi RO4.out.m2.tlb
            go_wp2_with fail
            refine SF.mono ?_
            rintro e w11 ⟨rfl, g3, hT3⟩
            have nb : ∀ j, g10 < j → ¬ at' O2.B.bt j := fun j hj e => by have e' : j = O2.B.bt := e; have := RO4.out.s2 O2.B.bt (Or.inl (Or.inr (Or.inl rfl))); omega
            have RO5 : Hid (Ro w w11 gx gc g8 g10 #[.slice a0 len cap, .slice a1 len1 cap1, .bool false, .int .i64 vm, .int .i64 (sn : Int)] c1 O1 O2 Ma' Mb.fg) := RO4.out.fg g3 hT3
            replace rd := rd.keep g3 (nb _ (by have := HGD.out; omega))
            replace r23 := r23.keep g3 (nb _ (by have := HGD.out; have := HX.out; omega))
            replace r24 := r24.keep g3 (nb _ (by have := HGD.out; have := HX.out; omega))
            clear y1 SF g3 hT3 nb RO4
            obtain ⟨y0, y1, y2⟩ : w11.cell? ⟨g10, 0, none⟩ = some (.pointer (some ⟨O2.B.p, 0, none⟩)) ∧ w11.cell? ⟨g10, 1, none⟩ = some (.pointer (some ⟨O2.B.bt, 0, none⟩)) ∧ w11.cell? ⟨g10, 2, none⟩ = some (ptrV (O2.B.v.map Bk.b)) := ⟨RO5.out.r10.cell 0, RO5.out.r10.cell 1, RO5.out.r10.cell 2⟩
            obtain ⟨x3, x4⟩ : w11.cell? ⟨gx, 3, none⟩ = some (.int .i64 vm) ∧ w11.cell? ⟨gx, 4, none⟩ = some (.int .i64 (sn : Int)) := ⟨RO5.out.rx.cell 3, RO5.out.rx.cell 4⟩
            have S3 := S2 w11 RO5.out.m2
            clear S2
            go_wp2_with (refine wpList_load_part rfl 30 _ rfl gd rfl (cpA c1) _ (cp_at rd) Tryz.underlying30 rfl (size_cpA c1) ?_)
            refine S3.mono ?_
            rintro e w12 ⟨rfl, g4, hM4, _⟩
            have n10 : ∀ j, g10 ≤ j → ¬ O2.B.s j := fun j hj e => by have := RO5.out.s2 j (Or.inl e); omega
            have RO6 : Hid (Ro w w12 gx gc g8 g10 #[.slice a0 len cap, .slice a1 len1 cap1, .bool false, .int .i64 vm, .int .i64 (sn : Int)] c1 O1 O2 Ma' Mb') := RO5.out.run2 g4 hM4
            replace rd := rd.keep g4 (n10 _ (by have := HGD.out; omega))
            replace r23 := r23.keep g4 (n10 _ (by have := HGD.out; have := HX.out; omega))
            replace r24 := r24.keep g4 (n10 _ (by have := HGD.out; have := HX.out; omega))
            clear y0 y1 y2 x3 x4 S3 g4 hM4 n10 RO5
            have q12 : Row ((w12.alloc (.cells (cpA zc) 30)).alloc (.cells #[.int .i64 0, .int .i64 0, .int .i64 0, .int .i64 0, .int .i64 0, .int .i64 0, .bool false, .int .i64 0] 52)) w12.heap.size (cpA zc) 30 := (row_alloc w12 (cpA zc) 30).alloc _
            have q13 : Row ((w12.alloc (.cells (cpA zc) 30)).alloc (.cells #[.int .i64 0, .int .i64 0, .int .i64 0, .int .i64 0, .int .i64 0, .int .i64 0, .bool false, .int .i64 0] 52)) (w12.heap.size + 1) #[.int .i64 0, .int .i64 0, .int .i64 0, .int .i64 0, .int .i64 0, .int .i64 0, .bool false, .int .i64 0] 52 := row_at (by simp)
            have q13' := q13.keep (fr_row _ w12.heap.size (cpA c2)) (fun e => by have e' : w12.heap.size + 1 = w12.heap.size := e; omega)
            have lp : (cpA zc).size = (cpA c2).size := by rw [cpA_size, cpA_size]
            have GG : Hid (Fr none' w12 ((((w12.alloc (.cells (cpA zc) 30)).alloc (.cells #[.int .i64 0, .int .i64 0, .int .i64 0, .int .i64 0, .int .i64 0, .int .i64 0, .bool false, .int .i64 0] 52)).setRow w12.heap.size (cpA c2)).setRow (w12.heap.size + 1) (trL T2)) ∧ Row ((((w12.alloc (.cells (cpA zc) 30)).alloc (.cells #[.int .i64 0, .int .i64 0, .int .i64 0, .int .i64 0, .int .i64 0, .int .i64 0, .bool false, .int .i64 0] 52)).setRow w12.heap.size (cpA c2)).setRow (w12.heap.size + 1) (trL T2)) w12.heap.size (cpA c2) 30 ∧ Row ((((w12.alloc (.cells (cpA zc) 30)).alloc (.cells #[.int .i64 0, .int .i64 0, .int .i64 0, .int .i64 0, .int .i64 0, .int .i64 0, .bool false, .int .i64 0] 52)).setRow w12.heap.size (cpA c2)).setRow (w12.heap.size + 1) (trL T2)) (w12.heap.size + 1) (trL T2) 52) :=
              ⟨((((Fr.refl none' w12).alloc _).alloc _).newer (fr_row _ w12.heap.size (cpA c2)) (Nat.le_refl _)).newer (fr_row _ (w12.heap.size + 1) (trL T2)) (Nat.le_succ _), (q12.setRow).keep (fr_row _ (w12.heap.size + 1) _) (fun e => by have e' : w12.heap.size = w12.heap.size + 1 := e; omega), q13'.setRow⟩
            clear q13
            go_upto_region 28 with (first | refine wpList_store_row rfl 30 _ _ rfl w12.heap.size (cpA c2) rfl rfl 30 (cpA zc) q12 (size_cpA c2) lp (cpA_one c2) ?_ | refine wpList_store_row rfl 52 _ _ rfl (w12.heap.size + 1) (trL T2) rfl rfl 52 #[.int .i64 0, .int .i64 0, .int .i64 0, .int .i64 0, .int .i64 0, .int .i64 0, .bool false, .int .i64 0] q13' size_trap rfl (trL_one T2) ?_)
            clear q12 q13' lp
            obtain ⟨fA, r25, r26⟩ := GG.out
            clear GG
            obtain ⟨w13, hw2⟩ : ∃ q, q = (((w12.alloc (.cells (cpA zc) 30)).alloc (.cells #[.int .i64 0, .int .i64 0, .int .i64 0, .int .i64 0, .int .i64 0, .int .i64 0, .bool false, .int .i64 0] 52)).setRow w12.heap.size (cpA c2)).setRow (w12.heap.size + 1) (trL T2) := ⟨_, rfl⟩
            rw [← hw2] at fA r25 r26 ⊢
            clear hw2
            obtain ⟨g25, hga⟩ : ∃ q, q = w12.heap.size := ⟨_, rfl⟩
            obtain ⟨g26, hgb⟩ : ∃ q, q = w12.heap.size + 1 := ⟨_, rfl⟩
            rw [← hgb] at r26 ⊢
            rw [← hga] at r25 ⊢
            have HY : Hid (g24 < g25 ∧ g26 = g25 + 1) := by have := r24.lt; show _ ∧ _; omega
            clear hga hgb
            replace RO6 : Hid (Ro w w13 gx gc g8 g10 #[.slice a0 len cap, .slice a1 len1 cap1, .bool false, .int .i64 vm, .int .i64 (sn : Int)] c1 O1 O2 Ma' Mb') := RO6.out.keep0 fA
            replace rd := rd.keep fA (fun h => h)
            replace r23 := r23.keep fA (fun h => h)
            replace r24 := r24.keep fA (fun h => h)
            clear fA
            have rcc := RO6.out.rc
            have HGC : Hid (gc < g10) := by have := RO6.out.g; show _ < _; omega
            have dc : ∀ j, gc < j → ¬ at' gc j := fun j h e => by have e' : j = gc := e; omega
            have dd : ∀ j, gd < j → ¬ at' gd j := fun j h e => by have e' : j = gd := e; omega
            have kc := fr_row w13 gc (cpA c2)
            have lp : (cpA c1).size = (cpA c2).size := by rw [cpA_size, cpA_size]
            have rd' := rd.keep kc (dc _ (by have := HGD.out; have := HGC.out; omega))
            have r25' := r25.keep kc (dc _ (by have := HGD.out; have := HGC.out; have := HX.out; have := HY.out; omega))
            have kd := fr_row (w13.setRow gc (cpA c2)) gd (cpA c2)
            have GG : Hid (Ro w ((w13.setRow gc (cpA c2)).setRow gd (cpA c2)) gx gc g8 g10 #[.slice a0 len cap, .slice a1 len1 cap1, .bool false, .int .i64 vm, .int .i64 (sn : Int)] c2 O1 O2 Ma' Mb' ∧ Row ((w13.setRow gc (cpA c2)).setRow gd (cpA c2)) gd (cpA c2) 30 ∧ Row ((w13.setRow gc (cpA c2)).setRow gd (cpA c2)) g23 (cpA c2) 30 ∧ Row ((w13.setRow gc (cpA c2)).setRow gd (cpA c2)) g24 (trL T2) 52 ∧ Row ((w13.setRow gc (cpA c2)).setRow gd (cpA c2)) g25 (cpA c2) 30 ∧ Row ((w13.setRow gc (cpA c2)).setRow gd (cpA c2)) g26 (trL T2) 52) :=
              ⟨(RO6.out.cpu c2).at kd HGD.out, rd'.setRow, (r23.keep kc (dc _ (by have := HGD.out; have := HGC.out; have := HX.out; omega))).keep kd (dd _ (by have := HX.out; omega)), (r24.keep kc (dc _ (by have := HGD.out; have := HGC.out; have := HX.out; omega))).keep kd (dd _ (by have := HX.out; omega)), r25'.keep kd (dd _ (by have := HX.out; have := HY.out; omega)), (r26.keep kc (dc _ (by have := HGD.out; have := HGC.out; have := HX.out; have := HY.out; omega))).keep kd (dd _ (by have := HX.out; have := HY.out; omega))⟩
            clear kc kd dc dd r24 r26 RO6
            go_upto_region 30 with (first
              | refine wpList_load_part rfl 30 _ rfl g23 rfl (cpA c2) _ (cp_at r23) Tryz.underlying30 rfl (size_cpA c2) ?_
              | refine wpList_store_row rfl 30 _ _ rfl gc (cpA c2) rfl rfl 30 (cpA c1) rcc (size_cpA c2) lp (cpA_one c2) ?_
              | refine wpList_load_part rfl 30 _ rfl g25 rfl (cpA c2) _ (cp_at r25') Tryz.underlying30 rfl (size_cpA c2) ?_
              | refine wpList_store_row rfl 30 _ _ rfl gd (cpA c2) rfl rfl 30 (cpA c1) rd' (size_cpA c2) lp (cpA_one c2) ?_)
            clear rcc r23 r25 r25' rd rd' lp
            obtain ⟨w14, hw14⟩ : ∃ q, q = (w13.setRow gc (cpA c2)).setRow gd (cpA c2) := ⟨_, rfl⟩
            rw [← hw14] at GG ⊢
            clear hw14
            obtain ⟨hRo, rd, r23, r24, r25, r26⟩ := GG.out
            have HLC : Hid (∃ Ma Mb c1, Ro w w14 gx gc g8 g10 #[.slice a0 len cap, .slice a1 len1 cap1, .bool false, .int .i64 vm, .int .i64 (sn : Int)] c1 O1 O2 Ma Mb ∧ Row w14 gd (cpA c1) 30 ∧ Fo BS vm (sn : Int) Ma Mb (2 * (i + 1)) ∧ c1.Ok) := ⟨Ma', Mb', c2, hRo, rd, HF2.out, HO2.out⟩
            have RT : Hid (Ro w w14 gx gc g8 g10 #[.slice a0 len cap, .slice a1 len1 cap1, .bool false, .int .i64 vm, .int .i64 (sn : Int)] c2 O1 O2 Ma' Mb') := hRo
            clear hRo rd GG
            have heq := fun w => neq_cpu c2 c2 w
            simp only [ceq_self, Bool.not_true] at heq
            have het : ∀ w, (binOp .neq 52 (.agg #[.int .i64 T2.ca, .int .i64 T2.nu, .int .i64 T2.ad, .int .i64 T2.f.k, .int .i64 T2.f.s, .int .i64 T2.f.l, .bool T2.f.wk, .int .i64 T2.f.p]) (.agg #[.int .i64 T2.ca, .int .i64 T2.nu, .int .i64 T2.ad, .int .i64 T2.f.k, .int .i64 T2.f.s, .int .i64 T2.f.l, .bool T2.f.wk, .int .i64 T2.f.p])).run Tryz.prog w = .ok (.bool false) w := fun w => neq_trap T2 w
            obtain ⟨q0, q1, q2, q3, q4, q5, q6, q7⟩ := cells8 (show Row w14 g24 #[.int .i64 T2.ca, .int .i64 T2.nu, .int .i64 T2.ad, .int .i64 T2.f.k, .int .i64 T2.f.s, .int .i64 T2.f.l, .bool T2.f.wk, .int .i64 T2.f.p] 52 from r24)
            obtain ⟨p0, p1, p2, p3, p4, p5, p6, p7⟩ := cells8 (show Row w14 g26 #[.int .i64 T2.ca, .int .i64 T2.nu, .int .i64 T2.ad, .int .i64 T2.f.k, .int .i64 T2.f.s, .int .i64 T2.f.l, .bool T2.f.wk, .int .i64 T2.f.p] 52 from r26)
            go_step
            refine wpList_load_part rfl 30 _ rfl _ rfl _ _ (by first | exact cp_at r23 | exact cp_at r25) Tryz.underlying30 rfl (by exact size_cpA _) ?_
            refine wpList_load_part rfl 30 _ rfl _ rfl _ _ (by first | exact cp_at r25 | exact cp_at r23) Tryz.underlying30 rfl (by exact size_cpA _) ?_
            go_upto_region 32 with fail
            clear q1 q2 q3 q4 q5 q6 q7 p0 p1 p2 p3 p4 p5 p6 p7
            clear r23 r24 r25 r26 heq het
            by_cases ht : T2.ca = 0
            · have ut : (T2.ca != 0) = false := by simpa using ht
              clear ht RT
              go_wp2_with fail
              go_roundw
              case rel => exact ⟨i + 1, by omega, by go_num, HLC⟩
              case measure => simp [intOf]; omega
            · have ut : (T2.ca != 0) = true := by simpa using ht
              have HBE : Hid (Ma'.bs = Mb'.bs) := HF2.out.bs
              clear ht HLC
              obtain ⟨Mt, hMt⟩ : ∃ q, q = Ma' := ⟨_, rfl⟩
              obtain ⟨Ms, hMs⟩ : ∃ q, q = Mb' := ⟨_, rfl⟩
              obtain ⟨ct, hct⟩ : ∃ q, q = c2 := ⟨_, rfl⟩
              rw [← hMt, ← hMs] at HBE RT
              rw [← hct] at RT
              clear hMt hMs hct
              go_wp2_with fail
              go_loopw [27, 28, 29, 30, 31, 32] (fun i a b d e f wr => ∃ j : Nat, j ≤ 16 ∧ i = .int .i64 (j : Int) ∧ Hid (Ro w wr gx gc g8 g10 #[.slice a0 len cap, .slice a1 len1 cap1, .bool false, .int .i64 vm, .int .i64 (sn : Int)] ct O1 O2 Mt Ms)) (fun i _ _ _ _ _ _ => 16 - (intOf i).toNat)
              case atStart => exact ⟨0, by omega, rfl, RT⟩
              case round =>
                clear RT
                obtain ⟨j, hj, rfl, LL⟩ := hrel
                by_cases hlj : j < 16
                · have uj : decide ((j : Int) < 16) = true := decide_eq_true (by omega)
                  have HFL : Hid ((frameOf Mt.bs j).length = 64) := length_frameOf Mt.bs j 16 LL.out.m1.ram.len hlj
                  have y0 : wr.cell? ⟨g8, 0, none⟩ = some (.pointer (some ⟨O1.B.p, 0, none⟩)) := LL.out.r8.cell 0
                  go_wp2_with fail
                  refine (frame_ok _ _ _ _ _ _ LL.out.m1.ram hlj).mono ?_
                  rintro e v3 ⟨rfl, f3, r3⟩
                  replace LL : Hid (Ro w v3 gx gc g8 g10 #[.slice a0 len cap, .slice a1 len1 cap1, .bool false, .int .i64 vm, .int .i64 (sn : Int)] ct O1 O2 Mt Ms) := LL.out.keep0 f3
                  clear f3 y0
                  have y0 : v3.cell? ⟨g10, 0, none⟩ = some (.pointer (some ⟨O2.B.p, 0, none⟩)) := LL.out.r10.cell 0
                  go_wp2_with fail
                  refine (frame_ok _ _ _ _ _ _ LL.out.m2.ram hlj).mono ?_
                  rintro e v4 ⟨rfl, f4, r4⟩
                  replace LL : Hid (Ro w v4 gx gc g8 g10 #[.slice a0 len cap, .slice a1 len1 cap1, .bool false, .int .i64 vm, .int .i64 (sn : Int)] ct O1 O2 Mt Ms) := LL.out.keep0 f4
                  replace r3 := r3.keep f4 (fun h => h)
                  rw [← HBE.out] at r4
                  clear f4 y0
                  have b3 := (begins_row r3).src
                  have b4 := (begins_row r4).src
                  go_wp2_with fail
                  refine (same_any _ _ _ _ _ _ _ _ _ HFL.out HFL.out (by omega) b3 b4).mono ?_
                  rintro e v5 ⟨rfl, f5⟩
                  replace LL : Hid (Ro w v5 gx gc g8 g10 #[.slice a0 len cap, .slice a1 len1 cap1, .bool false, .int .i64 vm, .int .i64 (sn : Int)] ct O1 O2 Mt Ms) := LL.out.keep0 f5
                  clear f5 b3 b4 r3 r4
                  have us : decide (frameOf Mt.bs j = frameOf Mt.bs j) = true := by simp
                  rw [us]
                  clear us
                  go_wp2_with fail
                  go_roundw
                  case rel => exact ⟨j + 1, by omega, by go_num, LL⟩
                  case measure => simp [intOf]; omega
                · have uj : decide ((j : Int) < 16) = false := decide_eq_false (by omega)
                  have HE : Hid (Fr none' w wr) := LL.out.f
                  clear hlj hj LL
                  go_wp2_with fail
                  go_ret
                  exact ⟨rfl, HE.out⟩
          · have u2 : decide ((i : Int) < 60) = false := decide_eq_false (by omega)
            have HBE : Hid (Ma.bs = Mb.bs) := HFO.out.bs
            clear hi60 hi hst HRD HOK HFO
            obtain ⟨Mt, hMt⟩ : ∃ q, q = Ma := ⟨_, rfl⟩
            obtain ⟨Ms, hMs⟩ : ∃ q, q = Mb := ⟨_, rfl⟩
            obtain ⟨ct, hct⟩ : ∃ q, q = c1 := ⟨_, rfl⟩
            rw [← hMt, ← hMs] at HBE RO3
            rw [← hct] at RO3
            clear hMt hMs hct
            have RT : Hid (Ro w wr gx gc g8 g10 #[.slice a0 len cap, .slice a1 len1 cap1, .bool false, .int .i64 vm, .int .i64 (sn : Int)] ct O1 O2 Mt Ms) := RO3
            clear RO3
            go_wp2_with fail
            go_loopw [27, 28, 29, 30, 31, 32] (fun i a b d e f wr => ∃ j : Nat, j ≤ 16 ∧ i = .int .i64 (j : Int) ∧ Hid (Ro w wr gx gc g8 g10 #[.slice a0 len cap, .slice a1 len1 cap1, .bool false, .int .i64 vm, .int .i64 (sn : Int)] ct O1 O2 Mt Ms)) (fun i _ _ _ _ _ _ => 16 - (intOf i).toNat)
            case atStart => exact ⟨0, by omega, rfl, RT⟩
            case round =>
              clear RT
              obtain ⟨j, hj, rfl, LL⟩ := hrel
              by_cases hlj : j < 16
              · have uj : decide ((j : Int) < 16) = true := decide_eq_true (by omega)
                have HFL : Hid ((frameOf Mt.bs j).length = 64) := length_frameOf Mt.bs j 16 LL.out.m1.ram.len hlj
                have y0 : wr.cell? ⟨g8, 0, none⟩ = some (.pointer (some ⟨O1.B.p, 0, none⟩)) := LL.out.r8.cell 0
                go_wp2_with fail
                refine (frame_ok _ _ _ _ _ _ LL.out.m1.ram hlj).mono ?_
                rintro e v3 ⟨rfl, f3, r3⟩
                replace LL : Hid (Ro w v3 gx gc g8 g10 #[.slice a0 len cap, .slice a1 len1 cap1, .bool false, .int .i64 vm, .int .i64 (sn : Int)] ct O1 O2 Mt Ms) := LL.out.keep0 f3
                clear f3 y0
                have y0 : v3.cell? ⟨g10, 0, none⟩ = some (.pointer (some ⟨O2.B.p, 0, none⟩)) := LL.out.r10.cell 0
                go_wp2_with fail
                refine (frame_ok _ _ _ _ _ _ LL.out.m2.ram hlj).mono ?_
                rintro e v4 ⟨rfl, f4, r4⟩
                replace LL : Hid (Ro w v4 gx gc g8 g10 #[.slice a0 len cap, .slice a1 len1 cap1, .bool false, .int .i64 vm, .int .i64 (sn : Int)] ct O1 O2 Mt Ms) := LL.out.keep0 f4
                replace r3 := r3.keep f4 (fun h => h)
                rw [← HBE.out] at r4
                clear f4 y0
                have b3 := (begins_row r3).src
                have b4 := (begins_row r4).src
                go_wp2_with fail
                refine (same_any _ _ _ _ _ _ _ _ _ HFL.out HFL.out (by omega) b3 b4).mono ?_
                rintro e v5 ⟨rfl, f5⟩
                replace LL : Hid (Ro w v5 gx gc g8 g10 #[.slice a0 len cap, .slice a1 len1 cap1, .bool false, .int .i64 vm, .int .i64 (sn : Int)] ct O1 O2 Mt Ms) := LL.out.keep0 f5
                clear f5 b3 b4 r3 r4
                have us : decide (frameOf Mt.bs j = frameOf Mt.bs j) = true := by simp
                rw [us]
                clear us
                go_wp2_with fail
                go_roundw
                case rel => exact ⟨j + 1, by omega, by go_num, LL⟩
                case measure => simp [intOf]; omega
              · have uj : decide ((j : Int) < 16) = false := decide_eq_false (by omega)
                have HE : Hid (Fr none' w wr) := LL.out.f
                clear hlj hj LL
                go_wp2_with fail
                go_ret
                exact ⟨rfl, HE.out⟩
        · have u1 : decide ((i : Int) < steps) = false := decide_eq_false hst
          have HBE : Hid (Ma.bs = Mb.bs) := HFO.out.bs
          clear hi hst HRD HOK HFO
          obtain ⟨Mt, hMt⟩ : ∃ q, q = Ma := ⟨_, rfl⟩
          obtain ⟨Ms, hMs⟩ : ∃ q, q = Mb := ⟨_, rfl⟩
          obtain ⟨ct, hct⟩ : ∃ q, q = c1 := ⟨_, rfl⟩
          rw [← hMt, ← hMs] at HBE RO3
          rw [← hct] at RO3
          clear hMt hMs hct
          have RT : Hid (Ro w wr gx gc g8 g10 #[.slice a0 len cap, .slice a1 len1 cap1, .bool false, .int .i64 vm, .int .i64 (sn : Int)] ct O1 O2 Mt Ms) := RO3
          clear RO3
          go_wp2_with fail
          go_loopw [27, 28, 29, 30, 31, 32] (fun i a b d e f wr => ∃ j : Nat, j ≤ 16 ∧ i = .int .i64 (j : Int) ∧ Hid (Ro w wr gx gc g8 g10 #[.slice a0 len cap, .slice a1 len1 cap1, .bool false, .int .i64 vm, .int .i64 (sn : Int)] ct O1 O2 Mt Ms)) (fun i _ _ _ _ _ _ => 16 - (intOf i).toNat)
          case atStart => exact ⟨0, by omega, rfl, RT⟩
          case round =>
            clear RT
            obtain ⟨j, hj, rfl, LL⟩ := hrel
            by_cases hlj : j < 16
            · have uj : decide ((j : Int) < 16) = true := decide_eq_true (by omega)
              have HFL : Hid ((frameOf Mt.bs j).length = 64) := length_frameOf Mt.bs j 16 LL.out.m1.ram.len hlj
              have y0 : wr.cell? ⟨g8, 0, none⟩ = some (.pointer (some ⟨O1.B.p, 0, none⟩)) := LL.out.r8.cell 0
              go_wp2_with fail
              refine (frame_ok _ _ _ _ _ _ LL.out.m1.ram hlj).mono ?_
              rintro e v3 ⟨rfl, f3, r3⟩
              replace LL : Hid (Ro w v3 gx gc g8 g10 #[.slice a0 len cap, .slice a1 len1 cap1, .bool false, .int .i64 vm, .int .i64 (sn : Int)] ct O1 O2 Mt Ms) := LL.out.keep0 f3
              clear f3 y0
              have y0 : v3.cell? ⟨g10, 0, none⟩ = some (.pointer (some ⟨O2.B.p, 0, none⟩)) := LL.out.r10.cell 0
              go_wp2_with fail
              refine (frame_ok _ _ _ _ _ _ LL.out.m2.ram hlj).mono ?_
              rintro e v4 ⟨rfl, f4, r4⟩
              replace LL : Hid (Ro w v4 gx gc g8 g10 #[.slice a0 len cap, .slice a1 len1 cap1, .bool false, .int .i64 vm, .int .i64 (sn : Int)] ct O1 O2 Mt Ms) := LL.out.keep0 f4
              replace r3 := r3.keep f4 (fun h => h)
              rw [← HBE.out] at r4
              clear f4 y0
              have b3 := (begins_row r3).src
              have b4 := (begins_row r4).src
              go_wp2_with fail
              refine (same_any _ _ _ _ _ _ _ _ _ HFL.out HFL.out (by omega) b3 b4).mono ?_
              rintro e v5 ⟨rfl, f5⟩
              replace LL : Hid (Ro w v5 gx gc g8 g10 #[.slice a0 len cap, .slice a1 len1 cap1, .bool false, .int .i64 vm, .int .i64 (sn : Int)] ct O1 O2 Mt Ms) := LL.out.keep0 f5
              clear f5 b3 b4 r3 r4
              have us : decide (frameOf Mt.bs j = frameOf Mt.bs j) = true := by simp
              rw [us]
              clear us
              go_wp2_with fail
              go_roundw
              case rel => exact ⟨j + 1, by omega, by go_num, LL⟩
              case measure => simp [intOf]; omega
            · have uj : decide ((j : Int) < 16) = false := decide_eq_false (by omega)
              have HE : Hid (Fr none' w wr) := LL.out.f
              clear hlj hj LL
              go_wp2_with fail
              go_ret
              exact ⟨rfl, HE.out⟩

end Go.Proofs.YtgnoakidjnilpaaGreat

/- CpuForgOut -/
namespace Go.Proofs.YtgnoakidjnilpaaGreat
open Go.RowKit

set_option maxRecDepth 100000 in
set_option maxHeartbeats 2000000 in
theorem forg_out (w : World) (a0 a1 : Option Addr) (len cap len1 cap1 : Nat) (g : Bool) (vm se : Int) (c : Cp) (steps : Int) (h : g = true ∨ se < 0 ∨ 15 < se) :
    Calls Tryz.prog 5 #[.agg #[.slice a0 len cap, .slice a1 len1 cap1, .bool g, .int .i64 vm, .int .i64 se], .agg (cpA c), .int .i64 steps] w fun e w' => e = .returned (.bool true) ∧ Fr none' w w' := by
  have f0 := ((Fr.refl none' w).alloc (.cells #[.slice a0 len cap, .slice a1 len1 cap1, .bool g, .int .i64 vm, .int .i64 se] 25)).alloc (.cells (cpA c) 30)
  have rx := (row_alloc w #[.slice a0 len cap, .slice a1 len1 cap1, .bool g, .int .i64 vm, .int .i64 se] 25).alloc (.cells (cpA c) 30)
  have HH : Hid (g = true ∨ se < 0 ∨ 15 < se) := h
  clear h
  go_enter Tryz.func5, Tryz.ntmps5
  go_wp2_with fail
  refine (awake_any _).mono ?_
  rintro e w1 ⟨rfl, g1⟩
  replace f0 := f0.trans g1
  replace rx := rx.keep g1 (fun h => h)
  clear g1
  have x2 : w1.cell? ⟨w.heap.size, 2, none⟩ = some (.bool g) := rx.cell 2
  have x4 : w1.cell? ⟨w.heap.size, 4, none⟩ = some (.int .i64 se) := rx.cell 4
  have F0 : Hid (Fr none' w w1) := f0
  clear f0 rx
  cases g with
  | true =>
    clear HH
    go_wp2_with fail
    go_ret
    exact ⟨rfl, F0.out⟩
  | false =>
    by_cases h0 : se < 0
    · have u0 : decide (se < 0) = true := decide_eq_true h0
      clear HH h0
      go_wp2_with fail
      go_ret
      exact ⟨rfl, F0.out⟩
    · have u0 : decide (se < 0) = false := decide_eq_false h0
      have u1 : decide (15 < se) = true := decide_eq_true (by rcases HH.out with h | h | h; cases h; omega; exact h)
      clear HH h0
      go_wp2_with fail
      go_ret
      exact ⟨rfl, F0.out⟩

theorem forg_all (w : World) (a0 a1 : Option Addr) (len cap len1 cap1 : Nat) (g : Bool) (vm se : Int) (P : Nat → Pu) (Q : Nat → Wo) (hl : len ≤ 9223372036854775807) (hl1 : len1 ≤ 9223372036854775807) (hP : Pus w a0 len P) (hQ : Wos w a1 len1 Q) (c : Cp) (hok : c.Ok) (steps : Int) :
    Calls Tryz.prog 5 #[.agg #[.slice a0 len cap, .slice a1 len1 cap1, .bool g, .int .i64 vm, .int .i64 se], .agg (cpA c), .int .i64 steps] w fun e w' => e = .returned (.bool true) ∧ Fr none' w w' := by
  by_cases h : g = true ∨ se < 0 ∨ 15 < se
  · exact forg_out w a0 a1 len cap len1 cap1 g vm se c steps h
  · have hg : g = false := by cases g with | true => exact absurd (Or.inl rfl) h | false => rfl
    have h2 : ¬ (se < 0 ∨ 15 < se) := fun hh => h (Or.inr hh)
    subst hg
    obtain ⟨sn, rfl⟩ : ∃ sn : Nat, se = (sn : Int) := ⟨se.toNat, by omega⟩
    exact forg_walk w a0 a1 len cap len1 cap1 vm sn P Q hl hl1 hP hQ c hok steps (by omega)

end Go.Proofs.YtgnoakidjnilpaaGreat

/- EntOpen -/
namespace Go.Proofs.YtgnoakidjnilpaaGreat
open Go.ChangeShapes Go.WideShapes Go.ChangeAt Go.RowKit Go.Deep

theorem own_knob : ownKnob Tryz.prog.godebug = none := by kernel_rfl
theorem laid_out : laidOutB Tryz.prog = true := by kernel_rfl
theorem cells_ent : Tryz.prog.cellsOf 71 = 4 := by kernel_rfl
theorem cells_int : Tryz.prog.cellsOf 3 = 1 := by kernel_rfl
theorem cells_bool : Tryz.prog.cellsOf 4 = 1 := by kernel_rfl

theorem field_one {cs : List Value} (i : Nat) (hi : i < cs.length) : (cs.drop i).take 1 = [cs[i]] := by
  rw [List.drop_eq_getElem_cons (by omega), List.take_succ_cons, List.take_zero]

set_option maxRecDepth 100000 in
/-- The cells of an entry. -/
theorem ent_cells {H : Type} {enc : TypeId × Value → H} {W : World} {n : Nat} {cs : List Value} {x : DataW H × List MemPlace} (h : DataW.trod enc Tryz.prog W 0 (fun _ => true) true n 71 cs = some x) :
    ∃ (v l : Bool) (r f : Int), cs = [.bool v, .bool l, .int .i64 r, .int .i64 f] := by
  obtain ⟨xs, n', _, _, hl, hxl, hf⟩ := DataW.trod_struct Tryz.underlying71 h
  rw [cells_ent] at hl
  have hxl' : xs.length = 4 := hxl
  have g0 : DataW.trod enc Tryz.prog W 0 (fun _ => true) true n' 4 ((cs.drop 0).take (Tryz.prog.cellsOf 4)) = xs[0]? := hf 0 _ rfl
  have g1 : DataW.trod enc Tryz.prog W 0 (fun _ => true) true n' 4 ((cs.drop 1).take (Tryz.prog.cellsOf 4)) = xs[1]? := hf 1 _ rfl
  have g2 : DataW.trod enc Tryz.prog W 0 (fun _ => true) true n' 3 ((cs.drop 2).take (Tryz.prog.cellsOf 3)) = xs[2]? := hf 2 _ rfl
  have g3 : DataW.trod enc Tryz.prog W 0 (fun _ => true) true n' 3 ((cs.drop 3).take (Tryz.prog.cellsOf 3)) = xs[3]? := hf 3 _ rfl
  rw [cells_bool, field_one 0 (by omega), List.getElem?_eq_getElem (by omega)] at g0
  rw [cells_bool, field_one 1 (by omega), List.getElem?_eq_getElem (by omega)] at g1
  rw [cells_int, field_one 2 (by omega), List.getElem?_eq_getElem (by omega)] at g2
  rw [cells_int, field_one 3 (by omega), List.getElem?_eq_getElem (by omega)] at g3
  obtain ⟨v, e0, _⟩ := DataW.trod_bool Tryz.underlying4 g0
  obtain ⟨l, e1, _⟩ := DataW.trod_bool Tryz.underlying4 g1
  obtain ⟨r, e2, _, _⟩ := DataW.trod_int Tryz.underlying3 g2
  obtain ⟨f, e3, _, _⟩ := DataW.trod_int Tryz.underlying3 g3
  simp only [List.cons.injEq, and_true] at e0 e1 e2 e3
  refine ⟨v, l, r, f, ?_⟩
  match cs, hl with
  | [a, b, c, d], _ =>
    simp only [List.getElem_cons_zero, List.getElem_cons_succ] at e0 e1 e2 e3
    rw [e0, e1, e2, e3]

set_option maxRecDepth 100000 in
theorem ent_open {H : Type} {enc : TypeId × Value → H} {W : World} {r : Reach} {b0 : Nat} {x : Value} {d : DataW H} {ps : List MemPlace} (hv : Value.okWide Tryz.prog W r b0 71 x) (h : DataW.Trod enc Tryz.prog W 0 (fun _ => true) true 71 x d ps) :
    ∃ (v l : Bool) (r f : Int), x = .agg #[.bool v, .bool l, .int .i64 r, .int .i64 f] := by
  obtain ⟨cs, rfl, _⟩ := okWide_struct Tryz.underlying71 hv
  obtain ⟨fuel, hf⟩ := h
  obtain ⟨v, l, r, f, e⟩ := ent_cells hf
  refine ⟨v, l, r, f, ?_⟩
  have e' : cs.toList = [.bool v, .bool l, .int .i64 r, .int .i64 f] := by simpa [Value.cells] using e
  rw [show cs = cs.toList.toArray by simp, e']

end Go.Proofs.YtgnoakidjnilpaaGreat

/- CpuOpen -/
namespace Go.Proofs.YtgnoakidjnilpaaGreat
open Go.ChangeShapes Go.WideShapes Go.ChangeAt Go.RowKit Go.Deep

theorem cells_pu : Tryz.prog.cellsOf 96 = 6 := by kernel_rfl
theorem cells_wo : Tryz.prog.cellsOf 99 = 2 := by kernel_rfl
theorem cells_pus : Tryz.prog.cellsOf 22 = 1 := by kernel_rfl
theorem cells_wos : Tryz.prog.cellsOf 23 = 1 := by kernel_rfl
theorem cells_world : Tryz.prog.cellsOf 25 = 5 := by kernel_rfl
theorem cells_cpu : Tryz.prog.cellsOf 30 = 25 := by kernel_rfl
theorem cells_a16 : Tryz.prog.cellsOf 27 = 16 := by kernel_rfl
theorem cells_a8 : Tryz.prog.cellsOf 28 = 8 := by kernel_rfl

set_option maxRecDepth 100000 in
theorem pu_cells {H : Type} {enc : TypeId × Value → H} {W : World} {n : Nat} {cs : List Value} {y : DataW H × List MemPlace} (h : DataW.trod enc Tryz.prog W 0 (fun _ => true) true n 96 cs = some y) :
    ∃ q : Pu, cs = [.int .i64 q.t, .int .i64 q.i, .bool q.v, .bool q.l, .int .i64 q.r, .int .i64 q.f] := by
  obtain ⟨xs, n', _, _, hl, hxl, hf⟩ := DataW.trod_struct Tryz.underlying96 h
  rw [cells_pu] at hl
  have hxl' : xs.length = 3 := hxl
  have g0 : DataW.trod enc Tryz.prog W 0 (fun _ => true) true n' 3 ((cs.drop 0).take (Tryz.prog.cellsOf 3)) = xs[0]? := hf 0 _ rfl
  have g1 : DataW.trod enc Tryz.prog W 0 (fun _ => true) true n' 3 ((cs.drop 1).take (Tryz.prog.cellsOf 3)) = xs[1]? := hf 1 _ rfl
  have g2 : DataW.trod enc Tryz.prog W 0 (fun _ => true) true n' 71 ((cs.drop 2).take (Tryz.prog.cellsOf 71)) = xs[2]? := hf 2 _ rfl
  rw [cells_int, field_one 0 (by omega), List.getElem?_eq_getElem (by omega)] at g0
  rw [cells_int, field_one 1 (by omega), List.getElem?_eq_getElem (by omega)] at g1
  rw [cells_ent, List.getElem?_eq_getElem (by omega)] at g2
  obtain ⟨t, e0, _, _⟩ := DataW.trod_int Tryz.underlying3 g0
  obtain ⟨i, e1, _, _⟩ := DataW.trod_int Tryz.underlying3 g1
  obtain ⟨v, l, r, f, e2⟩ := ent_cells g2
  simp only [List.cons.injEq, and_true] at e0 e1
  refine ⟨⟨t, i, v, l, r, f⟩, ?_⟩
  match cs, hl with
  | [c0, c1, c2, c3, c4, c5], _ =>
    simp only [List.getElem_cons_zero, List.getElem_cons_succ] at e0 e1
    simp only [List.drop_succ_cons, List.drop_zero, List.take_succ_cons, List.take_zero] at e2
    rw [e0, e1, e2]

set_option maxRecDepth 100000 in
theorem wo_cells {H : Type} {enc : TypeId × Value → H} {W : World} {n : Nat} {cs : List Value} {y : DataW H × List MemPlace} (h : DataW.trod enc Tryz.prog W 0 (fun _ => true) true n 99 cs = some y) :
    ∃ q : Wo, cs = [.int .i64 q.a, .int .u32 (q.w : Int)] ∧ q.a ≤ 9223372036854775807 ∧ q.w < 4294967296 := by
  obtain ⟨xs, n', _, _, hl, hxl, hf⟩ := DataW.trod_struct Tryz.underlying99 h
  rw [cells_wo] at hl
  have hxl' : xs.length = 2 := hxl
  have g0 : DataW.trod enc Tryz.prog W 0 (fun _ => true) true n' 3 ((cs.drop 0).take (Tryz.prog.cellsOf 3)) = xs[0]? := hf 0 _ rfl
  have g1 : DataW.trod enc Tryz.prog W 0 (fun _ => true) true n' 26 ((cs.drop 1).take (Tryz.prog.cellsOf 26)) = xs[1]? := hf 1 _ rfl
  rw [cells_int, field_one 0 (by omega), List.getElem?_eq_getElem (by omega)] at g0
  rw [cells_u32, field_one 1 (by omega), List.getElem?_eq_getElem (by omega)] at g1
  obtain ⟨a, e0, _, wa⟩ := DataW.trod_int Tryz.underlying3 g0
  obtain ⟨x, e1, _, wx⟩ := DataW.trod_int Tryz.underlying26 g1
  have hb := bounds_u32 wx
  have ha := bounds_i64 wa
  obtain ⟨x, rfl⟩ := Int.eq_ofNat_of_zero_le hb.1
  simp only [List.cons.injEq, and_true] at e0 e1
  refine ⟨⟨a, x⟩, ?_, ha.2, show x < 4294967296 by omega⟩
  match cs, hl with
  | [c0, c1], _ =>
    simp only [List.getElem_cons_zero, List.getElem_cons_succ] at e0 e1
    rw [e0, e1]

theorem pus_of {W : World} {a0 : Option Addr} {len : Nat} (h : ∀ k, k < len → ∃ b o q, a0 = some ⟨b, o, none⟩ ∧ PuIs W b (o + k * 6) q) : ∃ P, Pus W a0 len P := by
  have h' : ∀ k, ∃ q, k < len → ∃ b o, a0 = some ⟨b, o, none⟩ ∧ PuIs W b (o + k * 6) q := fun k => by
    by_cases hk : k < len
    · obtain ⟨b, o, q, e, hq⟩ := h k hk
      exact ⟨q, fun _ => ⟨b, o, e, hq⟩⟩
    · exact ⟨⟨0, 0, false, false, 0, 0⟩, fun hh => absurd hh hk⟩
  exact ⟨fun k => Classical.choose (h' k), fun k hk => Classical.choose_spec (h' k) hk⟩
theorem wos_of {W : World} {a0 : Option Addr} {len : Nat} (h : ∀ k, k < len → ∃ b o q, a0 = some ⟨b, o, none⟩ ∧ WoIs W b (o + k * 2) q) : ∃ P, Wos W a0 len P := by
  have h' : ∀ k, ∃ q, k < len → ∃ b o, a0 = some ⟨b, o, none⟩ ∧ WoIs W b (o + k * 2) q := fun k => by
    by_cases hk : k < len
    · obtain ⟨b, o, q, e, hq⟩ := h k hk
      exact ⟨q, fun _ => ⟨b, o, e, hq⟩⟩
    · exact ⟨⟨0, 0⟩, fun hh => absurd hh hk⟩
  exact ⟨fun k => Classical.choose (h' k), fun k hk => Classical.choose_spec (h' k) hk⟩

set_option maxRecDepth 100000 in
theorem pus_any {H : Type} {enc : TypeId × Value → H} {W : World} {fuel : Nat} {v : Value} {y : DataW H × List MemPlace} (hf : DataW.trod enc Tryz.prog W 0 (fun _ => true) true fuel 22 [v] = some y) :
    ∃ a0 len cap, v = .slice a0 len cap ∧ len ≤ 9223372036854775807 ∧ ∃ P, Pus W a0 len P := by
  rcases open_slice Tryz.underlying22 hf with ⟨hcs, _⟩ | ⟨a, l, c, m, n, D, Pl, hcs, _, hl, hm, hmm, hx, hel⟩
  · simp only [List.cons.injEq, and_true] at hcs
    subst hcs
    exact ⟨_, _, _, rfl, by omega, fun _ => ⟨0, 0, false, false, 0, 0⟩, fun k hk => by omega⟩
  · simp only [List.cons.injEq, and_true] at hcs
    subst hcs
    have hmm' : m = c := by simpa using hmm
    subst hmm'
    refine ⟨_, _, _, rfl, by simp only [maxLen] at hm; omega, pus_of fun k hk => ?_⟩
    rw [cells_pu] at hel
    obtain ⟨b, o, spot⟩ := a
    have hspot : spot = none := by
      obtain ⟨cs', h1, _⟩ := hel 0 (by omega)
      obtain ⟨_, hlen, hc⟩ := World.cells?_some h1
      have := hc 0 (by omega)
      rw [List.getElem?_eq_getElem (by omega)] at this
      simpa [Addr.add] using World.cell?_spot this
    subst hspot
    obtain ⟨cs', h1, h2⟩ := hel k (by omega)
    obtain ⟨_, hlen, hc⟩ := World.cells?_some h1
    obtain ⟨q, e⟩ := pu_cells h2
    have hcell : ∀ j, j < 6 → W.cell? ⟨b, o + k * 6 + j, none⟩ = cs'[j]? := fun j hj => by have := hc j hj; rwa [add_lit', add_lit'] at this
    rw [e] at hcell
    exact ⟨b, o, q, rfl, hcell 0 (by omega), hcell 1 (by omega), hcell 2 (by omega), hcell 3 (by omega), hcell 4 (by omega), hcell 5 (by omega)⟩

set_option maxRecDepth 100000 in
theorem wos_any {H : Type} {enc : TypeId × Value → H} {W : World} {fuel : Nat} {v : Value} {y : DataW H × List MemPlace} (hf : DataW.trod enc Tryz.prog W 0 (fun _ => true) true fuel 23 [v] = some y) :
    ∃ a0 len cap, v = .slice a0 len cap ∧ len ≤ 9223372036854775807 ∧ ∃ P, Wos W a0 len P := by
  rcases open_slice Tryz.underlying23 hf with ⟨hcs, _⟩ | ⟨a, l, c, m, n, D, Pl, hcs, _, hl, hm, hmm, hx, hel⟩
  · simp only [List.cons.injEq, and_true] at hcs
    subst hcs
    exact ⟨_, _, _, rfl, by omega, fun _ => ⟨0, 0⟩, fun k hk => by omega⟩
  · simp only [List.cons.injEq, and_true] at hcs
    subst hcs
    have hmm' : m = c := by simpa using hmm
    subst hmm'
    refine ⟨_, _, _, rfl, by simp only [maxLen] at hm; omega, wos_of fun k hk => ?_⟩
    rw [cells_wo] at hel
    obtain ⟨b, o, spot⟩ := a
    have hspot : spot = none := by
      obtain ⟨cs', h1, _⟩ := hel 0 (by omega)
      obtain ⟨_, hlen, hc⟩ := World.cells?_some h1
      have := hc 0 (by omega)
      rw [List.getElem?_eq_getElem (by omega)] at this
      simpa [Addr.add] using World.cell?_spot this
    subst hspot
    obtain ⟨cs', h1, h2⟩ := hel k (by omega)
    obtain ⟨_, hlen, hc⟩ := World.cells?_some h1
    obtain ⟨q, e, hb1, hb2⟩ := wo_cells h2
    have hcell : ∀ j, j < 2 → W.cell? ⟨b, o + k * 2 + j, none⟩ = cs'[j]? := fun j hj => by have := hc j hj; rwa [add_lit', add_lit'] at this
    rw [e] at hcell
    exact ⟨b, o, q, rfl, hcell 0 (by omega), hcell 1 (by omega), hb1, hb2⟩

set_option maxRecDepth 100000 in
/-- A world that came in. -/
theorem world_open {H : Type} {enc : TypeId × Value → H} {W : World} {r : Reach} {b0 : Nat} {x : Value} {d : DataW H} {ps : List MemPlace} (hv : Value.okWide Tryz.prog W r b0 25 x) (h : DataW.Trod enc Tryz.prog W 0 (fun _ => true) true 25 x d ps) :
    ∃ (a0 a1 : Option Addr) (len cap len1 cap1 : Nat) (g : Bool) (vm se : Int) (P : Nat → Pu) (Q : Nat → Wo), x = .agg #[.slice a0 len cap, .slice a1 len1 cap1, .bool g, .int .i64 vm, .int .i64 se] ∧ len ≤ 9223372036854775807 ∧ len1 ≤ 9223372036854775807 ∧ Pus W a0 len P ∧ Wos W a1 len1 Q := by
  obtain ⟨csa, rfl, _⟩ := okWide_struct Tryz.underlying25 hv
  obtain ⟨fuel, hf0⟩ := h
  have hf1 : DataW.trod enc Tryz.prog W 0 (fun _ => true) true fuel 25 csa.toList = some (d, ps) := by simpa [Value.cells] using hf0
  generalize hcs : csa.toList = cs at hf1
  obtain ⟨xs, n', _, _, hl, hxl, hf⟩ := DataW.trod_struct Tryz.underlying25 hf1
  rw [cells_world] at hl
  have hxl' : xs.length = 5 := hxl
  have g0 : DataW.trod enc Tryz.prog W 0 (fun _ => true) true n' 22 ((cs.drop 0).take (Tryz.prog.cellsOf 22)) = xs[0]? := hf 0 _ rfl
  have g1 : DataW.trod enc Tryz.prog W 0 (fun _ => true) true n' 23 ((cs.drop 1).take (Tryz.prog.cellsOf 23)) = xs[1]? := hf 1 _ rfl
  have g2 : DataW.trod enc Tryz.prog W 0 (fun _ => true) true n' 4 ((cs.drop 2).take (Tryz.prog.cellsOf 4)) = xs[2]? := hf 2 _ rfl
  have g3 : DataW.trod enc Tryz.prog W 0 (fun _ => true) true n' 3 ((cs.drop 3).take (Tryz.prog.cellsOf 3)) = xs[3]? := hf 3 _ rfl
  have g4 : DataW.trod enc Tryz.prog W 0 (fun _ => true) true n' 3 ((cs.drop 4).take (Tryz.prog.cellsOf 3)) = xs[4]? := hf 4 _ rfl
  rw [cells_pus, field_one 0 (by omega), List.getElem?_eq_getElem (by omega)] at g0
  rw [cells_wos, field_one 1 (by omega), List.getElem?_eq_getElem (by omega)] at g1
  rw [cells_bool, field_one 2 (by omega), List.getElem?_eq_getElem (by omega)] at g2
  rw [cells_int, field_one 3 (by omega), List.getElem?_eq_getElem (by omega)] at g3
  rw [cells_int, field_one 4 (by omega), List.getElem?_eq_getElem (by omega)] at g4
  obtain ⟨a0, len, cap, e0, hl0, P, hP⟩ := pus_any g0
  obtain ⟨a1, len1, cap1, e1, hl1, Q, hQ⟩ := wos_any g1
  obtain ⟨g, e2, _⟩ := DataW.trod_bool Tryz.underlying4 g2
  obtain ⟨vm, e3, _, _⟩ := DataW.trod_int Tryz.underlying3 g3
  obtain ⟨se, e4, _, _⟩ := DataW.trod_int Tryz.underlying3 g4
  simp only [List.cons.injEq, and_true] at e2 e3 e4
  refine ⟨a0, a1, len, cap, len1, cap1, g, vm, se, P, Q, ?_, hl0, hl1, hP, hQ⟩
  have e' : cs = [.slice a0 len cap, .slice a1 len1 cap1, .bool g, .int .i64 vm, .int .i64 se] := by
    match cs, hl with
    | [c0, c1, c2, c3, c4], _ =>
      simp only [List.getElem_cons_zero, List.getElem_cons_succ] at e0 e1 e2 e3 e4
      rw [e0, e1, e2, e3, e4]
  rw [show csa = csa.toList.toArray by simp, hcs, e']

theorem words_of {cs : List Value} {n : Nat} (h : ∀ k, k < n → ∃ q : Int, cs[k]? = some (.int .u32 q) ∧ 0 ≤ q ∧ q ≤ 4294967295) : ∃ g : Nat → Nat, (∀ k, g k < 4294967296) ∧ ∀ k, k < n → cs[k]? = some (.int .u32 ((g k : Nat) : Int)) := by
  have h' : ∀ k, ∃ m : Nat, m < 4294967296 ∧ (k < n → cs[k]? = some (.int .u32 (m : Int))) := fun k => by
    by_cases hk : k < n
    · obtain ⟨q, e, h0, h1⟩ := h k hk
      exact ⟨q.toNat, by omega, fun _ => by rw [e, Int.toNat_of_nonneg h0]⟩
    · exact ⟨0, by decide, fun hh => absurd hh hk⟩
  exact ⟨fun k => Classical.choose (h' k), fun k => (Classical.choose_spec (h' k)).1, fun k hk => (Classical.choose_spec (h' k)).2 hk⟩

set_option maxRecDepth 100000 in
/-- A thread's state that came in. -/
theorem cpu_open {H : Type} {enc : TypeId × Value → H} {W : World} {r : Reach} {b0 : Nat} {x : Value} {d : DataW H} {ps : List MemPlace} (hv : Value.okWide Tryz.prog W r b0 30 x) (h : DataW.Trod enc Tryz.prog W 0 (fun _ => true) true 30 x d ps) :
    ∃ c : Cp, x = .agg (cpA c) ∧ c.Ok := by
  obtain ⟨csa, rfl, _⟩ := okWide_struct Tryz.underlying30 hv
  obtain ⟨fuel, hf0⟩ := h
  have hf1 : DataW.trod enc Tryz.prog W 0 (fun _ => true) true fuel 30 csa.toList = some (d, ps) := by simpa [Value.cells] using hf0
  generalize hcs : csa.toList = cs at hf1
  obtain ⟨xs, n', _, _, hl, hxl, hf⟩ := DataW.trod_struct Tryz.underlying30 hf1
  rw [cells_cpu] at hl
  have hxl' : xs.length = 3 := hxl
  have g0 : DataW.trod enc Tryz.prog W 0 (fun _ => true) true n' 27 ((cs.drop 0).take (Tryz.prog.cellsOf 27)) = xs[0]? := hf 0 _ rfl
  have g1 : DataW.trod enc Tryz.prog W 0 (fun _ => true) true n' 3 ((cs.drop 16).take (Tryz.prog.cellsOf 3)) = xs[1]? := hf 1 _ rfl
  have g2 : DataW.trod enc Tryz.prog W 0 (fun _ => true) true n' 28 ((cs.drop 17).take (Tryz.prog.cellsOf 28)) = xs[2]? := hf 2 _ rfl
  rw [cells_a16, List.getElem?_eq_getElem (by omega)] at g0
  rw [cells_int, field_one 16 (by omega), List.getElem?_eq_getElem (by omega)] at g1
  rw [cells_a8, List.getElem?_eq_getElem (by omega)] at g2
  obtain ⟨pc, e1, _, _⟩ := DataW.trod_int Tryz.underlying3 g1
  obtain ⟨ys, m, _, _, hl0, hy0, hel⟩ := DataW.trod_array Tryz.underlying27 g0
  obtain ⟨zs, m', _, _, hl2, hz0, hel2⟩ := DataW.trod_array Tryz.underlying28 g2
  obtain ⟨R, hR, eR⟩ := words_of (cs := cs) (n := 16) (fun k hk => by
    have e := hel k hk
    rw [cells_u32, Nat.mul_one, List.drop_zero, field_one k (by simp; omega)] at e
    rw [List.getElem?_eq_getElem (by omega)] at e
    obtain ⟨q, e1, _, wq⟩ := DataW.trod_int Tryz.underlying26 e
    simp only [List.cons.injEq, and_true, List.getElem_take] at e1
    have hb := bounds_u32 wq
    exact ⟨q, by rw [List.getElem?_eq_getElem (by omega), e1], by omega, by omega⟩)
  obtain ⟨S, hS, eS⟩ := words_of (cs := cs.drop 17) (n := 8) (fun k hk => by
    have e := hel2 k hk
    rw [cells_u32, Nat.mul_one, field_one k (by simp; omega), List.getElem?_eq_getElem (by omega)] at e
    obtain ⟨q, e1, _, wq⟩ := DataW.trod_int Tryz.underlying26 e
    simp only [List.cons.injEq, and_true, List.getElem_take] at e1
    have hb := bounds_u32 wq
    exact ⟨q, by rw [List.getElem?_eq_getElem (by simp; omega), e1], by omega, by omega⟩)
  simp only [List.cons.injEq, and_true] at e1
  refine ⟨⟨R, pc, S⟩, ?_, ⟨hR, hS⟩⟩
  have e' : cs = cpL ⟨R, pc, S⟩ := by
    refine cpL_ext hl eR ?_ ?_
    · rw [List.getElem?_eq_getElem (by omega), e1]
    · intro k hk
      have := eS k hk
      rw [List.getElem?_drop] at this
      exact this
  rw [show csa = csa.toList.toArray by simp, hcs, e']
  rfl

end Go.Proofs.YtgnoakidjnilpaaGreat

/- CpuForgProof -/
namespace Go.Proofs.YtgnoakidjnilpaaGreat
open Go.ChangeShapes Go.WideShapes Go.ChangeAt Go.RowKit Go.Deep

theorem forg_any (w : World) (a0 a1 : Option Addr) (len cap len1 cap1 : Nat) (g : Bool) (vm se : Int) (P : Nat → Pu) (Q : Nat → Wo) (hl : len ≤ 9223372036854775807) (hl1 : len1 ≤ 9223372036854775807) (hP : Pus w a0 len P) (hQ : Wos w a1 len1 Q) (c : Cp) (hok : c.Ok) (steps : Int) :
    Calls Tryz.prog 5 #[.agg #[.slice a0 len cap, .slice a1 len1 cap1, .bool g, .int .i64 vm, .int .i64 se], .agg (cpA c), .int .i64 steps] w fun e w' => e = .returned (.bool true) ∧ Below w.heap.size w w' :=
  (forg_all w a0 a1 len cap len1 cap1 g vm se P Q hl hl1 hP hQ c hok steps).mono fun _ _ ⟨he, hf⟩ => ⟨he, hf.below (Nat.le_refl _) (fun _ h => h.elim)⟩

set_option maxRecDepth 100000 in
theorem forg_lifted (os : Os) (started : os.Started) (H : Type) (enc : TypeId × Value → H) :
    ReturnsInHanded {} Tryz.checked os 5 .any (Rows.cpuForgetsSpec.pre6 enc Tryz.prog Tryz.f5 Rows.cpuForgetsRow.domain false) (Rows.cpuForgetsSpec.post enc Tryz.prog Tryz.f5 false true false false) := by
  refine returnsInHanded_of_change (C := Tryz.checked) own_knob started (by kernel_rfl) Tryz.func5
    (ChangeSpec.witness6 (enc := enc) (C := Tryz.checked) false ⟨#[], #[.agg #[.slice none 0 0, .slice none 0 0, .bool false, .int .i64 0, .int .i64 0], .agg #[.int .u32 0, .int .u32 0, .int .u32 0, .int .u32 0, .int .u32 0, .int .u32 0, .int .u32 0, .int .u32 0, .int .u32 0, .int .u32 0, .int .u32 0, .int .u32 0, .int .u32 0, .int .u32 0, .int .u32 0, .int .u32 0, .int .i64 0, .int .u32 0, .int .u32 0, .int .u32 0, .int .u32 0, .int .u32 0, .int .u32 0, .int .u32 0, .int .u32 0], .int .i64 0], []⟩ 8 (by kernel_rfl) (by kernel_rfl) (by kernel_rfl) (by kernel_rfl)) ?_
  intro W base args ds gs before hval0 hW hcnd _
  have hval : ∀ (j : Nat) t v, Tryz.f5.params[j]? = some t → args[j]? = some v → Value.okWide Tryz.prog W .any base t v := hval0
  have hW' := hW
  obtain ⟨p, q, hA0, hV, rfl, hfz, hnd⟩ := hW
  have hA : DataW.TrodAll enc Tryz.prog W 0 (fun _ => true) true Tryz.f5.params.toList args.toList ds p := hA0
  rw [Tryz.params5] at hA hval
  obtain ⟨v0, vs0, d0, ds0, p0, q0, hargs, rfl, rfl, h0, r0⟩ := trodAll_cons hA
  obtain ⟨v1, vs1, d1, ds1, p1, q1, rfl, rfl, rfl, h1, r1⟩ := trodAll_cons r0
  obtain ⟨v2, vs2, d2, ds2, p2, q2, rfl, rfl, rfl, h2, r2⟩ := trodAll_cons r1
  obtain ⟨rfl, rfl, rfl⟩ := trodAll_nil r2
  obtain rfl : args = #[v0, v1, v2] := by cases args; simp_all
  obtain ⟨rfl, rfl⟩ := trodVars_none hV
  have k0 := h0
  have lt0 : ∀ x ∈ p0, x.block < W.heap.size := by obtain ⟨m, hm⟩ := k0; exact DataW.trod_lt m _ _ _ hm
  obtain ⟨a0, a1, len, cap, len1, cap1, gg, vm, se, P, Q, rfl, hl0, hl1, hP, hQ⟩ := world_open (hval 0 25 v0 rfl rfl) h0
  have k1 := h1
  have lt1 : ∀ x ∈ p1, x.block < W.heap.size := by obtain ⟨m, hm⟩ := k1; exact DataW.trod_lt m _ _ _ hm
  obtain ⟨c1, rfl, hok1⟩ := cpu_open (hval 1 30 v1 rfl rfl) h1
  obtain ⟨a2, rfl, rfl, rfl, w2⟩ := open_int Tryz.underlying3 (hval 2 3 v2 rfl rfl) h2
  clear hA0 hval0
  refine (forg_any W a0 a1 len cap len1 cap1 gg vm se P Q hl0 hl1 hP hQ c1 hok1 a2).mono fun e W' ⟨he, bel⟩ => ?_
  subst he
  exact ⟨_, rfl, _, _, _, [], _, [], hW', trodAll_mk1 (shut_bool Tryz.underlying4 _), (trodAll_cons_mk (Below.trod laid_out (by kernel_rfl) (of_decide_eq_true (by kernel_rfl)) k0 bel lt0) (trodAll_cons_mk (Below.trod laid_out (by kernel_rfl) (of_decide_eq_true (by kernel_rfl)) k1 bel lt1) (trodAll_cons_mk (shut_int Tryz.underlying3 w2) trodAll_mk0))), rfl, bel.frame _, fun h => by cases h⟩

theorem cpuForgets_holds : Rows.CpuForgetsSaid :=
  OpenClaim.holds_of_wide 5 Tryz.f5 rfl rfl rfl rfl rfl rfl rfl ⟨rfl, rfl, rfl, rfl, rfl⟩ rfl rfl rfl rfl rfl (by kernel_rfl) Tryz.func5 (by kernel_rfl)
    (of_decide_eq_true (by kernel_rfl)) (by unfold Func.isWrapper; first | (rw [if_pos (by decide +kernel)]; kernel_rfl) | (rw [if_neg (by decide +kernel)]; exact ⟨rfl, rfl⟩))
    (fun os started H enc _ => forg_lifted os started H enc)
#print axioms cpuForgets_holds

end Go.Proofs.YtgnoakidjnilpaaGreat

