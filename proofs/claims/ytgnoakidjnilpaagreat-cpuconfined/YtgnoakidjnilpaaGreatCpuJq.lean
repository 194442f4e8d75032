/-
  Proved: the statement CpuConfinedSaid: for every world, every state and every number the law CpuConfined of the Go text returns true, and each argument reads afterwards as it read before. No condition but the form's own.
-/
import Derived.Test.YtgnoakidjnilpaaGreatCpuJb
import Derived.Test.YtgnoakidjnilpaaGreatTwin
import Derived.Test.YtgnoakidjnilpaaGreatRefMem
import Derived.Test.YtgnoakidjnilpaaGreatRefMore
import Derived.Test.YtgnoakidjnilpaaGreatCpuJc
import Derived.Deep.CutBlock
import Derived.Test.YtgnoakidjnilpaaGreatCpuJa
import Derived.ChangeKeysEq
import Derived.Deep.CutRange
import Derived.Test.YtgnoakidjnilpaaGreatFrame
import Derived.Test.YtgnoakidjnilpaaGreatSame
import Derived.Test.YtgnoakidjnilpaaGreatGrow
import Derived.Test.YtgnoakidjnilpaaGreatRefFrame
import Derived.Test.YtgnoakidjnilpaaGreatEntOpen
/- CpuRunP -/
namespace Go.Proofs.YtgnoakidjnilpaaGreat
open Go.RowKit

theorem exec_zero (nf : Nat) (M : Mc) (X : Wk) (h : (exec nf M X).2.2.ca = 0) : (exec nf M X).2.2 = _root_.Go.Proofs.YtgnoakidjnilpaaGreat.t0 := by
  unfold exec at h ⊢
  split at h
  all_goals first
    | rfl
    | exact dT_zero (by decide) h
    | (exact absurd h (show ¬((5 : Int) = 0) by decide))
    | (exact absurd h (show ¬((6 : Int) = 0) by decide))
    | skip
  · change (rdT X).ca = 0 at h
    show rdT X = _
    unfold rdT at h ⊢
    split at h
    · exact absurd h (show ¬((7 : Int) = 0) by decide)
    · rw [if_neg (by assumption)]
  · change (wrT X).ca = 0 at h
    show wrT X = _
    unfold wrT at h ⊢
    split at h
    · exact absurd h (show ¬((7 : Int) = 0) by decide)
    · rw [if_neg (by assumption)]
  · change (wfT M X).ca = 0 at h
    show wfT M X = _
    unfold wfT at h ⊢
    split at h
    · split at h
      · rw [if_pos (by assumption)]
      · exact absurd h (show ¬((9 : Int) = 0) by decide)
    · exact absurd h (show ¬((9 : Int) = 0) by decide)
  · change (eoT M.S X).ca = 0 at h
    show eoT M.S X = _
    unfold eoT at h ⊢
    split at h
    · exact absurd h (show ¬((10 : Int) = 0) by decide)
    · rw [if_neg (by assumption)]

theorem do_zero (nf : Nat) (M : Mc) (X : Wk) (h : (doR nf M X).2.2.ca = 0) : (doR nf M X).2.2 = _root_.Go.Proofs.YtgnoakidjnilpaaGreat.t0 := by
  unfold doR at h ⊢
  split at h
  · exact absurd h (show ¬((1 : Int) = 0) by decide)
  · rw [if_neg (by assumption)]
    split at h
    · exact absurd h (show ¬((8 : Int) = 0) by decide)
    · rw [if_neg (by assumption)]
      split at h
      · exact absurd h (show ¬((8 : Int) = 0) by decide)
      · rw [if_neg (by assumption)]
        exact exec_zero nf _ _ h

theorem step_zero (nf : Nat) (M : Mc) (c : Cp) (vm se ix : Int) (h : (stepR nf M c vm se ix).2.2.ca = 0) : (stepR nf M c vm se ix).2.2 = _root_.Go.Proofs.YtgnoakidjnilpaaGreat.t0 := by
  unfold stepR at h ⊢
  split at h
  · exact absurd h (show ¬((4 : Int) = 0) by decide)
  · rw [if_neg (by assumption)]
    exact do_zero nf M _ h

def stepI (nf : Nat) (M : Mc) (c : Cp) (vm se : Int) : Mc × Cp × Tr := stepR nf M c vm se (c.pc / 4 % 8)

theorem step_bad_ix {nf : Nat} {M : Mc} {c : Cp} (h : c.bad) (vm se ix : Int) : stepR nf M c vm se ix = stepI nf M c vm se := by
  unfold stepI stepR
  rw [if_pos h, if_pos h]

def seqR (nf : Nat) (M : Mc) (c : Cp) (vm se : Int) : Nat → Mc × Cp
  | 0 => (M, c)
  | k + 1 => ((stepI nf (seqR nf M c vm se k).1 (seqR nf M c vm se k).2 vm se).1, (stepI nf (seqR nf M c vm se k).1 (seqR nf M c vm se k).2 vm se).2.1)

def trapK (nf : Nat) (M : Mc) (c : Cp) (vm se : Int) (k : Nat) : Tr := (stepI nf (seqR nf M c vm se k).1 (seqR nf M c vm se k).2 vm se).2.2

theorem few_seq {nf : Nat} {M : Mc} (h : M.few 0) (c : Cp) (vm se : Int) (k : Nat) : (seqR nf M c vm se k).1.few (2 * k) := by
  induction k with
  | zero => exact h
  | succ k ih => exact few_mono (few_step ih nf _ vm se _) (by omega)

def Ran (nf : Nat) (M : Mc) (c : Cp) (vm se : Int) (many k : Nat) (M' : Mc) (c' : Cp) (T : Tr) : Prop :=
  (∀ j, j < k → (trapK nf M c vm se j).ca = 0) ∧ ((k = many ∧ M' = (seqR nf M c vm se k).1 ∧ c' = (seqR nf M c vm se k).2 ∧ T = _root_.Go.Proofs.YtgnoakidjnilpaaGreat.t0) ∨ (k < many ∧ (trapK nf M c vm se k).ca ≠ 0 ∧ M' = (seqR nf M c vm se (k + 1)).1 ∧ c' = (seqR nf M c vm se (k + 1)).2 ∧ T = trapK nf M c vm se k))

theorem Ran.one {nf : Nat} {M : Mc} {c : Cp} {vm se : Int} {many k k' : Nat} {M1 M2 : Mc} {c1 c2 : Cp} {T1 T2 : Tr} (h : Ran nf M c vm se many k M1 c1 T1) (h' : Ran nf M c vm se many k' M2 c2 T2) : k = k' ∧ M1 = M2 ∧ c1 = c2 ∧ T1 = T2 := by
  obtain ⟨a, b⟩ := h
  obtain ⟨a', b'⟩ := h'
  rcases b with ⟨rfl, rfl, rfl, rfl⟩ | ⟨hk, ht, rfl, rfl, rfl⟩ <;> rcases b' with ⟨rfl, rfl, rfl, rfl⟩ | ⟨hk', ht', rfl, rfl, rfl⟩
  · exact ⟨rfl, rfl, rfl, rfl⟩
  · exact absurd (a _ hk') ht'
  · exact absurd (a' _ hk) ht
  · rcases Nat.lt_trichotomy k k' with e | rfl | e
    · exact absurd (a' _ e) ht
    · exact ⟨rfl, rfl, rfl, rfl⟩
    · exact absurd (a _ e) ht'

end Go.Proofs.YtgnoakidjnilpaaGreat

/- CpuMade -/
namespace Go.Proofs.YtgnoakidjnilpaaGreat
open Go.RowKit

structure Pu where (t i : Int) (v l : Bool) (r f : Int)
structure Wo where (a : Int) (w : Nat)

structure PuIs (w : World) (b o : Nat) (q : Pu) : Prop where
  c0 : w.cell? ⟨b, o, none⟩ = some (.int .i64 q.t)
  c1 : w.cell? ⟨b, o + 1, none⟩ = some (.int .i64 q.i)
  c2 : w.cell? ⟨b, o + 2, none⟩ = some (.bool q.v)
  c3 : w.cell? ⟨b, o + 3, none⟩ = some (.bool q.l)
  c4 : w.cell? ⟨b, o + 4, none⟩ = some (.int .i64 q.r)
  c5 : w.cell? ⟨b, o + 5, none⟩ = some (.int .i64 q.f)
structure WoIs (w : World) (b o : Nat) (q : Wo) : Prop where
  c0 : w.cell? ⟨b, o, none⟩ = some (.int .i64 q.a)
  c1 : w.cell? ⟨b, o + 1, none⟩ = some (.int .u32 (q.w : Int))
  small : q.a ≤ 9223372036854775807
  word : q.w < 4294967296
theorem PuIs.keep {S : Nat → Prop} {w w' : World} {b o : Nat} {q : Pu} (h : PuIs w b o q) (k : Fr S w w') (hs : ¬ S b) : PuIs w' b o q :=
  ⟨cell_keep k h.c0 hs, cell_keep k h.c1 hs, cell_keep k h.c2 hs, cell_keep k h.c3 hs, cell_keep k h.c4 hs, cell_keep k h.c5 hs⟩
theorem WoIs.keep {S : Nat → Prop} {w w' : World} {b o : Nat} {q : Wo} (h : WoIs w b o q) (k : Fr S w w') (hs : ¬ S b) : WoIs w' b o q :=
  ⟨cell_keep k h.c0 hs, cell_keep k h.c1 hs, h.small, h.word⟩
def Pus (w : World) (a0 : Option Addr) (len : Nat) (P : Nat → Pu) : Prop := ∀ k, k < len → ∃ b o, a0 = some ⟨b, o, none⟩ ∧ PuIs w b (o + k * 6) (P k)
def Wos (w : World) (a0 : Option Addr) (len : Nat) (Q : Nat → Wo) : Prop := ∀ k, k < len → ∃ b o, a0 = some ⟨b, o, none⟩ ∧ WoIs w b (o + k * 2) (Q k)
theorem Pus.keep {w w' : World} {a0 : Option Addr} {len : Nat} {P : Nat → Pu} (h : Pus w a0 len P) (f : Fr none' w w') : Pus w' a0 len P := fun k hk => by
  obtain ⟨b, o, e, q⟩ := h k hk
  exact ⟨b, o, e, q.keep f (fun h => h)⟩
theorem Wos.keep {w w' : World} {a0 : Option Addr} {len : Nat} {P : Nat → Wo} (h : Wos w a0 len P) (f : Fr none' w w') : Wos w' a0 len P := fun k hk => by
  obtain ⟨b, o, e, q⟩ := h k hk
  exact ⟨b, o, e, q.keep f (fun h => h)⟩

def pB (P : Nat → Pu) : Nat → List UInt8
  | 0 => List.replicate (64 * 16) 0
  | n + 1 => putB (pB P n) (P n).t (P n).i 16 (P n).v (P n).l (P n).r (P n).f
def wB (bs : List UInt8) (Q : Nat → Wo) : Nat → List UInt8
  | 0 => bs
  | n + 1 => storeB (wB bs Q n) (Q n).a 4 16 (Q n).w

structure Bo where
  B : Bm
  pr : Nat
  br : Nat
  bu : Nat
  vr : Option Nat
def M0 (bs : List UInt8) (g : Bool) : Mc := ⟨bs, fun _ => zl, 0, 0, if g = true then some (zeroV 4) else none⟩
theorem M0_few (bs : List UInt8) (g : Bool) : (M0 bs g).few 0 := ⟨Int.le_refl 0, Int.le_refl 0, by show (0 : Int) + 0 ≤ 0; omega, good_zero, uniq_zero⟩
def IsRvO (w : World) : Option Nat → Option Vg → Prop
  | some b, some S => IsRv w b S
  | none, none => True
  | _, _ => False
structure IsBo (w : World) (n : Nat) (O : Bo) (M : Mc) : Prop where
  m : IsMc w O.B 16 M
  r : IsRef w O.pr O.br 16 M.bs
  t : IsTref w O.bu M.T M.fo M.mi
  v : IsRvO w O.vr M.V
  new : ∀ k, (O.B.s k ∨ k = O.B.p) → n ≤ k
  newr : n ≤ O.pr ∧ n ≤ O.br ∧ n ≤ O.bu ∧ ∀ b, O.vr = some b → n ≤ b
  ap : ∀ k, (O.B.s k ∨ k = O.B.p) → k ≠ O.pr ∧ k ≠ O.br ∧ k ≠ O.bu ∧ ∀ b, O.vr = some b → k ≠ b
  apr : O.pr ≠ O.bu ∧ O.br ≠ O.bu ∧ ∀ b, O.vr = some b → b ≠ O.pr ∧ b ≠ O.br ∧ b ≠ O.bu
def Bo.a (O : Bo) : Array Value := #[.pointer (some ⟨O.B.p, 0, none⟩), .pointer (some ⟨O.B.bt, 0, none⟩), ptrV (O.B.v.map Bk.b), .pointer (some ⟨O.pr, 0, none⟩), .pointer (some ⟨O.bu, 0, none⟩), ptrV O.vr]

theorem size_both : (Tryz.prog.info? 44).map (·.size) = some 6 := by kernel_rfl
theorem ret_both {fn : Func} {p q : Tmp} {tmps : Array Value} {g : Nat} {cs : Array Value} {w : World} (h : fn.results = #[.cell p 44, .tmp q]) (hp : tmps.getD p undef = .pointer (some ⟨g, 0, none⟩)) (hr : Row w g cs 44) (hs : cs.size = 6) :
    (results fn tmps).run Tryz.prog w = .ok (.tuple #[.agg cs, tmps.getD q undef]) w := by
  have hl : (loadVar 44 ⟨g, 0, none⟩).run Tryz.prog w = .ok (.agg cs) w := by
    have := run_loadVar_mid (P := Tryz.prog) w g 0 44 cs.toList _ (range_row' hr) Tryz.underlying44 rfl (by rw [Array.length_toList, hs]; exact size_both)
    simpa using this
  have hp' : tmps[p]?.getD undef = .pointer (some ⟨g, 0, none⟩) := by simpa using hp
  simp only [results, h]
  simp [Result.andThen, hp', asAddr, hl]

theorem cells6 {w : World} {g : Nat} {c0 c1 c2 c3 c4 c5 : Value} {t : TypeId} (h : Row w g #[c0, c1, c2, c3, c4, c5] t) : w.cell? ⟨g, 0, none⟩ = some c0 ∧ w.cell? ⟨g, 1, none⟩ = some c1 ∧ w.cell? ⟨g, 2, none⟩ = some c2 ∧ w.cell? ⟨g, 3, none⟩ = some c3 ∧ w.cell? ⟨g, 4, none⟩ = some c4 ∧ w.cell? ⟨g, 5, none⟩ = some c5 := ⟨h.cell 0, h.cell 1, h.cell 2, h.cell 3, h.cell 4, h.cell 5⟩
theorem frozen6 {w : World} {g : Nat} {cs : Array Value} {t : TypeId} (h : Row w g cs t) : w.frozen? ⟨g, 0, none⟩ = false ∧ w.frozen? ⟨g, 1, none⟩ = false ∧ w.frozen? ⟨g, 2, none⟩ = false ∧ w.frozen? ⟨g, 3, none⟩ = false ∧ w.frozen? ⟨g, 4, none⟩ = false ∧ w.frozen? ⟨g, 5, none⟩ = false := ⟨h.frozen 0, h.frozen 1, h.frozen 2, h.frozen 3, h.frozen 4, h.frozen 5⟩
theorem row_set6 {w : World} {g : Nat} {c0 c1 c2 c3 c4 c5 : Value} {t : TypeId} (h : Row w g #[c0, c1, c2, c3, c4, c5] t) (v0 v1 v2 v3 v4 v5 : Value) : Row ((((((w.setCell ⟨g, 0, none⟩ v0).setCell ⟨g, 1, none⟩ v1).setCell ⟨g, 2, none⟩ v2).setCell ⟨g, 3, none⟩ v3).setCell ⟨g, 4, none⟩ v4).setCell ⟨g, 5, none⟩ v5) g #[v0, v1, v2, v3, v4, v5] t := by
  simpa using ((((((h.setCell 0 v0).setCell 1 v1).setCell 2 v2).setCell 3 v3).setCell 4 v4).setCell 5 v5)
theorem fr_own6 (w : World) (g : Nat) (v0 v1 v2 v3 v4 v5 : Value) : Fr (at' g) w ((((((w.setCell ⟨g, 0, none⟩ v0).setCell ⟨g, 1, none⟩ v1).setCell ⟨g, 2, none⟩ v2).setCell ⟨g, 3, none⟩ v3).setCell ⟨g, 4, none⟩ v4).setCell ⟨g, 5, none⟩ v5) := fr_set w g 5 _ (fr_set w g 4 _ (fr_set w g 3 _ (fr_set w g 2 _ (fr_set w g 1 _ (fr_set w g 0 _ (Fr.refl _ w))))))

set_option maxHeartbeats 8000000 in
set_option maxRecDepth 100000 in
theorem made_any (w : World) (a0 a1 : Option Addr) (len cap len1 cap1 : Nat) (g : Bool) (vm se : Int) (P : Nat → Pu) (Q : Nat → Wo) (hl : len ≤ 9223372036854775807) (hl1 : len1 ≤ 9223372036854775807) (hP : Pus w a0 len P) (hQ : Wos w a1 len1 Q) :
    Calls Tryz.prog 8 #[.agg #[.slice a0 len cap, .slice a1 len1 cap1, .bool g, .int .i64 vm, .int .i64 se]] w fun e w' => ∃ O : Bo, e = .returned (.tuple #[.agg O.a, .bool true]) ∧ Fr none' w w' ∧ IsBo w' w.heap.size O (M0 (wB (pB P (min len 100)) Q (min len1 300)) g) := by
  have rx := (row_alloc w #[.slice a0 len cap, .slice a1 len1 cap1, .bool g, .int .i64 vm, .int .i64 se] 25).alloc (.cells #[.pointer none, .pointer none, .pointer none, .pointer none, .pointer none, .pointer none] 44)
  have rr := row_at (W := w.alloc (.cells #[.slice a0 len cap, .slice a1 len1 cap1, .bool g, .int .i64 vm, .int .i64 se] 25)) (n := w.heap.size + 1) (cs := #[.pointer none, .pointer none, .pointer none, .pointer none, .pointer none, .pointer none]) (t := 44) (by simp)
  have f0 := ((Fr.refl none' w).alloc (.cells #[.slice a0 len cap, .slice a1 len1 cap1, .bool g, .int .i64 vm, .int .i64 se] 25)).alloc (.cells #[.pointer none, .pointer none, .pointer none, .pointer none, .pointer none, .pointer none] 44)
  obtain ⟨v0, hv0⟩ : ∃ v0, v0 = (w.alloc (.cells #[.slice a0 len cap, .slice a1 len1 cap1, .bool g, .int .i64 vm, .int .i64 se] 25)).alloc (.cells #[.pointer none, .pointer none, .pointer none, .pointer none, .pointer none, .pointer none] 44) := ⟨_, rfl⟩
  have hsz : Hid (v0.heap.size = w.heap.size + 2) := by show _ = _; rw [hv0]; simp
  rw [← hv0] at rx rr f0
  have HP : Hid (Pus w a0 len P) := hP
  have HQ : Hid (Wos w a1 len1 Q) := hQ
  clear hP hQ
  go_enter Tryz.func8, Tryz.ntmps8
  go_wp2_with fail
  rw [← hv0]
  clear hv0
  obtain ⟨gx, hgx⟩ : ∃ q, q = w.heap.size := ⟨_, rfl⟩
  obtain ⟨gr, hgr⟩ : ∃ q, q = w.heap.size + 1 := ⟨_, rfl⟩
  rw [← hgr] at rr ⊢
  rw [← hgx] at rx ⊢
  have HG : Hid (gx = w.heap.size ∧ gr = w.heap.size + 1) := ⟨hgx, hgr⟩
  clear hgx hgr
  refine (new_any _ _ ⟨by decide, by decide⟩).mono ?_
  rintro e w1 ⟨rfl, f1, r1⟩
  go_wp2_with fail
  refine (rnew_any _ _ ⟨by decide, by decide⟩).mono ?_
  rintro e w2 ⟨rfl, f2, r2⟩
  have TW0 : Twin w2 v0.heap.size (v0.heap.size + 1) v0.heap.size (w1.heap.size + 1) w1.heap.size 16 (List.replicate (64 * 16) 0) := twin_new (Nat.le_refl _) r1 f2 r2
  have HW : Hid (v0.heap.size + 1 < w1.heap.size) := r1.head.lt
  replace f1 := f1.trans f2
  replace f0 := f0.trans f1
  replace rx := rx.keep f1 (fun h => h)
  replace rr := rr.keep f1 (fun h => h)
  clear f1 f2 r1 r2
  obtain ⟨pm, hpm⟩ : ∃ q, q = v0.heap.size + 1 := ⟨_, rfl⟩
  obtain ⟨bm, hbm⟩ : ∃ q, q = v0.heap.size := ⟨_, rfl⟩
  obtain ⟨pr, hpr⟩ : ∃ q, q = w1.heap.size + 1 := ⟨_, rfl⟩
  obtain ⟨br, hbr⟩ : ∃ q, q = w1.heap.size := ⟨_, rfl⟩
  rw [← hpm, ← hpr, ← hbr, ← hbm] at TW0
  rw [← hpm, ← hpr]
  have HA : Hid (w.heap.size + 2 ≤ bm ∧ bm < pm ∧ pm < br ∧ br < pr) := (show _ ∧ _ from ⟨by have := hsz.out; omega, by omega, by have := HW.out; omega, by omega⟩)
  clear hpm hbm hpr hbr HW hsz
  replace TW0 : Twin w2 w.heap.size pm bm pr br 16 (List.replicate (64 * 16) 0) := ⟨TW0.ram, TW0.ref, TW0.d1, TW0.d2, TW0.d3, by have := HA.out; omega⟩
  go_wp2_with fail
  refine (tnew_any _).mono ?_
  rintro e w3 ⟨bt, rfl, hbt, f3, hT⟩
  have HT : Hid (pr < bt) := Nat.lt_of_lt_of_le TW0.ref.head.lt hbt
  replace TW0 := TW0.keep0 f3
  replace f0 := f0.trans f3
  replace rx := rx.keep f3 (fun h => h)
  replace rr := rr.keep f3 (fun h => h)
  clear f3 hbt
  go_upto_block 0 with fail
  go_cut [9] from 36 to 86 (fun s wx => Fr none' w wx ∧ Twin wx w.heap.size pm bm pr br 16 (pB P (min len 100)) ∧ Row wx gx #[.slice a0 len cap, .slice a1 len1 cap1, .bool g, .int .i64 vm, .int .i64 se] 25 ∧ Row wx gr #[.pointer none, .pointer none, .pointer none, .pointer none, .pointer none, .pointer none] 44 ∧ IsTlb wx bt (fun _ => zl) 0 0)
  case first =>
    go_wp2_with fail
    go_loopw [9] (fun i wr => ∃ k : Nat, k ≤ len ∧ k ≤ 100 ∧ i = .int .i64 k ∧ Fr none' w wr ∧ Twin wr w.heap.size pm bm pr br 16 (pB P k) ∧ Row wr gx #[.slice a0 len cap, .slice a1 len1 cap1, .bool g, .int .i64 vm, .int .i64 se] 25 ∧ Row wr gr #[.pointer none, .pointer none, .pointer none, .pointer none, .pointer none, .pointer none] 44 ∧ IsTlb wr bt (fun _ => zl) 0 0) (fun i _ => 100 - (intOf i).toNat)
    case atStart => exact ⟨0, by omega, by omega, rfl, f0, TW0, rx, rr, hT⟩
    case round =>
      clear f0 TW0 rx rr hT
      obtain ⟨k, hk, hk2, rfl, fk, TW, rx, rr, hT⟩ := hrel
      have x0 : wr.cell? ⟨gx, 0, none⟩ = some (.slice a0 len cap) := rx.cell 0
      by_cases hlt : k < len
      · by_cases hlt2 : k < 100
        · obtain ⟨b, o, rfl, pk⟩ := HP.out k hlt
          have hbl := cell_lt pk.c0
          replace hbl : Hid (b < w.heap.size) := hbl
          replace pk := pk.keep fk (fun h => h)
          have i1 : 0 ≤ (k : Int) ∧ (k : Int) < (len : Int) := by omega
          have uk1 : decide ((k : Int) < (len : Int)) = true := decide_eq_true (by omega)
          have uk2 : decide ((k : Int) < 100) = true := decide_eq_true (by omega)
          have nb : b ≠ bm ∧ b ≠ br := by have := hbl.out; have := HA.out; omega
          have ng : gx ≠ bm ∧ gx ≠ br ∧ gr ≠ bm ∧ gr ≠ br := by have := HG.out; have := HA.out; omega
          have nt : bt ≠ bm ∧ bt ≠ br := by have := HT.out; have := HA.out; omega
          have HNN : Hid ((b ≠ bm ∧ b ≠ br) ∧ (gx ≠ bm ∧ gx ≠ br ∧ gr ≠ bm ∧ gr ≠ br) ∧ (bt ≠ bm ∧ bt ≠ br)) := ⟨nb, ng, nt⟩
          clear nb ng nt
          go_wp2_with fail
          clear x0
          have dm := TW.ram.drew
          go_region_held3 (fun w' => w'.cell? ⟨gx, 0, none⟩ = some (.slice (some ⟨b, o, none⟩) len cap) ∧ w'.cell? ⟨b, o + k * 6, none⟩ = some (.int .i64 (P k).t) ∧ w'.cell? ⟨b, o + k * 6 + 1, none⟩ = some (.int .i64 (P k).i) ∧ w'.cell? ⟨b, o + k * 6 + 2, none⟩ = some (.bool (P k).v) ∧ w'.cell? ⟨b, o + k * 6 + 3, none⟩ = some (.bool (P k).l) ∧ w'.cell? ⟨b, o + k * 6 + 4, none⟩ = some (.int .i64 (P k).r) ∧ w'.cell? ⟨b, o + k * 6 + 5, none⟩ = some (.int .i64 (P k).f)) (first | with_reducible exact ⟨rx.cell 0, pk.c0, pk.c1, pk.c2, pk.c3, pk.c4, pk.c5⟩ | exact ⟨rx.cell 0, pk.c0, pk.c1, pk.c2, pk.c3, pk.c4, pk.c5⟩) (first | (go_at_call 32; refine (put_any _ _ _ _ _ _ _ _ _ _ _ dm).mono ?_; rintro e w1' ⟨rfl, f1, q1⟩; replace f1 := rs_drew f1; replace pk := pk.keep f1 HNN.out.1.1; replace rx := rx.keep f1 HNN.out.2.1.1))
          clear dm
          have q0 := TW.ref.keep f1 TW.d2 (fun e => TW.d3 e.symm)
          go_wp2_with fail
          have dr := q0.drew
          go_region_held3 (fun w' => w'.cell? ⟨gx, 0, none⟩ = some (.slice (some ⟨b, o, none⟩) len cap) ∧ w'.cell? ⟨b, o + k * 6, none⟩ = some (.int .i64 (P k).t) ∧ w'.cell? ⟨b, o + k * 6 + 1, none⟩ = some (.int .i64 (P k).i) ∧ w'.cell? ⟨b, o + k * 6 + 2, none⟩ = some (.bool (P k).v) ∧ w'.cell? ⟨b, o + k * 6 + 3, none⟩ = some (.bool (P k).l) ∧ w'.cell? ⟨b, o + k * 6 + 4, none⟩ = some (.int .i64 (P k).r) ∧ w'.cell? ⟨b, o + k * 6 + 5, none⟩ = some (.int .i64 (P k).f)) (first | with_reducible exact ⟨rx.cell 0, pk.c0, pk.c1, pk.c2, pk.c3, pk.c4, pk.c5⟩ | exact ⟨rx.cell 0, pk.c0, pk.c1, pk.c2, pk.c3, pk.c4, pk.c5⟩) (first | (go_at_call 33; refine (rput_any _ _ _ _ _ _ _ _ _ _ _ dr).mono ?_; rintro e w2' ⟨rfl, f2, q2⟩; replace f2 := rs_drew f2; replace pk := pk.keep f2 HNN.out.1.2; replace rx := rx.keep f2 HNN.out.2.1.2.1))
          clear dr
          obtain ⟨TW2, ff⟩ := TW.step f1 q1 f2 q2
          replace fk := fk.own ff TW.lo.2.1 TW.lo.2.2.2
          replace rr := (rr.keep f1 HNN.out.2.1.2.2.1).keep f2 HNN.out.2.1.2.2.2
          replace hT := (hT.keep f1 HNN.out.2.2.1).keep f2 HNN.out.2.2.2
          clear f1 f2 q0 q1 q2 ff TW
          go_wp2_with fail
          go_roundw
          case rel => exact ⟨k + 1, by omega, by omega, by go_num, fk, TW2, rx, rr, hT⟩
          case measure => simp [intOf]; omega
        · obtain rfl : k = 100 := by omega
          have uk1 : decide (((100 : Nat) : Int) < (len : Int)) = true := decide_eq_true (by omega)
          have x0' : wr.cell? ⟨gx, 0, none⟩ = some (.slice a0 len cap) := x0
          go_wp2_with fail
          go_meet
          exact ⟨fk, by rw [Nat.min_eq_right (by omega)]; exact TW, rx, rr, hT⟩
      · obtain rfl : k = len := by omega
        go_wp2_with fail
        go_meet
        exact ⟨fk, by rw [Nat.min_eq_left (by omega)]; exact TW, rx, rr, hT⟩
  case rest =>
  obtain ⟨f0, TW0, rx, rr, hT⟩ := hcut
  obtain ⟨bs0, hbs0⟩ : ∃ q, q = pB P (min len 100) := ⟨_, rfl⟩
  rw [← hbs0] at TW0
  have HBS : Hid (bs0 = pB P (min len 100)) := hbs0
  clear hbs0
  go_upto_block 2 with fail
  go_cut [10] from 87 to 125 (fun s wx => Fr none' w wx ∧ Twin wx w.heap.size pm bm pr br 16 (wB bs0 Q (min len1 300)) ∧ Row wx gx #[.slice a0 len cap, .slice a1 len1 cap1, .bool g, .int .i64 vm, .int .i64 se] 25 ∧ Row wx gr #[.pointer none, .pointer none, .pointer none, .pointer none, .pointer none, .pointer none] 44 ∧ IsTlb wx bt (fun _ => zl) 0 0)
  case first =>
    go_wp2_with fail
    go_loopw [10] (fun i wr => ∃ k : Nat, k ≤ len1 ∧ k ≤ 300 ∧ i = .int .i64 k ∧ Fr none' w wr ∧ Twin wr w.heap.size pm bm pr br 16 (wB bs0 Q k) ∧ Row wr gx #[.slice a0 len cap, .slice a1 len1 cap1, .bool g, .int .i64 vm, .int .i64 se] 25 ∧ Row wr gr #[.pointer none, .pointer none, .pointer none, .pointer none, .pointer none, .pointer none] 44 ∧ IsTlb wr bt (fun _ => zl) 0 0) (fun i _ => 300 - (intOf i).toNat)
    case atStart => exact ⟨0, by omega, by omega, rfl, f0, TW0, rx, rr, hT⟩
    case round =>
      clear f0 TW0 rx rr hT
      obtain ⟨k, hk, hk2, rfl, fk, TW, rx, rr, hT⟩ := hrel
      have x0 : wr.cell? ⟨gx, 1, none⟩ = some (.slice a1 len1 cap1) := rx.cell 1
      by_cases hlt : k < len1
      · by_cases hlt2 : k < 300
        · obtain ⟨b, o, rfl, pk⟩ := HQ.out k hlt
          have hbl := cell_lt pk.c0
          replace hbl : Hid (b < w.heap.size) := hbl
          replace pk := pk.keep fk (fun h => h)
          have i1 : 0 ≤ (k : Int) ∧ (k : Int) < (len1 : Int) := by omega
          have uk1 : decide ((k : Int) < (len1 : Int)) = true := decide_eq_true (by omega)
          have uk2 : decide ((k : Int) < 300) = true := decide_eq_true (by omega)
          have nb : b ≠ bm ∧ b ≠ br := by have := hbl.out; have := HA.out; omega
          have ng : gx ≠ bm ∧ gx ≠ br ∧ gr ≠ bm ∧ gr ≠ br := by have := HG.out; have := HA.out; omega
          have nt : bt ≠ bm ∧ bt ≠ br := by have := HT.out; have := HA.out; omega
          have HNN : Hid ((b ≠ bm ∧ b ≠ br) ∧ (gx ≠ bm ∧ gx ≠ br ∧ gr ≠ bm ∧ gr ≠ br) ∧ (bt ≠ bm ∧ bt ≠ br)) := ⟨nb, ng, nt⟩
          clear nb ng nt
          go_wp2_with fail
          clear x0
          have dm := TW.ram.drew
          go_region_held3 (fun w' => w'.cell? ⟨gx, 1, none⟩ = some (.slice (some ⟨b, o, none⟩) len1 cap1) ∧ w'.cell? ⟨b, o + k * 2, none⟩ = some (.int .i64 (Q k).a) ∧ w'.cell? ⟨b, o + k * 2 + 1, none⟩ = some (.int .u32 ((Q k).w : Int))) (first | with_reducible exact ⟨rx.cell 1, pk.c0, pk.c1⟩ | exact ⟨rx.cell 1, pk.c0, pk.c1⟩) (first | (go_at_call 28; refine (store_any _ _ _ _ _ (Q k).a 4 (Q k).w dm pk.small pk.word).mono ?_; rintro e w1' ⟨rfl, f1, q1⟩; replace f1 := rs_drew f1; replace pk := pk.keep f1 HNN.out.1.1; replace rx := rx.keep f1 HNN.out.2.1.1))
          clear dm
          have q0 := TW.ref.keep f1 TW.d2 (fun e => TW.d3 e.symm)
          go_wp2_with fail
          have dr := q0.drew
          go_region_held3 (fun w' => w'.cell? ⟨gx, 1, none⟩ = some (.slice (some ⟨b, o, none⟩) len1 cap1) ∧ w'.cell? ⟨b, o + k * 2, none⟩ = some (.int .i64 (Q k).a) ∧ w'.cell? ⟨b, o + k * 2 + 1, none⟩ = some (.int .u32 ((Q k).w : Int))) (first | with_reducible exact ⟨rx.cell 1, pk.c0, pk.c1⟩ | exact ⟨rx.cell 1, pk.c0, pk.c1⟩) (first | (go_at_call 34; refine (rstore_any _ _ _ _ _ (Q k).a 4 (Q k).w dr pk.word).mono ?_; rintro e w2' ⟨rfl, f2, q2⟩; replace f2 := rs_drew f2; replace pk := pk.keep f2 HNN.out.1.2; replace rx := rx.keep f2 HNN.out.2.1.2.1))
          clear dr
          obtain ⟨TW2, ff⟩ := TW.step f1 q1 f2 q2
          replace fk := fk.own ff TW.lo.2.1 TW.lo.2.2.2
          replace rr := (rr.keep f1 HNN.out.2.1.2.2.1).keep f2 HNN.out.2.1.2.2.2
          replace hT := (hT.keep f1 HNN.out.2.2.1).keep f2 HNN.out.2.2.2
          clear f1 f2 q0 q1 q2 ff TW
          go_wp2_with fail
          go_roundw
          case rel => exact ⟨k + 1, by omega, by omega, by go_num, fk, TW2, rx, rr, hT⟩
          case measure => simp [intOf]; omega
        · obtain rfl : k = 300 := by omega
          have uk1 : decide (((300 : Nat) : Int) < (len1 : Int)) = true := decide_eq_true (by omega)
          have x0' : wr.cell? ⟨gx, 1, none⟩ = some (.slice a1 len1 cap1) := x0
          go_wp2_with fail
          go_meet
          exact ⟨fk, by rw [Nat.min_eq_right (by omega)]; exact TW, rx, rr, hT⟩
      · obtain rfl : k = len1 := by omega
        go_wp2_with fail
        go_meet
        exact ⟨fk, by rw [Nat.min_eq_left (by omega)]; exact TW, rx, rr, hT⟩
  case rest =>
  obtain ⟨f0, TW0, rx, rr, hT⟩ := hcut
  obtain ⟨bu, hbu⟩ : ∃ q, q = wc.heap.size := ⟨_, rfl⟩
  obtain ⟨gs, hgs⟩ : ∃ q, q = wc.heap.size + 1 := ⟨_, rfl⟩
  have HU : Hid (bt < bu ∧ gs = bu + 1 ∧ gr < bu) := (show _ ∧ _ from ⟨by rw [hbu]; exact hT.lt, by omega, by rw [hbu]; exact rr.lt⟩)
  have q1 := ((Fr.refl none' wc).alloc (.cells #[.int .i64 0, .int .i64 0, .int .i64 0, .int .i64 0, .int .i64 0, .int .i64 0, .int .i64 0, .int .i64 0, .int .i64 0, .int .i64 0, .int .i64 0, .int .i64 0, .int .i64 0, .int .i64 0, .int .i64 0, .int .i64 0, .int .i64 0, .int .i64 0, .int .i64 0, .int .i64 0, .int .i64 0, .int .i64 0, .int .i64 0, .int .i64 0, .int .i64 0, .int .i64 0, .int .i64 0, .int .i64 0, .int .i64 0, .int .i64 0, .int .i64 0, .int .i64 0, .int .i64 0, .int .i64 0, .int .i64 0, .int .i64 0, .int .i64 0, .int .i64 0, .int .i64 0, .int .i64 0, .int .i64 0, .int .i64 0] 104)).alloc (.cells #[.pointer (some ⟨pm, 0, none⟩), .pointer (some ⟨bt, 0, none⟩), .pointer none, .pointer (some ⟨pr, 0, none⟩), .pointer (some ⟨bu, 0, none⟩), .pointer none] 44)
  have hU : IsTref ((wc.alloc (.cells #[.int .i64 0, .int .i64 0, .int .i64 0, .int .i64 0, .int .i64 0, .int .i64 0, .int .i64 0, .int .i64 0, .int .i64 0, .int .i64 0, .int .i64 0, .int .i64 0, .int .i64 0, .int .i64 0, .int .i64 0, .int .i64 0, .int .i64 0, .int .i64 0, .int .i64 0, .int .i64 0, .int .i64 0, .int .i64 0, .int .i64 0, .int .i64 0, .int .i64 0, .int .i64 0, .int .i64 0, .int .i64 0, .int .i64 0, .int .i64 0, .int .i64 0, .int .i64 0, .int .i64 0, .int .i64 0, .int .i64 0, .int .i64 0, .int .i64 0, .int .i64 0, .int .i64 0, .int .i64 0, .int .i64 0, .int .i64 0] 104)).alloc (.cells #[.pointer (some ⟨pm, 0, none⟩), .pointer (some ⟨bt, 0, none⟩), .pointer none, .pointer (some ⟨pr, 0, none⟩), .pointer (some ⟨bu, 0, none⟩), .pointer none] 44)) bu (fun _ => zl) 0 0 := by rw [hbu]; exact (buf_zero _ _).alloc _
  have rs : Row ((wc.alloc (.cells #[.int .i64 0, .int .i64 0, .int .i64 0, .int .i64 0, .int .i64 0, .int .i64 0, .int .i64 0, .int .i64 0, .int .i64 0, .int .i64 0, .int .i64 0, .int .i64 0, .int .i64 0, .int .i64 0, .int .i64 0, .int .i64 0, .int .i64 0, .int .i64 0, .int .i64 0, .int .i64 0, .int .i64 0, .int .i64 0, .int .i64 0, .int .i64 0, .int .i64 0, .int .i64 0, .int .i64 0, .int .i64 0, .int .i64 0, .int .i64 0, .int .i64 0, .int .i64 0, .int .i64 0, .int .i64 0, .int .i64 0, .int .i64 0, .int .i64 0, .int .i64 0, .int .i64 0, .int .i64 0, .int .i64 0, .int .i64 0] 104)).alloc (.cells #[.pointer (some ⟨pm, 0, none⟩), .pointer (some ⟨bt, 0, none⟩), .pointer none, .pointer (some ⟨pr, 0, none⟩), .pointer (some ⟨bu, 0, none⟩), .pointer none] 44)) gs #[.pointer (some ⟨pm, 0, none⟩), .pointer (some ⟨bt, 0, none⟩), .pointer none, .pointer (some ⟨pr, 0, none⟩), .pointer (some ⟨bu, 0, none⟩), .pointer none] 44 := row_at (by rw [hgs]; simp)
  rw [hbu] at q1 hU rs
  go_upto_region 17 with fail
  obtain ⟨v5, hv5⟩ : ∃ v5, v5 = (wc.alloc (.cells #[.int .i64 0, .int .i64 0, .int .i64 0, .int .i64 0, .int .i64 0, .int .i64 0, .int .i64 0, .int .i64 0, .int .i64 0, .int .i64 0, .int .i64 0, .int .i64 0, .int .i64 0, .int .i64 0, .int .i64 0, .int .i64 0, .int .i64 0, .int .i64 0, .int .i64 0, .int .i64 0, .int .i64 0, .int .i64 0, .int .i64 0, .int .i64 0, .int .i64 0, .int .i64 0, .int .i64 0, .int .i64 0, .int .i64 0, .int .i64 0, .int .i64 0, .int .i64 0, .int .i64 0, .int .i64 0, .int .i64 0, .int .i64 0, .int .i64 0, .int .i64 0, .int .i64 0, .int .i64 0, .int .i64 0, .int .i64 0] 104)).alloc (.cells #[.pointer (some ⟨pm, 0, none⟩), .pointer (some ⟨bt, 0, none⟩), .pointer none, .pointer (some ⟨pr, 0, none⟩), .pointer (some ⟨wc.heap.size, 0, none⟩), .pointer none] 44) := ⟨_, rfl⟩
  rw [← hv5] at q1 hU rs ⊢
  rw [← hgs]
  rw [← hbu] at hU rs ⊢
  clear hv5 hbu hgs
  replace f0 := f0.trans q1
  replace TW0 := TW0.keep0 q1
  replace rx := rx.keep q1 (fun h => h)
  replace rr := rr.keep q1 (fun h => h)
  replace hT := hT.keep q1 (fun h => h)
  clear q1
  have c2 : v5.cell? ⟨gx, 2, none⟩ = some (.bool g) := rx.cell 2
  have HAll : Hid (w.heap.size + 2 ≤ bm ∧ bm < pm ∧ pm < br ∧ br < pr ∧ pr < bt ∧ bt < bu ∧ gs = bu + 1 ∧ gr = w.heap.size + 1 ∧ gx = w.heap.size) := (show _ ∧ _ from by have := HA.out; have := HT.out; have := HU.out; have := HG.out; omega)
  clear HA HT HU HG HP HQ
  cases g with
  | false =>
    obtain ⟨s0, s1, s2, s3, s4, s5⟩ := cells6 rs
    obtain ⟨r0, r1, r2, r3, r4, r5⟩ := cells6 rr
    obtain ⟨z0, z1, z2, z3, z4, z5⟩ := frozen6 rr
    go_wp2_with fail
    refine bodyPost_ret (ret_both rfl rfl (row_set6 rr _ _ _ _ _ _) rfl) rfl ?_
    have q := fr_own6 v5 gr (.pointer (some ⟨pm, 0, none⟩)) (.pointer (some ⟨bt, 0, none⟩)) (.pointer none) (.pointer (some ⟨pr, 0, none⟩)) (.pointer (some ⟨bu, 0, none⟩)) (.pointer none)
    have hh := HAll.out
    have TW3 := TW0.keep q (show pm ≠ gr by omega) (show bm ≠ gr by omega) (show pr ≠ gr by omega) (show br ≠ gr by omega)
    rw [HBS.out] at TW3
    refine ⟨⟨⟨pm, bm, bt, none⟩, pr, br, bu, none⟩, rfl, f0.newer q (by omega), ⟨⟨TW3.ram, hT.keep q (show bt ≠ gr by omega), trivial, by show pm ≠ bt; omega, by show bm ≠ bt; omega, by show pm ≠ bm; omega, fun e => e, fun e => e, fun e => e⟩, TW3.ref, hU.keep q (show bu ≠ gr by omega), trivial, fun k hk => ?_, ⟨by show _ ≤ pr; omega, by show _ ≤ br; omega, by show _ ≤ bu; omega, fun _ h => by cases h⟩, fun k hk => ?_, ⟨by show pr ≠ bu; omega, by show br ≠ bu; omega, fun _ h => by cases h⟩⟩⟩
    · have hk' : k = bm ∨ k = bt ∨ k = pm := by rcases hk with (h | h | h) | h; exact Or.inl h; exact Or.inr (Or.inl h); exact h.elim; exact Or.inr (Or.inr h)
      omega
    · have hk' : k = bm ∨ k = bt ∨ k = pm := by rcases hk with (h | h | h) | h; exact Or.inl h; exact Or.inr (Or.inl h); exact h.elim; exact Or.inr (Or.inr h)
      exact ⟨by show k ≠ pr; omega, by show k ≠ br; omega, by show k ≠ bu; omega, fun _ h => by cases h⟩
  | true =>
    go_wp2_with fail
    refine (v_new_ok _ 4 (by decide)).mono ?_
    rintro e v6 ⟨b, rfl, hbn, f6, hV⟩
    have HV1 : Hid (∀ k, b.s k → gs < k ∧ k < v6.heap.size) := fun k hk => ⟨Nat.lt_of_lt_of_le rs.lt (hbn k hk), hV.lt k hk⟩
    replace f0 := f0.trans f6
    replace TW0 := TW0.keep0 f6
    replace rr := rr.keep f6 (fun h => h)
    replace rs := rs.keep f6 (fun h => h)
    replace hT := hT.keep f6 (fun h => h)
    replace hU := hU.keep f6 (fun h => h)
    clear f6 hbn rx c2
    go_wp2_with fail
    refine (v_rnew_ok _ 4 (by decide)).mono ?_
    rintro e v7 ⟨vr, rfl, hvn, f7, hRV⟩
    have HV2 : Hid (∀ k, b.s k → gs < k ∧ k < vr) := fun k hk => ⟨(HV1.out k hk).1, Nat.lt_of_lt_of_le (HV1.out k hk).2 hvn⟩
    have HV3 : Hid (gs < vr) := Nat.lt_of_lt_of_le rs.lt hvn
    replace f0 := f0.trans f7
    replace TW0 := TW0.keep0 f7
    replace rr := rr.keep f7 (fun h => h)
    replace rs := rs.keep f7 (fun h => h)
    replace hT := hT.keep f7 (fun h => h)
    replace hU := hU.keep f7 (fun h => h)
    replace hV := hV.keep0 f7
    clear f7 hvn HV1
    obtain ⟨s0, s1, s2, s3, s4, s5⟩ := cells6 rs
    obtain ⟨y0, y1, y2, y3, y4, y5⟩ := frozen6 rs
    obtain ⟨r0, r1, r2, r3, r4, r5⟩ := cells6 rr
    obtain ⟨z0, z1, z2, z3, z4, z5⟩ := frozen6 rr
    have ngs : gs ≠ gr := by have := HAll.out; omega
    go_wp2_with fail
    have q1 : Fr (at' gs) v7 ((v7.setCell ⟨gs, 2, none⟩ (.pointer (some ⟨b.b, 0, none⟩))).setCell ⟨gs, 5, none⟩ (.pointer (some ⟨vr, 0, none⟩))) := fr_set v7 gs 5 _ (fr_set v7 gs 2 _ (Fr.refl _ v7))
    have rr1 := rr.keep q1 (show gr ≠ gs from Ne.symm ngs)
    obtain ⟨v8, hv8⟩ : ∃ v8, v8 = (v7.setCell ⟨gs, 2, none⟩ (.pointer (some ⟨b.b, 0, none⟩))).setCell ⟨gs, 5, none⟩ (.pointer (some ⟨vr, 0, none⟩)) := ⟨_, rfl⟩
    rw [← hv8] at q1 rr1 ⊢
    clear hv8
    refine bodyPost_ret (ret_both rfl rfl (row_set6 rr1 _ _ _ _ _ _) rfl) rfl ?_
    have q2 := fr_own6 v8 gr (.pointer (some ⟨pm, 0, none⟩)) (.pointer (some ⟨bt, 0, none⟩)) (.pointer (some ⟨b.b, 0, none⟩)) (.pointer (some ⟨pr, 0, none⟩)) (.pointer (some ⟨bu, 0, none⟩)) (.pointer (some ⟨vr, 0, none⟩))
    have hh := HAll.out
    have h3 := HV3.out
    have hs2 := HV2.out
    have TW3 := (TW0.keep q1 (show pm ≠ gs by omega) (show bm ≠ gs by omega) (show pr ≠ gs by omega) (show br ≠ gs by omega)).keep q2 (show pm ≠ gr by omega) (show bm ≠ gr by omega) (show pr ≠ gr by omega) (show br ≠ gr by omega)
    rw [HBS.out] at TW3
    refine ⟨⟨⟨pm, bm, bt, some b⟩, pr, br, bu, some vr⟩, rfl, (f0.newer q1 (by omega)).newer q2 (by omega), ⟨⟨TW3.ram, (hT.keep q1 (show bt ≠ gs by omega)).keep q2 (show bt ≠ gr by omega), ?_, by show pm ≠ bt; omega, by show bm ≠ bt; omega, by show pm ≠ bm; omega, fun e => by have := hs2 pm e; omega, fun e => by have := hs2 bm e; omega, fun e => by have := hs2 bt e; omega⟩, TW3.ref, (hU.keep q1 (show bu ≠ gs by omega)).keep q2 (show bu ≠ gr by omega), ?_, fun k hk => ?_, ⟨by show _ ≤ pr; omega, by show _ ≤ br; omega, by show _ ≤ bu; omega, fun b' h => by cases h; omega⟩, fun k hk => ?_, ⟨by show pr ≠ bu; omega, by show br ≠ bu; omega, fun b' h => by cases h; exact ⟨by show vr ≠ pr; omega, by show vr ≠ br; omega, by show vr ≠ bu; omega⟩⟩⟩⟩
    · exact (hV.keep q1 (fun k hk e => by have e' : k = gs := e; have := hs2 k hk; omega)).keep q2 (fun k hk e => by have e' : k = gr := e; have := hs2 k hk; omega)
    · exact (hRV.keep q1 (show vr ≠ gs by omega)).keep q2 (show vr ≠ gr by omega)
    · have hk' : (k = bm ∨ k = bt ∨ k = pm) ∨ b.s k := by rcases hk with (h | h | h) | h; exact Or.inl (Or.inl h); exact Or.inl (Or.inr (Or.inl h)); exact Or.inr h; exact Or.inl (Or.inr (Or.inr h))
      rcases hk' with hk' | hk'
      · omega
      · have := hs2 k hk'; omega
    · have hk' : (k = bm ∨ k = bt ∨ k = pm) ∨ b.s k := by rcases hk with (h | h | h) | h; exact Or.inl (Or.inl h); exact Or.inl (Or.inr (Or.inl h)); exact Or.inr h; exact Or.inl (Or.inr (Or.inr h))
      rcases hk' with hk' | hk'
      · exact ⟨by show k ≠ pr; omega, by show k ≠ br; omega, by show k ≠ bu; omega, fun b' h => by cases h; omega⟩
      · have := hs2 k hk'
        exact ⟨by show k ≠ pr; omega, by show k ≠ br; omega, by show k ≠ bu; omega, fun b' h => by cases h; omega⟩

end Go.Proofs.YtgnoakidjnilpaaGreat

/- WalkPure -/
namespace Go.Proofs.YtgnoakidjnilpaaGreat
open Go.RowKit

theorem nested_cases (bs : List UInt8) (nf : Nat) (first second page want : Int) :
    ((isP page = false ∨ isR want = false) ∧ nested bs nf first second page want = miss 3 0 0 false 0) ∨
    (isP page = true ∧ isR want = true ∧ first < 0 ∧ nested bs nf first second page want = granted bs nf second page want) ∨
    (isP page = true ∧ isR want = true ∧ (nested bs nf first second page want).ft.k ≠ 0 ∧ (nested bs nf first second page want).fr = 0 ∧ (nested bs nf first second page want).ri = 0) ∨
    (isP page = true ∧ isR want = true ∧ ¬ first < 0 ∧ (nested bs nf first second page want).ft.k = 0 ∧ ∃ y : Res, (0 ≤ y.fr ∧ y.fr ≤ 1023) ∧ (0 ≤ y.ri ∧ y.ri ≤ 7) ∧ bits .and .i64 y.ri want ≠ 0 ∧
      (granted bs nf second y.fr want).ft.k = 0 ∧ (nested bs nf first second page want).fr = (granted bs nf second y.fr want).fr ∧ (nested bs nf first second page want).ri = bits .and .i64 (granted bs nf second y.fr want).ri y.ri ∧ (nested bs nf first second page want).ft = f0) := by
  by_cases h0 : isP page = false ∨ isR want = false
  · left; refine ⟨h0, ?_⟩; unfold nested; rw [if_pos h0]
  have hp : isP page = true := by cases h : isP page with | true => rfl | false => exact absurd (Or.inl h) h0
  have hw : isR want = true := by cases h : isR want with | true => rfl | false => exact absurd (Or.inr h) h0
  right
  by_cases hf : first < 0
  · left; refine ⟨hp, hw, hf, ?_⟩; unfold nested; rw [if_neg h0, if_pos hf]
  right
  by_cases h1 : (guest bs nf second first page 0).ft.k = 0
  · by_cases h2 : (guest bs nf second (guest bs nf second first page 0).fr page 1).ft.k = 0
    · by_cases h3 : bits .and .i64 (guest bs nf second (guest bs nf second first page 0).fr page 1).ri want = 0
      · left
        have e : nested bs nf first second page want = miss 2 1 1 false page := by
          unfold nested
          rw [if_neg h0, if_neg hf, if_neg (by simpa using h1), if_neg (by simpa using h2), if_pos h3]
        rw [e]
        exact ⟨hp, hw, (by decide : (2 : Int) ≠ 0), rfl, rfl⟩
      · have e : nested bs nf first second page want = ⟨(granted bs nf second (guest bs nf second (guest bs nf second first page 0).fr page 1).fr want).fr,
            bits .and .i64 (granted bs nf second (guest bs nf second (guest bs nf second first page 0).fr page 1).fr want).ri (guest bs nf second (guest bs nf second first page 0).fr page 1).ri,
            (granted bs nf second (guest bs nf second (guest bs nf second first page 0).fr page 1).fr want).ft⟩ := by
          unfold nested
          rw [if_neg h0, if_neg hf, if_neg (by simpa using h1), if_neg (by simpa using h2), if_neg h3]
        have hr := guest_range h2
        by_cases h4 : (granted bs nf second (guest bs nf second (guest bs nf second first page 0).fr page 1).fr want).ft.k = 0
        · right
          rw [e]
          exact ⟨hp, hw, hf, h4, guest bs nf second (guest bs nf second first page 0).fr page 1, hr.1, hr.2, h3, h4, rfl, rfl, granted_f0 h4⟩
        · left
          rw [e]
          have z := granted_zero _ _ _ _ _ h4
          refine ⟨hp, hw, h4, z.1, ?_⟩
          show bits .and .i64 (granted bs nf second (guest bs nf second (guest bs nf second first page 0).fr page 1).fr want).ri (guest bs nf second (guest bs nf second first page 0).fr page 1).ri = 0
          rw [z.2]
          have a := and_range 0 (guest bs nf second (guest bs nf second first page 0).fr page 1).ri (by omega) (by omega)
          omega
    · left
      have e : nested bs nf first second page want = guest bs nf second (guest bs nf second first page 0).fr page 1 := by
        unfold nested
        rw [if_neg h0, if_neg hf, if_neg (by simpa using h1), if_pos h2]
      rw [e]
      exact ⟨hp, hw, h2, (guest_zero _ _ _ _ _ _ h2).1, (guest_zero _ _ _ _ _ _ h2).2⟩
  · left
    have e : nested bs nf first second page want = guest bs nf second first page 0 := by
      unfold nested
      rw [if_neg h0, if_neg hf, if_pos h1]
    rw [e]
    exact ⟨hp, hw, h1, (guest_zero _ _ _ _ _ _ h1).1, (guest_zero _ _ _ _ _ _ h1).2⟩

theorem nested_zero (bs : List UInt8) (nf : Nat) (first second page want : Int) (h : (nested bs nf first second page want).ft.k ≠ 0) : (nested bs nf first second page want).fr = 0 ∧ (nested bs nf first second page want).ri = 0 := by
  rcases nested_cases bs nf first second page want with ⟨_, e⟩ | ⟨_, _, _, e⟩ | ⟨_, _, _, e⟩ | ⟨_, _, _, e, _⟩
  · rw [e]; exact ⟨rfl, rfl⟩
  · rw [e] at h ⊢; exact granted_zero _ _ _ _ _ h
  · exact e
  · exact absurd e h

theorem and_self (r : Int) (h0 : 0 ≤ r) (h7 : r ≤ 7) : bits .andNot .i64 r r = 0 := by
  have hr : r = 0 ∨ r = 1 ∨ r = 2 ∨ r = 3 ∨ r = 4 ∨ r = 5 ∨ r = 6 ∨ r = 7 := by omega
  rcases hr with rfl | rfl | rfl | rfl | rfl | rfl | rfl | rfl <;> decide

theorem confined (bs : List UInt8) (nf : Nat) (first second page want : Int) (h : (nested bs nf first second page want).ft.k = 0) : bits .and .i64 (nested bs nf first second page want).ri want ≠ 0 ∧
    ∃ g : Nat, g < 1024 ∧ (single bs nf second (g : Int)).ft.k = 0 ∧ (single bs nf second (g : Int)).fr = (nested bs nf first second page want).fr ∧ bits .and .i64 (single bs nf second (g : Int)).ri want ≠ 0 ∧ bits .andNot .i64 (nested bs nf first second page want).ri (single bs nf second (g : Int)).ri = 0 := by
  rcases nested_cases bs nf first second page want with ⟨_, e⟩ | ⟨hp, _, _, e⟩ | ⟨_, _, e, _⟩ | ⟨_, hw, _, _, y, hy1, hy2, hy3, hg, e1, e2, _⟩
  · rw [e] at h; exact absurd (show (3 : Int) = 0 from h) (by decide)
  · rw [e] at h ⊢
    obtain ⟨e', h1, h2⟩ := granted_ok h
    rw [e']
    have hq := isP_iff.1 hp
    obtain ⟨g, rfl⟩ := Int.eq_ofNat_of_zero_le hq.1
    have hr := (single_range bs nf second (g : Int)).2.1
    exact ⟨h2, g, by omega, h1, rfl, h2, and_self _ hr.1 hr.2⟩
  · exact absurd h e
  · obtain ⟨e', h1, h2⟩ := granted_ok hg
    rw [e1, e2, e']
    obtain ⟨g, hgq⟩ := Int.eq_ofNat_of_zero_le hy1.1
    rw [hgq] at h1 h2 ⊢
    have hr := (single_range bs nf second (g : Int)).2.1
    exact ⟨and_both _ _ _ hr.1 hr.2 hy2.1 hy2.2 (isR_iff.1 hw) h2 hy3, g, by omega, h1, rfl, h2, and_sub _ _ hr.1 hr.2⟩

theorem single_through {bs : List UInt8} {nf : Nat} {root page : Int} (h : (single bs nf root page).ft.k = 0) : isP page = true ∧ entK bs nf root page 0 = 0 ∧ entK bs nf (df (ew bs root page 0)) page 1 = 0 ∧
    single bs nf root page = ⟨df (ew bs (df (ew bs root page 0)) page 1), dr (ew bs (df (ew bs root page 0)) page 1), f0⟩ := by
  rcases single_cases bs nf root page with ⟨_, e⟩ | ⟨_, h1, e⟩ | ⟨_, _, h2, e⟩ | h'
  · rw [e] at h; exact absurd (show (3 : Int) = 0 from h) (by decide)
  · rw [e] at h; exact absurd h h1
  · rw [e] at h; exact absurd h h2
  · exact h'

theorem entK_ok {bs : List UInt8} {nf : Nat} {t page lvl : Int} (h : entK bs nf t page lvl = 0) : ¬ (t < 0 ∨ (nf : Int) ≤ t) ∧ usable (ew bs t page lvl) lvl = true := by
  rcases entK_cases bs nf t page lvl with ⟨e, _⟩ | ⟨_, a, b⟩ | ⟨e, _⟩
  · rw [e] at h; exact absurd h (by decide)
  · exact ⟨a, b⟩
  · rw [e] at h; exact absurd h (by decide)

theorem entK_mk {bs : List UInt8} {nf : Nat} {t page lvl : Int} (h1 : ¬ (t < 0 ∨ (nf : Int) ≤ t)) (h2 : usable (ew bs t page lvl) lvl = true) : entK bs nf t page lvl = 0 := by
  unfold entK; rw [if_neg h1, if_pos h2]

theorem single_less {bs bs' : List UInt8} {nf : Nat} {root page : Int} {T i : Nat} {r' : Int}
    (hv : dv ((half bs T i : Nat) : Int) = true) (hl : dl ((half bs T i : Nat) : Int) = true)
    (hl' : dl ((half bs' T i : Nat) : Int) = true) (hf : df ((half bs' T i : Nat) : Int) = df ((half bs T i : Nat) : Int)) (hr : dr ((half bs' T i : Nat) : Int) = bits .and .i64 (dr ((half bs T i : Nat) : Int)) r')
    (ho : ∀ k j : Nat, j < 32 → ¬ (k = T ∧ j = i) → half bs' k j = half bs k j) (h : (single bs' nf root page).ft.k = 0) :
    (single bs nf root page).ft.k = 0 ∧ (single bs nf root page).fr = (single bs' nf root page).fr ∧ ((single bs' nf root page).ri = (single bs nf root page).ri ∨ (single bs' nf root page).ri = bits .and .i64 (single bs nf root page).ri r') := by
  obtain ⟨hp, h1, h2, e⟩ := single_through h
  have hq := isP_iff.1 hp
  have i0 : idxOf page 0 = page / 32 := by unfold idxOf; rw [if_neg (by omega), if_pos rfl]
  have i1 : idxOf page 1 = page % 32 := by unfold idxOf; rw [if_neg (by omega), if_neg (by omega), if_pos rfl]
  obtain ⟨a1, u1⟩ := entK_ok h1
  obtain ⟨a2, u2⟩ := entK_ok h2
  have eq0 : ew bs root page 0 = ew bs' root page 0 := by
    unfold ew
    by_cases hc : root.toNat = T ∧ (idxOf page 0).toNat = i
    · exfalso
      have : ew bs' root page 0 = ((half bs' T i : Nat) : Int) := by unfold ew; rw [hc.1, hc.2]
      rw [this] at u1
      simp [usable, hl'] at u1
    · rw [ho _ _ (by rw [i0]; omega) hc]
  have k1 : entK bs nf root page 0 = 0 := entK_mk a1 (by rw [eq0]; exact u1)
  by_cases hc : (df (ew bs' root page 0)).toNat = T ∧ (idxOf page 1).toNat = i
  · have x' : ew bs' (df (ew bs' root page 0)) page 1 = ((half bs' T i : Nat) : Int) := by
      have : ∀ z : Int, z = df (ew bs' root page 0) → ew bs' z page 1 = ((half bs' T i : Nat) : Int) := fun z hz => by unfold ew; rw [hz, hc.1, hc.2]
      exact this _ rfl
    have x : ew bs (df (ew bs' root page 0)) page 1 = ((half bs T i : Nat) : Int) := by
      have : ∀ z : Int, z = df (ew bs' root page 0) → ew bs z page 1 = ((half bs T i : Nat) : Int) := fun z hz => by unfold ew; rw [hz, hc.1, hc.2]
      exact this _ rfl
    have k2 : entK bs nf (df (ew bs root page 0)) page 1 = 0 := by
      rw [eq0]
      exact entK_mk a2 (by rw [x]; simp [usable, hv, hl])
    have es : single bs nf root page = ⟨df (ew bs (df (ew bs root page 0)) page 1), dr (ew bs (df (ew bs root page 0)) page 1), f0⟩ := by
      unfold single; rw [if_neg (by simp [hp]), if_neg (by simpa using k1), if_neg (by simpa using k2)]
    rw [es, e, eq0, x, x']
    exact ⟨rfl, hf.symm, Or.inr hr⟩
  · have x : ew bs (df (ew bs' root page 0)) page 1 = ew bs' (df (ew bs' root page 0)) page 1 := by
      have : ∀ z : Int, z = df (ew bs' root page 0) → ew bs z page 1 = ew bs' z page 1 := fun z hz => by unfold ew; rw [ho _ _ (by rw [i1]; omega) (by rw [hz]; exact hc)]
      exact this _ rfl
    have k2 : entK bs nf (df (ew bs root page 0)) page 1 = 0 := by
      rw [eq0]
      exact entK_mk a2 (by rw [x]; exact u2)
    have es : single bs nf root page = ⟨df (ew bs (df (ew bs root page 0)) page 1), dr (ew bs (df (ew bs root page 0)) page 1), f0⟩ := by
      unfold single; rw [if_neg (by simp [hp]), if_neg (by simpa using k1), if_neg (by simpa using k2)]
    rw [es, e, eq0, x]
    exact ⟨rfl, rfl, Or.inl rfl⟩

theorem granted_mk {bs : List UInt8} {nf : Nat} {root page want : Int} (h1 : (single bs nf root page).ft.k = 0) (h2 : bits .and .i64 (single bs nf root page).ri want ≠ 0) : granted bs nf root page want = single bs nf root page := by
  unfold granted; rw [if_neg (by simpa using h1), if_neg h2]

theorem nested_less {bs bs' : List UInt8} {nf : Nat} {first second page want : Int} {T i : Nat} {r' : Int} (hfirst : first < 0)
    (hv : dv ((half bs T i : Nat) : Int) = true) (hl : dl ((half bs T i : Nat) : Int) = true)
    (hl' : dl ((half bs' T i : Nat) : Int) = true) (hf : df ((half bs' T i : Nat) : Int) = df ((half bs T i : Nat) : Int)) (hr : dr ((half bs' T i : Nat) : Int) = bits .and .i64 (dr ((half bs T i : Nat) : Int)) r')
    (ho : ∀ k j : Nat, j < 32 → ¬ (k = T ∧ j = i) → half bs' k j = half bs k j) (h : (nested bs' nf first second page want).ft.k = 0) :
    (nested bs nf first second page want).ft.k = 0 ∧ (nested bs nf first second page want).fr = (nested bs' nf first second page want).fr ∧ bits .andNot .i64 (nested bs' nf first second page want).ri (nested bs nf first second page want).ri = 0 := by
  have plain : ∀ c : List UInt8, ¬ (isP page = false ∨ isR want = false) → nested c nf first second page want = granted c nf second page want := fun c h0 => by
    unfold nested; rw [if_neg h0, if_pos hfirst]
  by_cases h0 : isP page = false ∨ isR want = false
  · have : nested bs' nf first second page want = miss 3 0 0 false 0 := by unfold nested; rw [if_pos h0]
    rw [this] at h; exact absurd (show (3 : Int) = 0 from h) (by decide)
  · rw [plain bs h0, plain bs' h0] at *
    obtain ⟨e', h1, h2⟩ := granted_ok h
    obtain ⟨s1, s2, s3⟩ := single_less hv hl hl' hf hr ho h1
    have hq := (single_range bs nf second page).2.1
    have hb : bits .and .i64 (single bs nf second page).ri want ≠ 0 := by
      rcases s3 with s3 | s3
      · rw [← s3]; exact h2
      · rw [s3] at h2; exact and_more _ _ _ hq.1 hq.2 h2
    rw [granted_mk s1 hb, e']
    refine ⟨s1, s2, ?_⟩
    rcases s3 with s3 | s3
    · rw [s3]; exact and_self _ hq.1 hq.2
    · rw [s3]; exact and_sub _ _ hq.1 hq.2

end Go.Proofs.YtgnoakidjnilpaaGreat

/- WalkBuf -/
namespace Go.Proofs.YtgnoakidjnilpaaGreat
open Go.RowKit

theorem nested_same {bs : List UInt8} {nf : Nat} {first second page w0 want : Int} (h : (nested bs nf first second page w0).ft.k = 0) (hw : isR want = true) (hb : bits .and .i64 (nested bs nf first second page w0).ri want ≠ 0) :
    (nested bs nf first second page want).ft = f0 ∧ (nested bs nf first second page want).fr = (nested bs nf first second page w0).fr := by
  by_cases h0 : isP page = false ∨ isR w0 = false
  · have : nested bs nf first second page w0 = miss 3 0 0 false 0 := by unfold nested; rw [if_pos h0]
    rw [this] at h; exact absurd (show (3 : Int) = 0 from h) (by decide)
  have hp : isP page = true := by cases h' : isP page with | true => rfl | false => exact absurd (Or.inl h') h0
  have h0' : ¬ (isP page = false ∨ isR want = false) := by simp [hp, hw]
  by_cases hf : first < 0
  · have e : ∀ c : Int, ¬ (isP page = false ∨ isR c = false) → nested bs nf first second page c = granted bs nf second page c := fun c hc => by unfold nested; rw [if_neg hc, if_pos hf]
    rw [e w0 h0] at h hb ⊢
    rw [e want h0']
    obtain ⟨e', h1, _⟩ := granted_ok h
    rw [e'] at hb ⊢
    rw [granted_mk h1 hb]
    exact ⟨((single_range bs nf second page).2.2 h1).1, rfl⟩
  · by_cases h1 : (guest bs nf second first page 0).ft.k = 0
    · by_cases h2 : (guest bs nf second (guest bs nf second first page 0).fr page 1).ft.k = 0
      · have e : ∀ c : Int, ¬ (isP page = false ∨ isR c = false) → bits .and .i64 (guest bs nf second (guest bs nf second first page 0).fr page 1).ri c ≠ 0 → nested bs nf first second page c = ⟨(granted bs nf second (guest bs nf second (guest bs nf second first page 0).fr page 1).fr c).fr,
            bits .and .i64 (granted bs nf second (guest bs nf second (guest bs nf second first page 0).fr page 1).fr c).ri (guest bs nf second (guest bs nf second first page 0).fr page 1).ri, (granted bs nf second (guest bs nf second (guest bs nf second first page 0).fr page 1).fr c).ft⟩ := fun c hc h3 => by
          unfold nested; rw [if_neg hc, if_neg hf, if_neg (by simpa using h1), if_neg (by simpa using h2), if_neg h3]
        by_cases h3 : bits .and .i64 (guest bs nf second (guest bs nf second first page 0).fr page 1).ri w0 = 0
        · have : nested bs nf first second page w0 = miss 2 1 1 false page := by
            unfold nested; rw [if_neg h0, if_neg hf, if_neg (by simpa using h1), if_neg (by simpa using h2), if_pos h3]
          rw [this] at h; exact absurd (show (2 : Int) = 0 from h) (by decide)
        · rw [e w0 h0 h3] at h hb ⊢
          obtain ⟨e', g1, _⟩ := granted_ok h
          simp only [e'] at hb ⊢
          have rg := (guest_range h2).2
          have rs := (single_range bs nf second (guest bs nf second (guest bs nf second first page 0).fr page 1).fr).2.1
          have b1 := and_more _ _ _ rs.1 rs.2 hb
          rw [and_comm' _ _ rs.1 rs.2 rg.1 rg.2] at hb
          have b2 := and_more _ _ _ rg.1 rg.2 hb
          rw [e want h0' b2, granted_mk g1 b1]
          exact ⟨((single_range bs nf second _).2.2 g1).1, rfl⟩
      · have : nested bs nf first second page w0 = guest bs nf second (guest bs nf second first page 0).fr page 1 := by
          unfold nested; rw [if_neg h0, if_neg hf, if_neg (by simpa using h1), if_pos h2]
        rw [this] at h; exact absurd h h2
    · have : nested bs nf first second page w0 = guest bs nf second first page 0 := by
        unfold nested; rw [if_neg h0, if_neg hf, if_pos h1]
      rw [this] at h; exact absurd h h1

structure Spc where (v a f s : Int)

def BufOk (bs : List UInt8) (Q : Nat → Spc) (T : Nat → Ln) : Prop :=
  ∀ j, j < 8 → emp (T j) = false → ∃ k : Nat, (T j).v = 1 + (k : Int) ∧ (T j).a = (Q k).a ∧ ∃ w0 : Int, (nested bs 16 (Q k).f (Q k).s (T j).p w0).ft.k = 0 ∧ (nested bs 16 (Q k).f (Q k).s (T j).p w0).fr = (T j).f ∧ (nested bs 16 (Q k).f (Q k).s (T j).p w0).ri = (T j).r

theorem buf_zero' (bs : List UInt8) (Q : Nat → Spc) : BufOk bs Q (fun _ => zl) := fun _ _ h => absurd (show emp zl = false from h) (by decide)

theorem buf_upd {bs : List UInt8} {Q : Nat → Spc} {T : Nat → Ln} (h : BufOk bs Q T) (i : Nat) (l : Ln)
    (hl : emp l = false → ∃ k : Nat, l.v = 1 + (k : Int) ∧ l.a = (Q k).a ∧ ∃ w0 : Int, (nested bs 16 (Q k).f (Q k).s l.p w0).ft.k = 0 ∧ (nested bs 16 (Q k).f (Q k).s l.p w0).fr = l.f ∧ (nested bs 16 (Q k).f (Q k).s l.p w0).ri = l.r) : BufOk bs Q (upd T i l) := fun j hj he => by
  by_cases hi : j = i
  · subst hi; rw [upd_same] at he ⊢; exact hl he
  · rw [upd_other T l hi] at he ⊢; exact h j hj he

theorem buf_wipe {bs : List UInt8} {Q : Nat → Spc} {T : Nat → Ln} (h : BufOk bs Q T) (g : Ln → Bool) : BufOk bs Q (wipe g T) := fun j hj he => by
  rcases wipe_cases g T j with ⟨e, _⟩ | ⟨e, _⟩
  · rw [e] at he; exact absurd he (by decide)
  · rw [e] at he ⊢; exact h j hj he

theorem buf_ev {bs : List UInt8} {Q : Nat → Spc} {T : Nat → Ln} (h : BufOk bs Q T) (i : Int) : BufOk bs Q (evT T i) := by
  unfold evT
  cases inB i 0 7
  · exact h
  · exact buf_upd h _ _ (fun he => absurd he (by decide))

theorem buf_reach {bs : List UInt8} {Q : Nat → Spc} {T : Nat → Ln} (h : BufOk bs Q T) (k : Nat) (page want ix : Int) : BufOk bs Q (reachT bs 16 T (1 + (k : Int)) (Q k).a (Q k).f (Q k).s page want ix) := by
  unfold reachT
  split
  · exact h
  · split
    · rename_i hk
      unfold fillT
      cases inB ix 0 7 && rightL ⟨1 + (k : Int), (Q k).a, page, (nested bs 16 (Q k).f (Q k).s page want).fr, (nested bs 16 (Q k).f (Q k).s page want).ri⟩
      · exact h
      · exact buf_upd (buf_wipe h _) _ _ (fun _ => ⟨k, rfl, rfl, want, hk, rfl, rfl⟩)
    · exact h

theorem reach_same {bs : List UInt8} {Q : Nat → Spc} {T : Nat → Ln} (h : BufOk bs Q T) (k : Nat) (page want : Int) :
    reachF bs 16 T (1 + (k : Int)) (Q k).a (Q k).f (Q k).s page want = (nested bs 16 (Q k).f (Q k).s page want).fr ∧ reachX bs 16 T (1 + (k : Int)) (Q k).a (Q k).f (Q k).s page want = (nested bs 16 (Q k).f (Q k).s page want).ft := by
  cases hh : hitR T (1 + (k : Int)) (Q k).a page want with
  | false => unfold reachF reachX; rw [if_neg (by simp [hh]), if_neg (by simp [hh])]; exact ⟨rfl, rfl⟩
  | true =>
    have e1 : reachF bs 16 T (1 + (k : Int)) (Q k).a (Q k).f (Q k).s page want = ansF T (idx T (1 + (k : Int)) (Q k).a page 8) := by unfold reachF; rw [if_pos hh]
    have e2 : reachX bs 16 T (1 + (k : Int)) (Q k).a (Q k).f (Q k).s page want = f0 := by unfold reachX; rw [if_pos hh]
    rw [e1, e2]
    have hs : ansB (idx T (1 + (k : Int)) (Q k).a page 8) = true ∧ isR want = true ∧ bits .and .i64 (ansR T (idx T (1 + (k : Int)) (Q k).a page 8)) want ≠ 0 := by
      simpa [hitR] using hh
    obtain ⟨a1, a2, a3⟩ := hs
    rcases idx_cases T (1 + (k : Int)) (Q k).a page 8 with ⟨e, _⟩ | ⟨j, hj, e, ht, _⟩
    · rw [e] at a1; exact absurd a1 (by decide)
    · have n0 : ¬ (j : Int) < 0 := by omega
      rw [e] at a3 ⊢
      simp only [ansR, ansF, decide_eq_false n0, cond_false, Int.toNat_natCast] at a3 ⊢
      have hem : emp (T j) = false := by
        unfold hit at ht
        cases hx : emp (T j) <;> simp_all
      have hkey : key (T j) ⟨1 + (k : Int), (Q k).a, page, 0, 0⟩ = true := by
        unfold hit at ht
        simp [hem] at ht
        exact ht
      obtain ⟨k1, _, k3⟩ := key_iff.1 hkey
      obtain ⟨k', v1, _, w0, g1, g2, g3⟩ := h j hj hem
      have hkk : k' = k := by
        have : (T j).v = 1 + (k : Int) := k1
        omega
      subst hkk
      have hpg : (T j).p = page := k3
      rw [hpg] at g1 g2 g3
      rw [← g3] at a3
      obtain ⟨r1, r2⟩ := nested_same g1 a2 a3
      rw [r1, r2, g2]
      exact ⟨rfl, rfl⟩

end Go.Proofs.YtgnoakidjnilpaaGreat

/- CpuTrapP -/
namespace Go.Proofs.YtgnoakidjnilpaaGreat
open Go.RowKit

def Sok (bs : List UInt8) (vm sd fi se : Int) (T : Nat → Ln) : Prop :=
  ∀ j, j < 8 → emp (T j) = false → (T j).v = vm → (T j).a = sd → ∃ w0 : Int, (nested bs 16 fi se (T j).p w0).ft.k = 0 ∧ (nested bs 16 fi se (T j).p w0).fr = (T j).f ∧ (nested bs 16 fi se (T j).p w0).ri = (T j).r

theorem sok_zero (bs : List UInt8) (vm sd fi se : Int) : Sok bs vm sd fi se (fun _ => zl) := fun _ _ h => absurd (show emp zl = false from h) (by decide)

theorem sok_reach {bs : List UInt8} {vm sd fi se : Int} {T : Nat → Ln} (h : Sok bs vm sd fi se T) (page want ix : Int) : Sok bs vm sd fi se (reachT bs 16 T vm sd fi se page want ix) := by
  unfold reachT
  split
  · exact h
  · split
    · rename_i hk
      unfold fillT
      cases inB ix 0 7 && rightL ⟨vm, sd, page, (nested bs 16 fi se page want).fr, (nested bs 16 fi se page want).ri⟩
      · exact h
      · intro j hj he hv ha
        by_cases hi : j = ix.toNat
        · subst hi
          have e : ∀ (U : Nat → Ln) (l : Ln), upd U ix.toNat l ix.toNat = l := fun U l => upd_same U _ l
          simp only [cond_true, filled] at he hv ha ⊢
          rw [e] at he hv ha ⊢
          exact ⟨want, hk, rfl, rfl⟩
        · simp only [cond_true, filled] at he hv ha ⊢
          rw [upd_other _ _ hi] at he hv ha ⊢
          rcases wipe_cases (fun x => key x ⟨vm, sd, page, (nested bs 16 fi se page want).fr, (nested bs 16 fi se page want).ri⟩) T j with ⟨e, _⟩ | ⟨e, _⟩
          · rw [e] at he; exact absurd he (by decide)
          · rw [e] at he hv ha ⊢; exact h j hj he hv ha
    · exact h

theorem sok_same {bs : List UInt8} {vm sd fi se : Int} {T : Nat → Ln} (h : Sok bs vm sd fi se T) (page want : Int) :
    reachF bs 16 T vm sd fi se page want = (nested bs 16 fi se page want).fr ∧ reachX bs 16 T vm sd fi se page want = (nested bs 16 fi se page want).ft := by
  cases hh : hitR T vm sd page want with
  | false => unfold reachF reachX; rw [if_neg (by simp [hh]), if_neg (by simp [hh])]; exact ⟨rfl, rfl⟩
  | true =>
    have e1 : reachF bs 16 T vm sd fi se page want = ansF T (idx T vm sd page 8) := by unfold reachF; rw [if_pos hh]
    have e2 : reachX bs 16 T vm sd fi se page want = f0 := by unfold reachX; rw [if_pos hh]
    rw [e1, e2]
    have hs : ansB (idx T vm sd page 8) = true ∧ isR want = true ∧ bits .and .i64 (ansR T (idx T vm sd page 8)) want ≠ 0 := by
      simpa [hitR] using hh
    obtain ⟨a1, a2, a3⟩ := hs
    rcases idx_cases T vm sd page 8 with ⟨e, _⟩ | ⟨j, hj, e, ht, _⟩
    · rw [e] at a1; exact absurd a1 (by decide)
    · have n0 : ¬ (j : Int) < 0 := by omega
      rw [e] at a3 ⊢
      simp only [ansR, ansF, decide_eq_false n0, cond_false, Int.toNat_natCast] at a3 ⊢
      have hem : emp (T j) = false := by
        unfold hit at ht
        cases hx : emp (T j) <;> simp_all
      have hkey : key (T j) ⟨vm, sd, page, 0, 0⟩ = true := by
        unfold hit at ht
        simp [hem] at ht
        exact ht
      obtain ⟨k1, k2, k3⟩ := key_iff.1 hkey
      obtain ⟨w0, g1, g2, g3⟩ := h j hj hem k1 k2
      have hpg : (T j).p = page := k3
      rw [hpg] at g1 g2 g3
      rw [← g3] at a3
      obtain ⟨r1, r2⟩ := nested_same g1 a2 a3
      rw [r1, r2, g2]
      exact ⟨rfl, rfl⟩

theorem rc_same {M M' : Mc} {vm sd fi se : Int} (hb : M.bs = M'.bs) (s : Sok M.bs vm sd fi se M.T) (s' : Sok M'.bs vm sd fi se M'.T) (ad want : Int) :
    rcF M 16 vm sd fi se ad want = rcF M' 16 vm sd fi se ad want ∧ rcP M 16 vm sd fi se ad want = rcP M' 16 vm sd fi se ad want := by
  obtain ⟨a1, a2⟩ := sok_same s (ad / 64) want
  obtain ⟨b1, b2⟩ := sok_same s' (ad / 64) want
  have e : rcF M 16 vm sd fi se ad want = rcF M' 16 vm sd fi se ad want := by
    unfold rcF; rw [a1, a2, b1, b2, hb]
  refine ⟨e, ?_⟩
  unfold rcP
  rw [e, a1, b1, hb]

theorem rc_keep {M : Mc} {vm sd fi se : Int} (s : Sok M.bs vm sd fi se M.T) (ad want ix : Int) : Sok (rcM M 16 vm sd fi se ad want ix).bs vm sd fi se (rcM M 16 vm sd fi se ad want ix).T ∧ (rcM M 16 vm sd fi se ad want ix).bs = M.bs ∧ (rcM M 16 vm sd fi se ad want ix).V = M.V :=
  ⟨sok_reach s (ad / 64) want ix, rfl, rfl⟩

theorem dT_same {M M' : Mc} {X : Wk} (hb : M.bs = M'.bs) (s : Sok M.bs X.vm X.sd X.fi X.se M.T) (s' : Sok M'.bs X.vm X.sd X.fi X.se M'.T) (size want cause : Int) : dT M 16 X size want cause = dT M' 16 X size want cause := by
  unfold dT
  rw [(rc_same hb s s' X.ad want).1]

theorem dM_keep {M : Mc} {X : Wk} (s : Sok M.bs X.vm X.sd X.fi X.se M.T) (size want : Int) : Sok (dM M 16 X size want).bs X.vm X.sd X.fi X.se (dM M 16 X size want).T ∧ (dM M 16 X size want).bs = M.bs ∧ (dM M 16 X size want).V = M.V := by
  unfold dM
  split
  · exact ⟨s, rfl, rfl⟩
  · exact rc_keep s _ _ _

theorem exec_same {M M' : Mc} {X : Wk} (hb : M.bs = M'.bs) (hv : M.V = M'.V) (s : Sok M.bs X.vm X.sd X.fi X.se M.T) (s' : Sok M'.bs X.vm X.sd X.fi X.se M'.T) : (exec 16 M X).2.2 = (exec 16 M' X).2.2 := by
  have d := dT_same hb s s'
  have w : wfT M X = wfT M' X := by unfold wfT; rw [hv]
  have q : M.S = M'.S := by unfold Mc.S; rw [hv]
  by_cases hk : X.op ≤ 24
  · have : X.op = 0 ∨ X.op = 1 ∨ X.op = 2 ∨ X.op = 3 ∨ X.op = 4 ∨ X.op = 5 ∨ X.op = 6 ∨ X.op = 7 ∨ X.op = 8 ∨ X.op = 9 ∨ X.op = 10 ∨ X.op = 11 ∨ X.op = 12 ∨ X.op = 13 ∨ X.op = 14 ∨ X.op = 15 ∨ X.op = 16 ∨ X.op = 17 ∨ X.op = 18 ∨ X.op = 19 ∨ X.op = 20 ∨ X.op = 21 ∨ X.op = 22 ∨ X.op = 23 ∨ X.op = 24 := by omega
    rcases this with ho | ho | ho | ho | ho | ho | ho | ho | ho | ho | ho | ho | ho | ho | ho | ho | ho | ho | ho | ho | ho | ho | ho | ho | ho
    all_goals
      unfold exec
      rw [ho]
      first
        | exact d _ _ _
        | exact w
        | exact congrArg (fun S => eoT S X) q
        | rfl
  · obtain ⟨j, ho⟩ : ∃ j, X.op = j + 25 := ⟨X.op - 25, by omega⟩
    unfold exec
    rw [ho]
    rfl

theorem exec_keep {M : Mc} {X : Wk} (s : Sok M.bs X.vm X.sd X.fi X.se M.T) (h : (exec 16 M X).2.2.ca ≠ 0) (h' : (exec 16 M X).2.2.ca ≠ 10) :
    Sok (exec 16 M X).1.bs X.vm X.sd X.fi X.se (exec 16 M X).1.T ∧ (exec 16 M X).1.bs = M.bs ∧ (exec 16 M X).1.V = M.V := by
  by_cases hk : X.op ≤ 24
  · have : X.op = 0 ∨ X.op = 1 ∨ X.op = 2 ∨ X.op = 3 ∨ X.op = 4 ∨ X.op = 5 ∨ X.op = 6 ∨ X.op = 7 ∨ X.op = 8 ∨ X.op = 9 ∨ X.op = 10 ∨ X.op = 11 ∨ X.op = 12 ∨ X.op = 13 ∨ X.op = 14 ∨ X.op = 15 ∨ X.op = 16 ∨ X.op = 17 ∨ X.op = 18 ∨ X.op = 19 ∨ X.op = 20 ∨ X.op = 21 ∨ X.op = 22 ∨ X.op = 23 ∨ X.op = 24 := by omega
    rcases this with ho | ho | ho | ho | ho | ho | ho | ho | ho | ho | ho | ho | ho | ho | ho | ho | ho | ho | ho | ho | ho | ho | ho | ho | ho
    all_goals
      unfold exec at h h' ⊢
      rw [ho] at h h' ⊢
      try first
        | exact absurd rfl h
        | exact dM_keep s _ _
        | exact ⟨s, rfl, rfl⟩
    · show Sok (stM M 16 X 4).bs X.vm X.sd X.fi X.se (stM M 16 X 4).T ∧ (stM M 16 X 4).bs = M.bs ∧ (stM M 16 X 4).V = M.V
      have h2 : (dT M 16 X 4 2 3).ca ≠ 0 := h
      unfold stM
      rw [if_pos h2]
      exact dM_keep s _ _
    · show Sok (stM M 16 X 1).bs X.vm X.sd X.fi X.se (stM M 16 X 1).T ∧ (stM M 16 X 1).bs = M.bs ∧ (stM M 16 X 1).V = M.V
      have h2 : (dT M 16 X 1 2 3).ca ≠ 0 := h
      unfold stM
      rw [if_pos h2]
      exact dM_keep s _ _
    · show Sok (wrM M M.S X).bs X.vm X.sd X.fi X.se (wrM M M.S X).T ∧ (wrM M M.S X).bs = M.bs ∧ (wrM M M.S X).V = M.V
      have hx : (5 : Int) < (X.imm : Int) := by
        have h2 : (wrT X).ca ≠ 0 := h
        unfold wrT at h2
        split at h2
        · assumption
        · exact absurd rfl h2
      unfold wrM
      rw [if_pos hx]
      exact ⟨s, rfl, rfl⟩
    · exfalso
      have h2 : (eoT M.S X).ca ≠ 0 := h
      have h3 : (eoT M.S X).ca ≠ 10 := h'
      unfold eoT at h2 h3
      split at h2
      · rename_i q; rw [if_pos q] at h3; exact absurd rfl h3
      · exact absurd rfl h2
  · obtain ⟨j, ho⟩ : ∃ j, X.op = j + 25 := ⟨X.op - 25, by omega⟩
    unfold exec at h
    rw [ho] at h
    exact absurd rfl h

theorem fX_same {M M' : Mc} {X : Wk} (hb : M.bs = M'.bs) (s : Sok M.bs X.vm X.sd X.fi X.se M.T) (s' : Sok M'.bs X.vm X.sd X.fi X.se M'.T) : fX 16 M X = fX 16 M' X := by
  unfold fX
  rw [(rc_same hb s s' X.pc 4).2, hb]

theorem do_same {M M' : Mc} {X : Wk} (hb : M.bs = M'.bs) (hv : M.V = M'.V) (s : Sok M.bs X.vm X.sd X.fi X.se M.T) (s' : Sok M'.bs X.vm X.sd X.fi X.se M'.T) : (doR 16 M X).2.2 = (doR 16 M' X).2.2 := by
  have e1 := (rc_same hb s s' X.pc 4).1
  have e2 := fX_same hb s s'
  have k1 := rc_keep s X.pc 4 X.ix
  have k2 := rc_keep s' X.pc 4 X.ix
  unfold doR
  rw [e1, e2, hv]
  split
  · rfl
  · split
    · rfl
    · split
      · rfl
      · exact exec_same (M := doM 16 M X) (M' := doM 16 M' X) (X := dX (fX 16 M' X)) (by show M.bs = M'.bs; exact hb) (by show M.V = M'.V; exact hv) k1.1 k2.1

theorem do_keep {M : Mc} {X : Wk} (s : Sok M.bs X.vm X.sd X.fi X.se M.T) (h : (doR 16 M X).2.2.ca ≠ 0) (h' : (doR 16 M X).2.2.ca ≠ 10) :
    Sok (doR 16 M X).1.bs X.vm X.sd X.fi X.se (doR 16 M X).1.T ∧ (doR 16 M X).1.bs = M.bs ∧ (doR 16 M X).1.V = M.V := by
  have k1 := rc_keep s X.pc 4 X.ix
  unfold doR at h h' ⊢
  split at h
  · rw [if_pos (by assumption)]; exact k1
  · rename_i c1
    rw [if_neg c1] at h' ⊢
    split at h
    · rw [if_pos (by assumption)]; exact k1
    · rename_i c2
      rw [if_neg c2] at h' ⊢
      split at h
      · rw [if_pos (by assumption)]; exact k1
      · rename_i c3
        rw [if_neg c3] at h' ⊢
        exact exec_keep (M := doM 16 M X) (X := dX (fX 16 M X)) k1.1 h h'

theorem do_new (bs : List UInt8) (g : Bool) (X : Wk) : (doR 16 (M0 bs g) X).2.2.ca ≠ 10 := by
  unfold doR
  split
  · exact (show ¬((1 : Int) = 10) by decide)
  · split
    · exact (show ¬((8 : Int) = 10) by decide)
    · split
      · exact (show ¬((8 : Int) = 10) by decide)
      · rename_i c3
        unfold exec
        split
        all_goals first
          | exact (show ¬((0 : Int) = 10) by decide)
          | exact (show ¬((5 : Int) = 10) by decide)
          | exact (show ¬((6 : Int) = 10) by decide)
          | (show ¬((dT _ _ _ _ _ _).ca = 10); unfold dT; split; exact (show ¬((4 : Int) = 10) by decide); split; exact (show ¬((2 : Int) = 10) by decide); exact (show ¬((0 : Int) = 10) by decide))
          | (show ¬((dT _ _ _ _ _ _).ca = 10); unfold dT; split; exact (show ¬((4 : Int) = 10) by decide); split; exact (show ¬((3 : Int) = 10) by decide); exact (show ¬((0 : Int) = 10) by decide))
          | (show ¬((rdT _).ca = 10); unfold rdT; split; exact (show ¬((7 : Int) = 10) by decide); exact (show ¬((0 : Int) = 10) by decide))
          | (show ¬((wrT _).ca = 10); unfold wrT; split; exact (show ¬((7 : Int) = 10) by decide); exact (show ¬((0 : Int) = 10) by decide))
          | skip
        · show ¬((wfT _ _).ca = 10)
          unfold wfT
          split
          · split
            · exact (show ¬((0 : Int) = 10) by decide)
            · exact (show ¬((9 : Int) = 10) by decide)
          · exact (show ¬((9 : Int) = 10) by decide)
        · show ¬((eoT (doM 16 (M0 bs g) X).S _).ca = 10)
          have e : (doM 16 (M0 bs g) X).S = zeroV 4 ∨ (doM 16 (M0 bs g) X).S = zeroV 1 := by
            cases g
            · exact Or.inr rfl
            · exact Or.inl rfl
          have z : ∀ n, endF (doM 16 (M0 bs g) X).S n = false := by
            intro n
            rcases e with e | e <;> rw [e] <;> unfold endF <;> cases isI n <;> rfl
          unfold eoT
          rw [if_neg (by rw [z]; decide)]
          exact (show ¬((0 : Int) = 10) by decide)

theorem do_again {M : Mc} {X : Wk} (s : Sok M.bs X.vm X.sd X.fi X.se M.T) (h : (doR 16 M X).2.2.ca ≠ 0) (h' : (doR 16 M X).2.2.ca ≠ 10) : (doR 16 (doR 16 M X).1 X).2.2 = (doR 16 M X).2.2 := by
  obtain ⟨s1, b1, v1⟩ := do_keep s h h'
  exact do_same b1 v1 s1 s

theorem st_same {c : Cp} {R : Mc × Wk × Tr} (a : R.2.2.ca ≠ 0) (b : R.2.2.ca ≠ 10) : stC c R = c := by
  unfold stC; rw [if_neg (by rintro (q | q); exact a q; exact b q)]

theorem trap_again (bs : List UInt8) (g : Bool) (c : Cp) (vm se ix : Int) (h : (stepR 16 (M0 bs g) c vm se ix).2.2.ca ≠ 0) :
    (stepR 16 (M0 bs g) c vm se ix).2.2.ca ≠ 10 ∧ (stepR 16 (M0 bs g) c vm se ix).1.bs = bs ∧ (stepR 16 (M0 bs g) c vm se ix).2.1 = c ∧ (stepR 16 (stepR 16 (M0 bs g) c vm se ix).1 c vm se ix).2.1 = c ∧ (stepR 16 (stepR 16 (M0 bs g) c vm se ix).1 c vm se ix).2.2 = (stepR 16 (M0 bs g) c vm se ix).2.2 := by
  by_cases hb : c.bad
  · have e : ∀ M : Mc, stepR 16 M c vm se ix = (M, c, ⟨4, 0, c.pc, f0⟩) := fun M => if_pos hb
    rw [e (M0 bs g)]
    refine ⟨(show ¬((4 : Int) = 10) by decide), rfl, rfl, ?_, ?_⟩
    · show (stepR 16 (M0 bs g) c vm se ix).2.1 = c
      rw [e (M0 bs g)]
    · show (stepR 16 (M0 bs g) c vm se ix).2.2 = _
      rw [e (M0 bs g)]
  · have e : ∀ M : Mc, stepR 16 M c vm se ix = ((doR 16 M (wkP M.V.isSome c vm se ix)).1, stC c (doR 16 M (wkP M.V.isSome c vm se ix)), (doR 16 M (wkP M.V.isSome c vm se ix)).2.2) := fun M => if_neg hb
    have h10 := do_new bs g (wkP (M0 bs g).V.isSome c vm se ix)
    have s0 : Sok (M0 bs g).bs (wkP (M0 bs g).V.isSome c vm se ix).vm (wkP (M0 bs g).V.isSome c vm se ix).sd (wkP (M0 bs g).V.isSome c vm se ix).fi (wkP (M0 bs g).V.isSome c vm se ix).se (M0 bs g).T := sok_zero _ _ _ _ _
    have b0 : (M0 bs g).bs = bs := rfl
    have eM := e (M0 bs g)
    generalize M0 bs g = M at *
    rw [eM] at h ⊢
    clear eM
    replace h : (doR 16 M (wkP M.V.isSome c vm se ix)).2.2.ca ≠ 0 := h
    obtain ⟨_, b1, v1⟩ := do_keep s0 h h10
    have a1 := do_again s0 h h10
    refine ⟨h10, b1.trans b0, st_same h h10, ?_, ?_⟩
    · show (stepR 16 (doR 16 M (wkP M.V.isSome c vm se ix)).1 c vm se ix).2.1 = c
      rw [e, v1]
      exact st_same (by rw [a1]; exact h) (by rw [a1]; exact h10)
    · show (stepR 16 (doR 16 M (wkP M.V.isSome c vm se ix)).1 c vm se ix).2.2 = (doR 16 M (wkP M.V.isSome c vm se ix)).2.2
      rw [e, v1]
      exact a1

end Go.Proofs.YtgnoakidjnilpaaGreat

/- WalkFar -/
namespace Go.Proofs.YtgnoakidjnilpaaGreat
open Go.RowKit

theorem half_far (bs : List UInt8) (a v t i : Nat) (h : a + 1 ≤ bs.length) (hi : i < 32) (hn : a / 64 ≠ t) : half (putAt bs a (bytesOf 1 v)) t i = half bs t i := by
  unfold half
  congr 1
  apply List.ext_getElem?
  intro j
  rw [List.getElem?_take, List.getElem?_take]
  by_cases hj : j < 2
  · rw [if_pos hj, if_pos hj, List.getElem?_drop, List.getElem?_drop, putAt_get? _ _ _ (by rw [length_bytesOf]; exact h), length_bytesOf, if_neg (by omega)]
  · rw [if_neg hj, if_neg hj]

theorem single_blind {bs bs' : List UInt8} {nf : Nat} {root page : Int} (h0 : ∀ i : Nat, i < 32 → half bs' root.toNat i = half bs root.toNat i)
    (h1 : isP page = true → entK bs nf root page 0 = 0 → ∀ i : Nat, i < 32 → half bs' (df (ew bs root page 0)).toNat i = half bs (df (ew bs root page 0)).toNat i) : single bs' nf root page = single bs nf root page := by
  cases hp : isP page with
  | false => unfold single; rw [if_pos hp, if_pos hp]
  | true =>
    have hq := isP_iff.1 hp
    have i0 : idxOf page 0 = page / 32 := by unfold idxOf; rw [if_neg (by omega), if_pos rfl]
    have i1 : idxOf page 1 = page % 32 := by unfold idxOf; rw [if_neg (by omega), if_neg (by omega), if_pos rfl]
    have e0 : ew bs' root page 0 = ew bs root page 0 := by unfold ew; rw [h0 _ (by rw [i0]; omega)]
    have k0 : entK bs' nf root page 0 = entK bs nf root page 0 := by unfold entK; rw [e0]
    by_cases hk : entK bs nf root page 0 = 0
    · have e1 : ew bs' (df (ew bs root page 0)) page 1 = ew bs (df (ew bs root page 0)) page 1 := by
        have := h1 hp hk (idxOf page 1).toNat (by rw [i1]; omega)
        have g : ∀ z : Int, half bs' z.toNat (idxOf page 1).toNat = half bs z.toNat (idxOf page 1).toNat → ew bs' z page 1 = ew bs z page 1 := fun z hz => by unfold ew; rw [hz]
        exact g _ this
      have k1 : entK bs' nf (df (ew bs root page 0)) page 1 = entK bs nf (df (ew bs root page 0)) page 1 := by unfold entK; rw [e1]
      unfold single
      rw [e0, k0, k1, e1]
    · unfold single
      rw [k0, if_neg (by simp [hp]), if_pos hk, if_neg (by simp [hp]), if_pos hk]

theorem store_blind {bs : List UInt8} {root page addr : Int} {v : Nat} (hl : bs.length = 64 * 16) (ha : 0 ≤ addr) (hr : addr / 64 ≠ root)
    (hd : isP page = true → entK bs 16 root page 0 = 0 → addr / 64 ≠ df (ew bs root page 0)) : single (storeB bs addr 1 16 v) 16 root page = single bs 16 root page := by
  unfold storeB
  by_cases he : errOf addr 1 16 = 0
  · rw [if_pos he]
    obtain ⟨_, _, h0, h1⟩ := err_zero he
    have hlen : addr.toNat + 1 ≤ bs.length := by omega
    by_cases hroot : 0 ≤ root
    · refine single_blind (fun i hi => half_far bs addr.toNat v root.toNat i hlen hi (by omega)) (fun hp hk i hi => ?_)
      have hx := ew_range bs root page 0
      have hf := df_range hx.1 hx.2
      have := hd hp hk
      exact half_far bs addr.toNat v _ i hlen hi (by omega)
    · have out : ∀ c : List UInt8, entK c 16 root page 0 = 3 := fun c => by unfold entK; rw [if_pos (Or.inl (by omega))]
      unfold single
      rw [out, out]
      simp
  · rw [if_neg he]

end Go.Proofs.YtgnoakidjnilpaaGreat

/- CpuConfP -/
namespace Go.Proofs.YtgnoakidjnilpaaGreat
open Go.RowKit

def May (bs : List UInt8) (se f : Int) : Prop := ∃ g : Nat, g < 1024 ∧ (single bs 16 se (g : Int)).ft.k = 0 ∧ bits .and .i64 (single bs 16 se (g : Int)).ri 2 ≠ 0 ∧ (single bs 16 se (g : Int)).fr = f

structure Shut (bs : List UInt8) (se : Int) : Prop where
  len : bs.length = 1024
  lo : 0 ≤ se
  root : ¬ May bs se se
  tab : ∀ i : Nat, i < 32 → dv ((half bs se.toNat i : Nat) : Int) = true → dl ((half bs se.toNat i : Nat) : Int) = false → df ((half bs se.toNat i : Nat) : Int) < 16 → ¬ May bs se (df ((half bs se.toNat i : Nat) : Int))

structure Kept (b0 : List UInt8) (se : Int) (bs : List UInt8) (T : Nat → Ln) : Prop where
  len : bs.length = 1024
  by' : ∀ i : Nat, ¬ May b0 se ((i / 64 : Nat) : Int) → bs[i]? = b0[i]?
  ln : ∀ j, j < 8 → emp (T j) = false → bits .and .i64 (T j).r 2 ≠ 0 → May b0 se (T j).f

theorem and_two : ∀ a b : Fin 8, bits .andNot .i64 ((a.val : Nat) : Int) ((b.val : Nat) : Int) = 0 → bits .and .i64 ((a.val : Nat) : Int) 2 ≠ 0 → bits .and .i64 ((b.val : Nat) : Int) 2 ≠ 0 := by decide +kernel
theorem and_two' {a b : Int} (ha : 0 ≤ a) (ha' : a ≤ 7) (hb : 0 ≤ b) (hb' : b ≤ 7) (h : bits .andNot .i64 a b = 0) (h2 : bits .and .i64 a 2 ≠ 0) : bits .and .i64 b 2 ≠ 0 := by
  have := and_two ⟨a.toNat, by omega⟩ ⟨b.toNat, by omega⟩
  simp only [Int.toNat_of_nonneg ha, Int.toNat_of_nonneg hb] at this
  exact this h h2

theorem half_by {bs b0 : List UInt8} {t i : Nat} (hi : i < 32) (h : ∀ j : Nat, j / 64 = t → bs[j]? = b0[j]?) : half bs t i = half b0 t i := by
  unfold half
  congr 1
  apply List.ext_getElem?
  intro j
  rw [List.getElem?_take, List.getElem?_take]
  by_cases hj : j < 2
  · rw [if_pos hj, if_pos hj, List.getElem?_drop, List.getElem?_drop, h _ (by omega)]
  · rw [if_neg hj, if_neg hj]

section
variable {b0 bs : List UInt8} {se : Int} {T : Nat → Ln}
theorem kept_new (hs : Shut b0 se) : Kept b0 se b0 (fun _ => zl) := ⟨hs.len, fun _ _ => rfl, fun _ _ h => absurd (show emp zl = false from h) (by decide)⟩
theorem Kept.single (h : Kept b0 se bs T) (hs : Shut b0 se) (page : Int) : single bs 16 se page = single b0 16 se page := by
  have key : ∀ t : Nat, ¬ May b0 se (t : Int) → ∀ i, i < 32 → half bs t i = half b0 t i := fun t ht i hi => half_by hi (fun j hj => h.by' j (by rw [hj]; exact ht))
  have hse : ((se.toNat : Nat) : Int) = se := Int.toNat_of_nonneg hs.lo
  refine single_blind (key se.toNat (by rw [hse]; exact hs.root)) (fun hp hk i hi => ?_)
  have hx := ew_range b0 se page 0
  have hf := df_range hx.1 hx.2
  have hq := isP_iff.1 hp
  have i0 : idxOf page 0 = page / 32 := by unfold idxOf; rw [if_neg (by omega), if_pos rfl]
  by_cases h16 : df (ew b0 se page 0) < 16
  · refine key _ ?_ i hi
    rw [Int.toNat_of_nonneg hf.1]
    obtain ⟨_, hu⟩ := entK_ok hk
    have hu' : dv (ew b0 se page 0) = true ∧ dl (ew b0 se page 0) = false := by
      simp only [usable, Bool.and_eq_true] at hu
      refine ⟨hu.1, ?_⟩
      have h2 := hu.2
      cases hd : dl (ew b0 se page 0)
      · rfl
      · rw [hd] at h2; exact absurd h2 (by decide)
    exact hs.tab (idxOf page 0).toNat (by rw [i0]; omega) hu'.1 hu'.2 h16
  · refine half_by hi (fun j hj => ?_)
    have : 16 ≤ (df (ew b0 se page 0)).toNat := by omega
    rw [List.getElem?_eq_none (by rw [h.len]; omega), List.getElem?_eq_none (by rw [hs.len]; omega)]
theorem Kept.give (h : Kept b0 se bs T) (hs : Shut b0 se) {fi page want : Int} (hk : (nested bs 16 fi se page want).ft.k = 0) (hr : want = 2 ∨ (0 ≤ (nested bs 16 fi se page want).ri ∧ (nested bs 16 fi se page want).ri ≤ 7 ∧ bits .and .i64 (nested bs 16 fi se page want).ri 2 ≠ 0)) : May b0 se (nested bs 16 fi se page want).fr := by
  obtain ⟨_, g, hg, g1, g2, g3, g4⟩ := confined bs 16 fi se page want hk
  have hsr := (single_range bs 16 se (g : Int)).2.1
  rw [h.single hs] at g1 g2 g3 g4 hsr
  refine ⟨g, hg, g1, ?_, g2⟩
  rcases hr with rfl | ⟨r0, r7, r2⟩
  · exact g3
  · exact and_two' r0 r7 hsr.1 hsr.2 g4 r2
theorem Kept.reach (h : Kept b0 se bs T) (hs : Shut b0 se) (vm sd fi page want ix : Int) : Kept b0 se bs (reachT bs 16 T vm sd fi se page want ix) := by
  unfold reachT
  split
  · exact h
  · split
    · rename_i hk
      unfold fillT
      cases hfl : inB ix 0 7 && rightL ⟨vm, sd, page, (nested bs 16 fi se page want).fr, (nested bs 16 fi se page want).ri⟩
      · exact h
      · refine ⟨h.len, h.by', fun j hj he hr => ?_⟩
        have hrr : 0 ≤ (nested bs 16 fi se page want).ri ∧ (nested bs 16 fi se page want).ri ≤ 7 := by
          simp only [rightL, inB, Bool.and_eq_true, decide_eq_true_eq] at hfl
          exact hfl.2.2.2.2.2
        by_cases hi : j = ix.toNat
        · subst hi
          have e : ∀ (U : Nat → Ln) (l : Ln), upd U ix.toNat l ix.toNat = l := fun U l => upd_same U _ l
          simp only [cond_true, filled] at he hr ⊢
          rw [e] at he hr ⊢
          exact h.give hs hk (Or.inr ⟨hrr.1, hrr.2, hr⟩)
        · simp only [cond_true, filled] at he hr ⊢
          rw [upd_other _ _ hi] at he hr ⊢
          rcases wipe_cases (fun x => key x ⟨vm, sd, page, (nested bs 16 fi se page want).fr, (nested bs 16 fi se page want).ri⟩) T j with ⟨e, _⟩ | ⟨e, _⟩
          · rw [e] at he; exact absurd he (by decide)
          · rw [e] at he hr ⊢; exact h.ln j hj he hr
    · exact h
theorem Kept.wipe (h : Kept b0 se bs T) (g : Ln → Bool) : Kept b0 se bs (wipe g T) := ⟨h.len, h.by', fun j hj he hr => by
  rcases wipe_cases g T j with ⟨e, _⟩ | ⟨e, _⟩
  · rw [e] at he; exact absurd he (by decide)
  · rw [e] at he hr ⊢; exact h.ln j hj he hr⟩
theorem Kept.found (h : Kept b0 se bs T) (hs : Shut b0 se) {vm sd fi page : Int} (hk : (reachX bs 16 T vm sd fi se page 2).k = 0) : May b0 se (reachF bs 16 T vm sd fi se page 2) := by
  cases hh : hitR T vm sd page 2 with
  | false =>
    unfold reachX at hk
    unfold reachF
    rw [if_neg (by simp [hh])] at hk ⊢
    exact h.give hs hk (Or.inl rfl)
  | true =>
    unfold reachF
    rw [if_pos hh]
    have hx : ansB (idx T vm sd page 8) = true ∧ isR 2 = true ∧ bits .and .i64 (ansR T (idx T vm sd page 8)) 2 ≠ 0 := by
      simpa [hitR] using hh
    obtain ⟨a1, _, a3⟩ := hx
    rcases idx_cases T vm sd page 8 with ⟨e, _⟩ | ⟨j, hj, e, ht, _⟩
    · rw [e] at a1; exact absurd a1 (by decide)
    · have n0 : ¬ (j : Int) < 0 := by omega
      rw [e] at a3 ⊢
      simp only [ansR, ansF, decide_eq_false n0, cond_false, Int.toNat_natCast] at a3 ⊢
      have hem : emp (T j) = false := by
        unfold hit at ht
        cases hx : emp (T j) <;> simp_all
      exact h.ln j hj hem a3
end

section
variable {b0 : List UInt8} {se : Int} {M : Mc}
theorem kept_rc (h : Kept b0 se M.bs M.T) (hs : Shut b0 se) (vm sd fi ad want ix : Int) : Kept b0 se (rcM M 16 vm sd fi se ad want ix).bs (rcM M 16 vm sd fi se ad want ix).T := h.reach hs _ _ _ _ _ _
theorem kept_d (h : Kept b0 se M.bs M.T) (hs : Shut b0 se) {X : Wk} (hX : X.se = se) (size want : Int) : Kept b0 se (dM M 16 X size want).bs (dM M 16 X size want).T ∧ (dM M 16 X size want).bs = M.bs := by
  unfold dM
  split
  · exact ⟨h, rfl⟩
  · rw [hX]; exact ⟨kept_rc h hs _ _ _ _ _ _, rfl⟩
theorem kept_store {bs : List UInt8} {T : Nat → Ln} (h : Kept b0 se bs T) {p fr r size : Int} {v : Nat} (hsz : size = 1 ∨ size = 4) (hp : p = fr * 64 + r) (hr0 : 0 ≤ r) (hr1 : r + size ≤ 64) (hf : 0 ≤ fr) (hm : May b0 se fr) : Kept b0 se (storeB bs p size 16 v) T := by
  unfold storeB
  split
  · rename_i he
    obtain ⟨_, _, h0, h1⟩ := err_zero he
    have hl : (bytesOf size.toNat v).length = size.toNat := length_bytesOf _ _
    have hsz' : size.toNat = 1 ∨ size.toNat = 4 := by omega
    have hlen : p.toNat + (bytesOf size.toNat v).length ≤ bs.length := by
      rw [hl, h.len]
      have : fr < 16 := by omega
      omega
    refine ⟨by rw [length_putAt, h.len], fun i hi => ?_, h.ln⟩
    rw [putAt_get? _ _ _ hlen]
    by_cases hc : p.toNat ≤ i ∧ i < p.toNat + (bytesOf size.toNat v).length
    · exfalso
      apply hi
      have : ((i / 64 : Nat) : Int) = fr := by
        rw [hl] at hc
        omega
      rw [this]
      exact hm
    · rw [if_neg hc]
      exact h.by' i hi
  · exact h
theorem kept_st (h : Kept b0 se M.bs M.T) (hs : Shut b0 se) {X : Wk} (hX : X.se = se) {size : Int} (hsz : size = 1 ∨ size = 4) : Kept b0 se (stM M 16 X size).bs (stM M 16 X size).T := by
  unfold stM
  split
  · exact (kept_d h hs hX size 2).1
  · rename_i hc
    have hc' : (dT M 16 X size 2 3).ca = 0 := by simpa using hc
    unfold dT at hc'
    split at hc'
    · exact absurd hc' (show ¬ ((4 : Int) = 0) by decide)
    · rename_i hal
      split at hc'
      · exact absurd hc' (show ¬ ((3 : Int) = 0) by decide)
      · rename_i hf
        have hf' : (rcF M 16 X.vm X.sd X.fi X.se X.ad 2).k = 0 := by simpa using hf
        have hP : dP M 16 X size 2 = reachF M.bs 16 M.T X.vm X.sd X.fi X.se (X.ad / 64) 2 * 64 + X.ad % 64 := by
          unfold dP
          rw [if_neg hal]
          unfold rcP
          rw [if_neg hf]
        have hx0 : (reachX M.bs 16 M.T X.vm X.sd X.fi X.se (X.ad / 64) 2).k = 0 := by
          unfold rcF at hf'
          split at hf'
          · exact absurd hf' (by assumption)
          · rename_i hz; simpa using hz
        rw [hX] at hP hx0
        have hm := h.found hs hx0
        have hfr : 0 ≤ reachF M.bs 16 M.T X.vm X.sd X.fi se (X.ad / 64) 2 := by
          obtain ⟨g, _, _, _, e⟩ := hm
          rw [← e]
          exact (single_range b0 16 se (g : Int)).1.1
        obtain ⟨k1, k2⟩ := kept_d h hs hX size 2
        have k3 : Kept b0 se M.bs (dM M 16 X size 2).T := by rw [k2] at k1; exact k1
        have hmod : X.ad % size = 0 := by simpa using hal
        refine kept_store k3 hsz hP (Int.emod_nonneg _ (by decide)) ?_ hfr hm
        rcases hsz with rfl | rfl <;> omega
theorem kept_wr (h : Kept b0 se M.bs M.T) (X : Wk) : Kept b0 se (wrM M M.S X).bs (wrM M M.S X).T := by
  unfold wrM
  by_cases e : (5 : Int) < (X.imm : Int)
  · rw [if_pos e]; exact h
  · rw [if_neg e]
    by_cases e2 : (X.imm : Int) = 2
    · rw [if_pos e2]; exact h
    · rw [if_neg e2]; exact h
theorem kept_exec (h : Kept b0 se M.bs M.T) (hs : Shut b0 se) {X : Wk} (hX : X.se = se) : Kept b0 se (exec 16 M X).1.bs (exec 16 M X).1.T := by
  by_cases hk : X.op ≤ 24
  · have : X.op = 0 ∨ X.op = 1 ∨ X.op = 2 ∨ X.op = 3 ∨ X.op = 4 ∨ X.op = 5 ∨ X.op = 6 ∨ X.op = 7 ∨ X.op = 8 ∨ X.op = 9 ∨ X.op = 10 ∨ X.op = 11 ∨ X.op = 12 ∨ X.op = 13 ∨ X.op = 14 ∨ X.op = 15 ∨ X.op = 16 ∨ X.op = 17 ∨ X.op = 18 ∨ X.op = 19 ∨ X.op = 20 ∨ X.op = 21 ∨ X.op = 22 ∨ X.op = 23 ∨ X.op = 24 := by omega
    rcases this with ho | ho | ho | ho | ho | ho | ho | ho | ho | ho | ho | ho | ho | ho | ho | ho | ho | ho | ho | ho | ho | ho | ho | ho | ho
    all_goals
      unfold exec
      rw [ho]
      first
        | exact h
        | exact (kept_d h hs hX 4 1).1
        | exact (kept_d h hs hX 1 1).1
        | exact kept_st h hs hX (Or.inr rfl)
        | exact kept_st h hs hX (Or.inl rfl)
        | exact h.wipe _
        | exact kept_wr h X
  · obtain ⟨j, ho⟩ : ∃ j, X.op = j + 25 := ⟨X.op - 25, by omega⟩
    unfold exec
    rw [ho]
    exact h
theorem kept_do (h : Kept b0 se M.bs M.T) (hs : Shut b0 se) {X : Wk} (hX : X.se = se) : Kept b0 se (doR 16 M X).1.bs (doR 16 M X).1.T := by
  have k1 : Kept b0 se (doM 16 M X).bs (doM 16 M X).T := by unfold doM; rw [hX]; exact kept_rc h hs _ _ _ _ _ _
  unfold doR
  split
  · exact k1
  · split
    · exact k1
    · split
      · exact k1
      · exact kept_exec (M := doM 16 M X) (X := dX (fX 16 M X)) k1 hs hX
theorem kept_step (h : Kept b0 se M.bs M.T) (hs : Shut b0 se) (c : Cp) (vm ix : Int) : Kept b0 se (stepR 16 M c vm se ix).1.bs (stepR 16 M c vm se ix).1.T := by
  unfold stepR
  split
  · exact h
  · exact kept_do h hs rfl
theorem kept_seq (h : Kept b0 se M.bs M.T) (hs : Shut b0 se) (c : Cp) (vm : Int) : ∀ k : Nat, Kept b0 se (seqR 16 M c vm se k).1.bs (seqR 16 M c vm se k).1.T
  | 0 => h
  | k + 1 => kept_step (kept_seq h hs c vm k) hs _ vm _
theorem kept_ran (h : Kept b0 se M.bs M.T) (hs : Shut b0 se) {c c' : Cp} {vm : Int} {many k : Nat} {M' : Mc} {t : Tr} (hr : Ran 16 M c vm se many k M' c' t) : Kept b0 se M'.bs M'.T := by
  obtain ⟨_, ⟨_, e, _⟩ | ⟨_, _, e, _⟩⟩ := hr
  · rw [e]; exact kept_seq h hs c vm k
  · rw [e]; exact kept_seq h hs c vm (k + 1)
theorem kept_frame {bs : List UInt8} {T : Nat → Ln} (h : Kept b0 se bs T) (f : Nat) (hf : ¬ May b0 se (f : Int)) : frameOf bs f = frameOf b0 f := by
  unfold frameOf
  apply List.ext_getElem?
  intro j
  rw [List.getElem?_take, List.getElem?_take]
  by_cases hj : j < 64
  · rw [if_pos hj, if_pos hj, List.getElem?_drop, List.getElem?_drop, h.by' _ (by rw [show (f * 64 + j) / 64 = f by omega]; exact hf)]
  · rw [if_neg hj, if_neg hj]
end

end Go.Proofs.YtgnoakidjnilpaaGreat

/- CpuExample -/
namespace Go.Proofs.YtgnoakidjnilpaaGreat
open Go.RowKit

theorem size_world : (Tryz.prog.info? 25).map (·.size) = some 5 := by kernel_rfl
theorem ret_world {fn : Func} {p : Tmp} {tmps : Array Value} {g : Nat} {cs : Array Value} {w : World} (h : fn.results = #[.cell p 25]) (hp : tmps.getD p undef = .pointer (some ⟨g, 0, none⟩)) (hr : Row w g cs 25) (hs : cs.size = 5) :
    (results fn tmps).run Tryz.prog w = .ok (.agg cs) w :=
  results_cell_row h tmps w g _ cs (0, 0) _ hp hr Tryz.underlying25 rfl (by rw [hs]; exact size_world)
theorem size_entry : (Tryz.prog.info? 71).map (·.size) = some 4 := by kernel_rfl
theorem ret_entry {fn : Func} {p : Tmp} {tmps : Array Value} {g : Nat} {cs : Array Value} {w : World} (h : fn.results = #[.cell p 71]) (hp : tmps.getD p undef = .pointer (some ⟨g, 0, none⟩)) (hr : Row w g cs 71) (hs : cs.size = 4) :
    (results fn tmps).run Tryz.prog w = .ok (.agg cs) w :=
  results_cell_row h tmps w g _ cs (0, 0) _ hp hr Tryz.underlying71 rfl (by rw [hs]; exact size_entry)

theorem leaf_any (w : World) (f r : Int) : Calls Tryz.prog 66 #[.int .i64 f, .int .i64 r] w fun e w' => e = .returned (.agg #[.bool true, .bool true, .int .i64 r, .int .i64 f]) ∧ Fr none' w w' := by
  go_enter Tryz.func66, Tryz.ntmps66
  go_wp2_with fail
  refine bodyPost_ret (ret_entry rfl rfl (row_alloc _ _ _) rfl) rfl ?_
  exact ⟨rfl, (Fr.refl _ w).alloc _⟩

def exP : Nat → Pu
  | 0 => ⟨3, 0, true, false, 0, 4⟩
  | 1 => ⟨4, 0, true, true, 5, 1⟩
  | _ => ⟨4, 1, true, true, 3, 2⟩
def exQ (W : Nat) : Nat → Wo
  | 0 => ⟨64, W⟩
  | _ => ⟨128, 77⟩
def exB (W : Nat) : List UInt8 := wB (pB exP 3) (exQ W) 2

set_option maxHeartbeats 4000000 in
set_option maxRecDepth 100000 in
theorem example_any (w : World) (o a b c i : Int) (g : Bool) (W : Nat) (hW : i_encW o a b c i = W) (hWl : W < 4294967296) :
    Calls Tryz.prog 26 #[.agg #[.int .i64 o, .int .i64 a, .int .i64 b, .int .i64 c, .int .i64 i], .bool g] w fun e w' => ∃ a0 a1, e = .returned (.agg #[.slice a0 3 3, .slice a1 2 2, .bool g, .int .i64 1, .int .i64 3]) ∧ Fr none' w w' ∧ Pus w' a0 3 exP ∧ Wos w' a1 2 (exQ W) := by
  have hE := fun w1 => i_enc_any o a b c i w1
  rw [hW] at hE
  have f0 := ((Fr.refl none' w).alloc (.cells #[.int .i64 o, .int .i64 a, .int .i64 b, .int .i64 c, .int .i64 i] 84)).alloc (.cells #[.slice none 0 0, .slice none 0 0, .bool false, .int .i64 0, .int .i64 0] 25)
  have rr := row_at (W := w.alloc (.cells #[.int .i64 o, .int .i64 a, .int .i64 b, .int .i64 c, .int .i64 i] 84)) (n := w.heap.size + 1) (cs := #[.slice none 0 0, .slice none 0 0, .bool false, .int .i64 0, .int .i64 0]) (t := 25) (by simp)
  clear hW
  go_enter Tryz.func26, Tryz.ntmps26
  go_wp2_with fail
  refine (hE _).mono ?_
  rintro e v1 ⟨rfl, g1⟩
  replace f0 := f0.trans g1
  replace rr := rr.keep g1 (fun h => h)
  clear g1 hE
  go_wp2_with fail
  refine (leaf_any _ _ _).mono ?_
  rintro e v2 ⟨rfl, g2⟩
  replace f0 := f0.trans g2
  replace rr := rr.keep g2 (fun h => h)
  clear g2
  go_wp2_with fail
  refine (leaf_any _ _ _).mono ?_
  rintro e v3 ⟨rfl, g3⟩
  replace f0 := f0.trans g3
  replace rr := rr.keep g3 (fun h => h)
  clear g3
  have hlt := rr.lt
  have HG : Hid (w.heap.size + 1 < v3.heap.size) := hlt
  clear hlt
  have f4 := (f0.alloc (.cells #[.int .i64 3, .int .i64 0, .bool true, .bool false, .int .i64 0, .int .i64 4, .int .i64 4, .int .i64 0, .bool true, .bool true, .int .i64 5, .int .i64 1, .int .i64 4, .int .i64 1, .bool true, .bool true, .int .i64 3, .int .i64 2] 96)).alloc (.cells #[.int .i64 64, .int .u32 (W : Int), .int .i64 128, .int .u32 77] 99)
  have rr2 := (rr.alloc (.cells #[.int .i64 3, .int .i64 0, .bool true, .bool false, .int .i64 0, .int .i64 4, .int .i64 4, .int .i64 0, .bool true, .bool true, .int .i64 5, .int .i64 1, .int .i64 4, .int .i64 1, .bool true, .bool true, .int .i64 3, .int .i64 2] 96)).alloc (.cells #[.int .i64 64, .int .u32 (W : Int), .int .i64 128, .int .u32 77] 99)
  have rp := (row_alloc v3 #[.int .i64 3, .int .i64 0, .bool true, .bool false, .int .i64 0, .int .i64 4, .int .i64 4, .int .i64 0, .bool true, .bool true, .int .i64 5, .int .i64 1, .int .i64 4, .int .i64 1, .bool true, .bool true, .int .i64 3, .int .i64 2] 96).alloc (.cells #[.int .i64 64, .int .u32 (W : Int), .int .i64 128, .int .u32 77] 99)
  have rw' := row_at (W := v3.alloc (.cells #[.int .i64 3, .int .i64 0, .bool true, .bool false, .int .i64 0, .int .i64 4, .int .i64 4, .int .i64 0, .bool true, .bool true, .int .i64 5, .int .i64 1, .int .i64 4, .int .i64 1, .bool true, .bool true, .int .i64 3, .int .i64 2] 96)) (n := v3.heap.size + 1) (cs := #[.int .i64 64, .int .u32 (W : Int), .int .i64 128, .int .u32 77]) (t := 99) (by simp)
  obtain ⟨z0, z1, z2, z3, z4⟩ := frozen5 rr2
  obtain ⟨x0, x1, x2, x3, x4⟩ := cells5 rr2
  go_wp2_with fail
  obtain ⟨v4, hv4⟩ : ∃ v4, v4 = (v3.alloc (.cells #[.int .i64 3, .int .i64 0, .bool true, .bool false, .int .i64 0, .int .i64 4, .int .i64 4, .int .i64 0, .bool true, .bool true, .int .i64 5, .int .i64 1, .int .i64 4, .int .i64 1, .bool true, .bool true, .int .i64 3, .int .i64 2] 96)).alloc (.cells #[.int .i64 64, .int .u32 (W : Int), .int .i64 128, .int .u32 77] 99) := ⟨_, rfl⟩
  rw [← hv4] at rr2 rp rw' f4 ⊢
  clear hv4 x0 x1 x2 x3 x4 z0 z1 z2 z3 z4
  refine bodyPost_ret (ret_world rfl rfl (row_set5' rr2 _ _ _ _ _) rfl) rfl ?_
  have q := fr_own5 v4 (w.heap.size + 1) (.slice (some ⟨v3.heap.size, 0, none⟩) 3 3) (.slice (some ⟨v3.heap.size + 1, 0, none⟩) 2 2) (.bool g) (.int .i64 1) (.int .i64 3)
  have hp := rp.keep q (show v3.heap.size ≠ w.heap.size + 1 by have := HG.out; omega)
  have hw := rw'.keep q (show v3.heap.size + 1 ≠ w.heap.size + 1 by have := HG.out; omega)
  refine ⟨_, _, rfl, f4.newer q (by omega), fun k hk => ?_, fun k hk => ?_⟩
  · have hk3 : k = 0 ∨ k = 1 ∨ k = 2 := by omega
    rcases hk3 with rfl | rfl | rfl
    · exact ⟨_, _, rfl, hp.cell 0, hp.cell 1, hp.cell 2, hp.cell 3, hp.cell 4, hp.cell 5⟩
    · exact ⟨_, _, rfl, hp.cell 6, hp.cell 7, hp.cell 8, hp.cell 9, hp.cell 10, hp.cell 11⟩
    · exact ⟨_, _, rfl, hp.cell 12, hp.cell 13, hp.cell 14, hp.cell 15, hp.cell 16, hp.cell 17⟩
  · have hk2 : k = 0 ∨ k = 1 := by omega
    rcases hk2 with rfl | rfl
    · exact ⟨_, _, rfl, hw.cell 0, hw.cell 1, (by decide : (64 : Int) ≤ 9223372036854775807), hWl⟩
    · exact ⟨_, _, rfl, hw.cell 2, hw.cell 3, (by decide : (128 : Int) ≤ 9223372036854775807), (by decide : (77 : Nat) < 4294967296)⟩

theorem exmade_any (w : World) (a0 a1 : Option Addr) (g : Bool) (W : Nat) (hP : Pus w a0 3 exP) (hQ : Wos w a1 2 (exQ W)) :
    Calls Tryz.prog 8 #[.agg #[.slice a0 3 3, .slice a1 2 2, .bool g, .int .i64 1, .int .i64 3]] w fun e w' => ∃ O : Bo, e = .returned (.tuple #[.agg O.a, .bool true]) ∧ Fr none' w w' ∧ IsBo w' w.heap.size O (M0 (exB W) g) :=
  made_any w a0 a1 3 3 2 2 g 1 3 exP (exQ W) (by decide) (by decide) hP hQ

end Go.Proofs.YtgnoakidjnilpaaGreat

/- CpuAwake -/
namespace Go.Proofs.YtgnoakidjnilpaaGreat
open Go.RowKit

theorem cpA_eq (c : Cp) : cpA c = #[.int .u32 ((c.r 0 : Nat) : Int), .int .u32 ((c.r 1 : Nat) : Int), .int .u32 ((c.r 2 : Nat) : Int), .int .u32 ((c.r 3 : Nat) : Int), .int .u32 ((c.r 4 : Nat) : Int), .int .u32 ((c.r 5 : Nat) : Int), .int .u32 ((c.r 6 : Nat) : Int), .int .u32 ((c.r 7 : Nat) : Int), .int .u32 ((c.r 8 : Nat) : Int), .int .u32 ((c.r 9 : Nat) : Int), .int .u32 ((c.r 10 : Nat) : Int), .int .u32 ((c.r 11 : Nat) : Int), .int .u32 ((c.r 12 : Nat) : Int), .int .u32 ((c.r 13 : Nat) : Int), .int .u32 ((c.r 14 : Nat) : Int), .int .u32 ((c.r 15 : Nat) : Int), .int .i64 c.pc, .int .u32 ((c.s 0 : Nat) : Int), .int .u32 ((c.s 1 : Nat) : Int), .int .u32 ((c.s 2 : Nat) : Int), .int .u32 ((c.s 3 : Nat) : Int), .int .u32 ((c.s 4 : Nat) : Int), .int .u32 ((c.s 5 : Nat) : Int), .int .u32 ((c.s 6 : Nat) : Int), .int .u32 ((c.s 7 : Nat) : Int)] := rfl
theorem zcA_eq : cpA zc = #[.int .u32 0, .int .u32 0, .int .u32 0, .int .u32 0, .int .u32 0, .int .u32 0, .int .u32 0, .int .u32 0, .int .u32 0, .int .u32 0, .int .u32 0, .int .u32 0, .int .u32 0, .int .u32 0, .int .u32 0, .int .u32 0, .int .i64 0, .int .u32 0, .int .u32 0, .int .u32 0, .int .u32 0, .int .u32 0, .int .u32 0, .int .u32 0, .int .u32 0] := rfl
theorem inA_eq : cpA (zc.setR 1 64) = #[.int .u32 0, .int .u32 64, .int .u32 0, .int .u32 0, .int .u32 0, .int .u32 0, .int .u32 0, .int .u32 0, .int .u32 0, .int .u32 0, .int .u32 0, .int .u32 0, .int .u32 0, .int .u32 0, .int .u32 0, .int .u32 0, .int .i64 0, .int .u32 0, .int .u32 0, .int .u32 0, .int .u32 0, .int .u32 0, .int .u32 0, .int .u32 0, .int .u32 0] := rfl
theorem cells25 {w : World} {g : Nat} {c0 c1 c2 c3 c4 c5 c6 c7 c8 c9 c10 c11 c12 c13 c14 c15 c16 c17 c18 c19 c20 c21 c22 c23 c24 : Value} {t : TypeId} (h : Row w g #[c0, c1, c2, c3, c4, c5, c6, c7, c8, c9, c10, c11, c12, c13, c14, c15, c16, c17, c18, c19, c20, c21, c22, c23, c24] t) : w.cell? ⟨g, 0, none⟩ = some c0 ∧ w.cell? ⟨g, 1, none⟩ = some c1 ∧ w.cell? ⟨g, 2, none⟩ = some c2 ∧ w.cell? ⟨g, 3, none⟩ = some c3 ∧ w.cell? ⟨g, 4, none⟩ = some c4 ∧ w.cell? ⟨g, 5, none⟩ = some c5 ∧ w.cell? ⟨g, 6, none⟩ = some c6 ∧ w.cell? ⟨g, 7, none⟩ = some c7 ∧ w.cell? ⟨g, 8, none⟩ = some c8 ∧ w.cell? ⟨g, 9, none⟩ = some c9 ∧ w.cell? ⟨g, 10, none⟩ = some c10 ∧ w.cell? ⟨g, 11, none⟩ = some c11 ∧ w.cell? ⟨g, 12, none⟩ = some c12 ∧ w.cell? ⟨g, 13, none⟩ = some c13 ∧ w.cell? ⟨g, 14, none⟩ = some c14 ∧ w.cell? ⟨g, 15, none⟩ = some c15 ∧ w.cell? ⟨g, 16, none⟩ = some c16 ∧ w.cell? ⟨g, 17, none⟩ = some c17 ∧ w.cell? ⟨g, 18, none⟩ = some c18 ∧ w.cell? ⟨g, 19, none⟩ = some c19 ∧ w.cell? ⟨g, 20, none⟩ = some c20 ∧ w.cell? ⟨g, 21, none⟩ = some c21 ∧ w.cell? ⟨g, 22, none⟩ = some c22 ∧ w.cell? ⟨g, 23, none⟩ = some c23 ∧ w.cell? ⟨g, 24, none⟩ = some c24 := ⟨h.cell 0, h.cell 1, h.cell 2, h.cell 3, h.cell 4, h.cell 5, h.cell 6, h.cell 7, h.cell 8, h.cell 9, h.cell 10, h.cell 11, h.cell 12, h.cell 13, h.cell 14, h.cell 15, h.cell 16, h.cell 17, h.cell 18, h.cell 19, h.cell 20, h.cell 21, h.cell 22, h.cell 23, h.cell 24⟩

theorem exStep (w : World) (B : Bm) (bs : List UInt8) (g : Bool) (c : Cp) (A : Array Value) (hA : cpA c = A) (hok : c.Ok) (hM : IsMc w B 16 (M0 bs g)) :
    Calls Tryz.prog 9 #[.agg #[.pointer (some ⟨B.p, 0, none⟩), .pointer (some ⟨B.bt, 0, none⟩), ptrV (B.v.map Bk.b)], .agg A, .int .i64 1, .int .i64 3, .int .i64 0] w fun e w' => ∃ (c' : Cp) (T : Tr), c' = (stepR 16 (M0 bs g) c 1 3 0).2.1 ∧ T = (stepR 16 (M0 bs g) c 1 3 0).2.2 ∧ e = .returned (.tuple #[.agg #[.int .u32 ((c'.r 0 : Nat) : Int), .int .u32 ((c'.r 1 : Nat) : Int), .int .u32 ((c'.r 2 : Nat) : Int), .int .u32 ((c'.r 3 : Nat) : Int), .int .u32 ((c'.r 4 : Nat) : Int), .int .u32 ((c'.r 5 : Nat) : Int), .int .u32 ((c'.r 6 : Nat) : Int), .int .u32 ((c'.r 7 : Nat) : Int), .int .u32 ((c'.r 8 : Nat) : Int), .int .u32 ((c'.r 9 : Nat) : Int), .int .u32 ((c'.r 10 : Nat) : Int), .int .u32 ((c'.r 11 : Nat) : Int), .int .u32 ((c'.r 12 : Nat) : Int), .int .u32 ((c'.r 13 : Nat) : Int), .int .u32 ((c'.r 14 : Nat) : Int), .int .u32 ((c'.r 15 : Nat) : Int), .int .i64 c'.pc, .int .u32 ((c'.s 0 : Nat) : Int), .int .u32 ((c'.s 1 : Nat) : Int), .int .u32 ((c'.s 2 : Nat) : Int), .int .u32 ((c'.s 3 : Nat) : Int), .int .u32 ((c'.s 4 : Nat) : Int), .int .u32 ((c'.s 5 : Nat) : Int), .int .u32 ((c'.s 6 : Nat) : Int), .int .u32 ((c'.s 7 : Nat) : Int)], .agg #[.int .i64 T.ca, .int .i64 T.nu, .int .i64 T.ad, .int .i64 T.f.k, .int .i64 T.f.s, .int .i64 T.f.l, .bool T.f.wk, .int .i64 T.f.p]]) ∧ Fr B.s w w' ∧ IsMc w' B 16 (stepR 16 (M0 bs g) c 1 3 0).1 := by
  subst hA
  exact (Step_any w B 16 (M0 bs g) c hok 1 3 0 hM (M0_few bs g) (by decide)).mono (fun e w' ⟨a, f, m, _⟩ => ⟨_, _, rfl, rfl, a, f, m⟩)

theorem isMc_far {w w' : World} {B C : Bm} {nf : Nat} {M : Mc} (h : IsMc w B nf M) (f : Fr C.s w w') (h1 : ∀ k, (B.s k ∨ k = B.p) → ¬ C.s k) : IsMc w' B nf M :=
  h.keep f (h1 _ (Or.inr rfl)) (h1 _ (Or.inl (Or.inl rfl))) (h1 _ (Or.inl (Or.inr (Or.inl rfl)))) (fun k hk => h1 k (Or.inl (Or.inr (Or.inr hk))))

theorem enc_a : i_encW 1 1 0 0 300 = ((17826092 : Nat) : Int) := by decide +kernel
theorem tr_a : (stepR 16 (M0 (exB 17826092) false) zc 1 3 0).2.2.ca = 0 ∧ (stepR 16 (M0 (exB 17826092) false) zc 1 3 0).2.2.nu = 0 ∧ (stepR 16 (M0 (exB 17826092) false) zc 1 3 0).2.2.ad = 0 ∧ (stepR 16 (M0 (exB 17826092) false) zc 1 3 0).2.2.f.k = 0 ∧ (stepR 16 (M0 (exB 17826092) false) zc 1 3 0).2.2.f.s = 0 ∧ (stepR 16 (M0 (exB 17826092) false) zc 1 3 0).2.2.f.l = 0 ∧ (stepR 16 (M0 (exB 17826092) false) zc 1 3 0).2.2.f.wk = false ∧ (stepR 16 (M0 (exB 17826092) false) zc 1 3 0).2.2.f.p = 0 := by decide +kernel
theorem re_a : (stepR 16 (M0 (exB 17826092) false) zc 1 3 0).2.1.r 1 = 300 ∧ (stepR 16 (M0 (exB 17826092) false) zc 1 3 0).2.1.pc = 4 := by decide +kernel
theorem enc_b : i_encW 7 2 1 0 0 = ((119603200 : Nat) : Int) := by decide +kernel
theorem tr_b : (stepR 16 (M0 (exB 119603200) false) (zc.setR 1 64) 1 3 0).2.2.ca = 0 ∧ (stepR 16 (M0 (exB 119603200) false) (zc.setR 1 64) 1 3 0).2.2.nu = 0 ∧ (stepR 16 (M0 (exB 119603200) false) (zc.setR 1 64) 1 3 0).2.2.ad = 0 ∧ (stepR 16 (M0 (exB 119603200) false) (zc.setR 1 64) 1 3 0).2.2.f.k = 0 ∧ (stepR 16 (M0 (exB 119603200) false) (zc.setR 1 64) 1 3 0).2.2.f.s = 0 ∧ (stepR 16 (M0 (exB 119603200) false) (zc.setR 1 64) 1 3 0).2.2.f.l = 0 ∧ (stepR 16 (M0 (exB 119603200) false) (zc.setR 1 64) 1 3 0).2.2.f.wk = false ∧ (stepR 16 (M0 (exB 119603200) false) (zc.setR 1 64) 1 3 0).2.2.f.p = 0 := by decide +kernel
theorem re_b : (stepR 16 (M0 (exB 119603200) false) (zc.setR 1 64) 1 3 0).2.1.r 2 = 77 := by decide +kernel
theorem enc_c : i_encW 17 0 0 0 3 = ((285212675 : Nat) : Int) := by decide +kernel
theorem tr_c : (stepR 16 (M0 (exB 285212675) false) zc 1 3 0).2.2.ca = 8 ∧ (stepR 16 (M0 (exB 285212675) false) zc 1 3 0).2.2.nu = 285212675 ∧ (stepR 16 (M0 (exB 285212675) false) zc 1 3 0).2.2.ad = 0 ∧ (stepR 16 (M0 (exB 285212675) false) zc 1 3 0).2.2.f.k = 0 ∧ (stepR 16 (M0 (exB 285212675) false) zc 1 3 0).2.2.f.s = 0 ∧ (stepR 16 (M0 (exB 285212675) false) zc 1 3 0).2.2.f.l = 0 ∧ (stepR 16 (M0 (exB 285212675) false) zc 1 3 0).2.2.f.wk = false ∧ (stepR 16 (M0 (exB 285212675) false) zc 1 3 0).2.2.f.p = 0 := by decide +kernel
theorem enc_d : i_encW 17 0 0 0 3 = ((285212675 : Nat) : Int) := by decide +kernel
theorem tr_d : (stepR 16 (M0 (exB 285212675) true) zc 1 3 0).2.2.ca = 5 ∧ (stepR 16 (M0 (exB 285212675) true) zc 1 3 0).2.2.nu = 3 ∧ (stepR 16 (M0 (exB 285212675) true) zc 1 3 0).2.2.ad = 0 ∧ (stepR 16 (M0 (exB 285212675) true) zc 1 3 0).2.2.f.k = 0 ∧ (stepR 16 (M0 (exB 285212675) true) zc 1 3 0).2.2.f.s = 0 ∧ (stepR 16 (M0 (exB 285212675) true) zc 1 3 0).2.2.f.l = 0 ∧ (stepR 16 (M0 (exB 285212675) true) zc 1 3 0).2.2.f.wk = false ∧ (stepR 16 (M0 (exB 285212675) true) zc 1 3 0).2.2.f.p = 0 := by decide +kernel

theorem exmade_f (w : World) (a0 a1 : Option Addr) (W : Nat) (hP : Pus w a0 3 exP) (hQ : Wos w a1 2 (exQ W)) :
    Calls Tryz.prog 8 #[.agg #[.slice a0 3 3, .slice a1 2 2, .bool false, .int .i64 1, .int .i64 3]] w fun e w' => ∃ O : Bo, O.B.v = none ∧ e = .returned (.tuple #[.agg #[.pointer (some ⟨O.B.p, 0, none⟩), .pointer (some ⟨O.B.bt, 0, none⟩), .pointer none, .pointer (some ⟨O.pr, 0, none⟩), .pointer (some ⟨O.bu, 0, none⟩), .pointer none], .bool true]) ∧ Fr none' w w' ∧ IsBo w' w.heap.size O (M0 (exB W) false) := by
  refine (exmade_any w a0 a1 false W hP hQ).mono ?_
  rintro e w' ⟨O, rfl, f, h⟩
  have h1 := h.m.vg
  have h2 := h.v
  obtain ⟨⟨p, bf, bt, v⟩, pr, br, bu, vr⟩ := O
  cases v with
  | none =>
    cases vr with
    | none => exact ⟨_, rfl, rfl, f, h⟩
    | some b => exact h2.elim
  | some b => exact h1.elim
theorem exmade_t (w : World) (a0 a1 : Option Addr) (W : Nat) (hP : Pus w a0 3 exP) (hQ : Wos w a1 2 (exQ W)) :
    Calls Tryz.prog 8 #[.agg #[.slice a0 3 3, .slice a1 2 2, .bool true, .int .i64 1, .int .i64 3]] w fun e w' => ∃ (O : Bo) (b : Bk) (vr : Nat), O.B.v = some b ∧ e = .returned (.tuple #[.agg #[.pointer (some ⟨O.B.p, 0, none⟩), .pointer (some ⟨O.B.bt, 0, none⟩), .pointer (some ⟨b.b, 0, none⟩), .pointer (some ⟨O.pr, 0, none⟩), .pointer (some ⟨O.bu, 0, none⟩), .pointer (some ⟨vr, 0, none⟩)], .bool true]) ∧ Fr none' w w' ∧ IsBo w' w.heap.size O (M0 (exB W) true) := by
  refine (exmade_any w a0 a1 true W hP hQ).mono ?_
  rintro e w' ⟨O, rfl, f, h⟩
  have h1 := h.m.vg
  have h2 := h.v
  obtain ⟨⟨p, bf, bt, v⟩, pr, br, bu, vr⟩ := O
  cases v with
  | none => exact h1.elim
  | some b =>
    cases vr with
    | none => exact h2.elim
    | some vr => exact ⟨_, b, vr, rfl, rfl, f, h⟩
theorem ne_new' {a b : Nat} (h : a < b) : ¬ at' a b := fun e => by have e' : b = a := e; omega
theorem IsBo.in {w : World} {n : Nat} {O : Bo} {M : Mc} (h : IsBo w n O M) : ∀ k, (O.B.s k ∨ k = O.B.p) → n ≤ k ∧ k < w.heap.size := fun k hk => ⟨h.new k hk, h.m.ltp k hk⟩

theorem exS_a (w : World) (B : Bm) (hv : B.v = none) (hM : IsMc w B 16 (M0 (exB 17826092) false)) :
    Calls Tryz.prog 9 #[.agg #[.pointer (some ⟨B.p, 0, none⟩), .pointer (some ⟨B.bt, 0, none⟩), .pointer none], .agg #[.int .u32 0, .int .u32 0, .int .u32 0, .int .u32 0, .int .u32 0, .int .u32 0, .int .u32 0, .int .u32 0, .int .u32 0, .int .u32 0, .int .u32 0, .int .u32 0, .int .u32 0, .int .u32 0, .int .u32 0, .int .u32 0, .int .i64 0, .int .u32 0, .int .u32 0, .int .u32 0, .int .u32 0, .int .u32 0, .int .u32 0, .int .u32 0, .int .u32 0], .int .i64 1, .int .i64 3, .int .i64 0] w fun e w' => ∃ A : Array Value, A.size = 25 ∧ A.all (·.oneCell') = true ∧ (A[1]? = some (.int .u32 300) ∧ A[16]? = some (.int .i64 4)) ∧ e = .returned (.tuple #[.agg A, .agg #[.int .i64 0, .int .i64 0, .int .i64 0, .int .i64 0, .int .i64 0, .int .i64 0, .bool false, .int .i64 0]]) ∧ Fr B.s w w' := by
  have h := exStep w B (exB 17826092) false zc _ zcA_eq zc_ok hM
  rw [hv] at h
  refine h.mono ?_
  rintro e w' ⟨c', T, hc, hT, rfl, f, _⟩
  obtain ⟨h1, h2, h3, h4, h5, h6, h7, h8⟩ := tr_a
  rw [← hT] at h1 h2 h3 h4 h5 h6 h7 h8
  obtain ⟨r1, r2⟩ := re_a
  rw [← hc] at r1 r2
  refine ⟨cpA c', cpA_size c', cpA_one c', ⟨by rw [cpA_get, cpL_r c' (by decide), r1]; rfl, by rw [cpA_get, cpL_pc, r2]⟩, ?_, f⟩
  rw [h1, h2, h3, h4, h5, h6, h7, h8]
  rfl

theorem exS_b (w : World) (B : Bm) (hv : B.v = none) (hM : IsMc w B 16 (M0 (exB 119603200) false)) :
    Calls Tryz.prog 9 #[.agg #[.pointer (some ⟨B.p, 0, none⟩), .pointer (some ⟨B.bt, 0, none⟩), .pointer none], .agg #[.int .u32 0, .int .u32 64, .int .u32 0, .int .u32 0, .int .u32 0, .int .u32 0, .int .u32 0, .int .u32 0, .int .u32 0, .int .u32 0, .int .u32 0, .int .u32 0, .int .u32 0, .int .u32 0, .int .u32 0, .int .u32 0, .int .i64 0, .int .u32 0, .int .u32 0, .int .u32 0, .int .u32 0, .int .u32 0, .int .u32 0, .int .u32 0, .int .u32 0], .int .i64 1, .int .i64 3, .int .i64 0] w fun e w' => ∃ A : Array Value, A.size = 25 ∧ A.all (·.oneCell') = true ∧ (A[2]? = some (.int .u32 77) ∧ True) ∧ e = .returned (.tuple #[.agg A, .agg #[.int .i64 0, .int .i64 0, .int .i64 0, .int .i64 0, .int .i64 0, .int .i64 0, .bool false, .int .i64 0]]) ∧ Fr B.s w w' := by
  have h := exStep w B (exB 119603200) false (zc.setR 1 64) _ inA_eq (zc_ok.setR 1 (by decide)) hM
  rw [hv] at h
  refine h.mono ?_
  rintro e w' ⟨c', T, hc, hT, rfl, f, _⟩
  obtain ⟨h1, h2, h3, h4, h5, h6, h7, h8⟩ := tr_b
  rw [← hT] at h1 h2 h3 h4 h5 h6 h7 h8
  have r1 := re_b
  rw [← hc] at r1
  refine ⟨cpA c', cpA_size c', cpA_one c', ⟨by rw [cpA_get, cpL_r c' (by decide), r1]; rfl, trivial⟩, ?_, f⟩
  rw [h1, h2, h3, h4, h5, h6, h7, h8]
  rfl

theorem exS_c (w : World) (B : Bm) (hv : B.v = none) (hM : IsMc w B 16 (M0 (exB 285212675) false)) :
    Calls Tryz.prog 9 #[.agg #[.pointer (some ⟨B.p, 0, none⟩), .pointer (some ⟨B.bt, 0, none⟩), .pointer none], .agg #[.int .u32 0, .int .u32 0, .int .u32 0, .int .u32 0, .int .u32 0, .int .u32 0, .int .u32 0, .int .u32 0, .int .u32 0, .int .u32 0, .int .u32 0, .int .u32 0, .int .u32 0, .int .u32 0, .int .u32 0, .int .u32 0, .int .i64 0, .int .u32 0, .int .u32 0, .int .u32 0, .int .u32 0, .int .u32 0, .int .u32 0, .int .u32 0, .int .u32 0], .int .i64 1, .int .i64 3, .int .i64 0] w fun e w' => ∃ A : Array Value, A.size = 25 ∧ A.all (·.oneCell') = true ∧ (True ∧ True) ∧ e = .returned (.tuple #[.agg A, .agg #[.int .i64 8, .int .i64 285212675, .int .i64 0, .int .i64 0, .int .i64 0, .int .i64 0, .bool false, .int .i64 0]]) ∧ Fr B.s w w' := by
  have h := exStep w B (exB 285212675) false zc _ zcA_eq zc_ok hM
  rw [hv] at h
  refine h.mono ?_
  rintro e w' ⟨c', T, hc, hT, rfl, f, _⟩
  obtain ⟨h1, h2, h3, h4, h5, h6, h7, h8⟩ := tr_c
  rw [← hT] at h1 h2 h3 h4 h5 h6 h7 h8
  clear hc
  skip
  refine ⟨cpA c', cpA_size c', cpA_one c', ⟨trivial, trivial⟩, ?_, f⟩
  rw [h1, h2, h3, h4, h5, h6, h7, h8]
  rfl

theorem exS_d (w : World) (B : Bm) (b : Bk) (hv : B.v = some b) (hM : IsMc w B 16 (M0 (exB 285212675) true)) :
    Calls Tryz.prog 9 #[.agg #[.pointer (some ⟨B.p, 0, none⟩), .pointer (some ⟨B.bt, 0, none⟩), .pointer (some ⟨b.b, 0, none⟩)], .agg #[.int .u32 0, .int .u32 0, .int .u32 0, .int .u32 0, .int .u32 0, .int .u32 0, .int .u32 0, .int .u32 0, .int .u32 0, .int .u32 0, .int .u32 0, .int .u32 0, .int .u32 0, .int .u32 0, .int .u32 0, .int .u32 0, .int .i64 0, .int .u32 0, .int .u32 0, .int .u32 0, .int .u32 0, .int .u32 0, .int .u32 0, .int .u32 0, .int .u32 0], .int .i64 1, .int .i64 3, .int .i64 0] w fun e w' => ∃ A : Array Value, A.size = 25 ∧ A.all (·.oneCell') = true ∧ (True ∧ True) ∧ e = .returned (.tuple #[.agg A, .agg #[.int .i64 5, .int .i64 3, .int .i64 0, .int .i64 0, .int .i64 0, .int .i64 0, .bool false, .int .i64 0]]) ∧ Fr B.s w w' := by
  have h := exStep w B (exB 285212675) true zc _ zcA_eq zc_ok hM
  rw [hv] at h
  refine h.mono ?_
  rintro e w' ⟨c', T, hc, hT, rfl, f, _⟩
  obtain ⟨h1, h2, h3, h4, h5, h6, h7, h8⟩ := tr_d
  rw [← hT] at h1 h2 h3 h4 h5 h6 h7 h8
  clear hc
  skip
  refine ⟨cpA c', cpA_size c', cpA_one c', ⟨trivial, trivial⟩, ?_, f⟩
  rw [h1, h2, h3, h4, h5, h6, h7, h8]
  rfl

set_option maxRecDepth 100000 in
set_option maxHeartbeats 16000000 in
theorem awake_any (w : World) : Calls Tryz.prog 7 #[] w fun e w' => e = .returned (.bool true) ∧ Fr none' w w' := by
  have hz : ∀ w, Sem.run Tryz.prog (zeroValue 30) w = .ok (.agg (cpA zc)) w := zero_cpu
  have f0 := Fr.refl none' w
  go_enter Tryz.func7, Tryz.ntmps7
  go_wp2_with fail
  refine (example_any _ 1 1 0 0 300 false 17826092 enc_a (by decide)).mono ?_
  rintro e xa ⟨sa, qa, rfl, g1, hP, hQ⟩
  replace f0 := f0.trans g1
  have KK : Hid (w.heap.size ≤ xa.heap.size) := f0.size
  have La : Hid (True) := trivial
  clear g1
  go_wp2_with fail
  refine (exmade_f _ _ _ 17826092 hP hQ).mono ?_
  rintro e ya ⟨Oa, va, rfl, g2, hB⟩
  replace f0 := f0.trans g2
  have Ia : Hid (∀ k, (Oa.B.s k ∨ k = Oa.B.p) → xa.heap.size ≤ k ∧ k < ya.heap.size) := hB.in
  have Ja : Hid (xa.heap.size ≤ ya.heap.size) := g2.size
  have Ha := hB.m.keep0 ((Fr.refl none' ya).alloc (.cells #[.pointer (some ⟨Oa.B.p, 0, none⟩), .pointer (some ⟨Oa.B.bt, 0, none⟩), .pointer none, .pointer (some ⟨Oa.pr, 0, none⟩), .pointer (some ⟨Oa.bu, 0, none⟩), .pointer none] 44))
  have ra := row_alloc ya #[.pointer (some ⟨Oa.B.p, 0, none⟩), .pointer (some ⟨Oa.B.bt, 0, none⟩), .pointer none, .pointer (some ⟨Oa.pr, 0, none⟩), .pointer (some ⟨Oa.bu, 0, none⟩), .pointer none] 44
  have g3 := (Fr.refl none' ya).alloc (.cells #[.pointer (some ⟨Oa.B.p, 0, none⟩), .pointer (some ⟨Oa.B.bt, 0, none⟩), .pointer none, .pointer (some ⟨Oa.pr, 0, none⟩), .pointer (some ⟨Oa.bu, 0, none⟩), .pointer none] 44)
  replace f0 := f0.trans g3
  clear g2 hB hP hQ g3
  go_upto_region 2 with fail
  obtain ⟨ua, hu⟩ : ∃ u, u = ya.alloc (.cells #[.pointer (some ⟨Oa.B.p, 0, none⟩), .pointer (some ⟨Oa.B.bt, 0, none⟩), .pointer none, .pointer (some ⟨Oa.pr, 0, none⟩), .pointer (some ⟨Oa.bu, 0, none⟩), .pointer none] 44) := ⟨_, rfl⟩
  rw [← hu] at Ha ra f0 ⊢
  clear hu
  obtain ⟨ga, hg⟩ : ∃ q, q = ya.heap.size := ⟨_, rfl⟩
  rw [← hg] at ra Ia Ja ⊢
  clear hg
  go_wp2_with fail
  refine (example_any _ 7 2 1 0 0 false 119603200 enc_b (by decide)).mono ?_
  rintro e xb ⟨sb, qb, rfl, g1, hP, hQ⟩
  replace Ha := Ha.keep0 g1
  replace ra := ra.keep g1 (fun h => h)
  replace f0 := f0.trans g1
  skip
  have Lb : Hid (ga < xb.heap.size) := ra.lt
  clear g1
  go_wp2_with fail
  refine (exmade_f _ _ _ 119603200 hP hQ).mono ?_
  rintro e yb ⟨Ob, vb, rfl, g2, hB⟩
  replace Ha := Ha.keep0 g2
  replace ra := ra.keep g2 (fun h => h)
  replace f0 := f0.trans g2
  have Ib : Hid (∀ k, (Ob.B.s k ∨ k = Ob.B.p) → xb.heap.size ≤ k ∧ k < yb.heap.size) := hB.in
  have Jb' : Hid (xb.heap.size ≤ yb.heap.size) := g2.size
  have Hb := hB.m.keep0 ((Fr.refl none' yb).alloc (.cells #[.pointer (some ⟨Ob.B.p, 0, none⟩), .pointer (some ⟨Ob.B.bt, 0, none⟩), .pointer none, .pointer (some ⟨Ob.pr, 0, none⟩), .pointer (some ⟨Ob.bu, 0, none⟩), .pointer none] 44))
  have rb := row_alloc yb #[.pointer (some ⟨Ob.B.p, 0, none⟩), .pointer (some ⟨Ob.B.bt, 0, none⟩), .pointer none, .pointer (some ⟨Ob.pr, 0, none⟩), .pointer (some ⟨Ob.bu, 0, none⟩), .pointer none] 44
  have g3 := (Fr.refl none' yb).alloc (.cells #[.pointer (some ⟨Ob.B.p, 0, none⟩), .pointer (some ⟨Ob.B.bt, 0, none⟩), .pointer none, .pointer (some ⟨Ob.pr, 0, none⟩), .pointer (some ⟨Ob.bu, 0, none⟩), .pointer none] 44)
  replace Ha := Ha.keep0 g3
  replace ra := ra.keep g3 (fun h => h)
  replace f0 := f0.trans g3
  clear g2 hB hP hQ g3
  go_upto_region 3 with fail
  obtain ⟨ub, hu⟩ : ∃ u, u = yb.alloc (.cells #[.pointer (some ⟨Ob.B.p, 0, none⟩), .pointer (some ⟨Ob.B.bt, 0, none⟩), .pointer none, .pointer (some ⟨Ob.pr, 0, none⟩), .pointer (some ⟨Ob.bu, 0, none⟩), .pointer none] 44) := ⟨_, rfl⟩
  rw [← hu] at Hb rb f0 Ha ra ⊢
  clear hu
  obtain ⟨gb, hg⟩ : ∃ q, q = yb.heap.size := ⟨_, rfl⟩
  rw [← hg] at rb Ib Jb' ⊢
  clear hg
  go_wp2_with fail
  refine (example_any _ 17 0 0 0 3 false 285212675 enc_c (by decide)).mono ?_
  rintro e xc ⟨sc, qc, rfl, g1, hP, hQ⟩
  replace Ha := Ha.keep0 g1
  replace ra := ra.keep g1 (fun h => h)
  replace Hb := Hb.keep0 g1
  replace rb := rb.keep g1 (fun h => h)
  replace f0 := f0.trans g1
  skip
  have Lc : Hid (gb < xc.heap.size) := rb.lt
  clear g1
  go_wp2_with fail
  refine (exmade_f _ _ _ 285212675 hP hQ).mono ?_
  rintro e yc ⟨Oc, vc, rfl, g2, hB⟩
  replace Ha := Ha.keep0 g2
  replace ra := ra.keep g2 (fun h => h)
  replace Hb := Hb.keep0 g2
  replace rb := rb.keep g2 (fun h => h)
  replace f0 := f0.trans g2
  have Ic : Hid (∀ k, (Oc.B.s k ∨ k = Oc.B.p) → xc.heap.size ≤ k ∧ k < yc.heap.size) := hB.in
  have Jc : Hid (xc.heap.size ≤ yc.heap.size) := g2.size
  have Hc := hB.m.keep0 ((Fr.refl none' yc).alloc (.cells #[.pointer (some ⟨Oc.B.p, 0, none⟩), .pointer (some ⟨Oc.B.bt, 0, none⟩), .pointer none, .pointer (some ⟨Oc.pr, 0, none⟩), .pointer (some ⟨Oc.bu, 0, none⟩), .pointer none] 44))
  have rc := row_alloc yc #[.pointer (some ⟨Oc.B.p, 0, none⟩), .pointer (some ⟨Oc.B.bt, 0, none⟩), .pointer none, .pointer (some ⟨Oc.pr, 0, none⟩), .pointer (some ⟨Oc.bu, 0, none⟩), .pointer none] 44
  have g3 := (Fr.refl none' yc).alloc (.cells #[.pointer (some ⟨Oc.B.p, 0, none⟩), .pointer (some ⟨Oc.B.bt, 0, none⟩), .pointer none, .pointer (some ⟨Oc.pr, 0, none⟩), .pointer (some ⟨Oc.bu, 0, none⟩), .pointer none] 44)
  replace Ha := Ha.keep0 g3
  replace ra := ra.keep g3 (fun h => h)
  replace Hb := Hb.keep0 g3
  replace rb := rb.keep g3 (fun h => h)
  replace f0 := f0.trans g3
  clear g2 hB hP hQ g3
  go_upto_region 4 with fail
  obtain ⟨uc, hu⟩ : ∃ u, u = yc.alloc (.cells #[.pointer (some ⟨Oc.B.p, 0, none⟩), .pointer (some ⟨Oc.B.bt, 0, none⟩), .pointer none, .pointer (some ⟨Oc.pr, 0, none⟩), .pointer (some ⟨Oc.bu, 0, none⟩), .pointer none] 44) := ⟨_, rfl⟩
  rw [← hu] at Hc rc f0 Ha ra Hb rb ⊢
  clear hu
  obtain ⟨gc, hg⟩ : ∃ q, q = yc.heap.size := ⟨_, rfl⟩
  rw [← hg] at rc Ic Jc ⊢
  clear hg
  go_wp2_with fail
  refine (example_any _ 17 0 0 0 3 true 285212675 enc_d (by decide)).mono ?_
  rintro e xd ⟨sd, qd, rfl, g1, hP, hQ⟩
  replace Ha := Ha.keep0 g1
  replace ra := ra.keep g1 (fun h => h)
  replace Hb := Hb.keep0 g1
  replace rb := rb.keep g1 (fun h => h)
  replace Hc := Hc.keep0 g1
  replace rc := rc.keep g1 (fun h => h)
  replace f0 := f0.trans g1
  skip
  have Ld : Hid (gc < xd.heap.size) := rc.lt
  clear g1
  go_wp2_with fail
  refine (exmade_t _ _ _ 285212675 hP hQ).mono ?_
  rintro e yd ⟨Od, bd, vrd, vd, rfl, g2, hB⟩
  replace Ha := Ha.keep0 g2
  replace ra := ra.keep g2 (fun h => h)
  replace Hb := Hb.keep0 g2
  replace rb := rb.keep g2 (fun h => h)
  replace Hc := Hc.keep0 g2
  replace rc := rc.keep g2 (fun h => h)
  replace f0 := f0.trans g2
  have Id : Hid (∀ k, (Od.B.s k ∨ k = Od.B.p) → xd.heap.size ≤ k ∧ k < yd.heap.size) := hB.in
  have Jd : Hid (xd.heap.size ≤ yd.heap.size) := g2.size
  have Hd := hB.m.keep0 ((Fr.refl none' yd).alloc (.cells #[.pointer (some ⟨Od.B.p, 0, none⟩), .pointer (some ⟨Od.B.bt, 0, none⟩), .pointer (some ⟨bd.b, 0, none⟩), .pointer (some ⟨Od.pr, 0, none⟩), .pointer (some ⟨Od.bu, 0, none⟩), .pointer (some ⟨vrd, 0, none⟩)] 44))
  have rd := row_alloc yd #[.pointer (some ⟨Od.B.p, 0, none⟩), .pointer (some ⟨Od.B.bt, 0, none⟩), .pointer (some ⟨bd.b, 0, none⟩), .pointer (some ⟨Od.pr, 0, none⟩), .pointer (some ⟨Od.bu, 0, none⟩), .pointer (some ⟨vrd, 0, none⟩)] 44
  have g3 := (Fr.refl none' yd).alloc (.cells #[.pointer (some ⟨Od.B.p, 0, none⟩), .pointer (some ⟨Od.B.bt, 0, none⟩), .pointer (some ⟨bd.b, 0, none⟩), .pointer (some ⟨Od.pr, 0, none⟩), .pointer (some ⟨Od.bu, 0, none⟩), .pointer (some ⟨vrd, 0, none⟩)] 44)
  replace Ha := Ha.keep0 g3
  replace ra := ra.keep g3 (fun h => h)
  replace Hb := Hb.keep0 g3
  replace rb := rb.keep g3 (fun h => h)
  replace Hc := Hc.keep0 g3
  replace rc := rc.keep g3 (fun h => h)
  replace f0 := f0.trans g3
  clear g2 hB hP hQ g3
  go_upto_region 5 with fail
  obtain ⟨ud, hu⟩ : ∃ u, u = yd.alloc (.cells #[.pointer (some ⟨Od.B.p, 0, none⟩), .pointer (some ⟨Od.B.bt, 0, none⟩), .pointer (some ⟨bd.b, 0, none⟩), .pointer (some ⟨Od.pr, 0, none⟩), .pointer (some ⟨Od.bu, 0, none⟩), .pointer (some ⟨vrd, 0, none⟩)] 44) := ⟨_, rfl⟩
  rw [← hu] at Hd rd f0 Ha ra Hb rb Hc rc ⊢
  clear hu
  obtain ⟨gd, hg⟩ : ∃ q, q = yd.heap.size := ⟨_, rfl⟩
  rw [← hg] at rd Id Jd ⊢
  clear hg
  have LL : Hid (w.heap.size ≤ xa.heap.size ∧ xa.heap.size ≤ ga ∧ ga < xb.heap.size ∧ xb.heap.size ≤ gb ∧ gb < xc.heap.size ∧ xc.heap.size ≤ gc ∧ gc < xd.heap.size ∧ xd.heap.size ≤ gd) := (show _ ∧ _ from ⟨KK.out, Ja.out, Lb.out, Jb'.out, Lc.out, Jc.out, Ld.out, Jd.out⟩)
  obtain ⟨k0, k1, k2, k3, k4, k5⟩ := cells6 ra
  go_wp2_with fail
  refine (exS_a _ Oa.B va Ha).mono ?_
  rintro e wza ⟨Aa, asa, aoa, afa, rfl, g1⟩
  have AFa : Hid (Aa[1]? = some (.int .u32 300) ∧ Aa[16]? = some (.int .i64 4)) := afa
  clear k0 k1 k2 k3 k4 k5 Ha afa
  replace ra := ra.keep g1 (fun e => by have h1 := Ia.out ga (Or.inl e); have h2 := LL.out; omega)
  replace rb := rb.keep g1 (fun e => by have h1 := Ia.out gb (Or.inl e); have h2 := LL.out; omega)
  replace rc := rc.keep g1 (fun e => by have h1 := Ia.out gc (Or.inl e); have h2 := LL.out; omega)
  replace rd := rd.keep g1 (fun e => by have h1 := Ia.out gd (Or.inl e); have h2 := LL.out; omega)
  replace Hb := isMc_far Hb g1 (fun k hk e => by have h1 := Ia.out k (Or.inl e); have h2 := Ib.out k hk; have h3 := LL.out; omega)
  replace Hc := isMc_far Hc g1 (fun k hk e => by have h1 := Ia.out k (Or.inl e); have h2 := Ic.out k hk; have h3 := LL.out; omega)
  replace Hd := isMc_far Hd g1 (fun k hk e => by have h1 := Ia.out k (Or.inl e); have h2 := Id.out k hk; have h3 := LL.out; omega)
  replace f0 : Fr none' w wza := ⟨g1.os.trans f0.os, g1.tape.trans f0.tape, g1.output.trans f0.output, Nat.le_trans f0.size g1.size, fun k hk hn => by
    rw [g1.block k (Nat.lt_of_lt_of_le hk f0.size) (fun e => by have h1 := Ia.out k (Or.inl e); have h2 := LL.out; omega)]; exact f0.block k hk hn⟩
  have pc0 : Row ((wza.alloc (.cells (cpA zc) 30)).alloc (.cells #[.int .i64 0, .int .i64 0, .int .i64 0, .int .i64 0, .int .i64 0, .int .i64 0, .bool false, .int .i64 0] 52)) wza.heap.size (cpA zc) 30 := (row_alloc wza (cpA zc) 30).alloc _
  have pt0 : Row ((wza.alloc (.cells (cpA zc) 30)).alloc (.cells #[.int .i64 0, .int .i64 0, .int .i64 0, .int .i64 0, .int .i64 0, .int .i64 0, .bool false, .int .i64 0] 52)) (wza.heap.size + 1) #[.int .i64 0, .int .i64 0, .int .i64 0, .int .i64 0, .int .i64 0, .int .i64 0, .bool false, .int .i64 0] 52 := row_at (by simp)
  have pt1 := pt0.keep (fr_row _ wza.heap.size Aa) (ne_new' (Nat.lt_succ_self _))
  have ls : (Tryz.prog.info? 30).map (·.size) = some Aa.size := by rw [asa]; exact size_cpu
  have lo : (cpA zc).size = Aa.size := by rw [asa]; exact cpA_size zc
  have lz : gd < wza.heap.size := rd.lt
  have g2 : Fr none' wza ((((wza.alloc (.cells (cpA zc) 30)).alloc (.cells #[.int .i64 0, .int .i64 0, .int .i64 0, .int .i64 0, .int .i64 0, .int .i64 0, .bool false, .int .i64 0] 52)).setRow wza.heap.size Aa).setRow (wza.heap.size + 1) #[.int .i64 0, .int .i64 0, .int .i64 0, .int .i64 0, .int .i64 0, .int .i64 0, .bool false, .int .i64 0]) := (((((Fr.refl none' wza).alloc _).alloc _).newer (fr_row _ wza.heap.size Aa) (Nat.le_refl _))).newer (fr_row _ (wza.heap.size + 1) _) (Nat.le_succ _)
  have pca : Row ((((wza.alloc (.cells (cpA zc) 30)).alloc (.cells #[.int .i64 0, .int .i64 0, .int .i64 0, .int .i64 0, .int .i64 0, .int .i64 0, .bool false, .int .i64 0] 52)).setRow wza.heap.size Aa).setRow (wza.heap.size + 1) #[.int .i64 0, .int .i64 0, .int .i64 0, .int .i64 0, .int .i64 0, .int .i64 0, .bool false, .int .i64 0]) wza.heap.size Aa 30 := (pc0.setRow).keep (fr_row _ (wza.heap.size + 1) _) (ne_new (Nat.lt_succ_self _))
  have pta : Row ((((wza.alloc (.cells (cpA zc) 30)).alloc (.cells #[.int .i64 0, .int .i64 0, .int .i64 0, .int .i64 0, .int .i64 0, .int .i64 0, .bool false, .int .i64 0] 52)).setRow wza.heap.size Aa).setRow (wza.heap.size + 1) #[.int .i64 0, .int .i64 0, .int .i64 0, .int .i64 0, .int .i64 0, .int .i64 0, .bool false, .int .i64 0]) (wza.heap.size + 1) #[.int .i64 0, .int .i64 0, .int .i64 0, .int .i64 0, .int .i64 0, .int .i64 0, .bool false, .int .i64 0] 52 := pt1.setRow
  have GG : Hid (Fr none' wza ((((wza.alloc (.cells (cpA zc) 30)).alloc (.cells #[.int .i64 0, .int .i64 0, .int .i64 0, .int .i64 0, .int .i64 0, .int .i64 0, .bool false, .int .i64 0] 52)).setRow wza.heap.size Aa).setRow (wza.heap.size + 1) #[.int .i64 0, .int .i64 0, .int .i64 0, .int .i64 0, .int .i64 0, .int .i64 0, .bool false, .int .i64 0]) ∧ Row ((((wza.alloc (.cells (cpA zc) 30)).alloc (.cells #[.int .i64 0, .int .i64 0, .int .i64 0, .int .i64 0, .int .i64 0, .int .i64 0, .bool false, .int .i64 0] 52)).setRow wza.heap.size Aa).setRow (wza.heap.size + 1) #[.int .i64 0, .int .i64 0, .int .i64 0, .int .i64 0, .int .i64 0, .int .i64 0, .bool false, .int .i64 0]) wza.heap.size Aa 30 ∧ Row ((((wza.alloc (.cells (cpA zc) 30)).alloc (.cells #[.int .i64 0, .int .i64 0, .int .i64 0, .int .i64 0, .int .i64 0, .int .i64 0, .bool false, .int .i64 0] 52)).setRow wza.heap.size Aa).setRow (wza.heap.size + 1) #[.int .i64 0, .int .i64 0, .int .i64 0, .int .i64 0, .int .i64 0, .int .i64 0, .bool false, .int .i64 0]) (wza.heap.size + 1) #[.int .i64 0, .int .i64 0, .int .i64 0, .int .i64 0, .int .i64 0, .int .i64 0, .bool false, .int .i64 0] 52) := ⟨g2, pca, pta⟩
  clear g1 g2 pca pta pt0
  go_upto_region 8 with (first | refine wpList_store_row rfl 30 _ _ rfl wza.heap.size Aa rfl rfl 30 (cpA zc) pc0 ls lo aoa ?_ | refine wpList_store_row rfl 52 _ _ rfl (wza.heap.size + 1) #[.int .i64 0, .int .i64 0, .int .i64 0, .int .i64 0, .int .i64 0, .int .i64 0, .bool false, .int .i64 0] rfl rfl 52 #[.int .i64 0, .int .i64 0, .int .i64 0, .int .i64 0, .int .i64 0, .int .i64 0, .bool false, .int .i64 0] pt1 size_trap rfl (by simp [Value.oneCell']) ?_)
  clear pc0 pt1 ls lo
  obtain ⟨g2, pca, pta⟩ := GG.out
  clear GG
  replace ra := ra.keep g2 (fun h => h)
  replace rb := rb.keep g2 (fun h => h)
  replace rc := rc.keep g2 (fun h => h)
  replace rd := rd.keep g2 (fun h => h)
  replace Hb := Hb.keep0 g2
  replace Hc := Hc.keep0 g2
  replace Hd := Hd.keep0 g2
  replace f0 := f0.trans g2
  clear g2
  obtain ⟨ta, ht⟩ : ∃ u, u = ((((wza.alloc (.cells (cpA zc) 30)).alloc (.cells #[.int .i64 0, .int .i64 0, .int .i64 0, .int .i64 0, .int .i64 0, .int .i64 0, .bool false, .int .i64 0] 52)).setRow wza.heap.size Aa).setRow (wza.heap.size + 1) #[.int .i64 0, .int .i64 0, .int .i64 0, .int .i64 0, .int .i64 0, .int .i64 0, .bool false, .int .i64 0]) := ⟨_, rfl⟩
  rw [← ht] at f0 pca pta ra rb rc rd  Hb Hc Hd ⊢
  clear ht
  obtain ⟨hca, hh1⟩ : ∃ q, q = wza.heap.size := ⟨_, rfl⟩
  obtain ⟨hta, hh2⟩ : ∃ q, q = wza.heap.size + 1 := ⟨_, rfl⟩
  rw [← hh2] at pta ⊢
  rw [← hh1] at pca lz ⊢
  have Pca : Hid (gd < hca) := lz
  have Pta : Hid (gd < hta) := (show gd < hta by omega)
  clear hh1 hh2 lz
  have lz : gd < ta.heap.size := rd.lt
  have pi0 := row_alloc ta (cpA zc) 30
  have pi1 : Row ((ta.alloc (.cells (cpA zc) 30)).setRow ta.heap.size #[.int .u32 0, .int .u32 0, .int .u32 0, .int .u32 0, .int .u32 0, .int .u32 0, .int .u32 0, .int .u32 0, .int .u32 0, .int .u32 0, .int .u32 0, .int .u32 0, .int .u32 0, .int .u32 0, .int .u32 0, .int .u32 0, .int .i64 0, .int .u32 0, .int .u32 0, .int .u32 0, .int .u32 0, .int .u32 0, .int .u32 0, .int .u32 0, .int .u32 0]) ta.heap.size #[.int .u32 0, .int .u32 0, .int .u32 0, .int .u32 0, .int .u32 0, .int .u32 0, .int .u32 0, .int .u32 0, .int .u32 0, .int .u32 0, .int .u32 0, .int .u32 0, .int .u32 0, .int .u32 0, .int .u32 0, .int .u32 0, .int .i64 0, .int .u32 0, .int .u32 0, .int .u32 0, .int .u32 0, .int .u32 0, .int .u32 0, .int .u32 0, .int .u32 0] 30 := pi0.setRow
  have g2 : Fr none' ta (((ta.alloc (.cells (cpA zc) 30)).setRow ta.heap.size #[.int .u32 0, .int .u32 0, .int .u32 0, .int .u32 0, .int .u32 0, .int .u32 0, .int .u32 0, .int .u32 0, .int .u32 0, .int .u32 0, .int .u32 0, .int .u32 0, .int .u32 0, .int .u32 0, .int .u32 0, .int .u32 0, .int .i64 0, .int .u32 0, .int .u32 0, .int .u32 0, .int .u32 0, .int .u32 0, .int .u32 0, .int .u32 0, .int .u32 0]).setCell ⟨ta.heap.size, 1, none⟩ (.int .u32 64)) := (((Fr.refl none' ta).alloc _).newer (fr_row _ ta.heap.size _) (Nat.le_refl _)).newer (fr_set _ ta.heap.size 1 _ (Fr.refl _ _)) (Nat.le_refl _)
  have pin : Row (((ta.alloc (.cells (cpA zc) 30)).setRow ta.heap.size #[.int .u32 0, .int .u32 0, .int .u32 0, .int .u32 0, .int .u32 0, .int .u32 0, .int .u32 0, .int .u32 0, .int .u32 0, .int .u32 0, .int .u32 0, .int .u32 0, .int .u32 0, .int .u32 0, .int .u32 0, .int .u32 0, .int .i64 0, .int .u32 0, .int .u32 0, .int .u32 0, .int .u32 0, .int .u32 0, .int .u32 0, .int .u32 0, .int .u32 0]).setCell ⟨ta.heap.size, 1, none⟩ (.int .u32 64)) ta.heap.size #[.int .u32 0, .int .u32 64, .int .u32 0, .int .u32 0, .int .u32 0, .int .u32 0, .int .u32 0, .int .u32 0, .int .u32 0, .int .u32 0, .int .u32 0, .int .u32 0, .int .u32 0, .int .u32 0, .int .u32 0, .int .u32 0, .int .i64 0, .int .u32 0, .int .u32 0, .int .u32 0, .int .u32 0, .int .u32 0, .int .u32 0, .int .u32 0, .int .u32 0] 30 := pi1.setCell 1 (.int .u32 64)
  have GG : Hid (Fr none' ta (((ta.alloc (.cells (cpA zc) 30)).setRow ta.heap.size #[.int .u32 0, .int .u32 0, .int .u32 0, .int .u32 0, .int .u32 0, .int .u32 0, .int .u32 0, .int .u32 0, .int .u32 0, .int .u32 0, .int .u32 0, .int .u32 0, .int .u32 0, .int .u32 0, .int .u32 0, .int .u32 0, .int .i64 0, .int .u32 0, .int .u32 0, .int .u32 0, .int .u32 0, .int .u32 0, .int .u32 0, .int .u32 0, .int .u32 0]).setCell ⟨ta.heap.size, 1, none⟩ (.int .u32 64)) ∧ Row (((ta.alloc (.cells (cpA zc) 30)).setRow ta.heap.size #[.int .u32 0, .int .u32 0, .int .u32 0, .int .u32 0, .int .u32 0, .int .u32 0, .int .u32 0, .int .u32 0, .int .u32 0, .int .u32 0, .int .u32 0, .int .u32 0, .int .u32 0, .int .u32 0, .int .u32 0, .int .u32 0, .int .i64 0, .int .u32 0, .int .u32 0, .int .u32 0, .int .u32 0, .int .u32 0, .int .u32 0, .int .u32 0, .int .u32 0]).setCell ⟨ta.heap.size, 1, none⟩ (.int .u32 64)) ta.heap.size #[.int .u32 0, .int .u32 64, .int .u32 0, .int .u32 0, .int .u32 0, .int .u32 0, .int .u32 0, .int .u32 0, .int .u32 0, .int .u32 0, .int .u32 0, .int .u32 0, .int .u32 0, .int .u32 0, .int .u32 0, .int .u32 0, .int .i64 0, .int .u32 0, .int .u32 0, .int .u32 0, .int .u32 0, .int .u32 0, .int .u32 0, .int .u32 0, .int .u32 0] 30) := ⟨g2, pin⟩
  clear g2 pin
  have pj1 : ((ta.alloc (.cells (cpA zc) 30)).setRow ta.heap.size #[.int .u32 0, .int .u32 0, .int .u32 0, .int .u32 0, .int .u32 0, .int .u32 0, .int .u32 0, .int .u32 0, .int .u32 0, .int .u32 0, .int .u32 0, .int .u32 0, .int .u32 0, .int .u32 0, .int .u32 0, .int .u32 0, .int .i64 0, .int .u32 0, .int .u32 0, .int .u32 0, .int .u32 0, .int .u32 0, .int .u32 0, .int .u32 0, .int .u32 0]).cell? ⟨ta.heap.size, 1, none⟩ = some (.int .u32 0) := pi1.cell 1
  have pj2 : ((ta.alloc (.cells (cpA zc) 30)).setRow ta.heap.size #[.int .u32 0, .int .u32 0, .int .u32 0, .int .u32 0, .int .u32 0, .int .u32 0, .int .u32 0, .int .u32 0, .int .u32 0, .int .u32 0, .int .u32 0, .int .u32 0, .int .u32 0, .int .u32 0, .int .u32 0, .int .u32 0, .int .i64 0, .int .u32 0, .int .u32 0, .int .u32 0, .int .u32 0, .int .u32 0, .int .u32 0, .int .u32 0, .int .u32 0]).frozen? ⟨ta.heap.size, 1, none⟩ = false := pi1.frozen 1
  clear pi1
  go_upto_region 10 with (refine wpList_store_row rfl 30 _ _ rfl ta.heap.size #[.int .u32 0, .int .u32 0, .int .u32 0, .int .u32 0, .int .u32 0, .int .u32 0, .int .u32 0, .int .u32 0, .int .u32 0, .int .u32 0, .int .u32 0, .int .u32 0, .int .u32 0, .int .u32 0, .int .u32 0, .int .u32 0, .int .i64 0, .int .u32 0, .int .u32 0, .int .u32 0, .int .u32 0, .int .u32 0, .int .u32 0, .int .u32 0, .int .u32 0] rfl rfl 30 (cpA zc) pi0 size_cpu rfl (by simp [Value.oneCell']) ?_)
  clear pi0 pj1 pj2
  obtain ⟨g2, pin⟩ := GG.out
  clear GG
  replace ra := ra.keep g2 (fun h => h)
  replace rb := rb.keep g2 (fun h => h)
  replace rc := rc.keep g2 (fun h => h)
  replace rd := rd.keep g2 (fun h => h)
  replace pca := pca.keep g2 (fun h => h)
  replace pta := pta.keep g2 (fun h => h)
  replace Hb := Hb.keep0 g2
  replace Hc := Hc.keep0 g2
  replace Hd := Hd.keep0 g2
  replace f0 := f0.trans g2
  clear g2
  obtain ⟨ti, ht⟩ : ∃ u, u = (((ta.alloc (.cells (cpA zc) 30)).setRow ta.heap.size #[.int .u32 0, .int .u32 0, .int .u32 0, .int .u32 0, .int .u32 0, .int .u32 0, .int .u32 0, .int .u32 0, .int .u32 0, .int .u32 0, .int .u32 0, .int .u32 0, .int .u32 0, .int .u32 0, .int .u32 0, .int .u32 0, .int .i64 0, .int .u32 0, .int .u32 0, .int .u32 0, .int .u32 0, .int .u32 0, .int .u32 0, .int .u32 0, .int .u32 0]).setCell ⟨ta.heap.size, 1, none⟩ (.int .u32 64)) := ⟨_, rfl⟩
  rw [← ht] at f0 pin ra rb rc rd pca pta Hb Hc Hd ⊢
  clear ht
  obtain ⟨gin, hh1⟩ : ∃ q, q = ta.heap.size := ⟨_, rfl⟩
  rw [← hh1] at pin lz ⊢
  clear hh1 lz
  have pinc : ∀ j v, (#[.int .u32 0, .int .u32 64, .int .u32 0, .int .u32 0, .int .u32 0, .int .u32 0, .int .u32 0, .int .u32 0, .int .u32 0, .int .u32 0, .int .u32 0, .int .u32 0, .int .u32 0, .int .u32 0, .int .u32 0, .int .u32 0, .int .i64 0, .int .u32 0, .int .u32 0, .int .u32 0, .int .u32 0, .int .u32 0, .int .u32 0, .int .u32 0, .int .u32 0] : Array Value)[j]? = some v → ti.cell? ⟨gin, j, none⟩ = some v := fun j v hv => (pin.cell j).trans hv
  obtain ⟨k0, k1, k2, k3, k4, k5⟩ := cells6 rb
  go_wp2_with (refine wpList_load_part rfl 30 _ rfl gin rfl #[.int .u32 0, .int .u32 64, .int .u32 0, .int .u32 0, .int .u32 0, .int .u32 0, .int .u32 0, .int .u32 0, .int .u32 0, .int .u32 0, .int .u32 0, .int .u32 0, .int .u32 0, .int .u32 0, .int .u32 0, .int .u32 0, .int .i64 0, .int .u32 0, .int .u32 0, .int .u32 0, .int .u32 0, .int .u32 0, .int .u32 0, .int .u32 0, .int .u32 0] _ pinc Tryz.underlying30 rfl size_cpu ?_)
  refine (exS_b _ Ob.B vb Hb).mono ?_
  rintro e wzb ⟨Ab, asb, aob, afb, rfl, g1⟩
  have AFb : Hid (Ab[2]? = some (.int .u32 77) ∧ True) := afb
  clear k0 k1 k2 k3 k4 k5 Hb afb
  replace ra := ra.keep g1 (fun e => by have h1 := Ib.out ga (Or.inl e); have h2 := LL.out; omega)
  replace rb := rb.keep g1 (fun e => by have h1 := Ib.out gb (Or.inl e); have h2 := LL.out; omega)
  replace rc := rc.keep g1 (fun e => by have h1 := Ib.out gc (Or.inl e); have h2 := LL.out; omega)
  replace rd := rd.keep g1 (fun e => by have h1 := Ib.out gd (Or.inl e); have h2 := LL.out; omega)
  replace pca := pca.keep g1 (fun e => by have h1 := Ib.out _ (Or.inl e); have h2 := LL.out; have h3 := Pca.out; omega)
  replace pta := pta.keep g1 (fun e => by have h1 := Ib.out _ (Or.inl e); have h2 := LL.out; have h3 := Pta.out; omega)
  replace Hc := isMc_far Hc g1 (fun k hk e => by have h1 := Ib.out k (Or.inl e); have h2 := Ic.out k hk; have h3 := LL.out; omega)
  replace Hd := isMc_far Hd g1 (fun k hk e => by have h1 := Ib.out k (Or.inl e); have h2 := Id.out k hk; have h3 := LL.out; omega)
  replace f0 : Fr none' w wzb := ⟨g1.os.trans f0.os, g1.tape.trans f0.tape, g1.output.trans f0.output, Nat.le_trans f0.size g1.size, fun k hk hn => by
    rw [g1.block k (Nat.lt_of_lt_of_le hk f0.size) (fun e => by have h1 := Ib.out k (Or.inl e); have h2 := LL.out; omega)]; exact f0.block k hk hn⟩
  have pc0 : Row ((wzb.alloc (.cells (cpA zc) 30)).alloc (.cells #[.int .i64 0, .int .i64 0, .int .i64 0, .int .i64 0, .int .i64 0, .int .i64 0, .bool false, .int .i64 0] 52)) wzb.heap.size (cpA zc) 30 := (row_alloc wzb (cpA zc) 30).alloc _
  have pt0 : Row ((wzb.alloc (.cells (cpA zc) 30)).alloc (.cells #[.int .i64 0, .int .i64 0, .int .i64 0, .int .i64 0, .int .i64 0, .int .i64 0, .bool false, .int .i64 0] 52)) (wzb.heap.size + 1) #[.int .i64 0, .int .i64 0, .int .i64 0, .int .i64 0, .int .i64 0, .int .i64 0, .bool false, .int .i64 0] 52 := row_at (by simp)
  have pt1 := pt0.keep (fr_row _ wzb.heap.size Ab) (ne_new' (Nat.lt_succ_self _))
  have ls : (Tryz.prog.info? 30).map (·.size) = some Ab.size := by rw [asb]; exact size_cpu
  have lo : (cpA zc).size = Ab.size := by rw [asb]; exact cpA_size zc
  have lz : gd < wzb.heap.size := rd.lt
  have g2 : Fr none' wzb ((((wzb.alloc (.cells (cpA zc) 30)).alloc (.cells #[.int .i64 0, .int .i64 0, .int .i64 0, .int .i64 0, .int .i64 0, .int .i64 0, .bool false, .int .i64 0] 52)).setRow wzb.heap.size Ab).setRow (wzb.heap.size + 1) #[.int .i64 0, .int .i64 0, .int .i64 0, .int .i64 0, .int .i64 0, .int .i64 0, .bool false, .int .i64 0]) := (((((Fr.refl none' wzb).alloc _).alloc _).newer (fr_row _ wzb.heap.size Ab) (Nat.le_refl _))).newer (fr_row _ (wzb.heap.size + 1) _) (Nat.le_succ _)
  have pcb : Row ((((wzb.alloc (.cells (cpA zc) 30)).alloc (.cells #[.int .i64 0, .int .i64 0, .int .i64 0, .int .i64 0, .int .i64 0, .int .i64 0, .bool false, .int .i64 0] 52)).setRow wzb.heap.size Ab).setRow (wzb.heap.size + 1) #[.int .i64 0, .int .i64 0, .int .i64 0, .int .i64 0, .int .i64 0, .int .i64 0, .bool false, .int .i64 0]) wzb.heap.size Ab 30 := (pc0.setRow).keep (fr_row _ (wzb.heap.size + 1) _) (ne_new (Nat.lt_succ_self _))
  have ptb : Row ((((wzb.alloc (.cells (cpA zc) 30)).alloc (.cells #[.int .i64 0, .int .i64 0, .int .i64 0, .int .i64 0, .int .i64 0, .int .i64 0, .bool false, .int .i64 0] 52)).setRow wzb.heap.size Ab).setRow (wzb.heap.size + 1) #[.int .i64 0, .int .i64 0, .int .i64 0, .int .i64 0, .int .i64 0, .int .i64 0, .bool false, .int .i64 0]) (wzb.heap.size + 1) #[.int .i64 0, .int .i64 0, .int .i64 0, .int .i64 0, .int .i64 0, .int .i64 0, .bool false, .int .i64 0] 52 := pt1.setRow
  have GG : Hid (Fr none' wzb ((((wzb.alloc (.cells (cpA zc) 30)).alloc (.cells #[.int .i64 0, .int .i64 0, .int .i64 0, .int .i64 0, .int .i64 0, .int .i64 0, .bool false, .int .i64 0] 52)).setRow wzb.heap.size Ab).setRow (wzb.heap.size + 1) #[.int .i64 0, .int .i64 0, .int .i64 0, .int .i64 0, .int .i64 0, .int .i64 0, .bool false, .int .i64 0]) ∧ Row ((((wzb.alloc (.cells (cpA zc) 30)).alloc (.cells #[.int .i64 0, .int .i64 0, .int .i64 0, .int .i64 0, .int .i64 0, .int .i64 0, .bool false, .int .i64 0] 52)).setRow wzb.heap.size Ab).setRow (wzb.heap.size + 1) #[.int .i64 0, .int .i64 0, .int .i64 0, .int .i64 0, .int .i64 0, .int .i64 0, .bool false, .int .i64 0]) wzb.heap.size Ab 30 ∧ Row ((((wzb.alloc (.cells (cpA zc) 30)).alloc (.cells #[.int .i64 0, .int .i64 0, .int .i64 0, .int .i64 0, .int .i64 0, .int .i64 0, .bool false, .int .i64 0] 52)).setRow wzb.heap.size Ab).setRow (wzb.heap.size + 1) #[.int .i64 0, .int .i64 0, .int .i64 0, .int .i64 0, .int .i64 0, .int .i64 0, .bool false, .int .i64 0]) (wzb.heap.size + 1) #[.int .i64 0, .int .i64 0, .int .i64 0, .int .i64 0, .int .i64 0, .int .i64 0, .bool false, .int .i64 0] 52) := ⟨g2, pcb, ptb⟩
  clear g1 g2 pcb ptb pt0
  go_upto_region 11 with (first | refine wpList_store_row rfl 30 _ _ rfl wzb.heap.size Ab rfl rfl 30 (cpA zc) pc0 ls lo aob ?_ | refine wpList_store_row rfl 52 _ _ rfl (wzb.heap.size + 1) #[.int .i64 0, .int .i64 0, .int .i64 0, .int .i64 0, .int .i64 0, .int .i64 0, .bool false, .int .i64 0] rfl rfl 52 #[.int .i64 0, .int .i64 0, .int .i64 0, .int .i64 0, .int .i64 0, .int .i64 0, .bool false, .int .i64 0] pt1 size_trap rfl (by simp [Value.oneCell']) ?_)
  clear pc0 pt1 ls lo
  obtain ⟨g2, pcb, ptb⟩ := GG.out
  clear GG
  replace ra := ra.keep g2 (fun h => h)
  replace rb := rb.keep g2 (fun h => h)
  replace rc := rc.keep g2 (fun h => h)
  replace rd := rd.keep g2 (fun h => h)
  replace pca := pca.keep g2 (fun h => h)
  replace pta := pta.keep g2 (fun h => h)
  replace Hc := Hc.keep0 g2
  replace Hd := Hd.keep0 g2
  replace f0 := f0.trans g2
  clear g2
  obtain ⟨tb, ht⟩ : ∃ u, u = ((((wzb.alloc (.cells (cpA zc) 30)).alloc (.cells #[.int .i64 0, .int .i64 0, .int .i64 0, .int .i64 0, .int .i64 0, .int .i64 0, .bool false, .int .i64 0] 52)).setRow wzb.heap.size Ab).setRow (wzb.heap.size + 1) #[.int .i64 0, .int .i64 0, .int .i64 0, .int .i64 0, .int .i64 0, .int .i64 0, .bool false, .int .i64 0]) := ⟨_, rfl⟩
  rw [← ht] at f0 pcb ptb ra rb rc rd pca pta Hc Hd ⊢
  clear ht
  obtain ⟨hcb, hh1⟩ : ∃ q, q = wzb.heap.size := ⟨_, rfl⟩
  obtain ⟨htb, hh2⟩ : ∃ q, q = wzb.heap.size + 1 := ⟨_, rfl⟩
  rw [← hh2] at ptb ⊢
  rw [← hh1] at pcb lz ⊢
  have Pcb : Hid (gd < hcb) := lz
  have Ptb : Hid (gd < htb) := (show gd < htb by omega)
  clear hh1 hh2 lz
  clear pinc pin
  obtain ⟨k0, k1, k2, k3, k4, k5⟩ := cells6 rc
  go_wp2_with fail
  refine (exS_c _ Oc.B vc Hc).mono ?_
  rintro e wzc ⟨Ac, asc, aoc, afc, rfl, g1⟩
  have AFc : Hid (True ∧ True) := afc
  clear k0 k1 k2 k3 k4 k5 Hc afc
  replace ra := ra.keep g1 (fun e => by have h1 := Ic.out ga (Or.inl e); have h2 := LL.out; omega)
  replace rb := rb.keep g1 (fun e => by have h1 := Ic.out gb (Or.inl e); have h2 := LL.out; omega)
  replace rc := rc.keep g1 (fun e => by have h1 := Ic.out gc (Or.inl e); have h2 := LL.out; omega)
  replace rd := rd.keep g1 (fun e => by have h1 := Ic.out gd (Or.inl e); have h2 := LL.out; omega)
  replace pca := pca.keep g1 (fun e => by have h1 := Ic.out _ (Or.inl e); have h2 := LL.out; have h3 := Pca.out; omega)
  replace pta := pta.keep g1 (fun e => by have h1 := Ic.out _ (Or.inl e); have h2 := LL.out; have h3 := Pta.out; omega)
  replace pcb := pcb.keep g1 (fun e => by have h1 := Ic.out _ (Or.inl e); have h2 := LL.out; have h3 := Pcb.out; omega)
  replace ptb := ptb.keep g1 (fun e => by have h1 := Ic.out _ (Or.inl e); have h2 := LL.out; have h3 := Ptb.out; omega)
  replace Hd := isMc_far Hd g1 (fun k hk e => by have h1 := Ic.out k (Or.inl e); have h2 := Id.out k hk; have h3 := LL.out; omega)
  replace f0 : Fr none' w wzc := ⟨g1.os.trans f0.os, g1.tape.trans f0.tape, g1.output.trans f0.output, Nat.le_trans f0.size g1.size, fun k hk hn => by
    rw [g1.block k (Nat.lt_of_lt_of_le hk f0.size) (fun e => by have h1 := Ic.out k (Or.inl e); have h2 := LL.out; omega)]; exact f0.block k hk hn⟩
  have pc0 : Row ((wzc.alloc (.cells (cpA zc) 30)).alloc (.cells #[.int .i64 0, .int .i64 0, .int .i64 0, .int .i64 0, .int .i64 0, .int .i64 0, .bool false, .int .i64 0] 52)) wzc.heap.size (cpA zc) 30 := (row_alloc wzc (cpA zc) 30).alloc _
  have pt0 : Row ((wzc.alloc (.cells (cpA zc) 30)).alloc (.cells #[.int .i64 0, .int .i64 0, .int .i64 0, .int .i64 0, .int .i64 0, .int .i64 0, .bool false, .int .i64 0] 52)) (wzc.heap.size + 1) #[.int .i64 0, .int .i64 0, .int .i64 0, .int .i64 0, .int .i64 0, .int .i64 0, .bool false, .int .i64 0] 52 := row_at (by simp)
  have pt1 := pt0.keep (fr_row _ wzc.heap.size Ac) (ne_new' (Nat.lt_succ_self _))
  have ls : (Tryz.prog.info? 30).map (·.size) = some Ac.size := by rw [asc]; exact size_cpu
  have lo : (cpA zc).size = Ac.size := by rw [asc]; exact cpA_size zc
  have lz : gd < wzc.heap.size := rd.lt
  have g2 : Fr none' wzc ((((wzc.alloc (.cells (cpA zc) 30)).alloc (.cells #[.int .i64 0, .int .i64 0, .int .i64 0, .int .i64 0, .int .i64 0, .int .i64 0, .bool false, .int .i64 0] 52)).setRow wzc.heap.size Ac).setRow (wzc.heap.size + 1) #[.int .i64 8, .int .i64 285212675, .int .i64 0, .int .i64 0, .int .i64 0, .int .i64 0, .bool false, .int .i64 0]) := (((((Fr.refl none' wzc).alloc _).alloc _).newer (fr_row _ wzc.heap.size Ac) (Nat.le_refl _))).newer (fr_row _ (wzc.heap.size + 1) _) (Nat.le_succ _)
  have pcc : Row ((((wzc.alloc (.cells (cpA zc) 30)).alloc (.cells #[.int .i64 0, .int .i64 0, .int .i64 0, .int .i64 0, .int .i64 0, .int .i64 0, .bool false, .int .i64 0] 52)).setRow wzc.heap.size Ac).setRow (wzc.heap.size + 1) #[.int .i64 8, .int .i64 285212675, .int .i64 0, .int .i64 0, .int .i64 0, .int .i64 0, .bool false, .int .i64 0]) wzc.heap.size Ac 30 := (pc0.setRow).keep (fr_row _ (wzc.heap.size + 1) _) (ne_new (Nat.lt_succ_self _))
  have ptc : Row ((((wzc.alloc (.cells (cpA zc) 30)).alloc (.cells #[.int .i64 0, .int .i64 0, .int .i64 0, .int .i64 0, .int .i64 0, .int .i64 0, .bool false, .int .i64 0] 52)).setRow wzc.heap.size Ac).setRow (wzc.heap.size + 1) #[.int .i64 8, .int .i64 285212675, .int .i64 0, .int .i64 0, .int .i64 0, .int .i64 0, .bool false, .int .i64 0]) (wzc.heap.size + 1) #[.int .i64 8, .int .i64 285212675, .int .i64 0, .int .i64 0, .int .i64 0, .int .i64 0, .bool false, .int .i64 0] 52 := pt1.setRow
  have GG : Hid (Fr none' wzc ((((wzc.alloc (.cells (cpA zc) 30)).alloc (.cells #[.int .i64 0, .int .i64 0, .int .i64 0, .int .i64 0, .int .i64 0, .int .i64 0, .bool false, .int .i64 0] 52)).setRow wzc.heap.size Ac).setRow (wzc.heap.size + 1) #[.int .i64 8, .int .i64 285212675, .int .i64 0, .int .i64 0, .int .i64 0, .int .i64 0, .bool false, .int .i64 0]) ∧ Row ((((wzc.alloc (.cells (cpA zc) 30)).alloc (.cells #[.int .i64 0, .int .i64 0, .int .i64 0, .int .i64 0, .int .i64 0, .int .i64 0, .bool false, .int .i64 0] 52)).setRow wzc.heap.size Ac).setRow (wzc.heap.size + 1) #[.int .i64 8, .int .i64 285212675, .int .i64 0, .int .i64 0, .int .i64 0, .int .i64 0, .bool false, .int .i64 0]) wzc.heap.size Ac 30 ∧ Row ((((wzc.alloc (.cells (cpA zc) 30)).alloc (.cells #[.int .i64 0, .int .i64 0, .int .i64 0, .int .i64 0, .int .i64 0, .int .i64 0, .bool false, .int .i64 0] 52)).setRow wzc.heap.size Ac).setRow (wzc.heap.size + 1) #[.int .i64 8, .int .i64 285212675, .int .i64 0, .int .i64 0, .int .i64 0, .int .i64 0, .bool false, .int .i64 0]) (wzc.heap.size + 1) #[.int .i64 8, .int .i64 285212675, .int .i64 0, .int .i64 0, .int .i64 0, .int .i64 0, .bool false, .int .i64 0] 52) := ⟨g2, pcc, ptc⟩
  clear g1 g2 pcc ptc pt0
  go_upto_region 12 with (first | refine wpList_store_row rfl 30 _ _ rfl wzc.heap.size Ac rfl rfl 30 (cpA zc) pc0 ls lo aoc ?_ | refine wpList_store_row rfl 52 _ _ rfl (wzc.heap.size + 1) #[.int .i64 8, .int .i64 285212675, .int .i64 0, .int .i64 0, .int .i64 0, .int .i64 0, .bool false, .int .i64 0] rfl rfl 52 #[.int .i64 0, .int .i64 0, .int .i64 0, .int .i64 0, .int .i64 0, .int .i64 0, .bool false, .int .i64 0] pt1 size_trap rfl (by simp [Value.oneCell']) ?_)
  clear pc0 pt1 ls lo
  obtain ⟨g2, pcc, ptc⟩ := GG.out
  clear GG
  replace ra := ra.keep g2 (fun h => h)
  replace rb := rb.keep g2 (fun h => h)
  replace rc := rc.keep g2 (fun h => h)
  replace rd := rd.keep g2 (fun h => h)
  replace pca := pca.keep g2 (fun h => h)
  replace pta := pta.keep g2 (fun h => h)
  replace pcb := pcb.keep g2 (fun h => h)
  replace ptb := ptb.keep g2 (fun h => h)
  replace Hd := Hd.keep0 g2
  replace f0 := f0.trans g2
  clear g2
  obtain ⟨tc, ht⟩ : ∃ u, u = ((((wzc.alloc (.cells (cpA zc) 30)).alloc (.cells #[.int .i64 0, .int .i64 0, .int .i64 0, .int .i64 0, .int .i64 0, .int .i64 0, .bool false, .int .i64 0] 52)).setRow wzc.heap.size Ac).setRow (wzc.heap.size + 1) #[.int .i64 8, .int .i64 285212675, .int .i64 0, .int .i64 0, .int .i64 0, .int .i64 0, .bool false, .int .i64 0]) := ⟨_, rfl⟩
  rw [← ht] at f0 pcc ptc ra rb rc rd pca pta pcb ptb Hd ⊢
  clear ht
  obtain ⟨hcc, hh1⟩ : ∃ q, q = wzc.heap.size := ⟨_, rfl⟩
  obtain ⟨htc, hh2⟩ : ∃ q, q = wzc.heap.size + 1 := ⟨_, rfl⟩
  rw [← hh2] at ptc ⊢
  rw [← hh1] at pcc lz ⊢
  have Pcc : Hid (gd < hcc) := lz
  have Ptc : Hid (gd < htc) := (show gd < htc by omega)
  clear hh1 hh2 lz
  obtain ⟨k0, k1, k2, k3, k4, k5⟩ := cells6 rd
  go_wp2_with fail
  refine (exS_d _ Od.B bd vd Hd).mono ?_
  rintro e wzd ⟨Ad, asd, aod, afd, rfl, g1⟩
  have AFd : Hid (True ∧ True) := afd
  clear k0 k1 k2 k3 k4 k5 Hd afd
  replace ra := ra.keep g1 (fun e => by have h1 := Id.out ga (Or.inl e); have h2 := LL.out; omega)
  replace rb := rb.keep g1 (fun e => by have h1 := Id.out gb (Or.inl e); have h2 := LL.out; omega)
  replace rc := rc.keep g1 (fun e => by have h1 := Id.out gc (Or.inl e); have h2 := LL.out; omega)
  replace rd := rd.keep g1 (fun e => by have h1 := Id.out gd (Or.inl e); have h2 := LL.out; omega)
  replace pca := pca.keep g1 (fun e => by have h1 := Id.out _ (Or.inl e); have h2 := LL.out; have h3 := Pca.out; omega)
  replace pta := pta.keep g1 (fun e => by have h1 := Id.out _ (Or.inl e); have h2 := LL.out; have h3 := Pta.out; omega)
  replace pcb := pcb.keep g1 (fun e => by have h1 := Id.out _ (Or.inl e); have h2 := LL.out; have h3 := Pcb.out; omega)
  replace ptb := ptb.keep g1 (fun e => by have h1 := Id.out _ (Or.inl e); have h2 := LL.out; have h3 := Ptb.out; omega)
  replace pcc := pcc.keep g1 (fun e => by have h1 := Id.out _ (Or.inl e); have h2 := LL.out; have h3 := Pcc.out; omega)
  replace ptc := ptc.keep g1 (fun e => by have h1 := Id.out _ (Or.inl e); have h2 := LL.out; have h3 := Ptc.out; omega)
  replace f0 : Fr none' w wzd := ⟨g1.os.trans f0.os, g1.tape.trans f0.tape, g1.output.trans f0.output, Nat.le_trans f0.size g1.size, fun k hk hn => by
    rw [g1.block k (Nat.lt_of_lt_of_le hk f0.size) (fun e => by have h1 := Id.out k (Or.inl e); have h2 := LL.out; omega)]; exact f0.block k hk hn⟩
  have pc0 : Row ((wzd.alloc (.cells (cpA zc) 30)).alloc (.cells #[.int .i64 0, .int .i64 0, .int .i64 0, .int .i64 0, .int .i64 0, .int .i64 0, .bool false, .int .i64 0] 52)) wzd.heap.size (cpA zc) 30 := (row_alloc wzd (cpA zc) 30).alloc _
  have pt0 : Row ((wzd.alloc (.cells (cpA zc) 30)).alloc (.cells #[.int .i64 0, .int .i64 0, .int .i64 0, .int .i64 0, .int .i64 0, .int .i64 0, .bool false, .int .i64 0] 52)) (wzd.heap.size + 1) #[.int .i64 0, .int .i64 0, .int .i64 0, .int .i64 0, .int .i64 0, .int .i64 0, .bool false, .int .i64 0] 52 := row_at (by simp)
  have pt1 := pt0.keep (fr_row _ wzd.heap.size Ad) (ne_new' (Nat.lt_succ_self _))
  have ls : (Tryz.prog.info? 30).map (·.size) = some Ad.size := by rw [asd]; exact size_cpu
  have lo : (cpA zc).size = Ad.size := by rw [asd]; exact cpA_size zc
  have lz : gd < wzd.heap.size := rd.lt
  have g2 : Fr none' wzd ((((wzd.alloc (.cells (cpA zc) 30)).alloc (.cells #[.int .i64 0, .int .i64 0, .int .i64 0, .int .i64 0, .int .i64 0, .int .i64 0, .bool false, .int .i64 0] 52)).setRow wzd.heap.size Ad).setRow (wzd.heap.size + 1) #[.int .i64 5, .int .i64 3, .int .i64 0, .int .i64 0, .int .i64 0, .int .i64 0, .bool false, .int .i64 0]) := (((((Fr.refl none' wzd).alloc _).alloc _).newer (fr_row _ wzd.heap.size Ad) (Nat.le_refl _))).newer (fr_row _ (wzd.heap.size + 1) _) (Nat.le_succ _)
  have pcd : Row ((((wzd.alloc (.cells (cpA zc) 30)).alloc (.cells #[.int .i64 0, .int .i64 0, .int .i64 0, .int .i64 0, .int .i64 0, .int .i64 0, .bool false, .int .i64 0] 52)).setRow wzd.heap.size Ad).setRow (wzd.heap.size + 1) #[.int .i64 5, .int .i64 3, .int .i64 0, .int .i64 0, .int .i64 0, .int .i64 0, .bool false, .int .i64 0]) wzd.heap.size Ad 30 := (pc0.setRow).keep (fr_row _ (wzd.heap.size + 1) _) (ne_new (Nat.lt_succ_self _))
  have ptd : Row ((((wzd.alloc (.cells (cpA zc) 30)).alloc (.cells #[.int .i64 0, .int .i64 0, .int .i64 0, .int .i64 0, .int .i64 0, .int .i64 0, .bool false, .int .i64 0] 52)).setRow wzd.heap.size Ad).setRow (wzd.heap.size + 1) #[.int .i64 5, .int .i64 3, .int .i64 0, .int .i64 0, .int .i64 0, .int .i64 0, .bool false, .int .i64 0]) (wzd.heap.size + 1) #[.int .i64 5, .int .i64 3, .int .i64 0, .int .i64 0, .int .i64 0, .int .i64 0, .bool false, .int .i64 0] 52 := pt1.setRow
  have GG : Hid (Fr none' wzd ((((wzd.alloc (.cells (cpA zc) 30)).alloc (.cells #[.int .i64 0, .int .i64 0, .int .i64 0, .int .i64 0, .int .i64 0, .int .i64 0, .bool false, .int .i64 0] 52)).setRow wzd.heap.size Ad).setRow (wzd.heap.size + 1) #[.int .i64 5, .int .i64 3, .int .i64 0, .int .i64 0, .int .i64 0, .int .i64 0, .bool false, .int .i64 0]) ∧ Row ((((wzd.alloc (.cells (cpA zc) 30)).alloc (.cells #[.int .i64 0, .int .i64 0, .int .i64 0, .int .i64 0, .int .i64 0, .int .i64 0, .bool false, .int .i64 0] 52)).setRow wzd.heap.size Ad).setRow (wzd.heap.size + 1) #[.int .i64 5, .int .i64 3, .int .i64 0, .int .i64 0, .int .i64 0, .int .i64 0, .bool false, .int .i64 0]) wzd.heap.size Ad 30 ∧ Row ((((wzd.alloc (.cells (cpA zc) 30)).alloc (.cells #[.int .i64 0, .int .i64 0, .int .i64 0, .int .i64 0, .int .i64 0, .int .i64 0, .bool false, .int .i64 0] 52)).setRow wzd.heap.size Ad).setRow (wzd.heap.size + 1) #[.int .i64 5, .int .i64 3, .int .i64 0, .int .i64 0, .int .i64 0, .int .i64 0, .bool false, .int .i64 0]) (wzd.heap.size + 1) #[.int .i64 5, .int .i64 3, .int .i64 0, .int .i64 0, .int .i64 0, .int .i64 0, .bool false, .int .i64 0] 52) := ⟨g2, pcd, ptd⟩
  clear g1 g2 pcd ptd pt0
  go_upto_region 13 with (first | refine wpList_store_row rfl 30 _ _ rfl wzd.heap.size Ad rfl rfl 30 (cpA zc) pc0 ls lo aod ?_ | refine wpList_store_row rfl 52 _ _ rfl (wzd.heap.size + 1) #[.int .i64 5, .int .i64 3, .int .i64 0, .int .i64 0, .int .i64 0, .int .i64 0, .bool false, .int .i64 0] rfl rfl 52 #[.int .i64 0, .int .i64 0, .int .i64 0, .int .i64 0, .int .i64 0, .int .i64 0, .bool false, .int .i64 0] pt1 size_trap rfl (by simp [Value.oneCell']) ?_)
  clear pc0 pt1 ls lo
  obtain ⟨g2, pcd, ptd⟩ := GG.out
  clear GG
  replace ra := ra.keep g2 (fun h => h)
  replace rb := rb.keep g2 (fun h => h)
  replace rc := rc.keep g2 (fun h => h)
  replace rd := rd.keep g2 (fun h => h)
  replace pca := pca.keep g2 (fun h => h)
  replace pta := pta.keep g2 (fun h => h)
  replace pcb := pcb.keep g2 (fun h => h)
  replace ptb := ptb.keep g2 (fun h => h)
  replace pcc := pcc.keep g2 (fun h => h)
  replace ptc := ptc.keep g2 (fun h => h)
  replace f0 := f0.trans g2
  clear g2
  obtain ⟨td, ht⟩ : ∃ u, u = ((((wzd.alloc (.cells (cpA zc) 30)).alloc (.cells #[.int .i64 0, .int .i64 0, .int .i64 0, .int .i64 0, .int .i64 0, .int .i64 0, .bool false, .int .i64 0] 52)).setRow wzd.heap.size Ad).setRow (wzd.heap.size + 1) #[.int .i64 5, .int .i64 3, .int .i64 0, .int .i64 0, .int .i64 0, .int .i64 0, .bool false, .int .i64 0]) := ⟨_, rfl⟩
  rw [← ht] at f0 pcd ptd ra rb rc rd pca pta pcb ptb pcc ptc  ⊢
  clear ht
  obtain ⟨hcd, hh1⟩ : ∃ q, q = wzd.heap.size := ⟨_, rfl⟩
  obtain ⟨htd, hh2⟩ : ∃ q, q = wzd.heap.size + 1 := ⟨_, rfl⟩
  rw [← hh2] at ptd ⊢
  rw [← hh1] at pcd lz ⊢
  have Pcd : Hid (gd < hcd) := lz
  have Ptd : Hid (gd < htd) := (show gd < htd by omega)
  clear hh1 hh2 lz
  have w1 := (pca.cell 1).trans AFa.out.1
  have w2 := (pca.cell 16).trans AFa.out.2
  have w3 := (pcb.cell 2).trans AFb.out.1
  clear pca pcb pcc pcd AFa AFb AFc AFd ra rb rc rd
  obtain ⟨ma0, ma1, ma2, ma3, ma4, ma5, ma6, ma7⟩ := cells8 pta
  obtain ⟨mb0, mb1, mb2, mb3, mb4, mb5, mb6, mb7⟩ := cells8 ptb
  obtain ⟨mc0, mc1, mc2, mc3, mc4, mc5, mc6, mc7⟩ := cells8 ptc
  obtain ⟨md0, md1, md2, md3, md4, md5, md6, md7⟩ := cells8 ptd
  go_wp2_with fail
  go_ret
  exact ⟨rfl, f0⟩

end Go.Proofs.YtgnoakidjnilpaaGreat

/- CpuExPure -/
namespace Go.Proofs.YtgnoakidjnilpaaGreat
open Go.RowKit

theorem ex_fetch (W : Nat) : nested (exB W) 16 (-1) 3 0 4 = ⟨1, 5, f0⟩ := by kernel_rfl
theorem ex_bytes (W : Nat) : ((exB W).drop 64).take 4 = bytesOf 4 W := by kernel_rfl
theorem ex_word (W : Nat) (hW : W < 4294967296) : loadV (exB W) 64 4 16 = (W : Int) := by
  have h : errOf 64 4 16 = 0 := by decide
  unfold loadV
  rw [if_pos h]
  show ((numOf (((exB W).drop 64).take 4) : Nat) : Int) = _
  rw [ex_bytes, numOf_bytesOf, Nat.mod_eq_of_lt (by simpa using hW)]

theorem ex_idx (page : Int) : idx (fun _ => zl) 1 0 page 8 = -1 := idx_none (fun j _ => by unfold hit; simp [zl, emp, leq])

def exM (W : Nat) (g : Bool) : Mc := rcM (M0 (exB W) g) 16 1 0 (-1) 3 0 4 0
def exX (W : Nat) (c : Cp) : Wk := ⟨0, 0, none, 1, 0, -1, 3, 0, 0, W, (dOp (W : Int)).toNat, (dA (W : Int)).toNat, (dB (W : Int)).toNat, (dC (W : Int)).toNat, (dI (W : Int)).toNat, c.setP 4⟩

theorem ex_reach (W : Nat) (g : Bool) : rcF (M0 (exB W) g) 16 1 0 (-1) 3 0 4 = f0 ∧ rcP (M0 (exB W) g) 16 1 0 (-1) 3 0 4 = 64 := by
  have hi : hitR (M0 (exB W) g).T 1 0 0 4 = false := by
    show hitR (fun _ => zl) 1 0 0 4 = false
    unfold hitR
    rw [ex_idx]
    rfl
  have hx : reachX (M0 (exB W) g).bs 16 (M0 (exB W) g).T 1 0 (-1) 3 0 4 = f0 := by
    unfold reachX
    rw [if_neg (by rw [hi]; decide)]
    show (nested (exB W) 16 (-1) 3 0 4).ft = f0
    rw [ex_fetch]
  have hf : reachF (M0 (exB W) g).bs 16 (M0 (exB W) g).T 1 0 (-1) 3 0 4 = 1 := by
    unfold reachF
    rw [if_neg (by rw [hi]; decide)]
    show (nested (exB W) 16 (-1) 3 0 4).fr = 1
    rw [ex_fetch]
  have h1 : rcF (M0 (exB W) g) 16 1 0 (-1) 3 0 4 = f0 := by
    unfold rcF
    show (if (reachX (M0 (exB W) g).bs 16 (M0 (exB W) g).T 1 0 (-1) 3 0 4).k ≠ 0 then _ else if ((16 : Nat) : Int) ≤ reachF (M0 (exB W) g).bs 16 (M0 (exB W) g).T 1 0 (-1) 3 0 4 then _ else f0) = f0
    rw [hx, hf]
    rfl
  refine ⟨h1, ?_⟩
  unfold rcP
  rw [h1]
  show (if f0.k ≠ 0 then 0 else reachF (M0 (exB W) g).bs 16 (M0 (exB W) g).T 1 0 (-1) 3 0 4 * 64 + 0 % 64) = 64
  rw [hf]
  rfl

theorem ex_step (W : Nat) (hW : W < 4294967296) (hd : i_decOk (W : Int) = true) (g : Bool) (c : Cp) (hp : c.pc = 0) (hf : spF g c = -1) (ha : spA g c = 0) (hg : isG (exX W c).op = false ∨ g = true) :
    stepR 16 (M0 (exB W) g) c 1 3 0 = ((exec 16 (exM W g) (exX W c)).1, stC c (exec 16 (exM W g) (exX W c)), (exec 16 (exM W g) (exX W c)).2.2) := by
  have hb : ¬ c.bad := by unfold Cp.bad; rw [hp]; decide
  have hv : (M0 (exB W) g).V.isSome = g := by cases g <;> rfl
  have hw : wkP g c 1 3 0 = ⟨0, 0, none, 1, 0, -1, 3, 0, 0, 0, 0, 0, 0, 0, 0, c.setP 4⟩ := by unfold wkP; rw [hf, ha, hp]; rfl
  have hfx : fX 16 (M0 (exB W) g) (wkP g c 1 3 0) = ⟨0, 0, none, 1, 0, -1, 3, 0, 0, W, 0, 0, 0, 0, 0, c.setP 4⟩ := by
    rw [hw]
    unfold fX
    show ({ p := 0, t := 0, v := none, vm := 1, sd := 0, fi := -1, se := 3, ix := 0, pc := 0, wd := (loadV (exB W) (rcP (M0 (exB W) g) 16 1 0 (-1) 3 0 4) 4 16).toNat, op := 0, a := 0, b := 0, c := 0, imm := 0, z := c.setP 4 } : Wk) = _
    rw [(ex_reach W g).2, ex_word W hW, Int.toNat_natCast]
  have hD : doR 16 (M0 (exB W) g) (wkP g c 1 3 0) = exec 16 (exM W g) (exX W c) := by
    unfold doR
    rw [hfx, hw]
    show (if (rcF (M0 (exB W) g) 16 1 0 (-1) 3 0 4).k ≠ 0 then _ else if i_decOk (W : Int) = false then _ else if isG (exX W c).op = true ∧ (M0 (exB W) g).V = none then _ else exec 16 (exM W g) (exX W c)) = _
    rw [(ex_reach W g).1, if_neg (by decide), if_neg (by rw [hd]; decide), if_neg ?_]
    rintro ⟨h1, h2⟩
    rcases hg with hg | hg
    · rw [hg] at h1; exact absurd h1 (by decide)
    · subst hg; exact absurd h2 (by intro h; cases h)
  unfold stepR
  rw [if_neg hb, hv, hD]

def ceq (c d : Cp) : Bool := (List.range 16).all (fun i => ((c.r i : Nat) : Int) == ((d.r i : Nat) : Int)) && (c.pc == d.pc && (List.range 8).all (fun i => ((c.s i : Nat) : Int) == ((d.s i : Nat) : Int)))
theorem ceq_self (c : Cp) : ceq c c = true := by simp [ceq]

theorem part_u32 {xs : Array Value} {i : Nat} {x : Int} (h : xs[i]? = some (.int .u32 x)) (w : World) : (part 26 xs i).run Tryz.prog w = .ok (.int .u32 x) w := by
  simp [part, isAgg, run_underlying Tryz.underlying26, h]

theorem eqItems_u32 (d : Nat) (xs ys : Array Value) (f g : Nat → Int) (w : World) : ∀ is : List Nat, (∀ i ∈ is, xs[i]? = some (.int .u32 (f i)) ∧ ys[i]? = some (.int .u32 (g i))) → (Op.eqItems (d + 1) 26 1 xs ys is).run Tryz.prog w = .ok (is.all (fun i => f i == g i)) w
  | [], _ => by simp [Op.eqItems]
  | i :: is, h => by
    have h1 := h i (by simp)
    have ih := eqItems_u32 d xs ys f g w is (fun j hj => h j (by simp [hj]))
    have p1 := part_u32 (i := i * 1) (by rw [Nat.mul_one]; exact h1.1) w
    have p2 := part_u32 (i := i * 1) (by rw [Nat.mul_one]; exact h1.2) w
    simp only [Op.eqItems, Sem.run_bind, p1, p2, Result.andThen_ok, run_equalIn_int w d 26 .u32 .u32 (f i) (g i) Tryz.underlying26]
    cases hh : (f i == g i) with
    | false => simp [hh]
    | true => simp [hh, ih]

theorem cells_u32 : Tryz.prog.cellsOf 26 = 1 := by kernel_rfl
theorem info_u32 : ∃ i, Tryz.prog.info? 26 = some i := by
  have h : (Tryz.prog.info? 26).isSome = true := by kernel_rfl
  exact Option.isSome_iff_exists.1 h

theorem eq_regs (c d : Cp) (w : World) : (Op.equalIn 9999 27 (.agg #[.int .u32 ((c.r 0 : Nat) : Int), .int .u32 ((c.r 1 : Nat) : Int), .int .u32 ((c.r 2 : Nat) : Int), .int .u32 ((c.r 3 : Nat) : Int), .int .u32 ((c.r 4 : Nat) : Int), .int .u32 ((c.r 5 : Nat) : Int), .int .u32 ((c.r 6 : Nat) : Int), .int .u32 ((c.r 7 : Nat) : Int), .int .u32 ((c.r 8 : Nat) : Int), .int .u32 ((c.r 9 : Nat) : Int), .int .u32 ((c.r 10 : Nat) : Int), .int .u32 ((c.r 11 : Nat) : Int), .int .u32 ((c.r 12 : Nat) : Int), .int .u32 ((c.r 13 : Nat) : Int), .int .u32 ((c.r 14 : Nat) : Int), .int .u32 ((c.r 15 : Nat) : Int)]) (.agg #[.int .u32 ((d.r 0 : Nat) : Int), .int .u32 ((d.r 1 : Nat) : Int), .int .u32 ((d.r 2 : Nat) : Int), .int .u32 ((d.r 3 : Nat) : Int), .int .u32 ((d.r 4 : Nat) : Int), .int .u32 ((d.r 5 : Nat) : Int), .int .u32 ((d.r 6 : Nat) : Int), .int .u32 ((d.r 7 : Nat) : Int), .int .u32 ((d.r 8 : Nat) : Int), .int .u32 ((d.r 9 : Nat) : Int), .int .u32 ((d.r 10 : Nat) : Int), .int .u32 ((d.r 11 : Nat) : Int), .int .u32 ((d.r 12 : Nat) : Int), .int .u32 ((d.r 13 : Nat) : Int), .int .u32 ((d.r 14 : Nat) : Int), .int .u32 ((d.r 15 : Nat) : Int)])).run Tryz.prog w = .ok ((List.range 16).all (fun i => ((c.r i : Nat) : Int) == ((d.r i : Nat) : Int))) w := by
  obtain ⟨i, hi⟩ := info_u32
  rw [show (9999 : Nat) = 9998 + 1 by rfl, run_equalIn_array w 9998 _ _ Tryz.underlying27 hi, cells_u32]
  refine eqItems_u32 9997 _ _ (fun i => ((c.r i : Nat) : Int)) (fun i => ((d.r i : Nat) : Int)) w _ (fun j hj => ?_)
  have hj' : j < 16 := List.mem_range.1 hj
  have : j = 0 ∨ j = 1 ∨ j = 2 ∨ j = 3 ∨ j = 4 ∨ j = 5 ∨ j = 6 ∨ j = 7 ∨ j = 8 ∨ j = 9 ∨ j = 10 ∨ j = 11 ∨ j = 12 ∨ j = 13 ∨ j = 14 ∨ j = 15 := by omega
  rcases this with rfl | rfl | rfl | rfl | rfl | rfl | rfl | rfl | rfl | rfl | rfl | rfl | rfl | rfl | rfl | rfl <;> exact ⟨rfl, rfl⟩
theorem eq_syss (c d : Cp) (w : World) : (Op.equalIn 9999 28 (.agg #[.int .u32 ((c.s 0 : Nat) : Int), .int .u32 ((c.s 1 : Nat) : Int), .int .u32 ((c.s 2 : Nat) : Int), .int .u32 ((c.s 3 : Nat) : Int), .int .u32 ((c.s 4 : Nat) : Int), .int .u32 ((c.s 5 : Nat) : Int), .int .u32 ((c.s 6 : Nat) : Int), .int .u32 ((c.s 7 : Nat) : Int)]) (.agg #[.int .u32 ((d.s 0 : Nat) : Int), .int .u32 ((d.s 1 : Nat) : Int), .int .u32 ((d.s 2 : Nat) : Int), .int .u32 ((d.s 3 : Nat) : Int), .int .u32 ((d.s 4 : Nat) : Int), .int .u32 ((d.s 5 : Nat) : Int), .int .u32 ((d.s 6 : Nat) : Int), .int .u32 ((d.s 7 : Nat) : Int)])).run Tryz.prog w = .ok ((List.range 8).all (fun i => ((c.s i : Nat) : Int) == ((d.s i : Nat) : Int))) w := by
  obtain ⟨i, hi⟩ := info_u32
  rw [show (9999 : Nat) = 9998 + 1 by rfl, run_equalIn_array w 9998 _ _ Tryz.underlying28 hi, cells_u32]
  refine eqItems_u32 9997 _ _ (fun i => ((c.s i : Nat) : Int)) (fun i => ((d.s i : Nat) : Int)) w _ (fun j hj => ?_)
  have hj' : j < 8 := List.mem_range.1 hj
  have : j = 0 ∨ j = 1 ∨ j = 2 ∨ j = 3 ∨ j = 4 ∨ j = 5 ∨ j = 6 ∨ j = 7 := by omega
  rcases this with rfl | rfl | rfl | rfl | rfl | rfl | rfl | rfl <;> exact ⟨rfl, rfl⟩

set_option maxHeartbeats 2000000 in
theorem neq_cpu (c d : Cp) (w : World) : (binOp .neq 30 (.agg (cpA c)) (.agg (cpA d))).run Tryz.prog w = .ok (.bool !(ceq c d)) w := by
  have h1 := eq_regs c d
  have h2 := eq_syss c d
  unfold ceq
  obtain ⟨x, hx⟩ : ∃ x, (List.range 16).all (fun i => ((c.r i : Nat) : Int) == ((d.r i : Nat) : Int)) = x := ⟨_, rfl⟩
  obtain ⟨y, hy⟩ : ∃ y, (List.range 8).all (fun i => ((c.s i : Nat) : Int) == ((d.s i : Nat) : Int)) = y := ⟨_, rfl⟩
  rw [hx] at h1 ⊢
  rw [hy] at h2 ⊢
  rw [cpA_eq, cpA_eq]
  clear hx hy
  cases x <;> cases y <;> cases hp : (c.pc == d.pc) <;> simp [go_sem, h1, h2, hp]
set_option maxHeartbeats 2000000 in
theorem eql_cpu (c d : Cp) (w : World) : (binOp .eql 30 (.agg (cpA c)) (.agg (cpA d))).run Tryz.prog w = .ok (.bool (ceq c d)) w := by
  have h1 := eq_regs c d
  have h2 := eq_syss c d
  unfold ceq
  obtain ⟨x, hx⟩ : ∃ x, (List.range 16).all (fun i => ((c.r i : Nat) : Int) == ((d.r i : Nat) : Int)) = x := ⟨_, rfl⟩
  obtain ⟨y, hy⟩ : ∃ y, (List.range 8).all (fun i => ((c.s i : Nat) : Int) == ((d.s i : Nat) : Int)) = y := ⟨_, rfl⟩
  rw [hx] at h1 ⊢
  rw [hy] at h2 ⊢
  rw [cpA_eq, cpA_eq]
  clear hx hy
  cases x <;> cases y <;> cases hp : (c.pc == d.pc) <;> simp [go_sem, h1, h2, hp]

end Go.Proofs.YtgnoakidjnilpaaGreat

/- CpuSysP -/
namespace Go.Proofs.YtgnoakidjnilpaaGreat
open Go.RowKit

def cin (w : Nat) : Cp := (zc.setR 2 w).setS 6 77
theorem cin_ok {w : Nat} (h : w < 4294967296) : (cin w).Ok := (zc_ok.setR 2 h).setS 6 (by decide)
def W1 (n : Nat) : Nat := 335675392 + n
def W2 (n : Nat) : Nat := 321912832 + n
theorem enc1 {n : Nat} (h : n < 65536) : i_encW 20 0 2 0 (n : Int) = (W1 n : Int) := by
  have hr : rightI 20 0 2 0 (n : Int) = true := by
    simp [rightI, kf, hA, hB, hC, hI, fld]
    omega
  unfold i_encW
  rw [if_pos hr]
  unfold wordI W1
  omega
theorem enc2 {n : Nat} (h : n < 65536) : i_encW 19 3 0 0 (n : Int) = (W2 n : Int) := by
  have hr : rightI 19 3 0 0 (n : Int) = true := by
    simp [rightI, kf, hA, hB, hC, hI, fld]
    omega
  unfold i_encW
  rw [if_pos hr]
  unfold wordI W2
  omega

theorem dec1 {n : Nat} (h : n < 65536) : i_decOk (W1 n : Int) = true ∧ dOp (W1 n : Int) = 20 ∧ dA (W1 n : Int) = 0 ∧ dB (W1 n : Int) = 2 ∧ dC (W1 n : Int) = 0 ∧ dI (W1 n : Int) = n := by
  have hr : rightI 20 0 2 0 (n : Int) = true := by
    simp [rightI, kf, hA, hB, hC, hI, fld]
    omega
  have hw : (W1 n : Int) = wordI 20 0 2 0 (n : Int) := by unfold W1 wordI; omega
  obtain ⟨h1, h2, h3, h4, h5, h6⟩ := i_dec_back hr
  rw [hw]
  refine ⟨?_, h1, h2, h3, h4, h5⟩
  cases hd : i_decOk (wordI 20 0 2 0 (n : Int)) with
  | true => rfl
  | false => unfold dE at h6; rw [if_neg (by rw [hd]; decide)] at h6; exact absurd h6 (by decide)
theorem dec2 {n : Nat} (h : n < 65536) : i_decOk (W2 n : Int) = true ∧ dOp (W2 n : Int) = 19 ∧ dA (W2 n : Int) = 3 ∧ dB (W2 n : Int) = 0 ∧ dC (W2 n : Int) = 0 ∧ dI (W2 n : Int) = n := by
  have hr : rightI 19 3 0 0 (n : Int) = true := by
    simp [rightI, kf, hA, hB, hC, hI, fld]
    omega
  have hw : (W2 n : Int) = wordI 19 3 0 0 (n : Int) := by unfold W2 wordI; omega
  obtain ⟨h1, h2, h3, h4, h5, h6⟩ := i_dec_back hr
  rw [hw]
  refine ⟨?_, h1, h2, h3, h4, h5⟩
  cases hd : i_decOk (wordI 19 3 0 0 (n : Int)) with
  | true => rfl
  | false => unfold dE at h6; rw [if_neg (by rw [hd]; decide)] at h6; exact absurd h6 (by decide)

theorem exX1 {n : Nat} (h : n < 65536) (c : Cp) : exX (W1 n) c = ⟨0, 0, none, 1, 0, -1, 3, 0, 0, W1 n, 20, 0, 2, 0, n, c.setP 4⟩ := by
  obtain ⟨_, h1, h2, h3, h4, h5⟩ := dec1 h
  unfold exX
  rw [h1, h2, h3, h4, h5, Int.toNat_natCast]
  rfl
theorem exX2 {n : Nat} (h : n < 65536) (c : Cp) : exX (W2 n) c = ⟨0, 0, none, 1, 0, -1, 3, 0, 0, W2 n, 19, 3, 0, 0, n, c.setP 4⟩ := by
  obtain ⟨_, h1, h2, h3, h4, h5⟩ := dec2 h
  unfold exX
  rw [h1, h2, h3, h4, h5, Int.toNat_natCast]
  rfl

theorem sp_low {c : Cp} (h : c.s 0 = 0) : spF true c = -1 ∧ spA true c = 0 := by
  unfold spF spA
  rw [h]
  exact ⟨rfl, rfl⟩

theorem sys1_hi {n w : Nat} (h : n < 65536) (hn : 5 < n) : (stepR 16 (M0 (exB (W1 n)) true) (cin w) 1 3 0).2.1 = cin w ∧ (stepR 16 (M0 (exB (W1 n)) true) (cin w) 1 3 0).2.2 = ⟨7, n, 0, f0⟩ := by
  rw [ex_step (W1 n) (by unfold W1; omega) (dec1 h).1 true (cin w) rfl (sp_low rfl).1 (sp_low rfl).2 (Or.inr rfl), exX1 h]
  have e : exec 16 (exM (W1 n) true) ⟨0, 0, none, 1, 0, -1, 3, 0, 0, W1 n, 20, 0, 2, 0, n, (cin w).setP 4⟩ = (wrM (exM (W1 n) true) (exM (W1 n) true).S ⟨0, 0, none, 1, 0, -1, 3, 0, 0, W1 n, 20, 0, 2, 0, n, (cin w).setP 4⟩, wrX ⟨0, 0, none, 1, 0, -1, 3, 0, 0, W1 n, 20, 0, 2, 0, n, (cin w).setP 4⟩, wrT ⟨0, 0, none, 1, 0, -1, 3, 0, 0, W1 n, 20, 0, 2, 0, n, (cin w).setP 4⟩) := rfl
  have ht : wrT ⟨0, 0, none, 1, 0, -1, 3, 0, 0, W1 n, 20, 0, 2, 0, n, (cin w).setP 4⟩ = ⟨7, n, 0, f0⟩ := if_pos (show (5 : Int) < (n : Int) by omega)
  rw [e]
  refine ⟨?_, ht⟩
  show (if (wrT ⟨0, 0, none, 1, 0, -1, 3, 0, 0, W1 n, 20, 0, 2, 0, n, (cin w).setP 4⟩).ca = 0 ∨ (wrT ⟨0, 0, none, 1, 0, -1, 3, 0, 0, W1 n, 20, 0, 2, 0, n, (cin w).setP 4⟩).ca = 10 then _ else cin w) = cin w
  rw [ht]
  rfl
theorem sys1_lo {n w : Nat} (h : n ≤ 5) : (stepR 16 (M0 (exB (W1 n)) true) (cin w) 1 3 0).2.1 = ((cin w).setP 4).setS n w ∧ (stepR 16 (M0 (exB (W1 n)) true) (cin w) 1 3 0).2.2 = t0 := by
  rw [ex_step (W1 n) (by unfold W1; omega) (dec1 (by omega)).1 true (cin w) rfl (sp_low rfl).1 (sp_low rfl).2 (Or.inr rfl), exX1 (by omega)]
  have e : exec 16 (exM (W1 n) true) ⟨0, 0, none, 1, 0, -1, 3, 0, 0, W1 n, 20, 0, 2, 0, n, (cin w).setP 4⟩ = (wrM (exM (W1 n) true) (exM (W1 n) true).S ⟨0, 0, none, 1, 0, -1, 3, 0, 0, W1 n, 20, 0, 2, 0, n, (cin w).setP 4⟩, wrX ⟨0, 0, none, 1, 0, -1, 3, 0, 0, W1 n, 20, 0, 2, 0, n, (cin w).setP 4⟩, wrT ⟨0, 0, none, 1, 0, -1, 3, 0, 0, W1 n, 20, 0, 2, 0, n, (cin w).setP 4⟩) := rfl
  have ht : wrT ⟨0, 0, none, 1, 0, -1, 3, 0, 0, W1 n, 20, 0, 2, 0, n, (cin w).setP 4⟩ = t0 := if_neg (show ¬ (5 : Int) < (n : Int) by omega)
  have hx : wrX ⟨0, 0, none, 1, 0, -1, 3, 0, 0, W1 n, 20, 0, 2, 0, n, (cin w).setP 4⟩ = ⟨0, 0, none, 1, 0, -1, 3, 0, 0, W1 n, 20, 0, 2, 0, n, ((cin w).setP 4).setS n w⟩ := if_neg (show ¬ (5 : Int) < (n : Int) by omega)
  rw [e]
  refine ⟨?_, ht⟩
  show (if (wrT ⟨0, 0, none, 1, 0, -1, 3, 0, 0, W1 n, 20, 0, 2, 0, n, (cin w).setP 4⟩).ca = 0 ∨ (wrT ⟨0, 0, none, 1, 0, -1, 3, 0, 0, W1 n, 20, 0, 2, 0, n, (cin w).setP 4⟩).ca = 10 then (wrX ⟨0, 0, none, 1, 0, -1, 3, 0, 0, W1 n, 20, 0, 2, 0, n, (cin w).setP 4⟩).z else cin w) = _
  rw [ht, hx]
  rfl
theorem sys2_hi {n : Nat} (h : n < 65536) (hn : 6 < n) (c : Cp) (hp : c.pc = 0) (hs : c.s 0 = 0) : (stepR 16 (M0 (exB (W2 n)) true) c 1 3 0).2.1 = c ∧ (stepR 16 (M0 (exB (W2 n)) true) c 1 3 0).2.2 = ⟨7, n, 0, f0⟩ := by
  rw [ex_step (W2 n) (by unfold W2; omega) (dec2 h).1 true c hp (sp_low hs).1 (sp_low hs).2 (Or.inr rfl), exX2 h]
  have e : exec 16 (exM (W2 n) true) ⟨0, 0, none, 1, 0, -1, 3, 0, 0, W2 n, 19, 3, 0, 0, n, c.setP 4⟩ = (exM (W2 n) true, rdX ⟨0, 0, none, 1, 0, -1, 3, 0, 0, W2 n, 19, 3, 0, 0, n, c.setP 4⟩, rdT ⟨0, 0, none, 1, 0, -1, 3, 0, 0, W2 n, 19, 3, 0, 0, n, c.setP 4⟩) := rfl
  have ht : rdT ⟨0, 0, none, 1, 0, -1, 3, 0, 0, W2 n, 19, 3, 0, 0, n, c.setP 4⟩ = ⟨7, n, 0, f0⟩ := if_pos (show (6 : Int) < (n : Int) by omega)
  rw [e]
  refine ⟨?_, ht⟩
  show (if (rdT ⟨0, 0, none, 1, 0, -1, 3, 0, 0, W2 n, 19, 3, 0, 0, n, c.setP 4⟩).ca = 0 ∨ (rdT ⟨0, 0, none, 1, 0, -1, 3, 0, 0, W2 n, 19, 3, 0, 0, n, c.setP 4⟩).ca = 10 then _ else c) = c
  rw [ht]
  rfl
theorem sys2_lo {n : Nat} (h : n ≤ 6) (c : Cp) (hp : c.pc = 0) (hs : c.s 0 = 0) : (stepR 16 (M0 (exB (W2 n)) true) c 1 3 0).2.1 = (c.setP 4).setR 3 (c.s n) ∧ (stepR 16 (M0 (exB (W2 n)) true) c 1 3 0).2.2 = t0 := by
  rw [ex_step (W2 n) (by unfold W2; omega) (dec2 (by omega)).1 true c hp (sp_low hs).1 (sp_low hs).2 (Or.inr rfl), exX2 (by omega)]
  have e : exec 16 (exM (W2 n) true) ⟨0, 0, none, 1, 0, -1, 3, 0, 0, W2 n, 19, 3, 0, 0, n, c.setP 4⟩ = (exM (W2 n) true, rdX ⟨0, 0, none, 1, 0, -1, 3, 0, 0, W2 n, 19, 3, 0, 0, n, c.setP 4⟩, rdT ⟨0, 0, none, 1, 0, -1, 3, 0, 0, W2 n, 19, 3, 0, 0, n, c.setP 4⟩) := rfl
  have ht : rdT ⟨0, 0, none, 1, 0, -1, 3, 0, 0, W2 n, 19, 3, 0, 0, n, c.setP 4⟩ = t0 := if_neg (show ¬ (6 : Int) < (n : Int) by omega)
  have hx : rdX ⟨0, 0, none, 1, 0, -1, 3, 0, 0, W2 n, 19, 3, 0, 0, n, c.setP 4⟩ = ⟨0, 0, none, 1, 0, -1, 3, 0, 0, W2 n, 19, 3, 0, 0, n, (c.setP 4).setR 3 (c.s n)⟩ := if_neg (show ¬ (6 : Int) < (n : Int) by omega)
  rw [e]
  refine ⟨?_, ht⟩
  show (if (rdT ⟨0, 0, none, 1, 0, -1, 3, 0, 0, W2 n, 19, 3, 0, 0, n, c.setP 4⟩).ca = 0 ∨ (rdT ⟨0, 0, none, 1, 0, -1, 3, 0, 0, W2 n, 19, 3, 0, 0, n, c.setP 4⟩).ca = 10 then (rdX ⟨0, 0, none, 1, 0, -1, 3, 0, 0, W2 n, 19, 3, 0, 0, n, c.setP 4⟩).z else c) = _
  rw [ht, hx]
  rfl

end Go.Proofs.YtgnoakidjnilpaaGreat

/- CpuSystemA -/
namespace Go.Proofs.YtgnoakidjnilpaaGreat
open Go.RowKit

theorem exSt (w : World) (B : Bm) (b : Bk) (bs : List UInt8) (c c' : Cp) (t : Tr) (T : Array Value) (hv : B.v = some b) (hok : c.Ok) (hM : IsMc w B 16 (M0 bs true)) (hc : (stepR 16 (M0 bs true) c 1 3 0).2.1 = c' ∧ (stepR 16 (M0 bs true) c 1 3 0).2.2 = t) (hT : trL t = T) :
    Calls Tryz.prog 9 #[.agg #[.pointer (some ⟨B.p, 0, none⟩), .pointer (some ⟨B.bt, 0, none⟩), .pointer (some ⟨b.b, 0, none⟩)], .agg (cpA c), .int .i64 1, .int .i64 3, .int .i64 0] w fun e w' => e = .returned (.tuple #[.agg (cpA c'), .agg T]) ∧ Fr B.s w w' := by
  have h := Step_any w B 16 (M0 bs true) c hok 1 3 0 hM (M0_few bs true) (by decide)
  rw [hv, hc.1, hc.2, hT] at h
  exact h.mono (fun e w' ⟨a, f, _, o⟩ => ⟨a, f⟩)

theorem isMc_at {w w' : World} {B : Bm} {g : Nat} {nf : Nat} {M : Mc} (h : IsMc w B nf M) (f : Fr (at' g) w w') (h1 : ∀ k, (B.s k ∨ k = B.p) → k ≠ g) : IsMc w' B nf M :=
  h.keep f (h1 _ (Or.inr rfl)) (h1 _ (Or.inl (Or.inl rfl))) (h1 _ (Or.inl (Or.inr (Or.inl rfl)))) (fun k hk => h1 k (Or.inl (Or.inr (Or.inr hk))))

theorem load_partG {P : Program} {ops : Array Oper} {rest : List Oper} {o : Oper} {a : Act} {w : World} {Q : Exit → Act → World → Prop} (hgd : Region.wanted o (yielded ops a.tmps) = true) (ty : TypeId) (x : Operand) (ho : o.op = .load ty x)
    (g : Nat) (hx : a.eval x = .pointer (some ⟨g, 0, none⟩)) (cs : Array Value) (d : TypeDesc) (hc : ∀ j v, cs[j]? = some v → w.cell? ⟨g, j, none⟩ = some v)
    (hu : P.underlying ty = some d) (hd : (match d with | .struct _ | .array _ _ => true | _ => false) = true) (hi : (P.info? ty).map (·.size) = some cs.size)
    (h : wpList P ops Q rest (a.put o.dst (.agg cs)) w) : wpList P ops Q (o :: rest) a w := by
  refine BigFrame.wpList_want hgd fun K hK => ?_
  have hl : (loadCells ⟨g, 0, none⟩ cs.toList.length).run P w = .ok cs.toList.toArray w :=
    run_loadCells_list (P := P) w ⟨g, 0, none⟩ cs.toList (fun j v hv => by
      rw [add_lit', Nat.zero_add]
      exact hc j v (by simpa using hv))
  have hv : (loadVar ty ⟨g, 0, none⟩).run P w = .ok (.agg cs) w := by
    cases hq : P.info? ty with
    | none => simp [hq] at hi
    | some i =>
      have hs : i.size = cs.size := by simpa [hq] using hi
      have hagg : (isAgg ty).run P w = .ok true w := by
        unfold isAgg
        rw [Sem.run_bind, run_underlying hu w]
        cases d <;> simp_all
      simp only [Array.length_toList, Array.toArray_toList] at hl
      simp [loadVar, Sem.run_bind, hagg, sizeOf, typeInfo, hq, hs, hl]
  unfold Oper.wp execOp
  simp only [ho, hx, Instr.loadAt, Instr.sureAddr, Sem.run_bind, Sem.run_pure, Result.andThen_ok, hv]
  exact hK _ _ h

theorem cpA_setP (c : Cp) (x : Int) : (cpA c).setIfInBounds 16 (.int .i64 x) = cpA (c.setP x) := rfl
theorem cpA_set0 (c : Cp) : (cpA c).setIfInBounds 17 (.int .u32 0) = cpA (c.setS 0 0) := rfl
theorem cinA (x : Nat) : ((#[.int .u32 0, .int .u32 0, .int .u32 0, .int .u32 0, .int .u32 0, .int .u32 0, .int .u32 0, .int .u32 0, .int .u32 0, .int .u32 0, .int .u32 0, .int .u32 0, .int .u32 0, .int .u32 0, .int .u32 0, .int .u32 0, .int .i64 0, .int .u32 0, .int .u32 0, .int .u32 0, .int .u32 0, .int .u32 0, .int .u32 0, .int .u32 0, .int .u32 0] : Array Value).setIfInBounds 2 (.int .u32 (x : Int))).setIfInBounds 23 (.int .u32 77) = cpA (cin x) := rfl
theorem cp_at {w : World} {g : Nat} {c : Cp} {t : TypeId} (h : Row w g (cpA c) t) : ∀ j v, (cpA c)[j]? = some v → w.cell? ⟨g, j, none⟩ = some v := fun j _ hv => (h.cell j).trans hv

end Go.Proofs.YtgnoakidjnilpaaGreat

/- CpuRun -/
namespace Go.Proofs.YtgnoakidjnilpaaGreat
open Go.RowKit

theorem ret_ctk {fn : Func} {p q u : Tmp} {tmps : Array Value} {g g' : Nat} {A cs : Array Value} {w : World} (h : fn.results = #[.cell p 30, .cell q 52, .tmp u]) (hp : tmps.getD p undef = .pointer (some ⟨g, 0, none⟩)) (hq : tmps.getD q undef = .pointer (some ⟨g', 0, none⟩)) (hr : Row w g A 30) (hs : A.size = 25) (hr' : Row w g' cs 52) (hs' : cs.size = 8) :
    (results fn tmps).run Tryz.prog w = .ok (.tuple #[.agg A, .agg cs, tmps.getD u undef]) w := by
  have hl : (loadVar 30 ⟨g, 0, none⟩).run Tryz.prog w = .ok (.agg A) w := by
    have := run_loadVar_mid (P := Tryz.prog) w g 0 30 A.toList _ (fun j v hv => by rw [Nat.zero_add, hr.cell]; simpa using hv) Tryz.underlying30 rfl (by rw [Array.length_toList, hs]; exact size_cpu)
    simpa using this
  have hl' := load_trap hr' hs'
  have hp' : tmps[p]?.getD undef = .pointer (some ⟨g, 0, none⟩) := by simpa using hp
  have hq' : tmps[q]?.getD undef = .pointer (some ⟨g', 0, none⟩) := by simpa using hq
  simp only [results, h]
  simp [Result.andThen, hp', hq', asAddr, hl, hl']

theorem wrap_up {k : Nat} (h : k ≤ 1000) : wrap64 ((k : Int) + 1) = ((k + 1 : Nat) : Int) := by unfold wrap64; omega

structure Rn (w wr : World) (B : Bm) (nf N gM gA gZ gT : Nat) (M : Mc) (c : Cp) (vm se : Int) (k : Nat) : Prop where
  f : Fr B.s w wr
  rM : Row wr gM #[.pointer (some ⟨B.p, 0, none⟩), .pointer (some ⟨B.bt, 0, none⟩), ptrV (B.v.map Bk.b)] 37
  rA : Row wr gA (cpA (seqR nf M c vm se k).2) 30
  rZ : Row wr gZ (cpA zc) 30
  rT : Row wr gT #[.int .i64 0, .int .i64 0, .int .i64 0, .int .i64 0, .int .i64 0, .int .i64 0, .bool false, .int .i64 0] 52
  m : IsMc wr B nf (seqR nf M c vm se k).1
  o : Ops wr N
  t : ∀ j, j < k → (trapK nf M c vm se j).ca = 0
  ok : (seqR nf M c vm se k).2.Ok
  sz : N + 30 ≤ wr.heap.size

set_option maxRecDepth 100000 in
set_option maxHeartbeats 4000000 in
theorem Run_any (w : World) (B : Bm) (nf : Nat) (M : Mc) (c : Cp) (hok : c.Ok) (vm se : Int) (many : Nat) (hmy : many ≤ 1000) (hM : IsMc w B nf M) (hm : M.few 0) :
    Calls Tryz.prog 11 #[.agg #[.pointer (some ⟨B.p, 0, none⟩), .pointer (some ⟨B.bt, 0, none⟩), ptrV (B.v.map Bk.b)], .agg (cpA c), .int .i64 vm, .int .i64 se, .int .i64 (many : Int)] w fun e w' => ∃ k M' c' T, e = .returned (.tuple #[.agg (cpA c'), .agg (trL T), .int .i64 (k : Nat)]) ∧ Fr B.s w w' ∧ IsMc w' B nf M' ∧ Ran nf M c vm se many k M' c' T ∧ c'.Ok := by
  have HB : Hid (∀ k, (B.s k ∨ k = B.p) → k < w.heap.size) := hM.ltp
  have hz : ∀ w, Sem.run Tryz.prog (zeroValue 30) w = .ok (.agg (cpA zc)) w := zero_cpu
  obtain ⟨v0, hv0⟩ : ∃ v0, v0 = (((w.alloc (.cells #[.pointer (some ⟨B.p, 0, none⟩), .pointer (some ⟨B.bt, 0, none⟩), ptrV (B.v.map Bk.b)] 37)).alloc (.cells (cpA c) 30)).alloc (.cells (cpA zc) 30)).alloc (.cells #[.int .i64 0, .int .i64 0, .int .i64 0, .int .i64 0, .int .i64 0, .int .i64 0, .bool false, .int .i64 0] 52) := ⟨_, rfl⟩
  have f0 : Fr none' w v0 := by rw [hv0]; exact ((((Fr.refl none' w).alloc _).alloc _).alloc _).alloc _
  have rM : Row v0 w.heap.size #[.pointer (some ⟨B.p, 0, none⟩), .pointer (some ⟨B.bt, 0, none⟩), ptrV (B.v.map Bk.b)] 37 := by rw [hv0]; exact (((row_alloc _ _ _).alloc _).alloc _).alloc _
  have rA : Row v0 (w.heap.size + 1) (cpA c) 30 := by rw [hv0]; exact ((row_at (by simp)).alloc _).alloc _
  have rZ : Row v0 (w.heap.size + 1 + 1) (cpA zc) 30 := by rw [hv0]; exact (row_at (by simp)).alloc _
  have rT : Row v0 (w.heap.size + 1 + 1 + 1) #[.int .i64 0, .int .i64 0, .int .i64 0, .int .i64 0, .int .i64 0, .int .i64 0, .bool false, .int .i64 0] 52 := by rw [hv0]; exact row_at (by simp)
  have hsz : Hid (v0.heap.size = w.heap.size + 4) := by show _ = _; rw [hv0]; simp
  have u1000 : decide ((1000 : Int) < (many : Int)) = false := decide_eq_false (by omega)
  have v1000 : ¬ ((1000 : Int) < (many : Int)) := by omega
  have HMY : Hid (many ≤ 1000) := hmy
  clear hmy
  go_enter Tryz.func11, Tryz.ntmps11
  go_upto_region 1 with fail
  rw [← hv0]
  clear hv0 hz
  obtain ⟨gM, hgM⟩ : ∃ g, g = w.heap.size := ⟨_, rfl⟩
  obtain ⟨gA, hgA⟩ : ∃ g, g = w.heap.size + 1 := ⟨_, rfl⟩
  obtain ⟨gZ, hgZ⟩ : ∃ g, g = w.heap.size + 1 + 1 := ⟨_, rfl⟩
  obtain ⟨gT, hgT⟩ : ∃ g, g = w.heap.size + 1 + 1 + 1 := ⟨_, rfl⟩
  rw [← hgT] at rT ⊢
  rw [← hgZ] at rZ ⊢
  rw [← hgA] at rA ⊢
  rw [← hgM] at rM ⊢
  have HN : Hid (gM = w.heap.size ∧ gA = w.heap.size + 1 ∧ gZ = w.heap.size + 2 ∧ gT = w.heap.size + 3) := by show _ ∧ _; omega
  clear hgA hgZ hgT hgM
  go_wp2_with fail
  refine (ops_any v0 v0.heap.size rfl).mono ?_
  rintro e v1 ⟨rfl, g1, hO⟩
  obtain ⟨N, hN⟩ : ∃ N, N = v0.heap.size := ⟨_, rfl⟩
  rw [← hN] at hO ⊢
  have HNN : Hid (N = w.heap.size + 4) := by show _ = _; rw [hN, hsz.out]
  have hR : Hid (Rn w v1 B nf N gM gA gZ gT M c vm se 0) := by
    have hlt := hO.list.lt
    refine ⟨(f0.trans g1).mono (fun _ _ h => h.elim), rM.keep g1 (fun h => h), rA.keep g1 (fun h => h), rZ.keep g1 (fun h => h), rT.keep g1 (fun h => h), (hM.keep0 f0).keep0 g1, hO, fun j hj => absurd hj (Nat.not_lt_zero j), hok, by omega⟩
  clear hN f0 g1 rM rA rZ rT hO hsz hM hok
  go_wp2_with fail
  go_loopw [14, 15] (fun i p wr => ∃ k : Nat, k ≤ many ∧ i = .int .i64 (k : Int) ∧ Hid (Rn w wr B nf N gM gA gZ gT M c vm se k)) (fun i _ _ => many - (intOf i).toNat)
  case atStart => exact ⟨0, Nat.zero_le _, rfl, hR⟩
  case round =>
    clear hR
    obtain ⟨k, hk, rfl, RR⟩ := hrel
    by_cases hlt : k < many
    · have uk : decide ((k : Int) < (many : Int)) = true := decide_eq_true (by omega)
      obtain ⟨cc0, cc1, cc2⟩ : wr.cell? ⟨gM, 0, none⟩ = some (.pointer (some ⟨B.p, 0, none⟩)) ∧ wr.cell? ⟨gM, 1, none⟩ = some (.pointer (some ⟨B.bt, 0, none⟩)) ∧ wr.cell? ⟨gM, 2, none⟩ = some (ptrV (B.v.map Bk.b)) := ⟨RR.out.rM.cell 0, RR.out.rM.cell 1, RR.out.rM.cell 2⟩
      go_upto_region 5 with fail
      clear cc0 cc1 cc2 uk u1000 v1000
      have rU := row_alloc wr #[.int .i64 0, .int .i64 0, .int .i64 0, .int .i64 0, .int .i64 0, .int .i64 0, .bool false, .int .i64 0] 52
      have fU := (Fr.refl none' wr).alloc (.cells #[.int .i64 0, .int .i64 0, .int .i64 0, .int .i64 0, .int .i64 0, .int .i64 0, .bool false, .int .i64 0] 52)
      obtain ⟨va, hva⟩ : ∃ va, va = wr.alloc (.cells #[.int .i64 0, .int .i64 0, .int .i64 0, .int .i64 0, .int .i64 0, .int .i64 0, .bool false, .int .i64 0] 52) := ⟨_, rfl⟩
      obtain ⟨gU, hgU⟩ : ∃ gU, gU = wr.heap.size := ⟨_, rfl⟩
      rw [← hva] at rU fU ⊢
      rw [← hgU] at rU ⊢
      have HU : Hid (N + 30 ≤ gU) := by show _ ≤ _; rw [hgU]; exact RR.out.sz
      clear hva hgU
      have f1 := RR.out.f.trans (fU.mono (fun _ _ h => h.elim))
      have rM := RR.out.rM.keep fU (fun h => h)
      have rA := RR.out.rA.keep fU (fun h => h)
      have rZ := RR.out.rZ.keep fU (fun h => h)
      have rT := RR.out.rT.keep fU (fun h => h)
      have hM := RR.out.m.keep0 fU
      have hO := RR.out.o.keep fU (fun _ _ _ h => h)
      have HF : Hid ((seqR nf M c vm se k).1.few (2 * k)) := few_seq hm c vm se k
      have HT : Hid (∀ j, j < k → (trapK nf M c vm se j).ca = 0) := RR.out.t
      obtain ⟨R, hR⟩ : ∃ R, stepI nf (seqR nf M c vm se k).1 (seqR nf M c vm se k).2 vm se = R := ⟨_, rfl⟩
      have HQ : Hid (seqR nf M c vm se (k + 1) = (R.1, R.2.1) ∧ trapK nf M c vm se k = R.2.2 ∧ (R.2.2.ca = 0 → R.2.2 = _root_.Go.Proofs.YtgnoakidjnilpaaGreat.t0)) := by
        refine ⟨by rw [← hR]; rfl, by rw [← hR]; rfl, ?_⟩
        rw [← hR]; exact step_zero nf _ _ vm se _
      have hok := RR.out.ok
      have HKM : Hid (k < many) := hlt
      clear RR fU hk hlt
      obtain ⟨S1, hS⟩ : ∃ S1, seqR nf M c vm se k = S1 := ⟨_, rfl⟩
      rw [hS] at rA hM HF hR hok
      obtain ⟨M1, c1⟩ := S1
      replace rA : Row va gA (cpA c1) 30 := rA
      replace hM : IsMc va B nf M1 := hM
      replace HF : Hid (M1.few (2 * k)) := HF
      replace hR : stepI nf M1 c1 vm se = R := hR
      replace hok : c1.Ok := hok
      have SA : ∀ ix, (ix = c1.pc / 4 % 8 ∨ c1.bad) → Calls Tryz.prog 37 #[.slice (some ⟨N + 29, 0, none⟩) 26 26, .agg #[.pointer (some ⟨B.p, 0, none⟩), .pointer (some ⟨B.bt, 0, none⟩), ptrV (B.v.map Bk.b)], .agg (cpA c1), .int .i64 vm, .int .i64 se, .int .i64 ix] va fun e w' => e = .returned (.tuple #[.agg (cpA R.2.1), .agg (trL R.2.2)]) ∧ Fr B.s va w' ∧ IsMc w' B nf R.1 ∧ R.2.1.Ok := by
        intro ix hix
        have h := step_any va N B nf M1 c1 hok vm se ix hO hM HF.out (by have := HKM.out; have := HMY.out; omega) (fun j hj => Or.inl (by have := HB.out j hj; have := HNN.out; omega))
        have e : stepR nf M1 c1 vm se ix = R := by
          rcases hix with rfl | hb
          · exact hR
          · rw [step_bad_ix hb]; exact hR
        rw [e] at h
        exact h
      have cpc := cp_cell rA
      obtain ⟨cc0, cc1, cc2⟩ : va.cell? ⟨gM, 0, none⟩ = some (.pointer (some ⟨B.p, 0, none⟩)) ∧ va.cell? ⟨gM, 1, none⟩ = some (.pointer (some ⟨B.bt, 0, none⟩)) ∧ va.cell? ⟨gM, 2, none⟩ = some (ptrV (B.v.map Bk.b)) := ⟨rM.cell 0, rM.cell 1, rM.cell 2⟩
      clear hR hM hok HF
      obtain ⟨Mx, cx, Tx⟩ := R
      have SB : ∀ ix, Hid (ix = c1.pc / 4 % 8 ∨ c1.bad) → Calls Tryz.prog 37 #[.slice (some ⟨N + 29, 0, none⟩) 26 26, .agg #[.pointer (some ⟨B.p, 0, none⟩), .pointer (some ⟨B.bt, 0, none⟩), ptrV (B.v.map Bk.b)], .agg (cpA c1), .int .i64 vm, .int .i64 se, .int .i64 ix] va fun e w' => e = .returned (.tuple #[.agg (cpA cx), .agg (trL Tx)]) ∧ Fr B.s va w' ∧ IsMc w' B nf Mx ∧ cx.Ok := fun ix h => SA ix h.out
      clear SA
      by_cases hb : c1.bad
      · have HBB : Hid c1.bad := hb
        clear hb
        go_wp2_with (refine wpList_load_part rfl 30 _ rfl gA rfl (cpA c1) _ (cp_at rA) Tryz.underlying30 rfl (size_cpA c1) ?_)
        refine (SB _ (Or.inr HBB.out)).mono ?_
        rintro e v2 ⟨rfl, g2, hM2, hok2⟩
        clear SB cc0 cc1 cc2 cpc
        have ns : ∀ j, w.heap.size ≤ j → ¬ B.s j := fun j hj e => by have := HB.out j (Or.inl e); omega
        replace rM := rM.keep g2 (ns _ (by have := HN.out; omega))
        replace rA := rA.keep g2 (ns _ (by have := HN.out; omega))
        replace rZ := rZ.keep g2 (ns _ (by have := HN.out; omega))
        replace rT := rT.keep g2 (ns _ (by have := HN.out; omega))
        replace rU := rU.keep g2 (ns _ (by have := HU.out; have := HNN.out; omega))
        replace hO := hO.keep g2 (fun j h1 _ => ns j (by have := HNN.out; omega))
        replace f1 := f1.trans g2
        clear g2
        have dA : ∀ j, j ≠ gA → ¬ at' gA j := fun j h e => h e
        have dU : ∀ j, j ≠ gU → ¬ at' gU j := fun j h e => h e
        have rU1 := rU.keep (fr_row v2 gA (cpA cx)) (dA _ (by have := HU.out; have := HN.out; have := HNN.out; omega))
        have rM1 := (rM.keep (fr_row v2 gA (cpA cx)) (dA _ (by have := HN.out; omega))).keep (fr_row _ gU (trL Tx)) (dU _ (by have := HU.out; have := HN.out; have := HNN.out; omega))
        have rA1 : Row ((v2.setRow gA (cpA cx)).setRow gU (trL Tx)) gA (cpA cx) 30 := (rA.setRow).keep (fr_row _ gU (trL Tx)) (dU _ (by have := HU.out; have := HN.out; have := HNN.out; omega))
        have rZ1 := (rZ.keep (fr_row v2 gA (cpA cx)) (dA _ (by have := HN.out; omega))).keep (fr_row _ gU (trL Tx)) (dU _ (by have := HU.out; have := HN.out; have := HNN.out; omega))
        have rT1 := (rT.keep (fr_row v2 gA (cpA cx)) (dA _ (by have := HN.out; omega))).keep (fr_row _ gU (trL Tx)) (dU _ (by have := HU.out; have := HN.out; have := HNN.out; omega))
        have rU2 : Row ((v2.setRow gA (cpA cx)).setRow gU (trL Tx)) gU (trL Tx) 52 := rU1.setRow
        have f2 := fr_rowS (fr_rowS f1 (g := gA) (by have := HN.out; omega) (cpA cx)) (g := gU) (by have := HU.out; have := HNN.out; omega) (trL Tx)
        have m1 := isMc_past hM2 (fr_row v2 gA (cpA cx)) (fun j hj e => by have e' : j = gA := e; have := HB.out j hj; have := HN.out; omega)
        have m2 := isMc_past m1 (fr_row _ gU (trL Tx)) (fun j hj e => by have e' : j = gU := e; have := HB.out j hj; have := HU.out; have := HNN.out; omega)
        have o2 := (hO.keep (fr_row v2 gA (cpA cx)) (fun j h1 _ e => by have e' : j = gA := e; have := HN.out; have := HNN.out; omega)).keep (fr_row _ gU (trL Tx)) (fun j h1 h2 e => by have e' : j = gU := e; have := HU.out; omega)
        have z2 : Hid (N + 30 ≤ ((v2.setRow gA (cpA cx)).setRow gU (trL Tx)).heap.size) := by have := rU2.lt; have := HU.out; show _ ≤ _; omega
        clear rM rZ rT hM2 m1 hO f1
        have lo : (cpA c1).size = (cpA cx).size := by rw [cpA_size, cpA_size]
        have AA : Hid (Row ((v2.setRow gA (cpA cx)).setRow gU (trL Tx)) gM #[.pointer (some ⟨B.p, 0, none⟩), .pointer (some ⟨B.bt, 0, none⟩), ptrV (B.v.map Bk.b)] 37 ∧ Row ((v2.setRow gA (cpA cx)).setRow gU (trL Tx)) gA (cpA cx) 30 ∧ Row ((v2.setRow gA (cpA cx)).setRow gU (trL Tx)) gZ (cpA zc) 30 ∧ Row ((v2.setRow gA (cpA cx)).setRow gU (trL Tx)) gT #[.int .i64 0, .int .i64 0, .int .i64 0, .int .i64 0, .int .i64 0, .int .i64 0, .bool false, .int .i64 0] 52 ∧ Row ((v2.setRow gA (cpA cx)).setRow gU (trL Tx)) gU (trL Tx) 52 ∧ Fr B.s w ((v2.setRow gA (cpA cx)).setRow gU (trL Tx)) ∧ IsMc ((v2.setRow gA (cpA cx)).setRow gU (trL Tx)) B nf Mx ∧ Ops ((v2.setRow gA (cpA cx)).setRow gU (trL Tx)) N) := ⟨rM1, rA1, rZ1, rT1, rU2, f2, m2, o2⟩
        clear rM1 rA1 rZ1 rT1 rU2 f2 m2 o2
        go_upto_region 6 with (first | refine wpList_store_row rfl 30 _ _ rfl gA (cpA cx) rfl rfl 30 (cpA c1) rA (size_cpA cx) lo (cpA_one cx) ?_ | refine wpList_store_row rfl 52 _ _ rfl gU (trL Tx) rfl rfl 52 #[.int .i64 0, .int .i64 0, .int .i64 0, .int .i64 0, .int .i64 0, .int .i64 0, .bool false, .int .i64 0] rU1 size_trap rfl (trL_one Tx) ?_)
        clear rA rU rU1 lo
        obtain ⟨v3, hv3⟩ : ∃ v3, v3 = (v2.setRow gA (cpA cx)).setRow gU (trL Tx) := ⟨_, rfl⟩
        rw [← hv3] at AA z2 ⊢
        clear hv3
        have uc : v3.cell? ⟨gU, 0, none⟩ = some (.int .i64 Tx.ca) := AA.out.2.2.2.2.1.cell 0
        have HOK : Hid cx.Ok := hok2
        clear hok2
        by_cases ht : Tx.ca = 0
        · have ut : (Tx.ca != 0) = false := by simpa using ht
          have HTZ : Hid (Tx.ca = 0) := ht
          have hk9 : k ≤ 1000 := by have := HKM.out; have := HMY.out; omega
          clear ht
          go_wp2_with fail
          go_roundw
          case rel =>
            refine ⟨k + 1, by have := HKM.out; omega, by simp, ?_⟩
            obtain ⟨a1, a2, a3, a4, a5, a6, a7, a8⟩ := AA.out
            obtain ⟨q1, q2, q3⟩ := HQ.out
            refine ⟨a6, a1, ?_, a3, a4, ?_, a8, ?_, ?_, z2.out⟩
            · rw [q1]; exact a2
            · rw [q1]; exact a7
            · intro j hj
              by_cases e : j < k
              · exact HT.out j e
              · obtain rfl : j = k := by omega
                rw [q2]; exact HTZ.out
            · rw [q1]; exact HOK.out
          case measure =>
            have := HKM.out
            simp [intOf]; omega
        · have ut : (Tx.ca != 0) = true := by simpa using ht
          have HTZ : Hid (Tx.ca ≠ 0) := ht
          clear ht
          go_upto_region 7 with fail
          obtain ⟨a1, a2, a3, a4, a5, a6, a7, a8⟩ := AA.out
          clear uc ut AA
          refine wp_region_held (S := fun w' => Row w' gA (cpA cx) 30 ∧ Row w' gU (trL Tx) 52) (by kernel_rfl) ?_
          change wpAnyH _ _ _ _ _ _ _ _ (World.drew _)
          refine wpAnyH_take (i := 0) (v := .agg (cpL cx).toArray) rfl (by kernel_rfl) (by kernel_rfl) (by kernel_rfl) (fun _ _ _ h => h) (yieldsIf_load_mid (by kernel_rfl) 30 _ rfl gA 0 rfl (cpL cx) _ (fun _ h => range_row h.1) Tryz.underlying30 rfl (size_cpL cx)) ⟨a2.drew, a5.drew⟩ ?_
          show wpAnyH _ _ _ _ _ _ _ (Act.put _ (some 37) _) _
          simp only [Act.put, List.setIfInBounds_toArray, List.set_cons_succ, List.set_cons_zero]
          refine wpAnyH_take (i := 1) (v := .agg ([.int .i64 Tx.ca, .int .i64 Tx.nu, .int .i64 Tx.ad, .int .i64 Tx.f.k, .int .i64 Tx.f.s, .int .i64 Tx.f.l, .bool Tx.f.wk, .int .i64 Tx.f.p]).toArray) rfl (by kernel_rfl) (by kernel_rfl) (by kernel_rfl) (fun _ _ _ h => h) (yieldsIf_load_mid (by kernel_rfl) 52 _ rfl gU 0 rfl ([.int .i64 Tx.ca, .int .i64 Tx.nu, .int .i64 Tx.ad, .int .i64 Tx.f.k, .int .i64 Tx.f.s, .int .i64 Tx.f.l, .bool Tx.f.wk, .int .i64 Tx.f.p]) _ (fun _ h => range_row' h.2) Tryz.underlying52 rfl size_trap) ⟨a2.drew, a5.drew⟩ ?_
          show wpAnyH _ _ _ _ _ _ _ (Act.put _ (some 38) _) _
          simp only [Act.put, List.setIfInBounds_toArray, List.set_cons_succ, List.set_cons_zero]
          refine wpAnyH_take (i := 2) (v := ?_) rfl (by kernel_rfl) (by kernel_rfl) (by kernel_rfl) (fun _ _ _ h => h) (Or.inl ⟨by kernel_rfl, fun w hS => ?_⟩) ⟨a2.drew, a5.drew⟩ ?_
          rotate_left
          · go_simp
            try with_reducible rfl
          show wpAnyH _ _ _ _ _ _ _ (Act.put _ (some 39) _) _
          simp only [Act.put, List.setIfInBounds_toArray, List.set_cons_succ, List.set_cons_zero]
          have dZ : ∀ j, j ≠ gZ → ¬ at' gZ j := fun j h e => h e
          have dT : ∀ j, j ≠ gT → ¬ at' gT j := fun j h e => h e
          have b2 := a2.drew.keep (fr_row _ gZ (cpA cx)) (dZ _ (by have := HN.out; omega))
          have b5 := a5.drew.keep (fr_row _ gZ (cpA cx)) (dZ _ (by have := HU.out; have := HN.out; have := HNN.out; omega))
          have b4 := a4.drew.keep (fr_row _ gZ (cpA cx)) (dZ _ (by have := HN.out; omega))
          have e2 := b2.keep (fr_row _ gT (trL Tx)) (dT _ (by have := HN.out; omega))
          have e5 := b5.keep (fr_row _ gT (trL Tx)) (dT _ (by have := HU.out; have := HN.out; have := HNN.out; omega))
          have eZ : Row (((v3.drew).setRow gZ (cpA cx)).setRow gT (trL Tx)) gZ (cpA cx) 30 := (a3.drew.setRow).keep (fr_row _ gT (trL Tx)) (dT _ (by have := HN.out; omega))
          have eT : Row (((v3.drew).setRow gZ (cpA cx)).setRow gT (trL Tx)) gT (trL Tx) 52 := b4.setRow
          have f3 := fr_rowS (fr_rowS a6.drew (g := gZ) (by have := HN.out; omega) (cpA cx)) (g := gT) (by have := HN.out; omega) (trL Tx)
          have m1 := isMc_past (isMc_past (a7.keep0 (Fr.refl none' v3).drew) (fr_row _ gZ (cpA cx)) (fun j hj e => by have e' : j = gZ := e; have := HB.out j hj; have := HN.out; omega)) (fr_row _ gT (trL Tx)) (fun j hj e => by have e' : j = gT := e; have := HB.out j hj; have := HN.out; omega)
          have lo : (cpA zc).size = (cpA cx).size := by rw [cpA_size, cpA_size]
          refine wpAnyH_all (rs := [3]) (by kernel_rfl) (by simp) ?_
          intro i hi
          obtain rfl : i = 3 := by simpa using hi
          clear hi
          refine wpOp_mk rfl (by kernel_rfl) ?_
          refine wp_store_row 30 _ _ rfl gZ (cpA cx) rfl rfl 30 (cpA zc) a3.drew (size_cpA cx) lo (cpA_one cx) ?_
          refine ⟨⟨b2, b5⟩, ?_⟩
          show wpAnyH _ _ _ _ _ _ _ _ _
          refine wpAnyH_all (rs := [4]) (by kernel_rfl) (by simp) ?_
          intro i hi
          obtain rfl : i = 4 := by simpa using hi
          clear hi
          refine wpOp_mk rfl (by kernel_rfl) ?_
          refine wp_store_row 52 _ _ rfl gT (trL Tx) rfl rfl 52 #[.int .i64 0, .int .i64 0, .int .i64 0, .int .i64 0, .int .i64 0, .int .i64 0, .bool false, .int .i64 0] b4 size_trap rfl (trL_one Tx) ?_
          refine ⟨⟨e2, e5⟩, ?_⟩
          show wpAnyH _ _ _ _ _ _ _ _ _
          refine wpAnyH_take (i := 5) (v := ?_) rfl (by kernel_rfl) (by kernel_rfl) (by kernel_rfl) (fun _ _ _ h => h) (Or.inl ⟨by kernel_rfl, fun w hS => ?_⟩) ⟨e2, e5⟩ ?_
          rotate_left
          · go_simp
            try with_reducible rfl
          show wpAnyH _ _ _ _ _ _ _ (Act.put _ (some 12) _) _
          go_simp
          refine wpAnyH_done (by kernel_rfl) ?_ _
          go_wp2_with fail
          refine bodyPost_ret (ret_ctk rfl rfl rfl eZ (cpA_size _) eT rfl) rfl ?_
          refine ⟨k, Mx, cx, Tx, rfl, f3, m1, ⟨HT.out, Or.inr ⟨HKM.out, ?_, ?_, ?_, ?_⟩⟩, HOK.out⟩
          · rw [HQ.out.2.1]; exact HTZ.out
          · rw [HQ.out.1]
          · rw [HQ.out.1]
          · exact HQ.out.2.1.symm
      · have hp : 0 ≤ c1.pc ∧ c1.pc ≤ 65535 := by unfold Cp.bad at hb; omega
        obtain ⟨hp0, hp1⟩ := hp
        clear hb
        go_wp2_with (refine wpList_load_part rfl 30 _ rfl gA rfl (cpA c1) _ (cp_at rA) Tryz.underlying30 rfl (size_cpA c1) ?_)
        refine (SB _ (Or.inl rfl)).mono ?_
        rintro e v2 ⟨rfl, g2, hM2, hok2⟩
        clear SB cc0 cc1 cc2 cpc
        have ns : ∀ j, w.heap.size ≤ j → ¬ B.s j := fun j hj e => by have := HB.out j (Or.inl e); omega
        replace rM := rM.keep g2 (ns _ (by have := HN.out; omega))
        replace rA := rA.keep g2 (ns _ (by have := HN.out; omega))
        replace rZ := rZ.keep g2 (ns _ (by have := HN.out; omega))
        replace rT := rT.keep g2 (ns _ (by have := HN.out; omega))
        replace rU := rU.keep g2 (ns _ (by have := HU.out; have := HNN.out; omega))
        replace hO := hO.keep g2 (fun j h1 _ => ns j (by have := HNN.out; omega))
        replace f1 := f1.trans g2
        clear g2
        have dA : ∀ j, j ≠ gA → ¬ at' gA j := fun j h e => h e
        have dU : ∀ j, j ≠ gU → ¬ at' gU j := fun j h e => h e
        have rU1 := rU.keep (fr_row v2 gA (cpA cx)) (dA _ (by have := HU.out; have := HN.out; have := HNN.out; omega))
        have rM1 := (rM.keep (fr_row v2 gA (cpA cx)) (dA _ (by have := HN.out; omega))).keep (fr_row _ gU (trL Tx)) (dU _ (by have := HU.out; have := HN.out; have := HNN.out; omega))
        have rA1 : Row ((v2.setRow gA (cpA cx)).setRow gU (trL Tx)) gA (cpA cx) 30 := (rA.setRow).keep (fr_row _ gU (trL Tx)) (dU _ (by have := HU.out; have := HN.out; have := HNN.out; omega))
        have rZ1 := (rZ.keep (fr_row v2 gA (cpA cx)) (dA _ (by have := HN.out; omega))).keep (fr_row _ gU (trL Tx)) (dU _ (by have := HU.out; have := HN.out; have := HNN.out; omega))
        have rT1 := (rT.keep (fr_row v2 gA (cpA cx)) (dA _ (by have := HN.out; omega))).keep (fr_row _ gU (trL Tx)) (dU _ (by have := HU.out; have := HN.out; have := HNN.out; omega))
        have rU2 : Row ((v2.setRow gA (cpA cx)).setRow gU (trL Tx)) gU (trL Tx) 52 := rU1.setRow
        have f2 := fr_rowS (fr_rowS f1 (g := gA) (by have := HN.out; omega) (cpA cx)) (g := gU) (by have := HU.out; have := HNN.out; omega) (trL Tx)
        have m1 := isMc_past hM2 (fr_row v2 gA (cpA cx)) (fun j hj e => by have e' : j = gA := e; have := HB.out j hj; have := HN.out; omega)
        have m2 := isMc_past m1 (fr_row _ gU (trL Tx)) (fun j hj e => by have e' : j = gU := e; have := HB.out j hj; have := HU.out; have := HNN.out; omega)
        have o2 := (hO.keep (fr_row v2 gA (cpA cx)) (fun j h1 _ e => by have e' : j = gA := e; have := HN.out; have := HNN.out; omega)).keep (fr_row _ gU (trL Tx)) (fun j h1 h2 e => by have e' : j = gU := e; have := HU.out; omega)
        have z2 : Hid (N + 30 ≤ ((v2.setRow gA (cpA cx)).setRow gU (trL Tx)).heap.size) := by have := rU2.lt; have := HU.out; show _ ≤ _; omega
        clear rM rZ rT hM2 m1 hO f1
        have lo : (cpA c1).size = (cpA cx).size := by rw [cpA_size, cpA_size]
        have AA : Hid (Row ((v2.setRow gA (cpA cx)).setRow gU (trL Tx)) gM #[.pointer (some ⟨B.p, 0, none⟩), .pointer (some ⟨B.bt, 0, none⟩), ptrV (B.v.map Bk.b)] 37 ∧ Row ((v2.setRow gA (cpA cx)).setRow gU (trL Tx)) gA (cpA cx) 30 ∧ Row ((v2.setRow gA (cpA cx)).setRow gU (trL Tx)) gZ (cpA zc) 30 ∧ Row ((v2.setRow gA (cpA cx)).setRow gU (trL Tx)) gT #[.int .i64 0, .int .i64 0, .int .i64 0, .int .i64 0, .int .i64 0, .int .i64 0, .bool false, .int .i64 0] 52 ∧ Row ((v2.setRow gA (cpA cx)).setRow gU (trL Tx)) gU (trL Tx) 52 ∧ Fr B.s w ((v2.setRow gA (cpA cx)).setRow gU (trL Tx)) ∧ IsMc ((v2.setRow gA (cpA cx)).setRow gU (trL Tx)) B nf Mx ∧ Ops ((v2.setRow gA (cpA cx)).setRow gU (trL Tx)) N) := ⟨rM1, rA1, rZ1, rT1, rU2, f2, m2, o2⟩
        clear rM1 rA1 rZ1 rT1 rU2 f2 m2 o2
        go_upto_region 6 with (first | refine wpList_store_row rfl 30 _ _ rfl gA (cpA cx) rfl rfl 30 (cpA c1) rA (size_cpA cx) lo (cpA_one cx) ?_ | refine wpList_store_row rfl 52 _ _ rfl gU (trL Tx) rfl rfl 52 #[.int .i64 0, .int .i64 0, .int .i64 0, .int .i64 0, .int .i64 0, .int .i64 0, .bool false, .int .i64 0] rU1 size_trap rfl (trL_one Tx) ?_)
        clear rA rU rU1 lo
        obtain ⟨v3, hv3⟩ : ∃ v3, v3 = (v2.setRow gA (cpA cx)).setRow gU (trL Tx) := ⟨_, rfl⟩
        rw [← hv3] at AA z2 ⊢
        clear hv3
        have uc : v3.cell? ⟨gU, 0, none⟩ = some (.int .i64 Tx.ca) := AA.out.2.2.2.2.1.cell 0
        have HOK : Hid cx.Ok := hok2
        clear hok2
        by_cases ht : Tx.ca = 0
        · have ut : (Tx.ca != 0) = false := by simpa using ht
          have HTZ : Hid (Tx.ca = 0) := ht
          have hk9 : k ≤ 1000 := by have := HKM.out; have := HMY.out; omega
          clear ht
          go_wp2_with fail
          go_roundw
          case rel =>
            refine ⟨k + 1, by have := HKM.out; omega, by simp, ?_⟩
            obtain ⟨a1, a2, a3, a4, a5, a6, a7, a8⟩ := AA.out
            obtain ⟨q1, q2, q3⟩ := HQ.out
            refine ⟨a6, a1, ?_, a3, a4, ?_, a8, ?_, ?_, z2.out⟩
            · rw [q1]; exact a2
            · rw [q1]; exact a7
            · intro j hj
              by_cases e : j < k
              · exact HT.out j e
              · obtain rfl : j = k := by omega
                rw [q2]; exact HTZ.out
            · rw [q1]; exact HOK.out
          case measure =>
            have := HKM.out
            simp [intOf]; omega
        · have ut : (Tx.ca != 0) = true := by simpa using ht
          have HTZ : Hid (Tx.ca ≠ 0) := ht
          clear ht
          go_upto_region 7 with fail
          obtain ⟨a1, a2, a3, a4, a5, a6, a7, a8⟩ := AA.out
          clear uc ut AA
          refine wp_region_held (S := fun w' => Row w' gA (cpA cx) 30 ∧ Row w' gU (trL Tx) 52) (by kernel_rfl) ?_
          change wpAnyH _ _ _ _ _ _ _ _ (World.drew _)
          refine wpAnyH_take (i := 0) (v := .agg (cpL cx).toArray) rfl (by kernel_rfl) (by kernel_rfl) (by kernel_rfl) (fun _ _ _ h => h) (yieldsIf_load_mid (by kernel_rfl) 30 _ rfl gA 0 rfl (cpL cx) _ (fun _ h => range_row h.1) Tryz.underlying30 rfl (size_cpL cx)) ⟨a2.drew, a5.drew⟩ ?_
          show wpAnyH _ _ _ _ _ _ _ (Act.put _ (some 37) _) _
          simp only [Act.put, List.setIfInBounds_toArray, List.set_cons_succ, List.set_cons_zero]
          refine wpAnyH_take (i := 1) (v := .agg ([.int .i64 Tx.ca, .int .i64 Tx.nu, .int .i64 Tx.ad, .int .i64 Tx.f.k, .int .i64 Tx.f.s, .int .i64 Tx.f.l, .bool Tx.f.wk, .int .i64 Tx.f.p]).toArray) rfl (by kernel_rfl) (by kernel_rfl) (by kernel_rfl) (fun _ _ _ h => h) (yieldsIf_load_mid (by kernel_rfl) 52 _ rfl gU 0 rfl ([.int .i64 Tx.ca, .int .i64 Tx.nu, .int .i64 Tx.ad, .int .i64 Tx.f.k, .int .i64 Tx.f.s, .int .i64 Tx.f.l, .bool Tx.f.wk, .int .i64 Tx.f.p]) _ (fun _ h => range_row' h.2) Tryz.underlying52 rfl size_trap) ⟨a2.drew, a5.drew⟩ ?_
          show wpAnyH _ _ _ _ _ _ _ (Act.put _ (some 38) _) _
          simp only [Act.put, List.setIfInBounds_toArray, List.set_cons_succ, List.set_cons_zero]
          refine wpAnyH_take (i := 2) (v := ?_) rfl (by kernel_rfl) (by kernel_rfl) (by kernel_rfl) (fun _ _ _ h => h) (Or.inl ⟨by kernel_rfl, fun w hS => ?_⟩) ⟨a2.drew, a5.drew⟩ ?_
          rotate_left
          · go_simp
            try with_reducible rfl
          show wpAnyH _ _ _ _ _ _ _ (Act.put _ (some 39) _) _
          simp only [Act.put, List.setIfInBounds_toArray, List.set_cons_succ, List.set_cons_zero]
          have dZ : ∀ j, j ≠ gZ → ¬ at' gZ j := fun j h e => h e
          have dT : ∀ j, j ≠ gT → ¬ at' gT j := fun j h e => h e
          have b2 := a2.drew.keep (fr_row _ gZ (cpA cx)) (dZ _ (by have := HN.out; omega))
          have b5 := a5.drew.keep (fr_row _ gZ (cpA cx)) (dZ _ (by have := HU.out; have := HN.out; have := HNN.out; omega))
          have b4 := a4.drew.keep (fr_row _ gZ (cpA cx)) (dZ _ (by have := HN.out; omega))
          have e2 := b2.keep (fr_row _ gT (trL Tx)) (dT _ (by have := HN.out; omega))
          have e5 := b5.keep (fr_row _ gT (trL Tx)) (dT _ (by have := HU.out; have := HN.out; have := HNN.out; omega))
          have eZ : Row (((v3.drew).setRow gZ (cpA cx)).setRow gT (trL Tx)) gZ (cpA cx) 30 := (a3.drew.setRow).keep (fr_row _ gT (trL Tx)) (dT _ (by have := HN.out; omega))
          have eT : Row (((v3.drew).setRow gZ (cpA cx)).setRow gT (trL Tx)) gT (trL Tx) 52 := b4.setRow
          have f3 := fr_rowS (fr_rowS a6.drew (g := gZ) (by have := HN.out; omega) (cpA cx)) (g := gT) (by have := HN.out; omega) (trL Tx)
          have m1 := isMc_past (isMc_past (a7.keep0 (Fr.refl none' v3).drew) (fr_row _ gZ (cpA cx)) (fun j hj e => by have e' : j = gZ := e; have := HB.out j hj; have := HN.out; omega)) (fr_row _ gT (trL Tx)) (fun j hj e => by have e' : j = gT := e; have := HB.out j hj; have := HN.out; omega)
          have lo : (cpA zc).size = (cpA cx).size := by rw [cpA_size, cpA_size]
          refine wpAnyH_all (rs := [3]) (by kernel_rfl) (by simp) ?_
          intro i hi
          obtain rfl : i = 3 := by simpa using hi
          clear hi
          refine wpOp_mk rfl (by kernel_rfl) ?_
          refine wp_store_row 30 _ _ rfl gZ (cpA cx) rfl rfl 30 (cpA zc) a3.drew (size_cpA cx) lo (cpA_one cx) ?_
          refine ⟨⟨b2, b5⟩, ?_⟩
          show wpAnyH _ _ _ _ _ _ _ _ _
          refine wpAnyH_all (rs := [4]) (by kernel_rfl) (by simp) ?_
          intro i hi
          obtain rfl : i = 4 := by simpa using hi
          clear hi
          refine wpOp_mk rfl (by kernel_rfl) ?_
          refine wp_store_row 52 _ _ rfl gT (trL Tx) rfl rfl 52 #[.int .i64 0, .int .i64 0, .int .i64 0, .int .i64 0, .int .i64 0, .int .i64 0, .bool false, .int .i64 0] b4 size_trap rfl (trL_one Tx) ?_
          refine ⟨⟨e2, e5⟩, ?_⟩
          show wpAnyH _ _ _ _ _ _ _ _ _
          refine wpAnyH_take (i := 5) (v := ?_) rfl (by kernel_rfl) (by kernel_rfl) (by kernel_rfl) (fun _ _ _ h => h) (Or.inl ⟨by kernel_rfl, fun w hS => ?_⟩) ⟨e2, e5⟩ ?_
          rotate_left
          · go_simp
            try with_reducible rfl
          show wpAnyH _ _ _ _ _ _ _ (Act.put _ (some 12) _) _
          go_simp
          refine wpAnyH_done (by kernel_rfl) ?_ _
          go_wp2_with fail
          refine bodyPost_ret (ret_ctk rfl rfl rfl eZ (cpA_size _) eT rfl) rfl ?_
          refine ⟨k, Mx, cx, Tx, rfl, f3, m1, ⟨HT.out, Or.inr ⟨HKM.out, ?_, ?_, ?_, ?_⟩⟩, HOK.out⟩
          · rw [HQ.out.2.1]; exact HTZ.out
          · rw [HQ.out.1]
          · rw [HQ.out.1]
          · exact HQ.out.2.1.symm
    · have hkm : k = many := by omega
      subst hkm
      have uk : decide ((k : Int) < (k : Int)) = false := decide_eq_false (by omega)
      have rA := RR.out.rA
      have rZ := RR.out.rZ
      have rT := RR.out.rT
      have f1 := RR.out.f
      have hM := RR.out.m
      have HT : Hid (∀ j, j < k → (trapK nf M c vm se j).ca = 0) := RR.out.t
      have HOK : Hid ((seqR nf M c vm se k).2.Ok) := RR.out.ok
      have HS : Hid (seqR nf M c vm se k = seqR nf M c vm se k) := rfl
      clear RR hk hlt
      obtain ⟨M1, hM1⟩ : ∃ q, q = (seqR nf M c vm se k).1 := ⟨_, rfl⟩
      obtain ⟨c1, hc1⟩ : ∃ q, q = (seqR nf M c vm se k).2 := ⟨_, rfl⟩
      rw [← hM1] at hM
      rw [← hc1] at rA HOK
      have HE : Hid (M1 = (seqR nf M c vm se k).1 ∧ c1 = (seqR nf M c vm se k).2) := ⟨hM1, hc1⟩
      clear hM1 hc1 HS
      have lo : (cpA zc).size = (cpA c1).size := by rw [cpA_size, cpA_size]
      have dT : ∀ j, j ≠ gT → ¬ at' gT j := fun j h e => h e
      have rT1 := rT.keep (fr_row wr gZ (cpA c1)) (fun e => by have e' : gT = gZ := e; have := HN.out; omega)
      have eZ : Row ((wr.setRow gZ (cpA c1)).setRow gT #[.int .i64 0, .int .i64 0, .int .i64 0, .int .i64 0, .int .i64 0, .int .i64 0, .bool false, .int .i64 0]) gZ (cpA c1) 30 := (rZ.setRow).keep (fr_row _ gT #[.int .i64 0, .int .i64 0, .int .i64 0, .int .i64 0, .int .i64 0, .int .i64 0, .bool false, .int .i64 0]) (dT _ (by have := HN.out; omega))
      have eT : Row ((wr.setRow gZ (cpA c1)).setRow gT #[.int .i64 0, .int .i64 0, .int .i64 0, .int .i64 0, .int .i64 0, .int .i64 0, .bool false, .int .i64 0]) gT #[.int .i64 0, .int .i64 0, .int .i64 0, .int .i64 0, .int .i64 0, .int .i64 0, .bool false, .int .i64 0] 52 := rT1.setRow
      have f3 := fr_rowS (fr_rowS f1 (g := gZ) (by have := HN.out; omega) (cpA c1)) (g := gT) (by have := HN.out; omega) #[.int .i64 0, .int .i64 0, .int .i64 0, .int .i64 0, .int .i64 0, .int .i64 0, .bool false, .int .i64 0]
      have m1 := isMc_past (isMc_past hM (fr_row _ gZ (cpA c1)) (fun j hj e => by have e' : j = gZ := e; have := HB.out j hj; have := HN.out; omega)) (fr_row _ gT #[.int .i64 0, .int .i64 0, .int .i64 0, .int .i64 0, .int .i64 0, .int .i64 0, .bool false, .int .i64 0]) (fun j hj e => by have e' : j = gT := e; have := HB.out j hj; have := HN.out; omega)
      have ZZ : Hid (Row ((wr.setRow gZ (cpA c1)).setRow gT #[.int .i64 0, .int .i64 0, .int .i64 0, .int .i64 0, .int .i64 0, .int .i64 0, .bool false, .int .i64 0]) gZ (cpA c1) 30 ∧ Row ((wr.setRow gZ (cpA c1)).setRow gT #[.int .i64 0, .int .i64 0, .int .i64 0, .int .i64 0, .int .i64 0, .int .i64 0, .bool false, .int .i64 0]) gT #[.int .i64 0, .int .i64 0, .int .i64 0, .int .i64 0, .int .i64 0, .int .i64 0, .bool false, .int .i64 0] 52 ∧ Fr B.s w ((wr.setRow gZ (cpA c1)).setRow gT #[.int .i64 0, .int .i64 0, .int .i64 0, .int .i64 0, .int .i64 0, .int .i64 0, .bool false, .int .i64 0]) ∧ IsMc ((wr.setRow gZ (cpA c1)).setRow gT #[.int .i64 0, .int .i64 0, .int .i64 0, .int .i64 0, .int .i64 0, .int .i64 0, .bool false, .int .i64 0]) B nf M1) := ⟨eZ, eT, f3, m1⟩
      clear eZ eT f3 m1
      go_wp2_with (first | refine wpList_load_part rfl 30 _ rfl gA rfl (cpA c1) _ (cp_at rA) Tryz.underlying30 rfl (size_cpA c1) ?_ | refine wpList_store_row rfl 30 _ _ rfl gZ (cpA c1) rfl rfl 30 (cpA zc) rZ (size_cpA c1) lo (cpA_one c1) ?_ | refine wpList_store_row rfl 52 _ _ rfl gT #[.int .i64 0, .int .i64 0, .int .i64 0, .int .i64 0, .int .i64 0, .int .i64 0, .bool false, .int .i64 0] rfl rfl 52 #[.int .i64 0, .int .i64 0, .int .i64 0, .int .i64 0, .int .i64 0, .int .i64 0, .bool false, .int .i64 0] rT1 size_trap rfl (by simp [Value.oneCell']) ?_)
      obtain ⟨eZ, eT, f3, m1⟩ := ZZ.out
      refine bodyPost_ret (ret_ctk rfl rfl rfl eZ (cpA_size _) eT rfl) rfl ?_
      refine ⟨k, M1, c1, _root_.Go.Proofs.YtgnoakidjnilpaaGreat.t0, rfl, f3, m1, ⟨HT.out, Or.inl ⟨rfl, HE.out.1, HE.out.2, rfl⟩⟩, HOK.out⟩

end Go.Proofs.YtgnoakidjnilpaaGreat

/- CpuRunsA -/
namespace Go.Proofs.YtgnoakidjnilpaaGreat
open Go.RowKit

theorem fr_far {S : Nat → Prop} {w a b : World} (f : Fr none' w a) (g : Fr S a b) (h : ∀ k, S k → w.heap.size ≤ k) : Fr none' w b :=
  ⟨g.os.trans f.os, g.tape.trans f.tape, g.output.trans f.output, Nat.le_trans f.size g.size, fun k hk hn => by
    rw [g.block k (Nat.lt_of_lt_of_le hk f.size) (fun e => by have := h k e; omega)]; exact f.block k hk hn⟩

structure Ro (w wr : World) (gx gc g8 g10 : Nat) (X : Array Value) (c : Cp) (O1 O2 : Bo) (M1 M2 : Mc) : Prop where
  f : Fr none' w wr
  rx : Row wr gx X 25
  rc : Row wr gc (cpA c) 30
  r8 : Row wr g8 O1.a 44
  r10 : Row wr g10 O2.a 44
  m1 : IsMc wr O1.B 16 M1
  m2 : IsMc wr O2.B 16 M2
  s1 : ∀ k, (O1.B.s k ∨ k = O1.B.p) → gc < k ∧ k < g8
  s2 : ∀ k, (O2.B.s k ∨ k = O2.B.p) → g8 < k ∧ k < g10
  g : w.heap.size ≤ gx ∧ gx < gc ∧ gc < g8 ∧ g8 < g10

section
variable {w wr wr' : World} {gx gc g8 g10 : Nat} {X : Array Value} {c : Cp} {O1 O2 : Bo} {M1 M2 M' : Mc}
theorem Ro.keep0 (h : Ro w wr gx gc g8 g10 X c O1 O2 M1 M2) (k : Fr none' wr wr') : Ro w wr' gx gc g8 g10 X c O1 O2 M1 M2 :=
  ⟨h.f.trans k, h.rx.keep k (fun h => h), h.rc.keep k (fun h => h), h.r8.keep k (fun h => h), h.r10.keep k (fun h => h), h.m1.keep0 k, h.m2.keep0 k, h.s1, h.s2, h.g⟩
theorem Ro.at (h : Ro w wr gx gc g8 g10 X c O1 O2 M1 M2) {g : Nat} (k : Fr (at' g) wr wr') (hg : g10 < g) : Ro w wr' gx gc g8 g10 X c O1 O2 M1 M2 := by
  obtain ⟨h1, h2, h3, h4⟩ := h.g
  have n : ∀ j, j ≠ g → ¬ at' g j := fun j h e => h e
  exact ⟨fr_far h.f k (fun j e => by have e' : j = g := e; omega), h.rx.keep k (n _ (by omega)), h.rc.keep k (n _ (by omega)), h.r8.keep k (n _ (by omega)), h.r10.keep k (n _ (by omega)), isMc_past h.m1 k (fun j hj => n j (by have := h.s1 j hj; omega)), isMc_past h.m2 k (fun j hj => n j (by have := h.s2 j hj; omega)), h.s1, h.s2, h.g⟩
theorem Ro.run1 (h : Ro w wr gx gc g8 g10 X c O1 O2 M1 M2) (k : Fr O1.B.s wr wr') (m : IsMc wr' O1.B 16 M') : Ro w wr' gx gc g8 g10 X c O1 O2 M' M2 := by
  obtain ⟨h1, h2, h3, h4⟩ := h.g
  have n : ∀ j, j ≤ gc ∨ g8 ≤ j → ¬ O1.B.s j := fun j hj e => by have := h.s1 j (Or.inl e); omega
  exact ⟨fr_far h.f k (fun j e => by have := h.s1 j (Or.inl e); omega), h.rx.keep k (n _ (by omega)), h.rc.keep k (n _ (by omega)), h.r8.keep k (n _ (by omega)), h.r10.keep k (n _ (by omega)), m,
    h.m2.keep k (n _ (by have := h.s2 _ (Or.inr rfl); omega)) (n _ (by have := h.s2 _ (Or.inl (Or.inl rfl)); omega)) (n _ (by have := h.s2 _ (Or.inl (Or.inr (Or.inl rfl))); omega)) (fun j hj => n j (by have := h.s2 j (Or.inl (Or.inr (Or.inr hj))); omega)), h.s1, h.s2, h.g⟩
theorem Ro.run2 (h : Ro w wr gx gc g8 g10 X c O1 O2 M1 M2) (k : Fr O2.B.s wr wr') (m : IsMc wr' O2.B 16 M') : Ro w wr' gx gc g8 g10 X c O1 O2 M1 M' := by
  obtain ⟨h1, h2, h3, h4⟩ := h.g
  have n : ∀ j, j ≤ g8 ∨ g10 ≤ j → ¬ O2.B.s j := fun j hj e => by have := h.s2 j (Or.inl e); omega
  exact ⟨fr_far h.f k (fun j e => by have := h.s2 j (Or.inl e); omega), h.rx.keep k (n _ (by omega)), h.rc.keep k (n _ (by omega)), h.r8.keep k (n _ (by omega)), h.r10.keep k (n _ (by omega)),
    h.m1.keep k (n _ (by have := h.s1 _ (Or.inr rfl); omega)) (n _ (by have := h.s1 _ (Or.inl (Or.inl rfl)); omega)) (n _ (by have := h.s1 _ (Or.inl (Or.inr (Or.inl rfl))); omega)) (fun j hj => n j (by have := h.s1 j (Or.inl (Or.inr (Or.inr hj))); omega)), m, h.s1, h.s2, h.g⟩
end

theorem eq_trap (t : Tr) (w : World) : (binOp .eql 52 (.agg (trL t)) (.agg (trL t))).run Tryz.prog w = .ok (.bool true) w := by
  unfold trL
  simp [go_sem]

theorem tr_at {w : World} {g : Nat} {t : Tr} {ty : TypeId} (h : Row w g (trL t) ty) : ∀ j v, (trL t)[j]? = some v → w.cell? ⟨g, j, none⟩ = some v := fun j _ hv => (h.cell j).trans hv

def Stand (M : Mc) (c : Cp) (vm se : Int) (many k : Nat) (M' : Mc) (D : Cp) (T : Tr) : Prop :=
  (∀ j, j < k → (trapK 16 M c vm se j).ca = 0) ∧ ((k ≤ many ∧ T.ca = 0 ∧ M' = (seqR 16 M c vm se k).1 ∧ D = (seqR 16 M c vm se k).2 ∧ T = _root_.Go.Proofs.YtgnoakidjnilpaaGreat.t0) ∨ (k < many ∧ T.ca ≠ 0 ∧ M' = (seqR 16 M c vm se (k + 1)).1 ∧ D = (seqR 16 M c vm se (k + 1)).2 ∧ T = trapK 16 M c vm se k))

theorem Stand.ran {M : Mc} {c : Cp} {vm se : Int} {many k : Nat} {M' : Mc} {D : Cp} {T : Tr} (h : Stand M c vm se many k M' D T) (e : k = many ∨ T.ca ≠ 0) : Ran 16 M c vm se many k M' D T := by
  obtain ⟨h1, h2⟩ := h
  refine ⟨h1, ?_⟩
  rcases h2 with ⟨_, b, c1, c2, c3⟩ | ⟨a, b, c1, c2, c3⟩
  · rcases e with e | e
    · exact Or.inl ⟨e, c1, c2, c3⟩
    · exact absurd b e
  · exact Or.inr ⟨a, by rw [← c3]; exact b, c1, c2, c3⟩

theorem Stand.step {M : Mc} {c : Cp} {vm se : Int} {many k : Nat} {M' : Mc} {D : Cp} {T : Tr} (h : Stand M c vm se many k M' D T) (hk : k < many) (ht : T.ca = 0) :
    ((stepI 16 M' D vm se).2.2.ca = 0 → Stand M c vm se many (k + 1) (stepI 16 M' D vm se).1 (stepI 16 M' D vm se).2.1 (stepI 16 M' D vm se).2.2) ∧ ((stepI 16 M' D vm se).2.2.ca ≠ 0 → Stand M c vm se many k (stepI 16 M' D vm se).1 (stepI 16 M' D vm se).2.1 (stepI 16 M' D vm se).2.2) := by
  obtain ⟨h1, h2⟩ := h
  rcases h2 with ⟨_, b, rfl, rfl, c3⟩ | ⟨a, b, _⟩
  · refine ⟨fun e => ⟨fun j hj => ?_, Or.inl ⟨by omega, e, rfl, rfl, step_zero 16 _ _ vm se _ e⟩⟩, fun e => ⟨h1, Or.inr ⟨hk, e, rfl, rfl, rfl⟩⟩⟩
    by_cases q : j < k
    · exact h1 j q
    · obtain rfl : j = k := by omega
      exact e
  · exact absurd ht b

theorem Stand.few {M : Mc} {c : Cp} {vm se : Int} {many k : Nat} {M' : Mc} {D : Cp} {T : Tr} (h : Stand M c vm se many k M' D T) (hm : M.few 0) : M'.few (2 * (k + 1)) := by
  rcases h.2 with ⟨_, _, rfl, _⟩ | ⟨_, _, rfl, _⟩
  · exact few_mono (few_seq hm c vm se k) (by omega)
  · exact few_seq hm c vm se (k + 1)

structure Lp (w wr : World) (gx gc g8 g10 g12 g13 g15 g16 : Nat) (X : Array Value) (c : Cp) (O1 O2 : Bo) (Ma : Mc) (p1 : Cp) (s1 : Tr) (MM : Mc) (vm se : Int) (many k : Nat) (M' : Mc) (D : Cp) (T : Tr) : Prop where
  ro : Ro w wr gx gc g8 g10 X c O1 O2 Ma M'
  r12 : Row wr g12 (cpA p1) 30
  r13 : Row wr g13 (trL s1) 52
  r15 : Row wr g15 (cpA D) 30
  r16 : Row wr g16 (trL T) 52
  st : Stand MM c vm se many k M' D T
  ok : D.Ok

theorem ix_eq {p : Int} (h0 : 0 ≤ p) (h1 : p ≤ 65535) : (wrap64 (p.tdiv 4)).tmod 8 = p / 4 % 8 := by
  have e1 : p.tdiv 4 = p / 4 := Int.tdiv_eq_ediv_of_nonneg h0
  have e2 : wrap64 (p / 4) = p / 4 := by unfold wrap64; omega
  rw [e1, e2, Int.tmod_eq_emod_of_nonneg (by omega)]

def tm (w : World) (g : Nat) : Nat := match w.cell? ⟨g, 0, none⟩ with
  | some (.int _ x) => if x = 0 then 1 else 0
  | _ => 0
theorem tm_row {w : World} {g : Nat} {T : Tr} {t : TypeId} (h : Row w g (trL T) t) : tm w g = if T.ca = 0 then 1 else 0 := by
  have e : w.cell? ⟨g, 0, none⟩ = some (.int .i64 T.ca) := h.cell 0
  unfold tm
  rw [e]

end Go.Proofs.YtgnoakidjnilpaaGreat

/- CpuTrapsA -/
namespace Go.Proofs.YtgnoakidjnilpaaGreat
open Go.RowKit

structure Rt (w wr : World) (gx gc g8 : Nat) (X : Array Value) (c : Cp) (O1 : Bo) (M1 : Mc) : Prop where
  f : Fr none' w wr
  rx : Row wr gx X 25
  rc : Row wr gc (cpA c) 30
  r8 : Row wr g8 O1.a 44
  m1 : IsMc wr O1.B 16 M1
  s1 : ∀ k, (O1.B.s k ∨ k = O1.B.p) → gc < k ∧ k < g8
  g : w.heap.size ≤ gx ∧ gx < gc ∧ gc < g8

section
variable {w wr wr' : World} {gx gc g8 : Nat} {X : Array Value} {c : Cp} {O1 : Bo} {M1 M' : Mc}
theorem Rt.far (h : Rt w wr gx gc g8 X c O1 M1) {S : Nat → Prop} (k : Fr S wr wr') (hS : ∀ j, S j → g8 < j) : Rt w wr' gx gc g8 X c O1 M1 := by
  obtain ⟨h1, h2, h3⟩ := h.g
  have n : ∀ j, j ≤ g8 → ¬ S j := fun j hj e => by have := hS j e; omega
  exact ⟨fr_far h.f k (fun j e => by have := hS j e; omega), h.rx.keep k (n _ (by omega)), h.rc.keep k (n _ (by omega)), h.r8.keep k (n _ (by omega)),
    h.m1.keep k (n _ (by have := h.s1 _ (Or.inr rfl); omega)) (n _ (by have := h.s1 _ (Or.inl (Or.inl rfl)); omega)) (n _ (by have := h.s1 _ (Or.inl (Or.inr (Or.inl rfl))); omega)) (fun j hj => n j (by have := h.s1 j (Or.inl (Or.inr (Or.inr hj))); omega)), h.s1, h.g⟩
theorem Rt.keep0 (h : Rt w wr gx gc g8 X c O1 M1) (k : Fr none' wr wr') : Rt w wr' gx gc g8 X c O1 M1 := h.far k (fun _ e => e.elim)
theorem Rt.run (h : Rt w wr gx gc g8 X c O1 M1) (k : Fr O1.B.s wr wr') (m : IsMc wr' O1.B 16 M') : Rt w wr' gx gc g8 X c O1 M' := by
  obtain ⟨h1, h2, h3⟩ := h.g
  have n : ∀ j, j ≤ gc ∨ g8 ≤ j → ¬ O1.B.s j := fun j hj e => by have := h.s1 j (Or.inl e); omega
  exact ⟨fr_far h.f k (fun j e => by have := h.s1 j (Or.inl e); omega), h.rx.keep k (n _ (by omega)), h.rc.keep k (n _ (by omega)), h.r8.keep k (n _ (by omega)), m, h.s1, h.g⟩
end

def Ob (base : Nat) (w : World) (v : Value) (L : List UInt8) : Prop := base ≤ w.heap.size ∧ w.ownsRow base 5 1 v L.length (L.map U8)

theorem ob_none {base : Nat} {w : World} (h : base ≤ w.heap.size) : Ob base w (.slice none 0 0) [] := ⟨h, by simp, Or.inl ⟨rfl, rfl⟩⟩

theorem ob_keep {S : Nat → Prop} {base : Nat} {w w' : World} {v : Value} {L : List UInt8} (h : Ob base w v L) (f : Fr S w w') (hs : ∀ k, S k → k < base) : Ob base w' v L := by
  obtain ⟨h0, hl, h | ⟨g, cap, cur, hv, hb, hg, hc, hm, hz, ht⟩⟩ := h
  · exact ⟨Nat.le_trans h0 f.size, hl, Or.inl h⟩
  · exact ⟨Nat.le_trans h0 f.size, hl, Or.inr ⟨g, cap, cur, hv, hb, (f.block g (Row.lt (show Row w g cur 5 from hg)) (fun e => by have := hs g e; omega)).trans hg, hc, hm, hz, ht⟩⟩

theorem ob_block {base : Nat} {w : World} {v : Value} {L : List UInt8} (h : Ob base w v L) (k : Nat) (hk : some k = v.ownBlock) : base ≤ k := by
  obtain ⟨_, _, h | ⟨g, cap, cur, hv, hb, _⟩⟩ := h
  · rw [h.1] at hk; simp [Value.ownBlock] at hk
  · rw [hv] at hk; simp [Value.ownBlock] at hk; omega

theorem ob_out {base : Nat} {w : World} {v : Value} {L : List UInt8} (h : Ob base w v L) (hL : L.length = 1024) : ∃ g cap, v = .slice (some ⟨g, 0, none⟩) 1024 cap ∧ base ≤ g ∧ Begins w g L cap := by
  have hv : v ≠ .slice none 0 0 := by
    obtain ⟨_, _, h | ⟨g, cap, cur, hv, _⟩⟩ := h
    · have : L.length = 0 := h.2
      omega
    · rw [hv]; intro e; cases e
  obtain ⟨g, cap, e, hb, hB, _⟩ := own_begins h.2 hv
  rw [hL] at e
  exact ⟨g, cap, e, hb, hB⟩

theorem take_more (bs : List UInt8) (k : Nat) : bs.take (64 * k) ++ frameOf bs k = bs.take (64 * (k + 1)) := by
  unfold frameOf
  rw [Nat.mul_comm k 64, show 64 * (k + 1) = 64 * k + 64 by omega, List.take_add]

end Go.Proofs.YtgnoakidjnilpaaGreat

/- CpuRunN -/
namespace Go.Proofs.YtgnoakidjnilpaaGreat
open Go.RowKit

set_option maxRecDepth 100000 in
set_option maxHeartbeats 4000000 in
theorem Run_neg (w : World) (B : Bm) (nf : Nat) (M : Mc) (c : Cp) (hok : c.Ok) (vm se many : Int) (hmy : many < 0) (hM : IsMc w B nf M) :
    Calls Tryz.prog 11 #[.agg #[.pointer (some ⟨B.p, 0, none⟩), .pointer (some ⟨B.bt, 0, none⟩), ptrV (B.v.map Bk.b)], .agg (cpA c), .int .i64 vm, .int .i64 se, .int .i64 many] w fun e w' => e = .returned (.tuple #[.agg (cpA c), .agg (trL _root_.Go.Proofs.YtgnoakidjnilpaaGreat.t0), .int .i64 0]) ∧ Fr B.s w w' ∧ IsMc w' B nf M := by
  have HB : Hid (∀ k, (B.s k ∨ k = B.p) → k < w.heap.size) := hM.ltp
  have hz : ∀ w, Sem.run Tryz.prog (zeroValue 30) w = .ok (.agg (cpA zc)) w := zero_cpu
  obtain ⟨v0, hv0⟩ : ∃ v0, v0 = (((w.alloc (.cells #[.pointer (some ⟨B.p, 0, none⟩), .pointer (some ⟨B.bt, 0, none⟩), ptrV (B.v.map Bk.b)] 37)).alloc (.cells (cpA c) 30)).alloc (.cells (cpA zc) 30)).alloc (.cells #[.int .i64 0, .int .i64 0, .int .i64 0, .int .i64 0, .int .i64 0, .int .i64 0, .bool false, .int .i64 0] 52) := ⟨_, rfl⟩
  have f0 : Fr none' w v0 := by rw [hv0]; exact ((((Fr.refl none' w).alloc _).alloc _).alloc _).alloc _
  have rM : Row v0 w.heap.size #[.pointer (some ⟨B.p, 0, none⟩), .pointer (some ⟨B.bt, 0, none⟩), ptrV (B.v.map Bk.b)] 37 := by rw [hv0]; exact (((row_alloc _ _ _).alloc _).alloc _).alloc _
  have rA : Row v0 (w.heap.size + 1) (cpA c) 30 := by rw [hv0]; exact ((row_at (by simp)).alloc _).alloc _
  have rZ : Row v0 (w.heap.size + 1 + 1) (cpA zc) 30 := by rw [hv0]; exact (row_at (by simp)).alloc _
  have rT : Row v0 (w.heap.size + 1 + 1 + 1) #[.int .i64 0, .int .i64 0, .int .i64 0, .int .i64 0, .int .i64 0, .int .i64 0, .bool false, .int .i64 0] 52 := by rw [hv0]; exact row_at (by simp)
  have hsz : Hid (v0.heap.size = w.heap.size + 4) := by show _ = _; rw [hv0]; simp
  have u1000 : decide ((1000 : Int) < many) = false := decide_eq_false (by omega)
  have v1000 : ¬ ((1000 : Int) < many) := by omega
  have uk : decide ((0 : Int) < many) = false := decide_eq_false (by omega)
  clear hmy
  go_enter Tryz.func11, Tryz.ntmps11
  go_upto_region 1 with fail
  rw [← hv0]
  clear hv0 hz
  obtain ⟨gM, hgM⟩ : ∃ g, g = w.heap.size := ⟨_, rfl⟩
  obtain ⟨gA, hgA⟩ : ∃ g, g = w.heap.size + 1 := ⟨_, rfl⟩
  obtain ⟨gZ, hgZ⟩ : ∃ g, g = w.heap.size + 1 + 1 := ⟨_, rfl⟩
  obtain ⟨gT, hgT⟩ : ∃ g, g = w.heap.size + 1 + 1 + 1 := ⟨_, rfl⟩
  rw [← hgT] at rT ⊢
  rw [← hgZ] at rZ ⊢
  rw [← hgA] at rA ⊢
  rw [← hgM] at rM ⊢
  have HN : Hid (gM = w.heap.size ∧ gA = w.heap.size + 1 ∧ gZ = w.heap.size + 2 ∧ gT = w.heap.size + 3) := by show _ ∧ _; omega
  clear hgA hgZ hgT hgM
  go_wp2_with fail
  refine (ops_any v0 v0.heap.size rfl).mono ?_
  rintro e v1 ⟨rfl, g1, hO⟩
  obtain ⟨N, hN⟩ : ∃ N, N = v0.heap.size := ⟨_, rfl⟩
  rw [← hN] at hO ⊢
  have HNN : Hid (N = w.heap.size + 4) := by show _ = _; rw [hN, hsz.out]
  have hR : Hid (Rn w v1 B nf N gM gA gZ gT M c vm se 0) := by
    have hlt := hO.list.lt
    refine ⟨(f0.trans g1).mono (fun _ _ h => h.elim), rM.keep g1 (fun h => h), rA.keep g1 (fun h => h), rZ.keep g1 (fun h => h), rT.keep g1 (fun h => h), (hM.keep0 f0).keep0 g1, hO, fun j hj => absurd hj (Nat.not_lt_zero j), hok, by omega⟩
  clear hN f0 g1 rM rA rZ rT hO hsz hM hok
  go_wp2_with fail
  go_loopw [14, 15] (fun i p wr => wr = v1 ∧ i = .int .i64 0) (fun _ _ _ => 0)
  case atStart => exact ⟨rfl, rfl⟩
  case round =>
    obtain ⟨rfl, rfl⟩ := hrel
    have rA := hR.out.rA
    have rZ := hR.out.rZ
    have rT := hR.out.rT
    have f1 := hR.out.f
    have hM := hR.out.m
    clear hR
    obtain ⟨M1, hM1⟩ : ∃ q, q = M := ⟨_, rfl⟩
    obtain ⟨c1, hc1⟩ : ∃ q, q = c := ⟨_, rfl⟩
    change IsMc wr B nf M at hM
    change Row wr gA (cpA c) 30 at rA
    rw [← hM1] at hM
    rw [← hc1] at rA
    have HE : Hid (M1 = M ∧ c1 = c) := ⟨hM1, hc1⟩
    clear hM1 hc1
    have lo : (cpA zc).size = (cpA c1).size := by rw [cpA_size, cpA_size]
    have dT : ∀ j, j ≠ gT → ¬ at' gT j := fun j h e => h e
    have rT1 := rT.keep (fr_row wr gZ (cpA c1)) (fun e => by have e' : gT = gZ := e; have := HN.out; omega)
    have eZ : Row ((wr.setRow gZ (cpA c1)).setRow gT #[.int .i64 0, .int .i64 0, .int .i64 0, .int .i64 0, .int .i64 0, .int .i64 0, .bool false, .int .i64 0]) gZ (cpA c1) 30 := (rZ.setRow).keep (fr_row _ gT #[.int .i64 0, .int .i64 0, .int .i64 0, .int .i64 0, .int .i64 0, .int .i64 0, .bool false, .int .i64 0]) (dT _ (by have := HN.out; omega))
    have eT : Row ((wr.setRow gZ (cpA c1)).setRow gT #[.int .i64 0, .int .i64 0, .int .i64 0, .int .i64 0, .int .i64 0, .int .i64 0, .bool false, .int .i64 0]) gT #[.int .i64 0, .int .i64 0, .int .i64 0, .int .i64 0, .int .i64 0, .int .i64 0, .bool false, .int .i64 0] 52 := rT1.setRow
    have f3 := fr_rowS (fr_rowS f1 (g := gZ) (by have := HN.out; omega) (cpA c1)) (g := gT) (by have := HN.out; omega) #[.int .i64 0, .int .i64 0, .int .i64 0, .int .i64 0, .int .i64 0, .int .i64 0, .bool false, .int .i64 0]
    have m1 := isMc_past (isMc_past hM (fr_row _ gZ (cpA c1)) (fun j hj e => by have e' : j = gZ := e; have := HB.out j hj; have := HN.out; omega)) (fr_row _ gT #[.int .i64 0, .int .i64 0, .int .i64 0, .int .i64 0, .int .i64 0, .int .i64 0, .bool false, .int .i64 0]) (fun j hj e => by have e' : j = gT := e; have := HB.out j hj; have := HN.out; omega)
    have ZZ : Hid (Row ((wr.setRow gZ (cpA c1)).setRow gT #[.int .i64 0, .int .i64 0, .int .i64 0, .int .i64 0, .int .i64 0, .int .i64 0, .bool false, .int .i64 0]) gZ (cpA c1) 30 ∧ Row ((wr.setRow gZ (cpA c1)).setRow gT #[.int .i64 0, .int .i64 0, .int .i64 0, .int .i64 0, .int .i64 0, .int .i64 0, .bool false, .int .i64 0]) gT #[.int .i64 0, .int .i64 0, .int .i64 0, .int .i64 0, .int .i64 0, .int .i64 0, .bool false, .int .i64 0] 52 ∧ Fr B.s w ((wr.setRow gZ (cpA c1)).setRow gT #[.int .i64 0, .int .i64 0, .int .i64 0, .int .i64 0, .int .i64 0, .int .i64 0, .bool false, .int .i64 0]) ∧ IsMc ((wr.setRow gZ (cpA c1)).setRow gT #[.int .i64 0, .int .i64 0, .int .i64 0, .int .i64 0, .int .i64 0, .int .i64 0, .bool false, .int .i64 0]) B nf M1) := ⟨eZ, eT, f3, m1⟩
    clear eZ eT f3 m1
    go_wp2_with (first | refine wpList_load_part rfl 30 _ rfl gA rfl (cpA c1) _ (cp_at rA) Tryz.underlying30 rfl (size_cpA c1) ?_ | refine wpList_store_row rfl 30 _ _ rfl gZ (cpA c1) rfl rfl 30 (cpA zc) rZ (size_cpA c1) lo (cpA_one c1) ?_ | refine wpList_store_row rfl 52 _ _ rfl gT #[.int .i64 0, .int .i64 0, .int .i64 0, .int .i64 0, .int .i64 0, .int .i64 0, .bool false, .int .i64 0] rfl rfl 52 #[.int .i64 0, .int .i64 0, .int .i64 0, .int .i64 0, .int .i64 0, .int .i64 0, .bool false, .int .i64 0] rT1 size_trap rfl (by simp [Value.oneCell']) ?_)
    obtain ⟨eZ, eT, f3, m1⟩ := ZZ.out
    refine bodyPost_ret (ret_ctk rfl rfl rfl eZ (cpA_size _) eT rfl) rfl ?_
    obtain ⟨rfl, rfl⟩ := HE.out
    exact ⟨rfl, f3, m1⟩

end Go.Proofs.YtgnoakidjnilpaaGreat

/- CpuConfA -/
namespace Go.Proofs.YtgnoakidjnilpaaGreat
open Go.RowKit

def mayA (F : Nat → Bool) : Array Value := ((List.range 16).map fun i => Value.bool (F i)).toArray
theorem mayA_size (F : Nat → Bool) : (mayA F).size = 16 := by simp [mayA]
theorem mayA_get (F : Nat → Bool) {i : Nat} (h : i < 16) : (mayA F)[i]? = some (.bool (F i)) := by
  unfold mayA
  simp [h]
theorem mayA_set (F : Nat → Bool) {i : Nat} (h : i < 16) (b : Bool) : (mayA F).setIfInBounds i (.bool b) = mayA (fun j => if j = i then b else F j) := by
  apply Array.ext_getElem?
  intro j
  rw [Array.getElem?_setIfInBounds]
  by_cases e : i = j
  · subst e
    rw [if_pos rfl, if_pos (by rw [mayA_size]; exact h), mayA_get _ h]
    simp
  · rw [if_neg e]
    by_cases hj : j < 16
    · rw [mayA_get _ hj, mayA_get _ hj, if_neg (fun h => e h.symm)]
    · rw [Array.getElem?_eq_none (by rw [mayA_size]; omega), Array.getElem?_eq_none (by rw [mayA_size]; omega)]
theorem mayA_zero : mayA (fun _ => false) = #[.bool false, .bool false, .bool false, .bool false, .bool false, .bool false, .bool false, .bool false, .bool false, .bool false, .bool false, .bool false, .bool false, .bool false, .bool false, .bool false] := rfl

def befA (b : Nat → Nat) (n : Nat) : Array Value := ((List.range 16).map fun i => if i < n then Value.slice (some ⟨b i, 0, none⟩) 64 64 else .slice none 0 0).toArray
theorem befA_size (b : Nat → Nat) (n : Nat) : (befA b n).size = 16 := by simp [befA]
theorem befA_get (b : Nat → Nat) (n : Nat) {i : Nat} (h : i < 16) : (befA b n)[i]? = some (if i < n then Value.slice (some ⟨b i, 0, none⟩) 64 64 else .slice none 0 0) := by
  unfold befA
  simp [h]
theorem befA_set (b : Nat → Nat) {n : Nat} (h : n < 16) (x : Nat) : (befA b n).setIfInBounds n (.slice (some ⟨x, 0, none⟩) 64 64) = befA (fun j => if j = n then x else b j) (n + 1) := by
  apply Array.ext_getElem?
  intro j
  rw [Array.getElem?_setIfInBounds]
  by_cases e : n = j
  · subst e
    rw [if_pos rfl, if_pos (by rw [befA_size]; exact h), befA_get _ _ h, if_pos (Nat.lt_succ_self n), if_pos rfl]
  · rw [if_neg e]
    by_cases hj : j < 16
    · rw [befA_get _ _ hj, befA_get _ _ hj]
      by_cases h1 : j < n
      · rw [if_pos h1, if_pos (by omega), if_neg (fun h => e h.symm)]
      · rw [if_neg h1, if_neg (by omega)]
    · rw [Array.getElem?_eq_none (by rw [befA_size]; omega), Array.getElem?_eq_none (by rw [befA_size]; omega)]
theorem befA_zero (b : Nat → Nat) : befA b 0 = #[.slice none 0 0, .slice none 0 0, .slice none 0 0, .slice none 0 0, .slice none 0 0, .slice none 0 0, .slice none 0 0, .slice none 0 0, .slice none 0 0, .slice none 0 0, .slice none 0 0, .slice none 0 0, .slice none 0 0, .slice none 0 0, .slice none 0 0, .slice none 0 0] := rfl

structure Cf (w wr : World) (gx gc g8 gm : Nat) (X : Array Value) (c : Cp) (O : Bo) (M : Mc) (F : Nat → Bool) : Prop where
  t : Rt w wr gx gc g8 X c O M
  rm : Row wr gm (mayA F) 67
  gt : g8 < gm

section
variable {w wr wr' : World} {gx gc g8 gm : Nat} {X : Array Value} {c : Cp} {O : Bo} {M M' : Mc} {F : Nat → Bool}
theorem Cf.far (h : Cf w wr gx gc g8 gm X c O M F) {S : Nat → Prop} (k : Fr S wr wr') (hS : ∀ j, S j → gm < j) : Cf w wr' gx gc g8 gm X c O M F :=
  ⟨h.t.far k (fun j e => by have := hS j e; have := h.gt; omega), h.rm.keep k (fun e => by have := hS _ e; omega), h.gt⟩
theorem Cf.keep0 (h : Cf w wr gx gc g8 gm X c O M F) (k : Fr none' wr wr') : Cf w wr' gx gc g8 gm X c O M F := h.far k (fun _ e => e.elim)
theorem Cf.set (h : Cf w wr gx gc g8 gm X c O M F) {i : Nat} (hi : i < 16) (b : Bool) : Cf w (wr.setCell ⟨gm, i, none⟩ (.bool b)) gx gc g8 gm X c O M (fun j => if j = i then b else F j) := by
  have k : Fr (at' gm) wr (wr.setCell ⟨gm, i, none⟩ (.bool b)) := (Fr.refl (at' gm) wr).setCell (p := ⟨gm, i, none⟩) (Or.inr rfl) _
  exact ⟨h.t.far k (fun j e => by have e' : j = gm := e; have := h.gt; omega), by rw [← mayA_set F hi b]; exact h.rm.setCell i _, h.gt⟩
theorem Cf.run (h : Cf w wr gx gc g8 gm X c O M F) (k : Fr O.B.s wr wr') (m : IsMc wr' O.B 16 M') : Cf w wr' gx gc g8 gm X c O M' F :=
  ⟨h.t.run k m, h.rm.keep k (fun e => by have := h.t.s1 _ (Or.inl e); have := h.gt; omega), h.gt⟩
end

def MayK (bs : List UInt8) (se : Int) (k : Nat) (f : Nat) : Prop := ∃ g : Nat, g < k ∧ (single bs 16 se (g : Int)).ft.k = 0 ∧ bits .and .i64 (single bs 16 se (g : Int)).ri 2 ≠ 0 ∧ (single bs 16 se (g : Int)).fr = (f : Int)
def Tells (bs : List UInt8) (se : Int) (k : Nat) (F : Nat → Bool) : Prop := ∀ f, f < 16 → (F f = true ↔ MayK bs se k f)
theorem tells_zero (bs : List UInt8) (se : Int) : Tells bs se 0 (fun _ => false) := fun f _ => ⟨fun h => (by cases h), fun ⟨g, hg, _⟩ => (by omega)⟩
theorem tells_no {bs : List UInt8} {se : Int} {k : Nat} {F : Nat → Bool} (h : Tells bs se k F) (hn : ¬ ((single bs 16 se (k : Int)).ft.k = 0 ∧ bits .and .i64 (single bs 16 se (k : Int)).ri 2 ≠ 0 ∧ (single bs 16 se (k : Int)).fr < 16)) : Tells bs se (k + 1) F := fun f hf => by
  rw [h f hf]
  constructor
  · rintro ⟨g, hg, r⟩
    exact ⟨g, by omega, r⟩
  · rintro ⟨g, hg, r1, r2, r3⟩
    by_cases e : g = k
    · subst e
      exact absurd ⟨r1, r2, by omega⟩ hn
    · exact ⟨g, by omega, r1, r2, r3⟩
theorem tells_yes {bs : List UInt8} {se : Int} {k m : Nat} {F : Nat → Bool} (h : Tells bs se k F) (h1 : (single bs 16 se (k : Int)).ft.k = 0) (h2 : bits .and .i64 (single bs 16 se (k : Int)).ri 2 ≠ 0) (h3 : (single bs 16 se (k : Int)).fr = (m : Int)) : Tells bs se (k + 1) (fun j => if j = m then true else F j) := fun f hf => by
  constructor
  · intro hh
    by_cases e : f = m
    · subst e
      exact ⟨k, by omega, h1, h2, h3⟩
    · simp only [if_neg e] at hh
      obtain ⟨g, hg, r⟩ := (h f hf).1 hh
      exact ⟨g, by omega, r⟩
  · rintro ⟨g, hg, r1, r2, r3⟩
    by_cases e : f = m
    · simp [e]
    · simp only [if_neg e]
      refine (h f hf).2 ⟨g, ?_, r1, r2, r3⟩
      by_cases e2 : g = k
      · subst e2
        omega
      · omega
theorem tells_may {bs : List UInt8} {se : Int} {F : Nat → Bool} (h : Tells bs se 1024 F) {f : Nat} (hf : f < 16) : F f = true ↔ May bs se (f : Int) := h f hf

structure Be (wr : World) (gm gb : Nat) (bs : List UInt8) (n : Nat) : Prop where
  ex : ∃ b : Nat → Nat, Row wr gb (befA b n) 75 ∧ ∀ i, i < n → gb < b i ∧ Row wr (b i) (byteVals (frameOf bs i)) 5
  gt : gm < gb
theorem Be.keep0 {wr wr' : World} {gm gb : Nat} {bs : List UInt8} {n : Nat} (h : Be wr gm gb bs n) (k : Fr none' wr wr') : Be wr' gm gb bs n := by
  obtain ⟨b, h1, h2⟩ := h.ex
  exact ⟨⟨b, h1.keep k (fun e => e), fun i hi => ⟨(h2 i hi).1, (h2 i hi).2.keep k (fun e => e)⟩⟩, h.gt⟩
theorem Be.low {wr wr' : World} {gm gb : Nat} {bs : List UInt8} {n : Nat} {S : Nat → Prop} (h : Be wr gm gb bs n) (k : Fr S wr wr') (hS : ∀ j, S j → j < gm) : Be wr' gm gb bs n := by
  obtain ⟨b, h1, h2⟩ := h.ex
  have hg := h.gt
  exact ⟨⟨b, h1.keep k (fun e => by have := hS _ e; omega), fun i hi => ⟨(h2 i hi).1, (h2 i hi).2.keep k (fun e => by have := hS _ e; have := (h2 i hi).1; omega)⟩⟩, h.gt⟩
theorem Be.more {wr wr' : World} {gm gb : Nat} {bs : List UInt8} {n : Nat} (h : Be wr gm gb bs n) (hn : n < 16) (k : Fr none' wr wr') {x : Nat} (hx : Row wr' x (byteVals (frameOf bs n)) 5) (hgx : gb < x) : Be (wr'.setCell ⟨gb, n, none⟩ (.slice (some ⟨x, 0, none⟩) 64 64)) gm gb bs (n + 1) := by
  obtain ⟨b, h1, h2⟩ := h.ex
  have h3 := (h1.keep k (fun e => e)).setCell n (.slice (some ⟨x, 0, none⟩) 64 64)
  rw [befA_set b hn x] at h3
  refine ⟨⟨_, h3, fun i hi => ?_⟩, h.gt⟩
  by_cases e : i = n
  · subst e
    simp only [if_pos]
    exact ⟨hgx, hx.setCell_other (p := ⟨gb, i, none⟩) (by show gb ≠ x; omega) _⟩
  · simp only [if_neg e]
    have := h2 i (by omega)
    exact ⟨this.1, (this.2.keep k (fun e => e)).setCell_other (p := ⟨gb, n, none⟩) (by show gb ≠ b i; omega) _⟩

theorem run_conf (w : World) (B : Bm) (bs : List UInt8) (g : Bool) (c : Cp) (hok : c.Ok) (vm se m : Int) (hm : m ≤ 200) (hM : IsMc w B 16 (M0 bs g)) (hs : Shut bs se) :
    Calls Tryz.prog 11 #[.agg #[.pointer (some ⟨B.p, 0, none⟩), .pointer (some ⟨B.bt, 0, none⟩), ptrV (B.v.map Bk.b)], .agg (cpA c), .int .i64 vm, .int .i64 se, .int .i64 m] w fun e w' => ∃ (k : Nat) (M' : Mc) (c' : Cp) (T : Tr), e = .returned (.tuple #[.agg (cpA c'), .agg (trL T), .int .i64 (k : Int)]) ∧ Fr B.s w w' ∧ IsMc w' B 16 M' ∧ Kept bs se M'.bs M'.T ∧ k ≤ 200 := by
  have k0 : Kept bs se (M0 bs g).bs (M0 bs g).T := kept_new hs
  by_cases h0 : m < 0
  · refine (Run_neg w B 16 (M0 bs g) c hok vm se m h0 hM).mono ?_
    rintro e w' ⟨rfl, f, hm'⟩
    exact ⟨0, _, c, _, rfl, f, hm', k0, by omega⟩
  · obtain ⟨n, rfl⟩ : ∃ n : Nat, m = (n : Int) := ⟨m.toNat, by omega⟩
    refine (Run_any w B 16 (M0 bs g) c hok vm se n (by omega) hM (M0_few bs g)).mono ?_
    rintro e w' ⟨k, M', c', T, rfl, f, hm', hr, _⟩
    refine ⟨k, M', c', T, rfl, f, hm', kept_ran k0 hs hr, ?_⟩
    obtain ⟨_, ⟨e, _⟩ | ⟨e, _⟩⟩ := hr <;> omega

end Go.Proofs.YtgnoakidjnilpaaGreat

/- CpuConfWalk -/
namespace Go.Proofs.YtgnoakidjnilpaaGreat
open Go.RowKit

theorem bo_one (O : Bo) : (O.a).all (·.oneCell') = true := by
  unfold Bo.a
  cases O.B.v <;> cases O.vr <;> simp [ptrV, Value.oneCell']

set_option maxRecDepth 100000 in
set_option maxHeartbeats 4000000 in
theorem conf_walk (w : World) (a0 a1 : Option Addr) (len cap len1 cap1 : Nat) (g : Bool) (vm se : Int) (P : Nat → Pu) (Q : Nat → Wo) (hl : len ≤ 9223372036854775807) (hl1 : len1 ≤ 9223372036854775807) (hP : Pus w a0 len P) (hQ : Wos w a1 len1 Q) (c : Cp) (hok : c.Ok) (steps : Int) :
    Calls Tryz.prog 4 #[.agg #[.slice a0 len cap, .slice a1 len1 cap1, .bool g, .int .i64 vm, .int .i64 se], .agg (cpA c), .int .i64 steps] w fun e w' => e = .returned (.bool true) ∧ Fr none' w w' := by
  have hz : ∀ w, Sem.run Tryz.prog (zeroValue 30) w = .ok (.agg (cpA zc)) w := zero_cpu
  have f0 := ((Fr.refl none' w).alloc (.cells #[.slice a0 len cap, .slice a1 len1 cap1, .bool g, .int .i64 vm, .int .i64 se] 25)).alloc (.cells (cpA c) 30)
  have rx := (row_alloc w #[.slice a0 len cap, .slice a1 len1 cap1, .bool g, .int .i64 vm, .int .i64 se] 25).alloc (.cells (cpA c) 30)
  have rc := row_at (W := w.alloc (.cells #[.slice a0 len cap, .slice a1 len1 cap1, .bool g, .int .i64 vm, .int .i64 se] 25)) (n := w.heap.size + 1) (cs := cpA c) (t := 30) (by simp)
  have HL : Hid (len ≤ 9223372036854775807 ∧ len1 ≤ 9223372036854775807) := ⟨hl, hl1⟩
  clear hl hl1
  go_enter Tryz.func4, Tryz.ntmps4
  go_wp2_with fail
  refine (awake_any _).mono ?_
  rintro e w1 ⟨rfl, g1⟩
  replace f0 := f0.trans g1
  replace rx := rx.keep g1 (fun h => h)
  replace rc := rc.keep g1 (fun h => h)
  clear g1
  obtain ⟨gx, hgx⟩ : ∃ q, q = w.heap.size := ⟨_, rfl⟩
  obtain ⟨gc, hgc⟩ : ∃ q, q = w.heap.size + 1 := ⟨_, rfl⟩
  rw [← hgc] at rc ⊢
  rw [← hgx] at rx ⊢
  have HG : Hid (gx = w.heap.size ∧ gc = w.heap.size + 1) := ⟨hgx, hgc⟩
  clear hgx hgc
  have hP1 := hP.keep f0
  have hQ1 := hQ.keep f0
  clear hP hQ
  obtain ⟨x0, x1, x2, x3, x4⟩ : w1.cell? ⟨gx, 0, none⟩ = some (.slice a0 len cap) ∧ w1.cell? ⟨gx, 1, none⟩ = some (.slice a1 len1 cap1) ∧ w1.cell? ⟨gx, 2, none⟩ = some (.bool g) ∧ w1.cell? ⟨gx, 3, none⟩ = some (.int .i64 vm) ∧ w1.cell? ⟨gx, 4, none⟩ = some (.int .i64 se) := ⟨rx.cell 0, rx.cell 1, rx.cell 2, rx.cell 3, rx.cell 4⟩
  go_wp2_with fail
  refine (made_any w1 a0 a1 len cap len1 cap1 g vm se P Q HL.out.1 HL.out.2 hP1 hQ1).mono ?_
  rintro e w2 ⟨O1, rfl, g2, hB1⟩
  clear x0 x1 x2 x3 x4
  obtain ⟨BS, hBS⟩ : ∃ BS, BS = wB (pB P (min len 100)) Q (min len1 300) := ⟨_, rfl⟩
  rw [← hBS] at hB1
  clear hBS
  have HRF : Hid (IsRef w2 O1.pr O1.br 16 BS ∧ O1.pr < w2.heap.size ∧ O1.br < w2.heap.size) := ⟨hB1.r, hB1.r.head.lt, hB1.r.row.lt⟩
  have II1 : Hid (∀ k, (O1.B.s k ∨ k = O1.B.p) → w1.heap.size ≤ k ∧ k < w2.heap.size) := hB1.in
  have L1 : Hid (gc < w1.heap.size) := rc.lt
  have L2 : Hid (w1.heap.size ≤ w2.heap.size) := g2.size
  have z8 := row_alloc w2 #[.pointer none, .pointer none, .pointer none, .pointer none, .pointer none, .pointer none] 44
  have g3 : Fr none' w2 ((w2.alloc (.cells #[.pointer none, .pointer none, .pointer none, .pointer none, .pointer none, .pointer none] 44)).setRow w2.heap.size O1.a) := ((Fr.refl none' w2).alloc _).newer (fr_row _ w2.heap.size _) (Nat.le_refl _)
  have rr : Row ((w2.alloc (.cells #[.pointer none, .pointer none, .pointer none, .pointer none, .pointer none, .pointer none] 44)).setRow w2.heap.size O1.a) w2.heap.size O1.a 44 := z8.setRow
  have GG : Hid (Fr none' w2 ((w2.alloc (.cells #[.pointer none, .pointer none, .pointer none, .pointer none, .pointer none, .pointer none] 44)).setRow w2.heap.size O1.a) ∧ Row ((w2.alloc (.cells #[.pointer none, .pointer none, .pointer none, .pointer none, .pointer none, .pointer none] 44)).setRow w2.heap.size O1.a) w2.heap.size O1.a 44) := ⟨g3, rr⟩
  clear g3 rr
  go_upto_region 5 with (refine wpList_store_row rfl 44 _ _ rfl w2.heap.size O1.a rfl rfl 44 #[.pointer none, .pointer none, .pointer none, .pointer none, .pointer none, .pointer none] z8 size_both rfl (bo_one O1) ?_)
  obtain ⟨g3, r8⟩ := GG.out
  clear GG z8
  obtain ⟨w3, hw3⟩ : ∃ q, q = (w2.alloc (.cells #[.pointer none, .pointer none, .pointer none, .pointer none, .pointer none, .pointer none] 44)).setRow w2.heap.size O1.a := ⟨_, rfl⟩
  rw [← hw3] at g3 r8 ⊢
  clear hw3
  have m1 := hB1.m.keep0 g3
  have L3 : Hid (w2.heap.size < w3.heap.size) := r8.lt
  replace g2 := g2.trans g3
  replace rx := rx.keep g2 (fun h => h)
  replace rc := rc.keep g2 (fun h => h)
  replace f0 := f0.trans g2
  have RF3 : Hid (IsRef w3 O1.pr O1.br 16 BS) := HRF.out.1.keep g3 (fun h => h) (fun h => h)
  clear g2 g3 hB1
  obtain ⟨g8, hg8⟩ : ∃ q, q = w2.heap.size := ⟨_, rfl⟩
  rw [← hg8] at r8 ⊢
  have H8 : Hid (g8 = w2.heap.size) := hg8
  clear hg8
  have RO : Hid (Rt w w3 gx gc g8 #[.slice a0 len cap, .slice a1 len1 cap1, .bool g, .int .i64 vm, .int .i64 se] c O1 (M0 BS g)) := by
    refine ⟨f0, rx, rc, r8, m1, ?_, ?_⟩
    · intro k hk
      have h1 := II1.out k hk
      have h2 := L1.out
      have h3 := H8.out
      omega
    · have h1 := HG.out
      have h2 := L1.out
      have h3 := L2.out
      have h4 := H8.out
      omega
  have HPB : Hid (O1.pr < g8 ∧ O1.br < g8) := by have h1 := HRF.out; have h2 := H8.out; show _ ∧ _; omega
  have fM := (Fr.refl none' w3).alloc (.cells #[.bool false, .bool false, .bool false, .bool false, .bool false, .bool false, .bool false, .bool false, .bool false, .bool false, .bool false, .bool false, .bool false, .bool false, .bool false, .bool false] 67)
  have CF : Hid (Cf w (w3.alloc (.cells #[.bool false, .bool false, .bool false, .bool false, .bool false, .bool false, .bool false, .bool false, .bool false, .bool false, .bool false, .bool false, .bool false, .bool false, .bool false, .bool false] 67)) gx gc g8 w3.heap.size #[.slice a0 len cap, .slice a1 len1 cap1, .bool g, .int .i64 vm, .int .i64 se] c O1 (M0 BS g) (fun _ => false) ∧ IsRef (w3.alloc (.cells #[.bool false, .bool false, .bool false, .bool false, .bool false, .bool false, .bool false, .bool false, .bool false, .bool false, .bool false, .bool false, .bool false, .bool false, .bool false, .bool false] 67)) O1.pr O1.br 16 BS) := ⟨⟨RO.out.keep0 fM, by rw [mayA_zero]; exact row_alloc w3 _ _, r8.lt⟩, RF3.out.keep fM (fun h => h) (fun h => h)⟩
  clear f0 rx rc r8 m1 II1 L1 L2 L3 H8 HG RO HRF RF3 fM
  go_wp2_with fail
  generalize (w3.alloc (.cells #[.bool false, .bool false, .bool false, .bool false, .bool false, .bool false, .bool false, .bool false, .bool false, .bool false, .bool false, .bool false, .bool false, .bool false, .bool false, .bool false] 67)) = w4 at CF ⊢
  generalize w3.heap.size = gm at CF ⊢
  go_loopw [11, 12, 13, 14] (fun i a b p wr => ∃ k : Nat, k ≤ 1024 ∧ i = .int .i64 (k : Int) ∧ Hid (∃ F, Cf w wr gx gc g8 gm #[.slice a0 len cap, .slice a1 len1 cap1, .bool g, .int .i64 vm, .int .i64 se] c O1 (M0 BS g) F ∧ Tells BS se k F ∧ IsRef wr O1.pr O1.br 16 BS)) (fun i _ _ _ _ => 1024 - (intOf i).toNat)
  case atStart => exact ⟨0, by omega, rfl, ⟨_, CF.out.1, tells_zero _ _, CF.out.2⟩⟩
  case round =>
    clear CF
    obtain ⟨k, hk, rfl, HH⟩ := hrel
    obtain ⟨F, hC, hT, hRf⟩ := HH.out
    have HC : Hid (Cf w wr gx gc g8 gm #[.slice a0 len cap, .slice a1 len1 cap1, .bool g, .int .i64 vm, .int .i64 se] c O1 (M0 BS g) F) := hC
    have HT : Hid (Tells BS se k F) := hT
    have HRf : Hid (IsRef wr O1.pr O1.br 16 BS) := hRf
    clear hC hT hRf HH
    by_cases hlt : k < 1024
    · have uk : decide ((k : Int) < 1024) = true := decide_eq_true (by omega)
      have y0 : wr.cell? ⟨g8, 0, none⟩ = some (.pointer (some ⟨O1.B.p, 0, none⟩)) := HC.out.t.r8.cell 0
      have x4 : wr.cell? ⟨gx, 4, none⟩ = some (.int .i64 se) := HC.out.t.rx.cell 4
      have S := single_any wr O1.B.p O1.B.bf 16 BS se (k : Int) HC.out.t.m1.ram
      have hrg := (single_range BS 16 se (k : Int)).1
      obtain ⟨R, hR⟩ : ∃ R, R = single BS 16 se (k : Int) := ⟨_, rfl⟩
      rw [← hR] at S hrg
      have HR : Hid (R = single BS 16 se (k : Int)) := hR
      clear hR
      obtain ⟨fr, ri, ⟨fk, fs, fl, fw, fp⟩⟩ := R
      dsimp only at S hrg
      go_wp2_with fail
      refine S.mono ?_
      rintro e w5 ⟨rfl, f5⟩
      replace f5 := f5.alloc (.cells #[.int .i64 fk, .int .i64 fs, .int .i64 fl, .bool fw, .int .i64 fp] 50)
      have HC2 : Hid (Cf w (w5.alloc (.cells #[.int .i64 fk, .int .i64 fs, .int .i64 fl, .bool fw, .int .i64 fp] 50)) gx gc g8 gm #[.slice a0 len cap, .slice a1 len1 cap1, .bool g, .int .i64 vm, .int .i64 se] c O1 (M0 BS g) F) := HC.out.keep0 f5
      have HRf2 : Hid (IsRef (w5.alloc (.cells #[.int .i64 fk, .int .i64 fs, .int .i64 fl, .bool fw, .int .i64 fp] 50)) O1.pr O1.br 16 BS) := HRf.out.keep f5 (fun h => h) (fun h => h)
      clear f5 y0 x4 S HC HRf
      by_cases hfk : fk = 0
      · have ua : (fk == 0) = true := by simpa using hfk
        by_cases hri : bits .and .i64 ri 2 = 0
        · have ub : (bits .and .i64 ri 2 != 0) = false := by simpa using hri
          have HN : Hid (∃ F, Cf w (w5.alloc (.cells #[.int .i64 fk, .int .i64 fs, .int .i64 fl, .bool fw, .int .i64 fp] 50)) gx gc g8 gm #[.slice a0 len cap, .slice a1 len1 cap1, .bool g, .int .i64 vm, .int .i64 se] c O1 (M0 BS g) F ∧ Tells BS se (k + 1) F ∧ IsRef (w5.alloc (.cells #[.int .i64 fk, .int .i64 fs, .int .i64 fl, .bool fw, .int .i64 fp] 50)) O1.pr O1.br 16 BS) := ⟨F, HC2.out, tells_no HT.out (by rw [← HR.out]; exact fun h => h.2.1 hri), HRf2.out⟩
          clear hri hfk HC2 HRf2
          go_wp2_with fail
          go_roundw
          case rel => exact ⟨k + 1, by omega, by go_num, HN⟩
          case measure => simp [intOf]; omega
        · have ub : (bits .and .i64 ri 2 != 0) = true := by simpa using hri
          by_cases hfr : fr < 16
          · have ud : decide (fr < 16) = true := decide_eq_true hfr
            obtain ⟨m, rfl⟩ : ∃ m : Nat, fr = (m : Int) := ⟨fr.toNat, by omega⟩
            have i1 : 0 ≤ (m : Int) ∧ (m : Int) < 16 := by omega
            have hm16 : m < 16 := by omega
            have yb : (w5.alloc (.cells #[.int .i64 fk, .int .i64 fs, .int .i64 fl, .bool fw, .int .i64 fp] 50)).cell? ⟨gm, m, none⟩ = some (.bool (F m)) := (HC2.out.rm.cell m).trans (mayA_get F hm16)
            have zb := HC2.out.rm.frozen m
            have HN : Hid (∃ F, Cf w ((w5.alloc (.cells #[.int .i64 fk, .int .i64 fs, .int .i64 fl, .bool fw, .int .i64 fp] 50)).setCell ⟨gm, m, none⟩ (.bool true)) gx gc g8 gm #[.slice a0 len cap, .slice a1 len1 cap1, .bool g, .int .i64 vm, .int .i64 se] c O1 (M0 BS g) F ∧ Tells BS se (k + 1) F ∧ IsRef ((w5.alloc (.cells #[.int .i64 fk, .int .i64 fs, .int .i64 fl, .bool fw, .int .i64 fp] 50)).setCell ⟨gm, m, none⟩ (.bool true)) O1.pr O1.br 16 BS) := ⟨_, HC2.out.set hm16 true, tells_yes HT.out (by rw [← HR.out]; exact hfk) (by rw [← HR.out]; exact hri) (by rw [← HR.out]), HRf2.out.keep ((Fr.refl (at' gm) _).setCell (p := ⟨gm, m, none⟩) (Or.inr rfl) _) (fun e => by have e' : O1.pr = gm := e; have := HPB.out; have := HC2.out.gt; omega) (fun e => by have e' : O1.br = gm := e; have := HPB.out; have := HC2.out.gt; omega)⟩
            generalize F m = fm at yb
            clear hri hfk HC2 HRf2 HR hrg hm16
            go_wp2_with fail
            go_roundw
            case rel => exact ⟨k + 1, by omega, by go_num, HN⟩
            case measure => simp [intOf]; omega
          · have ud : decide (fr < 16) = false := decide_eq_false hfr
            have HN : Hid (∃ F, Cf w (w5.alloc (.cells #[.int .i64 fk, .int .i64 fs, .int .i64 fl, .bool fw, .int .i64 fp] 50)) gx gc g8 gm #[.slice a0 len cap, .slice a1 len1 cap1, .bool g, .int .i64 vm, .int .i64 se] c O1 (M0 BS g) F ∧ Tells BS se (k + 1) F ∧ IsRef (w5.alloc (.cells #[.int .i64 fk, .int .i64 fs, .int .i64 fl, .bool fw, .int .i64 fp] 50)) O1.pr O1.br 16 BS) := ⟨F, HC2.out, tells_no HT.out (by rw [← HR.out]; exact fun h => hfr h.2.2), HRf2.out⟩
            clear hri hfk hfr HC2 HRf2
            go_wp2_with fail
            go_roundw
            case rel => exact ⟨k + 1, by omega, by go_num, HN⟩
            case measure => simp [intOf]; omega
      · have ua : (fk == 0) = false := by simpa using hfk
        have HN : Hid (∃ F, Cf w (w5.alloc (.cells #[.int .i64 fk, .int .i64 fs, .int .i64 fl, .bool fw, .int .i64 fp] 50)) gx gc g8 gm #[.slice a0 len cap, .slice a1 len1 cap1, .bool g, .int .i64 vm, .int .i64 se] c O1 (M0 BS g) F ∧ Tells BS se (k + 1) F ∧ IsRef (w5.alloc (.cells #[.int .i64 fk, .int .i64 fs, .int .i64 fl, .bool fw, .int .i64 fp] 50)) O1.pr O1.br 16 BS) := ⟨F, HC2.out, tells_no HT.out (by rw [← HR.out]; exact fun h => hfk h.1), HRf2.out⟩
        clear hfk HC2 HRf2
        go_wp2_with fail
        go_roundw
        case rel => exact ⟨k + 1, by omega, by go_num, HN⟩
        case measure => simp [intOf]; omega
    · have E1 : Hid (k = 1024) := by show k = 1024; omega
      have uk : decide ((k : Int) < 1024) = false := decide_eq_false (by omega)
      clear hlt hk
      have HE : Hid (Fr none' w wr) := HC.out.t.f
      have x4 : wr.cell? ⟨gx, 4, none⟩ = some (.int .i64 se) := HC.out.t.rx.cell 4
      by_cases hs0 : se < 0
      · have us : decide (se < 0) = true := decide_eq_true hs0
        clear HC HT HRf
        go_wp2_with fail
        go_ret
        exact ⟨rfl, HE.out⟩
      · have us : decide (se < 0) = false := decide_eq_false hs0
        by_cases hs15 : 15 < se
        · have us2 : decide (15 < se) = true := decide_eq_true hs15
          clear HC HT HRf
          go_wp2_with fail
          go_ret
          exact ⟨rfl, HE.out⟩
        · have us2 : decide (15 < se) = false := decide_eq_false hs15
          obtain ⟨sn, rfl⟩ : ∃ sn : Nat, se = (sn : Int) := ⟨se.toNat, by omega⟩
          have hsn : sn < 16 := by omega
          have i1 : 0 ≤ (sn : Int) ∧ (sn : Int) < 16 := by omega
          have yb : wr.cell? ⟨gm, sn, none⟩ = some (.bool (F sn)) := (HC.out.rm.cell sn).trans (mayA_get F hsn)
          cases hFs : F sn with
          | true =>
            rw [hFs] at yb
            clear HC HT HRf
            go_wp2_with fail
            go_ret
            exact ⟨rfl, HE.out⟩
          | false =>
            rw [hFs] at yb
            have HFS : Hid (F sn = false) := hFs
            clear hFs
            have HB0 : Hid (Cf w wr gx gc g8 gm #[.slice a0 len cap, .slice a1 len1 cap1, .bool g, .int .i64 vm, .int .i64 (sn : Int)] c O1 (M0 BS g) F ∧ IsRef wr O1.pr O1.br 16 BS) := ⟨HC.out, HRf.out⟩
            clear HC HRf HE
            have uF : Hid (∀ i : Nat, i < 16 → (F i = true ↔ May BS (sn : Int) (i : Int))) := fun i hi => tells_may (by rw [← E1.out]; exact HT.out) hi
            clear HT
            obtain ⟨w6, hw6⟩ : ∃ w6, w6 = wr := ⟨_, rfl⟩
            rw [← hw6] at HB0 x4 yb ⊢
            clear hw6 wr
            go_wp2_with fail
            clear x4 yb
            go_loopw [15, 16, 17] (fun i p q wr => ∃ j : Nat, j ≤ 32 ∧ i = .int .i64 (j : Int) ∧ Hid (Cf w wr gx gc g8 gm #[.slice a0 len cap, .slice a1 len1 cap1, .bool g, .int .i64 vm, .int .i64 (sn : Int)] c O1 (M0 BS g) F ∧ IsRef wr O1.pr O1.br 16 BS ∧ ∀ i : Nat, i < j → dv ((half BS sn i : Nat) : Int) = true → dl ((half BS sn i : Nat) : Int) = false → ∀ f : Nat, df ((half BS sn i : Nat) : Int) = (f : Int) → f < 16 → F f = false)) (fun i _ _ _ => 32 - (intOf i).toNat)
            case atStart => exact ⟨0, by omega, rfl, ⟨HB0.out.1, HB0.out.2, fun i hi => by omega⟩⟩
            case round =>
              clear HB0 uk
              obtain ⟨j, hj, rfl, HH⟩ := hrel
              by_cases hlt : j < 32
              · have uk : decide ((j : Int) < 32) = true := decide_eq_true (by omega)
                have y3 : wr.cell? ⟨g8, 3, none⟩ = some (.pointer (some ⟨O1.pr, 0, none⟩)) := HH.out.1.t.r8.cell 3
                have x4 : wr.cell? ⟨gx, 4, none⟩ = some (.int .i64 (sn : Int)) := HH.out.1.t.rx.cell 4
                have S := rget_ok wr O1.pr O1.br 16 BS sn j HH.out.2.1 hsn hlt
                have hrg := df_range (x := ((half BS sn j : Nat) : Int)) (by omega) (by have := half_lt BS sn j; omega)
                obtain ⟨bv, hbv⟩ : ∃ bv, bv = dv ((half BS sn j : Nat) : Int) := ⟨_, rfl⟩
                obtain ⟨bl, hbl⟩ : ∃ bl, bl = dl ((half BS sn j : Nat) : Int) := ⟨_, rfl⟩
                obtain ⟨ir, hir⟩ : ∃ ir, ir = dr ((half BS sn j : Nat) : Int) := ⟨_, rfl⟩
                obtain ⟨fd, hfd⟩ : ∃ fd, fd = df ((half BS sn j : Nat) : Int) := ⟨_, rfl⟩
                have hde : (de ((half BS sn j : Nat) : Int) = 0) ∨ (de ((half BS sn j : Nat) : Int) = 20 ∧ dv ((half BS sn j : Nat) : Int) = false) := by
                  cases hd : decOk ((half BS sn j : Nat) : Int) with
                  | true => exact Or.inl (by unfold de; rw [if_pos hd])
                  | false => exact Or.inr ⟨by unfold de; rw [hd]; rfl, by unfold dv; rw [hd]; rfl⟩
                have HD : Hid (bv = dv ((half BS sn j : Nat) : Int) ∧ bl = dl ((half BS sn j : Nat) : Int) ∧ fd = df ((half BS sn j : Nat) : Int)) := ⟨hbv, hbl, hfd⟩
                rw [← hbv, ← hbl, ← hir, ← hfd] at S
                rw [← hfd] at hrg
                rw [← hbv] at hde
                have more : Hid (¬ (bv = true ∧ bl = false ∧ ∃ f : Nat, fd = (f : Int) ∧ f < 16 ∧ F f = true) → ∀ i : Nat, i < j + 1 → dv ((half BS sn i : Nat) : Int) = true → dl ((half BS sn i : Nat) : Int) = false → ∀ f : Nat, df ((half BS sn i : Nat) : Int) = (f : Int) → f < 16 → F f = false) := fun hno i hi a1 a2 f a3 a4 => by
                  by_cases e : i < j
                  · exact HH.out.2.2 i e a1 a2 f a3 a4
                  · obtain rfl : i = j := by omega
                    cases hF : F f with
                    | false => rfl
                    | true => exact absurd ⟨HD.out.1.trans a1, HD.out.2.1.trans a2, f, HD.out.2.2.trans a3, a4, hF⟩ hno
                clear hbv hbl hir hfd
                go_wp2_with fail
                refine S.mono ?_
                rintro e w5 ⟨rfl, f5⟩
                replace f5 := f5.alloc (.cells #[.bool bv, .bool bl, .int .i64 ir, .int .i64 fd] 71)
                have HC2 : Hid (Cf w (w5.alloc (.cells #[.bool bv, .bool bl, .int .i64 ir, .int .i64 fd] 71)) gx gc g8 gm #[.slice a0 len cap, .slice a1 len1 cap1, .bool g, .int .i64 vm, .int .i64 (sn : Int)] c O1 (M0 BS g) F ∧ IsRef (w5.alloc (.cells #[.bool bv, .bool bl, .int .i64 ir, .int .i64 fd] 71)) O1.pr O1.br 16 BS) := ⟨HH.out.1.keep0 f5, HH.out.2.1.keep f5 (fun h => h) (fun h => h)⟩
                clear f5 y3 x4 S HH HD
                rcases hde with hde | ⟨hde, rfl⟩
                · rw [hde]
                  clear hde
                  cases bv with
                  | false =>
                    have HM := more.out (fun h => by cases h.1)
                    have HN : Hid _ := HM
                    clear HM more
                    go_wp2_with fail
                    go_roundw
                    case rel => exact ⟨j + 1, by omega, by go_num, ⟨HC2.out.1, HC2.out.2, HN.out⟩⟩
                    case measure => simp [intOf]; omega
                  | true =>
                    cases bl with
                    | true =>
                      have HM := more.out (fun h => by cases h.2.1)
                      have HN : Hid _ := HM
                      clear HM more
                      go_wp2_with fail
                      go_roundw
                      case rel => exact ⟨j + 1, by omega, by go_num, ⟨HC2.out.1, HC2.out.2, HN.out⟩⟩
                      case measure => simp [intOf]; omega
                    | false =>
                      obtain ⟨f, rfl⟩ : ∃ f : Nat, fd = (f : Int) := ⟨fd.toNat, by omega⟩
                      by_cases hf16 : f < 16
                      · have uf : decide ((f : Int) < 16) = true := decide_eq_true (by omega)
                        have i1 : 0 ≤ (f : Int) ∧ (f : Int) < 16 := by omega
                        have yb : (w5.alloc (.cells #[.bool true, .bool false, .int .i64 ir, .int .i64 (f : Int)] 71)).cell? ⟨gm, f, none⟩ = some (.bool (F f)) := (HC2.out.1.rm.cell f).trans (mayA_get F hf16)
                        cases hFf : F f with
                        | true =>
                          rw [hFf] at yb
                          have HE : Hid (Fr none' w _) := HC2.out.1.t.f
                          clear more HC2 hFf
                          go_wp2_with fail
                          go_ret
                          exact ⟨rfl, HE.out⟩
                        | false =>
                          rw [hFf] at yb
                          have HM := more.out (fun h => by obtain ⟨_, _, f', e, _, h3⟩ := h; obtain rfl : f' = f := by omega
                                                           rw [hFf] at h3; cases h3)
                          have HN : Hid _ := HM
                          clear HM more hFf
                          go_wp2_with fail
                          go_roundw
                          case rel => exact ⟨j + 1, by omega, by go_num, ⟨HC2.out.1, HC2.out.2, HN.out⟩⟩
                          case measure => simp [intOf]; omega
                      · have uf : decide ((f : Int) < 16) = false := decide_eq_false (by omega)
                        have HM := more.out (fun h => by obtain ⟨_, _, f', e, h3, _⟩ := h; omega)
                        have HN : Hid _ := HM
                        clear HM more
                        go_wp2_with fail
                        go_roundw
                        case rel => exact ⟨j + 1, by omega, by go_num, ⟨HC2.out.1, HC2.out.2, HN.out⟩⟩
                        case measure => simp [intOf]; omega
                · rw [hde]
                  have HM := more.out (fun h => by cases h.1)
                  have HN : Hid _ := HM
                  clear HM more hde
                  go_wp2_with fail
                  go_roundw
                  case rel => exact ⟨j + 1, by omega, by go_num, ⟨HC2.out.1, HC2.out.2, HN.out⟩⟩
                  case measure => simp [intOf]; omega
              · have E2 : Hid (j = 32) := by show j = 32; omega
                have uk : decide ((j : Int) < 32) = false := decide_eq_false (by omega)
                clear hlt hj
                have hSh : Hid (Shut BS (sn : Int)) := by
                  have h1 := uF.out
                  refine ⟨HH.out.1.t.m1.ram.len, by omega, fun hm => ?_, fun i hi a1 a2 a3 hm => ?_⟩
                  · have := (h1 sn hsn).2 hm
                    rw [HFS.out] at this
                    cases this
                  · rw [Int.toNat_natCast] at a1 a2 a3 hm
                    have hr := df_range (x := ((half BS sn i : Nat) : Int)) (by omega) (by have := half_lt BS sn i; omega)
                    obtain ⟨f, hf⟩ : ∃ f : Nat, df ((half BS sn i : Nat) : Int) = (f : Int) := ⟨(df ((half BS sn i : Nat) : Int)).toNat, by omega⟩
                    have h2 := HH.out.2.2 i (by rw [E2.out]; exact hi) a1 a2 f hf (by omega)
                    rw [hf] at hm
                    rw [(h1 f (by omega)).2 hm] at h2
                    cases h2
                have HB1024 : Hid (BS.length = 64 * 16) := HH.out.1.t.m1.ram.len
                have HC3 : Hid (Cf w wr gx gc g8 gm #[.slice a0 len cap, .slice a1 len1 cap1, .bool g, .int .i64 vm, .int .i64 (sn : Int)] c O1 (M0 BS g) F) := HH.out.1
                clear HH HFS HPB
                obtain ⟨w7, hw7⟩ : ∃ w7, w7 = wr := ⟨_, rfl⟩
                rw [← hw7] at HC3 ⊢
                clear hw7 wr
                have fB := (Fr.refl none' w7).alloc (.cells #[.slice none 0 0, .slice none 0 0, .slice none 0 0, .slice none 0 0, .slice none 0 0, .slice none 0 0, .slice none 0 0, .slice none 0 0, .slice none 0 0, .slice none 0 0, .slice none 0 0, .slice none 0 0, .slice none 0 0, .slice none 0 0, .slice none 0 0, .slice none 0 0] 75)
                have HB3 : Hid (Cf w (w7.alloc (.cells #[.slice none 0 0, .slice none 0 0, .slice none 0 0, .slice none 0 0, .slice none 0 0, .slice none 0 0, .slice none 0 0, .slice none 0 0, .slice none 0 0, .slice none 0 0, .slice none 0 0, .slice none 0 0, .slice none 0 0, .slice none 0 0, .slice none 0 0, .slice none 0 0] 75)) gx gc g8 gm #[.slice a0 len cap, .slice a1 len1 cap1, .bool g, .int .i64 vm, .int .i64 (sn : Int)] c O1 (M0 BS g) F ∧ Be (w7.alloc (.cells #[.slice none 0 0, .slice none 0 0, .slice none 0 0, .slice none 0 0, .slice none 0 0, .slice none 0 0, .slice none 0 0, .slice none 0 0, .slice none 0 0, .slice none 0 0, .slice none 0 0, .slice none 0 0, .slice none 0 0, .slice none 0 0, .slice none 0 0, .slice none 0 0] 75)) gm w7.heap.size BS 0) := ⟨HC3.out.keep0 fB, ⟨⟨fun _ => 0, by rw [befA_zero]; exact row_alloc w7 _ _, fun i hi => by omega⟩, HC3.out.rm.lt⟩⟩
                clear fB HC3
                go_wp2_with fail
                generalize (w7.alloc (.cells #[.slice none 0 0, .slice none 0 0, .slice none 0 0, .slice none 0 0, .slice none 0 0, .slice none 0 0, .slice none 0 0, .slice none 0 0, .slice none 0 0, .slice none 0 0, .slice none 0 0, .slice none 0 0, .slice none 0 0, .slice none 0 0, .slice none 0 0, .slice none 0 0] 75)) = w8 at HB3 ⊢
                generalize w7.heap.size = gb at HB3 ⊢
                go_loopw [19, 20, 21] (fun i p q wr => ∃ j : Nat, j ≤ 16 ∧ i = .int .i64 (j : Int) ∧ Hid (Cf w wr gx gc g8 gm #[.slice a0 len cap, .slice a1 len1 cap1, .bool g, .int .i64 vm, .int .i64 (sn : Int)] c O1 (M0 BS g) F ∧ Be wr gm gb BS j)) (fun i _ _ _ => 16 - (intOf i).toNat)
                case atStart => exact ⟨0, by omega, rfl, HB3⟩
                case round =>
                  clear HB3
                  obtain ⟨j, hj, rfl, HH⟩ := hrel
                  by_cases hlt : j < 16
                  · have uk : decide ((j : Int) < 16) = true := decide_eq_true (by omega)
                    have i1 : 0 ≤ (j : Int) ∧ (j : Int) < 16 := by omega
                    have y0 : wr.cell? ⟨g8, 0, none⟩ = some (.pointer (some ⟨O1.B.p, 0, none⟩)) := HH.out.1.t.r8.cell 0
                    go_wp2_with fail
                    refine (frame_ok _ _ _ _ _ _ HH.out.1.t.m1.ram hlt).mono ?_
                    rintro e v3 ⟨rfl, f3, r3⟩
                    have HBM : Hid ((M0 BS g).bs = BS) := rfl
                    rw [HBM.out] at r3
                    obtain ⟨bb, hb1, _⟩ := HH.out.2.ex
                    have hgb : gb < wr.heap.size := hb1.lt
                    have hb2 := hb1.keep f3 (fun h => h)
                    have yb : v3.cell? ⟨gb, j, none⟩ = some (.slice none 0 0) := (hb2.cell j).trans (by rw [befA_get bb j hlt, if_neg (by omega)])
                    have zb := hb2.frozen j
                    have HN : Hid (Cf w (v3.setCell ⟨gb, j, none⟩ (.slice (some ⟨wr.heap.size, 0, none⟩) 64 64)) gx gc g8 gm #[.slice a0 len cap, .slice a1 len1 cap1, .bool g, .int .i64 vm, .int .i64 (sn : Int)] c O1 (M0 BS g) F ∧ Be (v3.setCell ⟨gb, j, none⟩ (.slice (some ⟨wr.heap.size, 0, none⟩) 64 64)) gm gb BS (j + 1)) := ⟨(HH.out.1.keep0 f3).far ((Fr.refl (at' gb) v3).setCell (p := ⟨gb, j, none⟩) (Or.inr rfl) _) (fun k e => by have e' : k = gb := e; have := HH.out.2.gt; omega), HH.out.2.more hlt f3 r3 hgb⟩
                    clear HH f3 r3 hb1 hb2 hgb y0
                    go_wp2_with fail
                    go_roundw
                    case rel => exact ⟨j + 1, by omega, by go_num, HN⟩
                    case measure => simp [intOf]; omega
                  · have E3 : Hid (j = 16) := by show j = 16; omega
                    have uk : decide ((j : Int) < 16) = false := decide_eq_false (by omega)
                    clear hlt hj
                    replace HH : Hid (Cf w wr gx gc g8 gm #[.slice a0 len cap, .slice a1 len1 cap1, .bool g, .int .i64 vm, .int .i64 (sn : Int)] c O1 (M0 BS g) F ∧ Be wr gm gb BS 16) := by rw [← E3.out]; exact HH
                    obtain ⟨w9, hw9⟩ : ∃ w9, w9 = wr := ⟨_, rfl⟩
                    rw [← hw9] at HH ⊢
                    clear hw9 wr
                    obtain ⟨y0, y1, y2⟩ : w9.cell? ⟨g8, 0, none⟩ = some (.pointer (some ⟨O1.B.p, 0, none⟩)) ∧ w9.cell? ⟨g8, 1, none⟩ = some (.pointer (some ⟨O1.B.bt, 0, none⟩)) ∧ w9.cell? ⟨g8, 2, none⟩ = some (ptrV (O1.B.v.map Bk.b)) := ⟨HH.out.1.t.r8.cell 0, HH.out.1.t.r8.cell 1, HH.out.1.t.r8.cell 2⟩
                    obtain ⟨x3, x4⟩ : w9.cell? ⟨gx, 3, none⟩ = some (.int .i64 vm) ∧ w9.cell? ⟨gx, 4, none⟩ = some (.int .i64 (sn : Int)) := ⟨HH.out.1.t.rx.cell 3, HH.out.1.t.rx.cell 4⟩
                    have rcc := HH.out.1.t.rc
                    obtain ⟨m, hm, hmn⟩ : ∃ m : Int, m ≤ 200 ∧ m = (if (200 : Int) < steps then 200 else steps) := ⟨_, by split <;> omega, rfl⟩
                    have S1 := run_conf w9 O1.B BS g c hok vm (sn : Int) m hm HH.out.1.t.m1 hSh.out
                    have HMN : Hid (m = (if (200 : Int) < steps then 200 else steps)) := hmn
                    clear hmn
                    go_upto_region 26 with fail
                    rcases (show (200 < steps ∧ m = 200) ∨ (¬ 200 < steps ∧ m = steps) by rw [HMN.out]; by_cases h : 200 < steps; exact Or.inl ⟨h, if_pos h⟩; exact Or.inr ⟨h, if_neg h⟩) with ⟨hst, rfl⟩ | ⟨hst, rfl⟩
                    · have hst1 : decide ((200 : Int) < steps) = true := decide_eq_true hst
                      clear HMN hm
                      go_wp2_with (refine wpList_load_part rfl 30 _ rfl gc rfl (cpA c) _ (cp_at rcc) Tryz.underlying30 rfl (size_cpA c) ?_)
                      refine S1.mono ?_
                      rintro e w10 ⟨k2, M1, c1, T1, rfl, g2, hM2, hK, hk200⟩
                      clear S1 y0 y1 y2 x3 x4 rcc
                      have HC5 : Hid (Cf w w10 gx gc g8 gm #[.slice a0 len cap, .slice a1 len1 cap1, .bool g, .int .i64 vm, .int .i64 (sn : Int)] c O1 M1 F ∧ Be w10 gm gb BS 16) := ⟨HH.out.1.run g2 hM2, HH.out.2.low g2 (fun j e => by have := HH.out.1.t.s1 j (Or.inl e); have := HH.out.1.gt; omega)⟩
                      have HKF : Hid (∀ i : Nat, i < 16 → F i = false → frameOf M1.bs i = frameOf BS i) := fun i hi hF => kept_frame hK i (fun hm => by rw [((uF.out i hi).2 hm)] at hF; cases hF)
                      clear g2 hM2 hK HH hSh
                      have q12 : Row ((w10.alloc (.cells (cpA zc) 30)).alloc (.cells #[.int .i64 0, .int .i64 0, .int .i64 0, .int .i64 0, .int .i64 0, .int .i64 0, .bool false, .int .i64 0] 52)) w10.heap.size (cpA zc) 30 := (row_alloc w10 (cpA zc) 30).alloc _
                      have q13 : Row ((w10.alloc (.cells (cpA zc) 30)).alloc (.cells #[.int .i64 0, .int .i64 0, .int .i64 0, .int .i64 0, .int .i64 0, .int .i64 0, .bool false, .int .i64 0] 52)) (w10.heap.size + 1) #[.int .i64 0, .int .i64 0, .int .i64 0, .int .i64 0, .int .i64 0, .int .i64 0, .bool false, .int .i64 0] 52 := row_at (by simp)
                      have q13' := q13.keep (fr_row _ w10.heap.size (cpA c1)) (fun e => by have e' : w10.heap.size + 1 = w10.heap.size := e; omega)
                      have lp : (cpA zc).size = (cpA c1).size := by rw [cpA_size, cpA_size]
                      have GG : Hid (Fr none' w10 ((((w10.alloc (.cells (cpA zc) 30)).alloc (.cells #[.int .i64 0, .int .i64 0, .int .i64 0, .int .i64 0, .int .i64 0, .int .i64 0, .bool false, .int .i64 0] 52)).setRow w10.heap.size (cpA c1)).setRow (w10.heap.size + 1) (trL T1))) :=
                        ((((Fr.refl none' w10).alloc _).alloc _).newer (fr_row _ w10.heap.size (cpA c1)) (Nat.le_refl _)).newer (fr_row _ (w10.heap.size + 1) (trL T1)) (Nat.le_succ _)
                      clear q13
                      go_upto_region 27 with (first | refine wpList_store_row rfl 30 _ _ rfl w10.heap.size (cpA c1) rfl rfl 30 (cpA zc) q12 (size_cpA c1) lp (cpA_one c1) ?_ | refine wpList_store_row rfl 52 _ _ rfl (w10.heap.size + 1) (trL T1) rfl rfl 52 #[.int .i64 0, .int .i64 0, .int .i64 0, .int .i64 0, .int .i64 0, .int .i64 0, .bool false, .int .i64 0] q13' size_trap rfl (trL_one T1) ?_)
                      clear q12 q13' lp hz
                      obtain ⟨w11, hw11⟩ : ∃ q, q = (((w10.alloc (.cells (cpA zc) 30)).alloc (.cells #[.int .i64 0, .int .i64 0, .int .i64 0, .int .i64 0, .int .i64 0, .int .i64 0, .bool false, .int .i64 0] 52)).setRow w10.heap.size (cpA c1)).setRow (w10.heap.size + 1) (trL T1) := ⟨_, rfl⟩
                      rw [← hw11] at GG ⊢
                      clear hw11
                      have HC6 : Hid (Cf w w11 gx gc g8 gm #[.slice a0 len cap, .slice a1 len1 cap1, .bool g, .int .i64 vm, .int .i64 (sn : Int)] c O1 M1 F ∧ Be w11 gm gb BS 16) := ⟨HC5.out.1.keep0 GG.out, HC5.out.2.keep0 GG.out⟩
                      clear HC5 GG
                      generalize w10.heap.size = ga at *
                      go_wp2_with fail
                      go_loopw [25, 26, 27, 28] (fun i p q s wr => ∃ j : Nat, j ≤ 16 ∧ i = .int .i64 (j : Int) ∧ Hid (Cf w wr gx gc g8 gm #[.slice a0 len cap, .slice a1 len1 cap1, .bool g, .int .i64 vm, .int .i64 (sn : Int)] c O1 M1 F ∧ Be wr gm gb BS 16)) (fun i _ _ _ _ => 16 - (intOf i).toNat)
                      case atStart => exact ⟨0, by omega, rfl, HC6⟩
                      case round =>
                        clear HC6 uk
                        obtain ⟨i, hi, rfl, HH⟩ := hrel
                        by_cases hlt : i < 16
                        · have uk : decide ((i : Int) < 16) = true := decide_eq_true (by omega)
                          have i1 : 0 ≤ (i : Int) ∧ (i : Int) < 16 := by omega
                          have y0 : wr.cell? ⟨g8, 0, none⟩ = some (.pointer (some ⟨O1.B.p, 0, none⟩)) := HH.out.1.t.r8.cell 0
                          have hln := HH.out.1.t.m1.ram.len
                          have HL1 : Hid ((frameOf M1.bs i).length = 64) := length_frameOf _ i 16 hln hlt
                          go_wp2_with fail
                          refine (frame_ok _ _ _ _ _ _ HH.out.1.t.m1.ram hlt).mono ?_
                          rintro e v3 ⟨rfl, f3, r3⟩
                          obtain ⟨bb, hb1, hb2⟩ := HH.out.2.ex
                          have yb : v3.cell? ⟨gb, i, none⟩ = some (.slice (some ⟨bb i, 0, none⟩) 64 64) := ((hb1.keep f3 (fun h => h)).cell i).trans (by rw [befA_get bb 16 hlt, if_pos hlt])
                          have r4 := (hb2 i hlt).2.keep f3 (fun h => h)
                          have HL2 : (frameOf BS i).length = 64 := by
                            have h1 : (byteVals (frameOf BS i)).size = (frameOf BS i).length := by simp [byteVals]
                            exact length_frameOf _ i 16 HB1024.out hlt
                          have SS := same_any v3 (some ⟨wr.heap.size, 0, none⟩) (some ⟨bb i, 0, none⟩) 64 64 64 64 _ _ HL1.out HL2 (by omega) (begins_row r3).src (begins_row r4).src
                          have HF3 : Hid (Fr none' wr v3) := f3
                          clear y0 hln f3 r3 r4 hb1 hb2 HL1 HL2
                          go_wp2_with fail
                          refine SS.mono ?_
                          rintro e v4 ⟨rfl, f4⟩
                          have HN : Hid (Cf w v4 gx gc g8 gm #[.slice a0 len cap, .slice a1 len1 cap1, .bool g, .int .i64 vm, .int .i64 (sn : Int)] c O1 M1 F ∧ Be v4 gm gb BS 16) := ⟨HH.out.1.keep0 (HF3.out.trans f4), HH.out.2.keep0 (HF3.out.trans f4)⟩
                          clear SS yb HH HF3 f4
                          cases hFi : F i with
                          | false =>
                            rw [decide_eq_true (HKF.out i hlt hFi)]
                            clear hFi
                            go_wp2_with fail
                            go_roundw
                            case rel => exact ⟨i + 1, by omega, by go_num, HN⟩
                            case measure => simp [intOf]; omega
                          | true =>
                            have yf : v4.cell? ⟨gm, i, none⟩ = some (.bool true) := (HN.out.1.rm.cell i).trans (by rw [mayA_get F hlt, hFi])
                            obtain ⟨q, hq⟩ : ∃ q, q = decide (frameOf M1.bs i = frameOf BS i) := ⟨_, rfl⟩
                            rw [← hq]
                            clear hq hFi
                            cases q with
                            | true =>
                              go_wp2_with fail
                              go_roundw
                              case rel => exact ⟨i + 1, by omega, by go_num, HN⟩
                              case measure => simp [intOf]; omega
                            | false =>
                              go_wp2_with fail
                              go_roundw
                              case rel => exact ⟨i + 1, by omega, by go_num, HN⟩
                              case measure => simp [intOf]; omega
                        · have uk : decide ((i : Int) < 16) = false := decide_eq_false (by omega)
                          have ul : decide ((k2 : Int) ≤ 200) = true := decide_eq_true (by omega)
                          have HE : Hid (Fr none' w wr) := HH.out.1.t.f
                          clear hlt hi HH HKF
                          go_wp2_with fail
                          go_ret
                          exact ⟨rfl, HE.out⟩
                    · have hst1 : decide ((200 : Int) < m) = false := decide_eq_false hst
                      clear HMN hm
                      go_wp2_with (refine wpList_load_part rfl 30 _ rfl gc rfl (cpA c) _ (cp_at rcc) Tryz.underlying30 rfl (size_cpA c) ?_)
                      refine S1.mono ?_
                      rintro e w10 ⟨k2, M1, c1, T1, rfl, g2, hM2, hK, hk200⟩
                      clear S1 y0 y1 y2 x3 x4 rcc
                      have HC5 : Hid (Cf w w10 gx gc g8 gm #[.slice a0 len cap, .slice a1 len1 cap1, .bool g, .int .i64 vm, .int .i64 (sn : Int)] c O1 M1 F ∧ Be w10 gm gb BS 16) := ⟨HH.out.1.run g2 hM2, HH.out.2.low g2 (fun j e => by have := HH.out.1.t.s1 j (Or.inl e); have := HH.out.1.gt; omega)⟩
                      have HKF : Hid (∀ i : Nat, i < 16 → F i = false → frameOf M1.bs i = frameOf BS i) := fun i hi hF => kept_frame hK i (fun hm => by rw [((uF.out i hi).2 hm)] at hF; cases hF)
                      clear g2 hM2 hK HH hSh
                      have q12 : Row ((w10.alloc (.cells (cpA zc) 30)).alloc (.cells #[.int .i64 0, .int .i64 0, .int .i64 0, .int .i64 0, .int .i64 0, .int .i64 0, .bool false, .int .i64 0] 52)) w10.heap.size (cpA zc) 30 := (row_alloc w10 (cpA zc) 30).alloc _
                      have q13 : Row ((w10.alloc (.cells (cpA zc) 30)).alloc (.cells #[.int .i64 0, .int .i64 0, .int .i64 0, .int .i64 0, .int .i64 0, .int .i64 0, .bool false, .int .i64 0] 52)) (w10.heap.size + 1) #[.int .i64 0, .int .i64 0, .int .i64 0, .int .i64 0, .int .i64 0, .int .i64 0, .bool false, .int .i64 0] 52 := row_at (by simp)
                      have q13' := q13.keep (fr_row _ w10.heap.size (cpA c1)) (fun e => by have e' : w10.heap.size + 1 = w10.heap.size := e; omega)
                      have lp : (cpA zc).size = (cpA c1).size := by rw [cpA_size, cpA_size]
                      have GG : Hid (Fr none' w10 ((((w10.alloc (.cells (cpA zc) 30)).alloc (.cells #[.int .i64 0, .int .i64 0, .int .i64 0, .int .i64 0, .int .i64 0, .int .i64 0, .bool false, .int .i64 0] 52)).setRow w10.heap.size (cpA c1)).setRow (w10.heap.size + 1) (trL T1))) :=
                        ((((Fr.refl none' w10).alloc _).alloc _).newer (fr_row _ w10.heap.size (cpA c1)) (Nat.le_refl _)).newer (fr_row _ (w10.heap.size + 1) (trL T1)) (Nat.le_succ _)
                      clear q13
                      go_upto_region 27 with (first | refine wpList_store_row rfl 30 _ _ rfl w10.heap.size (cpA c1) rfl rfl 30 (cpA zc) q12 (size_cpA c1) lp (cpA_one c1) ?_ | refine wpList_store_row rfl 52 _ _ rfl (w10.heap.size + 1) (trL T1) rfl rfl 52 #[.int .i64 0, .int .i64 0, .int .i64 0, .int .i64 0, .int .i64 0, .int .i64 0, .bool false, .int .i64 0] q13' size_trap rfl (trL_one T1) ?_)
                      clear q12 q13' lp hz
                      obtain ⟨w11, hw11⟩ : ∃ q, q = (((w10.alloc (.cells (cpA zc) 30)).alloc (.cells #[.int .i64 0, .int .i64 0, .int .i64 0, .int .i64 0, .int .i64 0, .int .i64 0, .bool false, .int .i64 0] 52)).setRow w10.heap.size (cpA c1)).setRow (w10.heap.size + 1) (trL T1) := ⟨_, rfl⟩
                      rw [← hw11] at GG ⊢
                      clear hw11
                      have HC6 : Hid (Cf w w11 gx gc g8 gm #[.slice a0 len cap, .slice a1 len1 cap1, .bool g, .int .i64 vm, .int .i64 (sn : Int)] c O1 M1 F ∧ Be w11 gm gb BS 16) := ⟨HC5.out.1.keep0 GG.out, HC5.out.2.keep0 GG.out⟩
                      clear HC5 GG
                      generalize w10.heap.size = ga at *
                      go_wp2_with fail
                      go_loopw [25, 26, 27, 28] (fun i p q s wr => ∃ j : Nat, j ≤ 16 ∧ i = .int .i64 (j : Int) ∧ Hid (Cf w wr gx gc g8 gm #[.slice a0 len cap, .slice a1 len1 cap1, .bool g, .int .i64 vm, .int .i64 (sn : Int)] c O1 M1 F ∧ Be wr gm gb BS 16)) (fun i _ _ _ _ => 16 - (intOf i).toNat)
                      case atStart => exact ⟨0, by omega, rfl, HC6⟩
                      case round =>
                        clear HC6 uk
                        obtain ⟨i, hi, rfl, HH⟩ := hrel
                        by_cases hlt : i < 16
                        · have uk : decide ((i : Int) < 16) = true := decide_eq_true (by omega)
                          have i1 : 0 ≤ (i : Int) ∧ (i : Int) < 16 := by omega
                          have y0 : wr.cell? ⟨g8, 0, none⟩ = some (.pointer (some ⟨O1.B.p, 0, none⟩)) := HH.out.1.t.r8.cell 0
                          have hln := HH.out.1.t.m1.ram.len
                          have HL1 : Hid ((frameOf M1.bs i).length = 64) := length_frameOf _ i 16 hln hlt
                          go_wp2_with fail
                          refine (frame_ok _ _ _ _ _ _ HH.out.1.t.m1.ram hlt).mono ?_
                          rintro e v3 ⟨rfl, f3, r3⟩
                          obtain ⟨bb, hb1, hb2⟩ := HH.out.2.ex
                          have yb : v3.cell? ⟨gb, i, none⟩ = some (.slice (some ⟨bb i, 0, none⟩) 64 64) := ((hb1.keep f3 (fun h => h)).cell i).trans (by rw [befA_get bb 16 hlt, if_pos hlt])
                          have r4 := (hb2 i hlt).2.keep f3 (fun h => h)
                          have HL2 : (frameOf BS i).length = 64 := by
                            have h1 : (byteVals (frameOf BS i)).size = (frameOf BS i).length := by simp [byteVals]
                            exact length_frameOf _ i 16 HB1024.out hlt
                          have SS := same_any v3 (some ⟨wr.heap.size, 0, none⟩) (some ⟨bb i, 0, none⟩) 64 64 64 64 _ _ HL1.out HL2 (by omega) (begins_row r3).src (begins_row r4).src
                          have HF3 : Hid (Fr none' wr v3) := f3
                          clear y0 hln f3 r3 r4 hb1 hb2 HL1 HL2
                          go_wp2_with fail
                          refine SS.mono ?_
                          rintro e v4 ⟨rfl, f4⟩
                          have HN : Hid (Cf w v4 gx gc g8 gm #[.slice a0 len cap, .slice a1 len1 cap1, .bool g, .int .i64 vm, .int .i64 (sn : Int)] c O1 M1 F ∧ Be v4 gm gb BS 16) := ⟨HH.out.1.keep0 (HF3.out.trans f4), HH.out.2.keep0 (HF3.out.trans f4)⟩
                          clear SS yb HH HF3 f4
                          cases hFi : F i with
                          | false =>
                            rw [decide_eq_true (HKF.out i hlt hFi)]
                            clear hFi
                            go_wp2_with fail
                            go_roundw
                            case rel => exact ⟨i + 1, by omega, by go_num, HN⟩
                            case measure => simp [intOf]; omega
                          | true =>
                            have yf : v4.cell? ⟨gm, i, none⟩ = some (.bool true) := (HN.out.1.rm.cell i).trans (by rw [mayA_get F hlt, hFi])
                            obtain ⟨q, hq⟩ : ∃ q, q = decide (frameOf M1.bs i = frameOf BS i) := ⟨_, rfl⟩
                            rw [← hq]
                            clear hq hFi
                            cases q with
                            | true =>
                              go_wp2_with fail
                              go_roundw
                              case rel => exact ⟨i + 1, by omega, by go_num, HN⟩
                              case measure => simp [intOf]; omega
                            | false =>
                              go_wp2_with fail
                              go_roundw
                              case rel => exact ⟨i + 1, by omega, by go_num, HN⟩
                              case measure => simp [intOf]; omega
                        · have uk : decide ((i : Int) < 16) = false := decide_eq_false (by omega)
                          have ul : decide ((k2 : Int) ≤ 200) = true := decide_eq_true (by omega)
                          have HE : Hid (Fr none' w wr) := HH.out.1.t.f
                          clear hlt hi HH HKF
                          go_wp2_with fail
                          go_ret
                          exact ⟨rfl, HE.out⟩

end Go.Proofs.YtgnoakidjnilpaaGreat

/- CpuOpen -/
namespace Go.Proofs.YtgnoakidjnilpaaGreat
open Go.ChangeShapes Go.WideShapes Go.ChangeAt Go.RowKit Go.Deep

theorem cells_pu : Tryz.prog.cellsOf 96 = 6 := by kernel_rfl
theorem cells_wo : Tryz.prog.cellsOf 99 = 2 := by kernel_rfl
theorem cells_pus : Tryz.prog.cellsOf 22 = 1 := by kernel_rfl
theorem cells_wos : Tryz.prog.cellsOf 23 = 1 := by kernel_rfl
theorem cells_world : Tryz.prog.cellsOf 25 = 5 := by kernel_rfl
theorem cells_cpu : Tryz.prog.cellsOf 30 = 25 := by kernel_rfl
theorem cells_a16 : Tryz.prog.cellsOf 27 = 16 := by kernel_rfl
theorem cells_a8 : Tryz.prog.cellsOf 28 = 8 := by kernel_rfl

set_option maxRecDepth 100000 in
theorem pu_cells {H : Type} {enc : TypeId × Value → H} {W : World} {n : Nat} {cs : List Value} {y : DataW H × List MemPlace} (h : DataW.trod enc Tryz.prog W 0 (fun _ => true) true n 96 cs = some y) :
    ∃ q : Pu, cs = [.int .i64 q.t, .int .i64 q.i, .bool q.v, .bool q.l, .int .i64 q.r, .int .i64 q.f] := by
  obtain ⟨xs, n', _, _, hl, hxl, hf⟩ := DataW.trod_struct Tryz.underlying96 h
  rw [cells_pu] at hl
  have hxl' : xs.length = 3 := hxl
  have g0 : DataW.trod enc Tryz.prog W 0 (fun _ => true) true n' 3 ((cs.drop 0).take (Tryz.prog.cellsOf 3)) = xs[0]? := hf 0 _ rfl
  have g1 : DataW.trod enc Tryz.prog W 0 (fun _ => true) true n' 3 ((cs.drop 1).take (Tryz.prog.cellsOf 3)) = xs[1]? := hf 1 _ rfl
  have g2 : DataW.trod enc Tryz.prog W 0 (fun _ => true) true n' 71 ((cs.drop 2).take (Tryz.prog.cellsOf 71)) = xs[2]? := hf 2 _ rfl
  rw [cells_int, field_one 0 (by omega), List.getElem?_eq_getElem (by omega)] at g0
  rw [cells_int, field_one 1 (by omega), List.getElem?_eq_getElem (by omega)] at g1
  rw [cells_ent, List.getElem?_eq_getElem (by omega)] at g2
  obtain ⟨t, e0, _, _⟩ := DataW.trod_int Tryz.underlying3 g0
  obtain ⟨i, e1, _, _⟩ := DataW.trod_int Tryz.underlying3 g1
  obtain ⟨v, l, r, f, e2⟩ := ent_cells g2
  simp only [List.cons.injEq, and_true] at e0 e1
  refine ⟨⟨t, i, v, l, r, f⟩, ?_⟩
  match cs, hl with
  | [c0, c1, c2, c3, c4, c5], _ =>
    simp only [List.getElem_cons_zero, List.getElem_cons_succ] at e0 e1
    simp only [List.drop_succ_cons, List.drop_zero, List.take_succ_cons, List.take_zero] at e2
    rw [e0, e1, e2]

set_option maxRecDepth 100000 in
theorem wo_cells {H : Type} {enc : TypeId × Value → H} {W : World} {n : Nat} {cs : List Value} {y : DataW H × List MemPlace} (h : DataW.trod enc Tryz.prog W 0 (fun _ => true) true n 99 cs = some y) :
    ∃ q : Wo, cs = [.int .i64 q.a, .int .u32 (q.w : Int)] ∧ q.a ≤ 9223372036854775807 ∧ q.w < 4294967296 := by
  obtain ⟨xs, n', _, _, hl, hxl, hf⟩ := DataW.trod_struct Tryz.underlying99 h
  rw [cells_wo] at hl
  have hxl' : xs.length = 2 := hxl
  have g0 : DataW.trod enc Tryz.prog W 0 (fun _ => true) true n' 3 ((cs.drop 0).take (Tryz.prog.cellsOf 3)) = xs[0]? := hf 0 _ rfl
  have g1 : DataW.trod enc Tryz.prog W 0 (fun _ => true) true n' 26 ((cs.drop 1).take (Tryz.prog.cellsOf 26)) = xs[1]? := hf 1 _ rfl
  rw [cells_int, field_one 0 (by omega), List.getElem?_eq_getElem (by omega)] at g0
  rw [cells_u32, field_one 1 (by omega), List.getElem?_eq_getElem (by omega)] at g1
  obtain ⟨a, e0, _, wa⟩ := DataW.trod_int Tryz.underlying3 g0
  obtain ⟨x, e1, _, wx⟩ := DataW.trod_int Tryz.underlying26 g1
  have hb := bounds_u32 wx
  have ha := bounds_i64 wa
  obtain ⟨x, rfl⟩ := Int.eq_ofNat_of_zero_le hb.1
  simp only [List.cons.injEq, and_true] at e0 e1
  refine ⟨⟨a, x⟩, ?_, ha.2, show x < 4294967296 by omega⟩
  match cs, hl with
  | [c0, c1], _ =>
    simp only [List.getElem_cons_zero, List.getElem_cons_succ] at e0 e1
    rw [e0, e1]

theorem pus_of {W : World} {a0 : Option Addr} {len : Nat} (h : ∀ k, k < len → ∃ b o q, a0 = some ⟨b, o, none⟩ ∧ PuIs W b (o + k * 6) q) : ∃ P, Pus W a0 len P := by
  have h' : ∀ k, ∃ q, k < len → ∃ b o, a0 = some ⟨b, o, none⟩ ∧ PuIs W b (o + k * 6) q := fun k => by
    by_cases hk : k < len
    · obtain ⟨b, o, q, e, hq⟩ := h k hk
      exact ⟨q, fun _ => ⟨b, o, e, hq⟩⟩
    · exact ⟨⟨0, 0, false, false, 0, 0⟩, fun hh => absurd hh hk⟩
  exact ⟨fun k => Classical.choose (h' k), fun k hk => Classical.choose_spec (h' k) hk⟩
theorem wos_of {W : World} {a0 : Option Addr} {len : Nat} (h : ∀ k, k < len → ∃ b o q, a0 = some ⟨b, o, none⟩ ∧ WoIs W b (o + k * 2) q) : ∃ P, Wos W a0 len P := by
  have h' : ∀ k, ∃ q, k < len → ∃ b o, a0 = some ⟨b, o, none⟩ ∧ WoIs W b (o + k * 2) q := fun k => by
    by_cases hk : k < len
    · obtain ⟨b, o, q, e, hq⟩ := h k hk
      exact ⟨q, fun _ => ⟨b, o, e, hq⟩⟩
    · exact ⟨⟨0, 0⟩, fun hh => absurd hh hk⟩
  exact ⟨fun k => Classical.choose (h' k), fun k hk => Classical.choose_spec (h' k) hk⟩

set_option maxRecDepth 100000 in
theorem pus_any {H : Type} {enc : TypeId × Value → H} {W : World} {fuel : Nat} {v : Value} {y : DataW H × List MemPlace} (hf : DataW.trod enc Tryz.prog W 0 (fun _ => true) true fuel 22 [v] = some y) :
    ∃ a0 len cap, v = .slice a0 len cap ∧ len ≤ 9223372036854775807 ∧ ∃ P, Pus W a0 len P := by
  rcases open_slice Tryz.underlying22 hf with ⟨hcs, _⟩ | ⟨a, l, c, m, n, D, Pl, hcs, _, hl, hm, hmm, hx, hel⟩
  · simp only [List.cons.injEq, and_true] at hcs
    subst hcs
    exact ⟨_, _, _, rfl, by omega, fun _ => ⟨0, 0, false, false, 0, 0⟩, fun k hk => by omega⟩
  · simp only [List.cons.injEq, and_true] at hcs
    subst hcs
    have hmm' : m = c := by simpa using hmm
    subst hmm'
    refine ⟨_, _, _, rfl, by simp only [maxLen] at hm; omega, pus_of fun k hk => ?_⟩
    rw [cells_pu] at hel
    obtain ⟨b, o, spot⟩ := a
    have hspot : spot = none := by
      obtain ⟨cs', h1, _⟩ := hel 0 (by omega)
      obtain ⟨_, hlen, hc⟩ := World.cells?_some h1
      have := hc 0 (by omega)
      rw [List.getElem?_eq_getElem (by omega)] at this
      simpa [Addr.add] using World.cell?_spot this
    subst hspot
    obtain ⟨cs', h1, h2⟩ := hel k (by omega)
    obtain ⟨_, hlen, hc⟩ := World.cells?_some h1
    obtain ⟨q, e⟩ := pu_cells h2
    have hcell : ∀ j, j < 6 → W.cell? ⟨b, o + k * 6 + j, none⟩ = cs'[j]? := fun j hj => by have := hc j hj; rwa [add_lit', add_lit'] at this
    rw [e] at hcell
    exact ⟨b, o, q, rfl, hcell 0 (by omega), hcell 1 (by omega), hcell 2 (by omega), hcell 3 (by omega), hcell 4 (by omega), hcell 5 (by omega)⟩

set_option maxRecDepth 100000 in
theorem wos_any {H : Type} {enc : TypeId × Value → H} {W : World} {fuel : Nat} {v : Value} {y : DataW H × List MemPlace} (hf : DataW.trod enc Tryz.prog W 0 (fun _ => true) true fuel 23 [v] = some y) :
    ∃ a0 len cap, v = .slice a0 len cap ∧ len ≤ 9223372036854775807 ∧ ∃ P, Wos W a0 len P := by
  rcases open_slice Tryz.underlying23 hf with ⟨hcs, _⟩ | ⟨a, l, c, m, n, D, Pl, hcs, _, hl, hm, hmm, hx, hel⟩
  · simp only [List.cons.injEq, and_true] at hcs
    subst hcs
    exact ⟨_, _, _, rfl, by omega, fun _ => ⟨0, 0⟩, fun k hk => by omega⟩
  · simp only [List.cons.injEq, and_true] at hcs
    subst hcs
    have hmm' : m = c := by simpa using hmm
    subst hmm'
    refine ⟨_, _, _, rfl, by simp only [maxLen] at hm; omega, wos_of fun k hk => ?_⟩
    rw [cells_wo] at hel
    obtain ⟨b, o, spot⟩ := a
    have hspot : spot = none := by
      obtain ⟨cs', h1, _⟩ := hel 0 (by omega)
      obtain ⟨_, hlen, hc⟩ := World.cells?_some h1
      have := hc 0 (by omega)
      rw [List.getElem?_eq_getElem (by omega)] at this
      simpa [Addr.add] using World.cell?_spot this
    subst hspot
    obtain ⟨cs', h1, h2⟩ := hel k (by omega)
    obtain ⟨_, hlen, hc⟩ := World.cells?_some h1
    obtain ⟨q, e, hb1, hb2⟩ := wo_cells h2
    have hcell : ∀ j, j < 2 → W.cell? ⟨b, o + k * 2 + j, none⟩ = cs'[j]? := fun j hj => by have := hc j hj; rwa [add_lit', add_lit'] at this
    rw [e] at hcell
    exact ⟨b, o, q, rfl, hcell 0 (by omega), hcell 1 (by omega), hb1, hb2⟩

set_option maxRecDepth 100000 in
theorem world_open {H : Type} {enc : TypeId × Value → H} {W : World} {r : Reach} {b0 : Nat} {x : Value} {d : DataW H} {ps : List MemPlace} (hv : Value.okWide Tryz.prog W r b0 25 x) (h : DataW.Trod enc Tryz.prog W 0 (fun _ => true) true 25 x d ps) :
    ∃ (a0 a1 : Option Addr) (len cap len1 cap1 : Nat) (g : Bool) (vm se : Int) (P : Nat → Pu) (Q : Nat → Wo), x = .agg #[.slice a0 len cap, .slice a1 len1 cap1, .bool g, .int .i64 vm, .int .i64 se] ∧ len ≤ 9223372036854775807 ∧ len1 ≤ 9223372036854775807 ∧ Pus W a0 len P ∧ Wos W a1 len1 Q := by
  obtain ⟨csa, rfl, _⟩ := okWide_struct Tryz.underlying25 hv
  obtain ⟨fuel, hf0⟩ := h
  have hf1 : DataW.trod enc Tryz.prog W 0 (fun _ => true) true fuel 25 csa.toList = some (d, ps) := by simpa [Value.cells] using hf0
  generalize hcs : csa.toList = cs at hf1
  obtain ⟨xs, n', _, _, hl, hxl, hf⟩ := DataW.trod_struct Tryz.underlying25 hf1
  rw [cells_world] at hl
  have hxl' : xs.length = 5 := hxl
  have g0 : DataW.trod enc Tryz.prog W 0 (fun _ => true) true n' 22 ((cs.drop 0).take (Tryz.prog.cellsOf 22)) = xs[0]? := hf 0 _ rfl
  have g1 : DataW.trod enc Tryz.prog W 0 (fun _ => true) true n' 23 ((cs.drop 1).take (Tryz.prog.cellsOf 23)) = xs[1]? := hf 1 _ rfl
  have g2 : DataW.trod enc Tryz.prog W 0 (fun _ => true) true n' 4 ((cs.drop 2).take (Tryz.prog.cellsOf 4)) = xs[2]? := hf 2 _ rfl
  have g3 : DataW.trod enc Tryz.prog W 0 (fun _ => true) true n' 3 ((cs.drop 3).take (Tryz.prog.cellsOf 3)) = xs[3]? := hf 3 _ rfl
  have g4 : DataW.trod enc Tryz.prog W 0 (fun _ => true) true n' 3 ((cs.drop 4).take (Tryz.prog.cellsOf 3)) = xs[4]? := hf 4 _ rfl
  rw [cells_pus, field_one 0 (by omega), List.getElem?_eq_getElem (by omega)] at g0
  rw [cells_wos, field_one 1 (by omega), List.getElem?_eq_getElem (by omega)] at g1
  rw [cells_bool, field_one 2 (by omega), List.getElem?_eq_getElem (by omega)] at g2
  rw [cells_int, field_one 3 (by omega), List.getElem?_eq_getElem (by omega)] at g3
  rw [cells_int, field_one 4 (by omega), List.getElem?_eq_getElem (by omega)] at g4
  obtain ⟨a0, len, cap, e0, hl0, P, hP⟩ := pus_any g0
  obtain ⟨a1, len1, cap1, e1, hl1, Q, hQ⟩ := wos_any g1
  obtain ⟨g, e2, _⟩ := DataW.trod_bool Tryz.underlying4 g2
  obtain ⟨vm, e3, _, _⟩ := DataW.trod_int Tryz.underlying3 g3
  obtain ⟨se, e4, _, _⟩ := DataW.trod_int Tryz.underlying3 g4
  simp only [List.cons.injEq, and_true] at e2 e3 e4
  refine ⟨a0, a1, len, cap, len1, cap1, g, vm, se, P, Q, ?_, hl0, hl1, hP, hQ⟩
  have e' : cs = [.slice a0 len cap, .slice a1 len1 cap1, .bool g, .int .i64 vm, .int .i64 se] := by
    match cs, hl with
    | [c0, c1, c2, c3, c4], _ =>
      simp only [List.getElem_cons_zero, List.getElem_cons_succ] at e0 e1 e2 e3 e4
      rw [e0, e1, e2, e3, e4]
  rw [show csa = csa.toList.toArray by simp, hcs, e']

theorem words_of {cs : List Value} {n : Nat} (h : ∀ k, k < n → ∃ q : Int, cs[k]? = some (.int .u32 q) ∧ 0 ≤ q ∧ q ≤ 4294967295) : ∃ g : Nat → Nat, (∀ k, g k < 4294967296) ∧ ∀ k, k < n → cs[k]? = some (.int .u32 ((g k : Nat) : Int)) := by
  have h' : ∀ k, ∃ m : Nat, m < 4294967296 ∧ (k < n → cs[k]? = some (.int .u32 (m : Int))) := fun k => by
    by_cases hk : k < n
    · obtain ⟨q, e, h0, h1⟩ := h k hk
      exact ⟨q.toNat, by omega, fun _ => by rw [e, Int.toNat_of_nonneg h0]⟩
    · exact ⟨0, by decide, fun hh => absurd hh hk⟩
  exact ⟨fun k => Classical.choose (h' k), fun k => (Classical.choose_spec (h' k)).1, fun k hk => (Classical.choose_spec (h' k)).2 hk⟩

set_option maxRecDepth 100000 in
theorem cpu_open {H : Type} {enc : TypeId × Value → H} {W : World} {r : Reach} {b0 : Nat} {x : Value} {d : DataW H} {ps : List MemPlace} (hv : Value.okWide Tryz.prog W r b0 30 x) (h : DataW.Trod enc Tryz.prog W 0 (fun _ => true) true 30 x d ps) :
    ∃ c : Cp, x = .agg (cpA c) ∧ c.Ok := by
  obtain ⟨csa, rfl, _⟩ := okWide_struct Tryz.underlying30 hv
  obtain ⟨fuel, hf0⟩ := h
  have hf1 : DataW.trod enc Tryz.prog W 0 (fun _ => true) true fuel 30 csa.toList = some (d, ps) := by simpa [Value.cells] using hf0
  generalize hcs : csa.toList = cs at hf1
  obtain ⟨xs, n', _, _, hl, hxl, hf⟩ := DataW.trod_struct Tryz.underlying30 hf1
  rw [cells_cpu] at hl
  have hxl' : xs.length = 3 := hxl
  have g0 : DataW.trod enc Tryz.prog W 0 (fun _ => true) true n' 27 ((cs.drop 0).take (Tryz.prog.cellsOf 27)) = xs[0]? := hf 0 _ rfl
  have g1 : DataW.trod enc Tryz.prog W 0 (fun _ => true) true n' 3 ((cs.drop 16).take (Tryz.prog.cellsOf 3)) = xs[1]? := hf 1 _ rfl
  have g2 : DataW.trod enc Tryz.prog W 0 (fun _ => true) true n' 28 ((cs.drop 17).take (Tryz.prog.cellsOf 28)) = xs[2]? := hf 2 _ rfl
  rw [cells_a16, List.getElem?_eq_getElem (by omega)] at g0
  rw [cells_int, field_one 16 (by omega), List.getElem?_eq_getElem (by omega)] at g1
  rw [cells_a8, List.getElem?_eq_getElem (by omega)] at g2
  obtain ⟨pc, e1, _, _⟩ := DataW.trod_int Tryz.underlying3 g1
  obtain ⟨ys, m, _, _, hl0, hy0, hel⟩ := DataW.trod_array Tryz.underlying27 g0
  obtain ⟨zs, m', _, _, hl2, hz0, hel2⟩ := DataW.trod_array Tryz.underlying28 g2
  obtain ⟨R, hR, eR⟩ := words_of (cs := cs) (n := 16) (fun k hk => by
    have e := hel k hk
    rw [cells_u32, Nat.mul_one, List.drop_zero, field_one k (by simp; omega)] at e
    rw [List.getElem?_eq_getElem (by omega)] at e
    obtain ⟨q, e1, _, wq⟩ := DataW.trod_int Tryz.underlying26 e
    simp only [List.cons.injEq, and_true, List.getElem_take] at e1
    have hb := bounds_u32 wq
    exact ⟨q, by rw [List.getElem?_eq_getElem (by omega), e1], by omega, by omega⟩)
  obtain ⟨S, hS, eS⟩ := words_of (cs := cs.drop 17) (n := 8) (fun k hk => by
    have e := hel2 k hk
    rw [cells_u32, Nat.mul_one, field_one k (by simp; omega), List.getElem?_eq_getElem (by omega)] at e
    obtain ⟨q, e1, _, wq⟩ := DataW.trod_int Tryz.underlying26 e
    simp only [List.cons.injEq, and_true, List.getElem_take] at e1
    have hb := bounds_u32 wq
    exact ⟨q, by rw [List.getElem?_eq_getElem (by simp; omega), e1], by omega, by omega⟩)
  simp only [List.cons.injEq, and_true] at e1
  refine ⟨⟨R, pc, S⟩, ?_, ⟨hR, hS⟩⟩
  have e' : cs = cpL ⟨R, pc, S⟩ := by
    refine cpL_ext hl eR ?_ ?_
    · rw [List.getElem?_eq_getElem (by omega), e1]
    · intro k hk
      have := eS k hk
      rw [List.getElem?_drop] at this
      exact this
  rw [show csa = csa.toList.toArray by simp, hcs, e']
  rfl

end Go.Proofs.YtgnoakidjnilpaaGreat

/- CpuConfProof -/
namespace Go.Proofs.YtgnoakidjnilpaaGreat
open Go.ChangeShapes Go.WideShapes Go.ChangeAt Go.RowKit Go.Deep

theorem conf_any (w : World) (a0 a1 : Option Addr) (len cap len1 cap1 : Nat) (g : Bool) (vm se : Int) (P : Nat → Pu) (Q : Nat → Wo) (hl : len ≤ 9223372036854775807) (hl1 : len1 ≤ 9223372036854775807) (hP : Pus w a0 len P) (hQ : Wos w a1 len1 Q) (c : Cp) (hok : c.Ok) (at_ : Int) :
    Calls Tryz.prog 4 #[.agg #[.slice a0 len cap, .slice a1 len1 cap1, .bool g, .int .i64 vm, .int .i64 se], .agg (cpA c), .int .i64 at_] w fun e w' => e = .returned (.bool true) ∧ Below w.heap.size w w' :=
  (conf_walk w a0 a1 len cap len1 cap1 g vm se P Q hl hl1 hP hQ c hok at_).mono fun _ _ ⟨he, hf⟩ => ⟨he, hf.below (Nat.le_refl _) (fun _ h => h.elim)⟩

set_option maxRecDepth 100000 in
theorem conf_lifted (os : Os) (started : os.Started) (H : Type) (enc : TypeId × Value → H) :
    ReturnsInHanded {} Tryz.checked os 4 .any (Rows.cpuConfinedSpec.pre6 enc Tryz.prog Tryz.f4 Rows.cpuConfinedRow.domain false) (Rows.cpuConfinedSpec.post enc Tryz.prog Tryz.f4 false true false false) := by
  refine returnsInHanded_of_change (C := Tryz.checked) own_knob started (by kernel_rfl) Tryz.func4
    (ChangeSpec.witness6 (enc := enc) (C := Tryz.checked) false ⟨#[], #[.agg #[.slice none 0 0, .slice none 0 0, .bool false, .int .i64 0, .int .i64 0], .agg #[.int .u32 0, .int .u32 0, .int .u32 0, .int .u32 0, .int .u32 0, .int .u32 0, .int .u32 0, .int .u32 0, .int .u32 0, .int .u32 0, .int .u32 0, .int .u32 0, .int .u32 0, .int .u32 0, .int .u32 0, .int .u32 0, .int .i64 0, .int .u32 0, .int .u32 0, .int .u32 0, .int .u32 0, .int .u32 0, .int .u32 0, .int .u32 0, .int .u32 0], .int .i64 0], []⟩ 8 (by kernel_rfl) (by kernel_rfl) (by kernel_rfl) (by kernel_rfl)) ?_
  intro W base args ds gs before hval0 hW hcnd _
  have hval : ∀ (j : Nat) t v, Tryz.f4.params[j]? = some t → args[j]? = some v → Value.okWide Tryz.prog W .any base t v := hval0
  have hW' := hW
  obtain ⟨p, q, hA0, hV, rfl, hfz, hnd⟩ := hW
  have hA : DataW.TrodAll enc Tryz.prog W 0 (fun _ => true) true Tryz.f4.params.toList args.toList ds p := hA0
  rw [Tryz.params4] at hA hval
  obtain ⟨v0, vs0, d0, ds0, p0, q0, hargs, rfl, rfl, h0, r0⟩ := trodAll_cons hA
  obtain ⟨v1, vs1, d1, ds1, p1, q1, rfl, rfl, rfl, h1, r1⟩ := trodAll_cons r0
  obtain ⟨v2, vs2, d2, ds2, p2, q2, rfl, rfl, rfl, h2, r2⟩ := trodAll_cons r1
  obtain ⟨rfl, rfl, rfl⟩ := trodAll_nil r2
  obtain rfl : args = #[v0, v1, v2] := by cases args; simp_all
  obtain ⟨rfl, rfl⟩ := trodVars_none hV
  have k0 := h0
  have lt0 : ∀ x ∈ p0, x.block < W.heap.size := by obtain ⟨m, hm⟩ := k0; exact DataW.trod_lt m _ _ _ hm
  obtain ⟨a0, a1, len, cap, len1, cap1, gg, vm, se, P, Q, rfl, hl0, hl1, hP, hQ⟩ := world_open (hval 0 25 v0 rfl rfl) h0
  have k1 := h1
  have lt1 : ∀ x ∈ p1, x.block < W.heap.size := by obtain ⟨m, hm⟩ := k1; exact DataW.trod_lt m _ _ _ hm
  obtain ⟨c1, rfl, hok1⟩ := cpu_open (hval 1 30 v1 rfl rfl) h1
  obtain ⟨a2, rfl, rfl, rfl, w2⟩ := open_int Tryz.underlying3 (hval 2 3 v2 rfl rfl) h2
  clear hA0 hval0
  refine (conf_any W a0 a1 len cap len1 cap1 gg vm se P Q hl0 hl1 hP hQ c1 hok1 a2).mono fun e W' ⟨he, bel⟩ => ?_
  subst he
  exact ⟨_, rfl, _, _, _, [], _, [], hW', trodAll_mk1 (shut_bool Tryz.underlying4 _), (trodAll_cons_mk (Below.trod laid_out (by kernel_rfl) (of_decide_eq_true (by kernel_rfl)) k0 bel lt0) (trodAll_cons_mk (Below.trod laid_out (by kernel_rfl) (of_decide_eq_true (by kernel_rfl)) k1 bel lt1) (trodAll_cons_mk (shut_int Tryz.underlying3 w2) trodAll_mk0))), rfl, bel.frame _, fun h => by cases h⟩

theorem cpuConfined_holds : Rows.CpuConfinedSaid :=
  OpenClaim.holds_of_wide 4 Tryz.f4 rfl rfl rfl rfl rfl rfl rfl ⟨rfl, rfl, rfl, rfl, rfl⟩ rfl rfl rfl rfl rfl (by kernel_rfl) Tryz.func4 (by kernel_rfl)
    (of_decide_eq_true (by kernel_rfl)) (by unfold Func.isWrapper; first | (rw [if_pos (by decide +kernel)]; kernel_rfl) | (rw [if_neg (by decide +kernel)]; exact ⟨rfl, rfl⟩))
    (fun os started H enc _ => conf_lifted os started H enc)
#print axioms cpuConfined_holds

end Go.Proofs.YtgnoakidjnilpaaGreat

