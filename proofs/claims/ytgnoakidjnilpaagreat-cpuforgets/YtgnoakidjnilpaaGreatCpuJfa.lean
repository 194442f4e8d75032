/-
  The contract of the laws' awake: the chapter's examples come out as it says. No statement is proved here.
-/
import Derived.Test.YtgnoakidjnilpaaGreatCpuJb
import Derived.Test.YtgnoakidjnilpaaGreatTwin
import Derived.Test.YtgnoakidjnilpaaGreatRefMem
import Derived.Test.YtgnoakidjnilpaaGreatRefMore
import Derived.Test.YtgnoakidjnilpaaGreatCpuJc
import Derived.Deep.CutBlock
import Derived.Test.YtgnoakidjnilpaaGreatCpuJa
import Derived.Test.YtgnoakidjnilpaaGreatWalkRefEnt
import Derived.Test.YtgnoakidjnilpaaGreatRefFrame
import Derived.Test.YtgnoakidjnilpaaGreatTlbRow
/- CpuRunP -/
namespace Go.Proofs.YtgnoakidjnilpaaGreat
open Go.RowKit

theorem exec_zero (nf : Nat) (M : Mc) (X : Wk) (h : (exec nf M X).2.2.ca = 0) : (exec nf M X).2.2 = _root_.Go.Proofs.YtgnoakidjnilpaaGreat.t0 := by
  unfold exec at h ⊢
  split at h
  all_goals first
    | rfl
    | exact dT_zero (by decide) h
    | (exact absurd h (show ¬((5 : Int) = 0) by decide))
    | (exact absurd h (show ¬((6 : Int) = 0) by decide))
    | skip
  · change (rdT X).ca = 0 at h
    show rdT X = _
    unfold rdT at h ⊢
    split at h
    · exact absurd h (show ¬((7 : Int) = 0) by decide)
    · rw [if_neg (by assumption)]
  · change (wrT X).ca = 0 at h
    show wrT X = _
    unfold wrT at h ⊢
    split at h
    · exact absurd h (show ¬((7 : Int) = 0) by decide)
    · rw [if_neg (by assumption)]
  · change (wfT M X).ca = 0 at h
    show wfT M X = _
    unfold wfT at h ⊢
    split at h
    · split at h
      · rw [if_pos (by assumption)]
      · exact absurd h (show ¬((9 : Int) = 0) by decide)
    · exact absurd h (show ¬((9 : Int) = 0) by decide)
  · change (eoT M.S X).ca = 0 at h
    show eoT M.S X = _
    unfold eoT at h ⊢
    split at h
    · exact absurd h (show ¬((10 : Int) = 0) by decide)
    · rw [if_neg (by assumption)]

theorem do_zero (nf : Nat) (M : Mc) (X : Wk) (h : (doR nf M X).2.2.ca = 0) : (doR nf M X).2.2 = _root_.Go.Proofs.YtgnoakidjnilpaaGreat.t0 := by
  unfold doR at h ⊢
  split at h
  · exact absurd h (show ¬((1 : Int) = 0) by decide)
  · rw [if_neg (by assumption)]
    split at h
    · exact absurd h (show ¬((8 : Int) = 0) by decide)
    · rw [if_neg (by assumption)]
      split at h
      · exact absurd h (show ¬((8 : Int) = 0) by decide)
      · rw [if_neg (by assumption)]
        exact exec_zero nf _ _ h

/-- A trap of cause none tells nothing. -/
theorem step_zero (nf : Nat) (M : Mc) (c : Cp) (vm se ix : Int) (h : (stepR nf M c vm se ix).2.2.ca = 0) : (stepR nf M c vm se ix).2.2 = _root_.Go.Proofs.YtgnoakidjnilpaaGreat.t0 := by
  unfold stepR at h ⊢
  split at h
  · exact absurd h (show ¬((4 : Int) = 0) by decide)
  · rw [if_neg (by assumption)]
    exact do_zero nf M _ h

def stepI (nf : Nat) (M : Mc) (c : Cp) (vm se : Int) : Mc × Cp × Tr := stepR nf M c vm se (c.pc / 4 % 8)

theorem step_bad_ix {nf : Nat} {M : Mc} {c : Cp} (h : c.bad) (vm se ix : Int) : stepR nf M c vm se ix = stepI nf M c vm se := by
  unfold stepI stepR
  rw [if_pos h, if_pos h]

/-- So many steps, one behind the other. -/
def seqR (nf : Nat) (M : Mc) (c : Cp) (vm se : Int) : Nat → Mc × Cp
  | 0 => (M, c)
  | k + 1 => ((stepI nf (seqR nf M c vm se k).1 (seqR nf M c vm se k).2 vm se).1, (stepI nf (seqR nf M c vm se k).1 (seqR nf M c vm se k).2 vm se).2.1)

def trapK (nf : Nat) (M : Mc) (c : Cp) (vm se : Int) (k : Nat) : Tr := (stepI nf (seqR nf M c vm se k).1 (seqR nf M c vm se k).2 vm se).2.2

theorem few_seq {nf : Nat} {M : Mc} (h : M.few 0) (c : Cp) (vm se : Int) (k : Nat) : (seqR nf M c vm se k).1.few (2 * k) := by
  induction k with
  | zero => exact h
  | succ k ih => exact few_mono (few_step ih nf _ vm se _) (by omega)

/-- So many were asked for: k went through; then a trap, or the end. -/
def Ran (nf : Nat) (M : Mc) (c : Cp) (vm se : Int) (many k : Nat) (M' : Mc) (c' : Cp) (T : Tr) : Prop :=
  (∀ j, j < k → (trapK nf M c vm se j).ca = 0) ∧ ((k = many ∧ M' = (seqR nf M c vm se k).1 ∧ c' = (seqR nf M c vm se k).2 ∧ T = _root_.Go.Proofs.YtgnoakidjnilpaaGreat.t0) ∨ (k < many ∧ (trapK nf M c vm se k).ca ≠ 0 ∧ M' = (seqR nf M c vm se (k + 1)).1 ∧ c' = (seqR nf M c vm se (k + 1)).2 ∧ T = trapK nf M c vm se k))

theorem Ran.one {nf : Nat} {M : Mc} {c : Cp} {vm se : Int} {many k k' : Nat} {M1 M2 : Mc} {c1 c2 : Cp} {T1 T2 : Tr} (h : Ran nf M c vm se many k M1 c1 T1) (h' : Ran nf M c vm se many k' M2 c2 T2) : k = k' ∧ M1 = M2 ∧ c1 = c2 ∧ T1 = T2 := by
  obtain ⟨a, b⟩ := h
  obtain ⟨a', b'⟩ := h'
  rcases b with ⟨rfl, rfl, rfl, rfl⟩ | ⟨hk, ht, rfl, rfl, rfl⟩ <;> rcases b' with ⟨rfl, rfl, rfl, rfl⟩ | ⟨hk', ht', rfl, rfl, rfl⟩
  · exact ⟨rfl, rfl, rfl, rfl⟩
  · exact absurd (a _ hk') ht'
  · exact absurd (a' _ hk) ht
  · rcases Nat.lt_trichotomy k k' with e | rfl | e
    · exact absurd (a' _ e) ht
    · exact ⟨rfl, rfl, rfl, rfl⟩
    · exact absurd (a _ e) ht'

end Go.Proofs.YtgnoakidjnilpaaGreat

/- CpuMade -/
namespace Go.Proofs.YtgnoakidjnilpaaGreat
open Go.RowKit

structure Pu where (t i : Int) (v l : Bool) (r f : Int)
structure Wo where (a : Int) (w : Nat)

structure PuIs (w : World) (b o : Nat) (q : Pu) : Prop where
  c0 : w.cell? ⟨b, o, none⟩ = some (.int .i64 q.t)
  c1 : w.cell? ⟨b, o + 1, none⟩ = some (.int .i64 q.i)
  c2 : w.cell? ⟨b, o + 2, none⟩ = some (.bool q.v)
  c3 : w.cell? ⟨b, o + 3, none⟩ = some (.bool q.l)
  c4 : w.cell? ⟨b, o + 4, none⟩ = some (.int .i64 q.r)
  c5 : w.cell? ⟨b, o + 5, none⟩ = some (.int .i64 q.f)
structure WoIs (w : World) (b o : Nat) (q : Wo) : Prop where
  c0 : w.cell? ⟨b, o, none⟩ = some (.int .i64 q.a)
  c1 : w.cell? ⟨b, o + 1, none⟩ = some (.int .u32 (q.w : Int))
  small : q.a ≤ 9223372036854775807
  word : q.w < 4294967296
theorem PuIs.keep {S : Nat → Prop} {w w' : World} {b o : Nat} {q : Pu} (h : PuIs w b o q) (k : Fr S w w') (hs : ¬ S b) : PuIs w' b o q :=
  ⟨cell_keep k h.c0 hs, cell_keep k h.c1 hs, cell_keep k h.c2 hs, cell_keep k h.c3 hs, cell_keep k h.c4 hs, cell_keep k h.c5 hs⟩
theorem WoIs.keep {S : Nat → Prop} {w w' : World} {b o : Nat} {q : Wo} (h : WoIs w b o q) (k : Fr S w w') (hs : ¬ S b) : WoIs w' b o q :=
  ⟨cell_keep k h.c0 hs, cell_keep k h.c1 hs, h.small, h.word⟩
def Pus (w : World) (a0 : Option Addr) (len : Nat) (P : Nat → Pu) : Prop := ∀ k, k < len → ∃ b o, a0 = some ⟨b, o, none⟩ ∧ PuIs w b (o + k * 6) (P k)
def Wos (w : World) (a0 : Option Addr) (len : Nat) (Q : Nat → Wo) : Prop := ∀ k, k < len → ∃ b o, a0 = some ⟨b, o, none⟩ ∧ WoIs w b (o + k * 2) (Q k)
theorem Pus.keep {w w' : World} {a0 : Option Addr} {len : Nat} {P : Nat → Pu} (h : Pus w a0 len P) (f : Fr none' w w') : Pus w' a0 len P := fun k hk => by
  obtain ⟨b, o, e, q⟩ := h k hk
  exact ⟨b, o, e, q.keep f (fun h => h)⟩
theorem Wos.keep {w w' : World} {a0 : Option Addr} {len : Nat} {P : Nat → Wo} (h : Wos w a0 len P) (f : Fr none' w w') : Wos w' a0 len P := fun k hk => by
  obtain ⟨b, o, e, q⟩ := h k hk
  exact ⟨b, o, e, q.keep f (fun h => h)⟩

/-- The bytes behind so many entries; then behind so many words. -/
def pB (P : Nat → Pu) : Nat → List UInt8
  | 0 => List.replicate (64 * 16) 0
  | n + 1 => putB (pB P n) (P n).t (P n).i 16 (P n).v (P n).l (P n).r (P n).f
def wB (bs : List UInt8) (Q : Nat → Wo) : Nat → List UInt8
  | 0 => bs
  | n + 1 => storeB (wB bs Q n) (Q n).a 4 16 (Q n).w

/-- The program's machine and the document's. -/
structure Bo where
  B : Bm
  pr : Nat
  br : Nat
  bu : Nat
  vr : Option Nat
def M0 (bs : List UInt8) (g : Bool) : Mc := ⟨bs, fun _ => zl, 0, 0, if g = true then some (zeroV 4) else none⟩
theorem M0_few (bs : List UInt8) (g : Bool) : (M0 bs g).few 0 := ⟨Int.le_refl 0, Int.le_refl 0, by show (0 : Int) + 0 ≤ 0; omega, good_zero, uniq_zero⟩
def IsRvO (w : World) : Option Nat → Option Vg → Prop
  | some b, some S => IsRv w b S
  | none, none => True
  | _, _ => False
structure IsBo (w : World) (n : Nat) (O : Bo) (M : Mc) : Prop where
  m : IsMc w O.B 16 M
  r : IsRef w O.pr O.br 16 M.bs
  t : IsTref w O.bu M.T M.fo M.mi
  v : IsRvO w O.vr M.V
  new : ∀ k, (O.B.s k ∨ k = O.B.p) → n ≤ k
  newr : n ≤ O.pr ∧ n ≤ O.br ∧ n ≤ O.bu ∧ ∀ b, O.vr = some b → n ≤ b
  ap : ∀ k, (O.B.s k ∨ k = O.B.p) → k ≠ O.pr ∧ k ≠ O.br ∧ k ≠ O.bu ∧ ∀ b, O.vr = some b → k ≠ b
  apr : O.pr ≠ O.bu ∧ O.br ≠ O.bu ∧ ∀ b, O.vr = some b → b ≠ O.pr ∧ b ≠ O.br ∧ b ≠ O.bu
def Bo.a (O : Bo) : Array Value := #[.pointer (some ⟨O.B.p, 0, none⟩), .pointer (some ⟨O.B.bt, 0, none⟩), ptrV (O.B.v.map Bk.b), .pointer (some ⟨O.pr, 0, none⟩), .pointer (some ⟨O.bu, 0, none⟩), ptrV O.vr]

theorem size_both : (Tryz.prog.info? 44).map (·.size) = some 6 := by kernel_rfl
theorem ret_both {fn : Func} {p q : Tmp} {tmps : Array Value} {g : Nat} {cs : Array Value} {w : World} (h : fn.results = #[.cell p 44, .tmp q]) (hp : tmps.getD p undef = .pointer (some ⟨g, 0, none⟩)) (hr : Row w g cs 44) (hs : cs.size = 6) :
    (results fn tmps).run Tryz.prog w = .ok (.tuple #[.agg cs, tmps.getD q undef]) w := by
  have hl : (loadVar 44 ⟨g, 0, none⟩).run Tryz.prog w = .ok (.agg cs) w := by
    have := run_loadVar_mid (P := Tryz.prog) w g 0 44 cs.toList _ (range_row' hr) Tryz.underlying44 rfl (by rw [Array.length_toList, hs]; exact size_both)
    simpa using this
  have hp' : tmps[p]?.getD undef = .pointer (some ⟨g, 0, none⟩) := by simpa using hp
  simp only [results, h]
  simp [Result.andThen, hp', asAddr, hl]

theorem cells6 {w : World} {g : Nat} {c0 c1 c2 c3 c4 c5 : Value} {t : TypeId} (h : Row w g #[c0, c1, c2, c3, c4, c5] t) : w.cell? ⟨g, 0, none⟩ = some c0 ∧ w.cell? ⟨g, 1, none⟩ = some c1 ∧ w.cell? ⟨g, 2, none⟩ = some c2 ∧ w.cell? ⟨g, 3, none⟩ = some c3 ∧ w.cell? ⟨g, 4, none⟩ = some c4 ∧ w.cell? ⟨g, 5, none⟩ = some c5 := ⟨h.cell 0, h.cell 1, h.cell 2, h.cell 3, h.cell 4, h.cell 5⟩
theorem frozen6 {w : World} {g : Nat} {cs : Array Value} {t : TypeId} (h : Row w g cs t) : w.frozen? ⟨g, 0, none⟩ = false ∧ w.frozen? ⟨g, 1, none⟩ = false ∧ w.frozen? ⟨g, 2, none⟩ = false ∧ w.frozen? ⟨g, 3, none⟩ = false ∧ w.frozen? ⟨g, 4, none⟩ = false ∧ w.frozen? ⟨g, 5, none⟩ = false := ⟨h.frozen 0, h.frozen 1, h.frozen 2, h.frozen 3, h.frozen 4, h.frozen 5⟩
theorem row_set6 {w : World} {g : Nat} {c0 c1 c2 c3 c4 c5 : Value} {t : TypeId} (h : Row w g #[c0, c1, c2, c3, c4, c5] t) (v0 v1 v2 v3 v4 v5 : Value) : Row ((((((w.setCell ⟨g, 0, none⟩ v0).setCell ⟨g, 1, none⟩ v1).setCell ⟨g, 2, none⟩ v2).setCell ⟨g, 3, none⟩ v3).setCell ⟨g, 4, none⟩ v4).setCell ⟨g, 5, none⟩ v5) g #[v0, v1, v2, v3, v4, v5] t := by
  simpa using ((((((h.setCell 0 v0).setCell 1 v1).setCell 2 v2).setCell 3 v3).setCell 4 v4).setCell 5 v5)
theorem fr_own6 (w : World) (g : Nat) (v0 v1 v2 v3 v4 v5 : Value) : Fr (at' g) w ((((((w.setCell ⟨g, 0, none⟩ v0).setCell ⟨g, 1, none⟩ v1).setCell ⟨g, 2, none⟩ v2).setCell ⟨g, 3, none⟩ v3).setCell ⟨g, 4, none⟩ v4).setCell ⟨g, 5, none⟩ v5) := fr_set w g 5 _ (fr_set w g 4 _ (fr_set w g 3 _ (fr_set w g 2 _ (fr_set w g 1 _ (fr_set w g 0 _ (Fr.refl _ w))))))

set_option maxHeartbeats 8000000 in
set_option maxRecDepth 100000 in
theorem made_any (w : World) (a0 a1 : Option Addr) (len cap len1 cap1 : Nat) (g : Bool) (vm se : Int) (P : Nat → Pu) (Q : Nat → Wo) (hl : len ≤ 9223372036854775807) (hl1 : len1 ≤ 9223372036854775807) (hP : Pus w a0 len P) (hQ : Wos w a1 len1 Q) :
    Calls Tryz.prog 8 #[.agg #[.slice a0 len cap, .slice a1 len1 cap1, .bool g, .int .i64 vm, .int .i64 se]] w fun e w' => ∃ O : Bo, e = .returned (.tuple #[.agg O.a, .bool true]) ∧ Fr none' w w' ∧ IsBo w' w.heap.size O (M0 (wB (pB P (min len 100)) Q (min len1 300)) g) := by
  have rx := (row_alloc w #[.slice a0 len cap, .slice a1 len1 cap1, .bool g, .int .i64 vm, .int .i64 se] 25).alloc (.cells #[.pointer none, .pointer none, .pointer none, .pointer none, .pointer none, .pointer none] 44)
  have rr := row_at (W := w.alloc (.cells #[.slice a0 len cap, .slice a1 len1 cap1, .bool g, .int .i64 vm, .int .i64 se] 25)) (n := w.heap.size + 1) (cs := #[.pointer none, .pointer none, .pointer none, .pointer none, .pointer none, .pointer none]) (t := 44) (by simp)
  have f0 := ((Fr.refl none' w).alloc (.cells #[.slice a0 len cap, .slice a1 len1 cap1, .bool g, .int .i64 vm, .int .i64 se] 25)).alloc (.cells #[.pointer none, .pointer none, .pointer none, .pointer none, .pointer none, .pointer none] 44)
  obtain ⟨v0, hv0⟩ : ∃ v0, v0 = (w.alloc (.cells #[.slice a0 len cap, .slice a1 len1 cap1, .bool g, .int .i64 vm, .int .i64 se] 25)).alloc (.cells #[.pointer none, .pointer none, .pointer none, .pointer none, .pointer none, .pointer none] 44) := ⟨_, rfl⟩
  have hsz : Hid (v0.heap.size = w.heap.size + 2) := by show _ = _; rw [hv0]; simp
  rw [← hv0] at rx rr f0
  have HP : Hid (Pus w a0 len P) := hP
  have HQ : Hid (Wos w a1 len1 Q) := hQ
  clear hP hQ
  go_enter Tryz.func8, Tryz.ntmps8
  go_wp2_with fail
  rw [← hv0]
  clear hv0
  obtain ⟨gx, hgx⟩ : ∃ q, q = w.heap.size := ⟨_, rfl⟩
  obtain ⟨gr, hgr⟩ : ∃ q, q = w.heap.size + 1 := ⟨_, rfl⟩
  rw [← hgr] at rr ⊢
  rw [← hgx] at rx ⊢
  have HG : Hid (gx = w.heap.size ∧ gr = w.heap.size + 1) := ⟨hgx, hgr⟩
  clear hgx hgr
  refine (new_any _ _ ⟨by decide, by decide⟩).mono ?_
  rintro e w1 ⟨rfl, f1, r1⟩
  go_wp2_with fail
  refine (rnew_any _ _ ⟨by decide, by decide⟩).mono ?_
  rintro e w2 ⟨rfl, f2, r2⟩
  have TW0 : Twin w2 v0.heap.size (v0.heap.size + 1) v0.heap.size (w1.heap.size + 1) w1.heap.size 16 (List.replicate (64 * 16) 0) := twin_new (Nat.le_refl _) r1 f2 r2
  have HW : Hid (v0.heap.size + 1 < w1.heap.size) := r1.head.lt
  replace f1 := f1.trans f2
  replace f0 := f0.trans f1
  replace rx := rx.keep f1 (fun h => h)
  replace rr := rr.keep f1 (fun h => h)
  clear f1 f2 r1 r2
  obtain ⟨pm, hpm⟩ : ∃ q, q = v0.heap.size + 1 := ⟨_, rfl⟩
  obtain ⟨bm, hbm⟩ : ∃ q, q = v0.heap.size := ⟨_, rfl⟩
  obtain ⟨pr, hpr⟩ : ∃ q, q = w1.heap.size + 1 := ⟨_, rfl⟩
  obtain ⟨br, hbr⟩ : ∃ q, q = w1.heap.size := ⟨_, rfl⟩
  rw [← hpm, ← hpr, ← hbr, ← hbm] at TW0
  rw [← hpm, ← hpr]
  have HA : Hid (w.heap.size + 2 ≤ bm ∧ bm < pm ∧ pm < br ∧ br < pr) := (show _ ∧ _ from ⟨by have := hsz.out; omega, by omega, by have := HW.out; omega, by omega⟩)
  clear hpm hbm hpr hbr HW hsz
  replace TW0 : Twin w2 w.heap.size pm bm pr br 16 (List.replicate (64 * 16) 0) := ⟨TW0.ram, TW0.ref, TW0.d1, TW0.d2, TW0.d3, by have := HA.out; omega⟩
  go_wp2_with fail
  refine (tnew_any _).mono ?_
  rintro e w3 ⟨bt, rfl, hbt, f3, hT⟩
  have HT : Hid (pr < bt) := Nat.lt_of_lt_of_le TW0.ref.head.lt hbt
  replace TW0 := TW0.keep0 f3
  replace f0 := f0.trans f3
  replace rx := rx.keep f3 (fun h => h)
  replace rr := rr.keep f3 (fun h => h)
  clear f3 hbt
  go_upto_block 0 with fail
  go_cut [9] from 36 to 86 (fun s wx => Fr none' w wx ∧ Twin wx w.heap.size pm bm pr br 16 (pB P (min len 100)) ∧ Row wx gx #[.slice a0 len cap, .slice a1 len1 cap1, .bool g, .int .i64 vm, .int .i64 se] 25 ∧ Row wx gr #[.pointer none, .pointer none, .pointer none, .pointer none, .pointer none, .pointer none] 44 ∧ IsTlb wx bt (fun _ => zl) 0 0)
  case first =>
    go_wp2_with fail
    go_loopw [9] (fun i wr => ∃ k : Nat, k ≤ len ∧ k ≤ 100 ∧ i = .int .i64 k ∧ Fr none' w wr ∧ Twin wr w.heap.size pm bm pr br 16 (pB P k) ∧ Row wr gx #[.slice a0 len cap, .slice a1 len1 cap1, .bool g, .int .i64 vm, .int .i64 se] 25 ∧ Row wr gr #[.pointer none, .pointer none, .pointer none, .pointer none, .pointer none, .pointer none] 44 ∧ IsTlb wr bt (fun _ => zl) 0 0) (fun i _ => 100 - (intOf i).toNat)
    case atStart => exact ⟨0, by omega, by omega, rfl, f0, TW0, rx, rr, hT⟩
    case round =>
      clear f0 TW0 rx rr hT
      obtain ⟨k, hk, hk2, rfl, fk, TW, rx, rr, hT⟩ := hrel
      have x0 : wr.cell? ⟨gx, 0, none⟩ = some (.slice a0 len cap) := rx.cell 0
      by_cases hlt : k < len
      · by_cases hlt2 : k < 100
        · obtain ⟨b, o, rfl, pk⟩ := HP.out k hlt
          have hbl := cell_lt pk.c0
          replace hbl : Hid (b < w.heap.size) := hbl
          replace pk := pk.keep fk (fun h => h)
          have i1 : 0 ≤ (k : Int) ∧ (k : Int) < (len : Int) := by omega
          have uk1 : decide ((k : Int) < (len : Int)) = true := decide_eq_true (by omega)
          have uk2 : decide ((k : Int) < 100) = true := decide_eq_true (by omega)
          have nb : b ≠ bm ∧ b ≠ br := by have := hbl.out; have := HA.out; omega
          have ng : gx ≠ bm ∧ gx ≠ br ∧ gr ≠ bm ∧ gr ≠ br := by have := HG.out; have := HA.out; omega
          have nt : bt ≠ bm ∧ bt ≠ br := by have := HT.out; have := HA.out; omega
          have HNN : Hid ((b ≠ bm ∧ b ≠ br) ∧ (gx ≠ bm ∧ gx ≠ br ∧ gr ≠ bm ∧ gr ≠ br) ∧ (bt ≠ bm ∧ bt ≠ br)) := ⟨nb, ng, nt⟩
          clear nb ng nt
          go_wp2_with fail
          clear x0
          have dm := TW.ram.drew
          go_region_held3 (fun w' => w'.cell? ⟨gx, 0, none⟩ = some (.slice (some ⟨b, o, none⟩) len cap) ∧ w'.cell? ⟨b, o + k * 6, none⟩ = some (.int .i64 (P k).t) ∧ w'.cell? ⟨b, o + k * 6 + 1, none⟩ = some (.int .i64 (P k).i) ∧ w'.cell? ⟨b, o + k * 6 + 2, none⟩ = some (.bool (P k).v) ∧ w'.cell? ⟨b, o + k * 6 + 3, none⟩ = some (.bool (P k).l) ∧ w'.cell? ⟨b, o + k * 6 + 4, none⟩ = some (.int .i64 (P k).r) ∧ w'.cell? ⟨b, o + k * 6 + 5, none⟩ = some (.int .i64 (P k).f)) (first | with_reducible exact ⟨rx.cell 0, pk.c0, pk.c1, pk.c2, pk.c3, pk.c4, pk.c5⟩ | exact ⟨rx.cell 0, pk.c0, pk.c1, pk.c2, pk.c3, pk.c4, pk.c5⟩) (first | (go_at_call 32; refine (put_any _ _ _ _ _ _ _ _ _ _ _ dm).mono ?_; rintro e w1' ⟨rfl, f1, q1⟩; replace f1 := rs_drew f1; replace pk := pk.keep f1 HNN.out.1.1; replace rx := rx.keep f1 HNN.out.2.1.1))
          clear dm
          have q0 := TW.ref.keep f1 TW.d2 (fun e => TW.d3 e.symm)
          go_wp2_with fail
          have dr := q0.drew
          go_region_held3 (fun w' => w'.cell? ⟨gx, 0, none⟩ = some (.slice (some ⟨b, o, none⟩) len cap) ∧ w'.cell? ⟨b, o + k * 6, none⟩ = some (.int .i64 (P k).t) ∧ w'.cell? ⟨b, o + k * 6 + 1, none⟩ = some (.int .i64 (P k).i) ∧ w'.cell? ⟨b, o + k * 6 + 2, none⟩ = some (.bool (P k).v) ∧ w'.cell? ⟨b, o + k * 6 + 3, none⟩ = some (.bool (P k).l) ∧ w'.cell? ⟨b, o + k * 6 + 4, none⟩ = some (.int .i64 (P k).r) ∧ w'.cell? ⟨b, o + k * 6 + 5, none⟩ = some (.int .i64 (P k).f)) (first | with_reducible exact ⟨rx.cell 0, pk.c0, pk.c1, pk.c2, pk.c3, pk.c4, pk.c5⟩ | exact ⟨rx.cell 0, pk.c0, pk.c1, pk.c2, pk.c3, pk.c4, pk.c5⟩) (first | (go_at_call 33; refine (rput_any _ _ _ _ _ _ _ _ _ _ _ dr).mono ?_; rintro e w2' ⟨rfl, f2, q2⟩; replace f2 := rs_drew f2; replace pk := pk.keep f2 HNN.out.1.2; replace rx := rx.keep f2 HNN.out.2.1.2.1))
          clear dr
          obtain ⟨TW2, ff⟩ := TW.step f1 q1 f2 q2
          replace fk := fk.own ff TW.lo.2.1 TW.lo.2.2.2
          replace rr := (rr.keep f1 HNN.out.2.1.2.2.1).keep f2 HNN.out.2.1.2.2.2
          replace hT := (hT.keep f1 HNN.out.2.2.1).keep f2 HNN.out.2.2.2
          clear f1 f2 q0 q1 q2 ff TW
          go_wp2_with fail
          go_roundw
          case rel => exact ⟨k + 1, by omega, by omega, by go_num, fk, TW2, rx, rr, hT⟩
          case measure => simp [intOf]; omega
        · obtain rfl : k = 100 := by omega
          have uk1 : decide (((100 : Nat) : Int) < (len : Int)) = true := decide_eq_true (by omega)
          have x0' : wr.cell? ⟨gx, 0, none⟩ = some (.slice a0 len cap) := x0
          go_wp2_with fail
          go_meet
          exact ⟨fk, by rw [Nat.min_eq_right (by omega)]; exact TW, rx, rr, hT⟩
      · obtain rfl : k = len := by omega
        go_wp2_with fail
        go_meet
        exact ⟨fk, by rw [Nat.min_eq_left (by omega)]; exact TW, rx, rr, hT⟩
  case rest =>
  obtain ⟨f0, TW0, rx, rr, hT⟩ := hcut
  obtain ⟨bs0, hbs0⟩ : ∃ q, q = pB P (min len 100) := ⟨_, rfl⟩
  rw [← hbs0] at TW0
  have HBS : Hid (bs0 = pB P (min len 100)) := hbs0
  clear hbs0
  go_upto_block 2 with fail
  go_cut [10] from 87 to 125 (fun s wx => Fr none' w wx ∧ Twin wx w.heap.size pm bm pr br 16 (wB bs0 Q (min len1 300)) ∧ Row wx gx #[.slice a0 len cap, .slice a1 len1 cap1, .bool g, .int .i64 vm, .int .i64 se] 25 ∧ Row wx gr #[.pointer none, .pointer none, .pointer none, .pointer none, .pointer none, .pointer none] 44 ∧ IsTlb wx bt (fun _ => zl) 0 0)
  case first =>
    go_wp2_with fail
    go_loopw [10] (fun i wr => ∃ k : Nat, k ≤ len1 ∧ k ≤ 300 ∧ i = .int .i64 k ∧ Fr none' w wr ∧ Twin wr w.heap.size pm bm pr br 16 (wB bs0 Q k) ∧ Row wr gx #[.slice a0 len cap, .slice a1 len1 cap1, .bool g, .int .i64 vm, .int .i64 se] 25 ∧ Row wr gr #[.pointer none, .pointer none, .pointer none, .pointer none, .pointer none, .pointer none] 44 ∧ IsTlb wr bt (fun _ => zl) 0 0) (fun i _ => 300 - (intOf i).toNat)
    case atStart => exact ⟨0, by omega, by omega, rfl, f0, TW0, rx, rr, hT⟩
    case round =>
      clear f0 TW0 rx rr hT
      obtain ⟨k, hk, hk2, rfl, fk, TW, rx, rr, hT⟩ := hrel
      have x0 : wr.cell? ⟨gx, 1, none⟩ = some (.slice a1 len1 cap1) := rx.cell 1
      by_cases hlt : k < len1
      · by_cases hlt2 : k < 300
        · obtain ⟨b, o, rfl, pk⟩ := HQ.out k hlt
          have hbl := cell_lt pk.c0
          replace hbl : Hid (b < w.heap.size) := hbl
          replace pk := pk.keep fk (fun h => h)
          have i1 : 0 ≤ (k : Int) ∧ (k : Int) < (len1 : Int) := by omega
          have uk1 : decide ((k : Int) < (len1 : Int)) = true := decide_eq_true (by omega)
          have uk2 : decide ((k : Int) < 300) = true := decide_eq_true (by omega)
          have nb : b ≠ bm ∧ b ≠ br := by have := hbl.out; have := HA.out; omega
          have ng : gx ≠ bm ∧ gx ≠ br ∧ gr ≠ bm ∧ gr ≠ br := by have := HG.out; have := HA.out; omega
          have nt : bt ≠ bm ∧ bt ≠ br := by have := HT.out; have := HA.out; omega
          have HNN : Hid ((b ≠ bm ∧ b ≠ br) ∧ (gx ≠ bm ∧ gx ≠ br ∧ gr ≠ bm ∧ gr ≠ br) ∧ (bt ≠ bm ∧ bt ≠ br)) := ⟨nb, ng, nt⟩
          clear nb ng nt
          go_wp2_with fail
          clear x0
          have dm := TW.ram.drew
          go_region_held3 (fun w' => w'.cell? ⟨gx, 1, none⟩ = some (.slice (some ⟨b, o, none⟩) len1 cap1) ∧ w'.cell? ⟨b, o + k * 2, none⟩ = some (.int .i64 (Q k).a) ∧ w'.cell? ⟨b, o + k * 2 + 1, none⟩ = some (.int .u32 ((Q k).w : Int))) (first | with_reducible exact ⟨rx.cell 1, pk.c0, pk.c1⟩ | exact ⟨rx.cell 1, pk.c0, pk.c1⟩) (first | (go_at_call 28; refine (store_any _ _ _ _ _ (Q k).a 4 (Q k).w dm pk.small pk.word).mono ?_; rintro e w1' ⟨rfl, f1, q1⟩; replace f1 := rs_drew f1; replace pk := pk.keep f1 HNN.out.1.1; replace rx := rx.keep f1 HNN.out.2.1.1))
          clear dm
          have q0 := TW.ref.keep f1 TW.d2 (fun e => TW.d3 e.symm)
          go_wp2_with fail
          have dr := q0.drew
          go_region_held3 (fun w' => w'.cell? ⟨gx, 1, none⟩ = some (.slice (some ⟨b, o, none⟩) len1 cap1) ∧ w'.cell? ⟨b, o + k * 2, none⟩ = some (.int .i64 (Q k).a) ∧ w'.cell? ⟨b, o + k * 2 + 1, none⟩ = some (.int .u32 ((Q k).w : Int))) (first | with_reducible exact ⟨rx.cell 1, pk.c0, pk.c1⟩ | exact ⟨rx.cell 1, pk.c0, pk.c1⟩) (first | (go_at_call 34; refine (rstore_any _ _ _ _ _ (Q k).a 4 (Q k).w dr pk.word).mono ?_; rintro e w2' ⟨rfl, f2, q2⟩; replace f2 := rs_drew f2; replace pk := pk.keep f2 HNN.out.1.2; replace rx := rx.keep f2 HNN.out.2.1.2.1))
          clear dr
          obtain ⟨TW2, ff⟩ := TW.step f1 q1 f2 q2
          replace fk := fk.own ff TW.lo.2.1 TW.lo.2.2.2
          replace rr := (rr.keep f1 HNN.out.2.1.2.2.1).keep f2 HNN.out.2.1.2.2.2
          replace hT := (hT.keep f1 HNN.out.2.2.1).keep f2 HNN.out.2.2.2
          clear f1 f2 q0 q1 q2 ff TW
          go_wp2_with fail
          go_roundw
          case rel => exact ⟨k + 1, by omega, by omega, by go_num, fk, TW2, rx, rr, hT⟩
          case measure => simp [intOf]; omega
        · obtain rfl : k = 300 := by omega
          have uk1 : decide (((300 : Nat) : Int) < (len1 : Int)) = true := decide_eq_true (by omega)
          have x0' : wr.cell? ⟨gx, 1, none⟩ = some (.slice a1 len1 cap1) := x0
          go_wp2_with fail
          go_meet
          exact ⟨fk, by rw [Nat.min_eq_right (by omega)]; exact TW, rx, rr, hT⟩
      · obtain rfl : k = len1 := by omega
        go_wp2_with fail
        go_meet
        exact ⟨fk, by rw [Nat.min_eq_left (by omega)]; exact TW, rx, rr, hT⟩
  case rest =>
  obtain ⟨f0, TW0, rx, rr, hT⟩ := hcut
  obtain ⟨bu, hbu⟩ : ∃ q, q = wc.heap.size := ⟨_, rfl⟩
  obtain ⟨gs, hgs⟩ : ∃ q, q = wc.heap.size + 1 := ⟨_, rfl⟩
  have HU : Hid (bt < bu ∧ gs = bu + 1 ∧ gr < bu) := (show _ ∧ _ from ⟨by rw [hbu]; exact hT.lt, by omega, by rw [hbu]; exact rr.lt⟩)
  have q1 := ((Fr.refl none' wc).alloc (.cells #[.int .i64 0, .int .i64 0, .int .i64 0, .int .i64 0, .int .i64 0, .int .i64 0, .int .i64 0, .int .i64 0, .int .i64 0, .int .i64 0, .int .i64 0, .int .i64 0, .int .i64 0, .int .i64 0, .int .i64 0, .int .i64 0, .int .i64 0, .int .i64 0, .int .i64 0, .int .i64 0, .int .i64 0, .int .i64 0, .int .i64 0, .int .i64 0, .int .i64 0, .int .i64 0, .int .i64 0, .int .i64 0, .int .i64 0, .int .i64 0, .int .i64 0, .int .i64 0, .int .i64 0, .int .i64 0, .int .i64 0, .int .i64 0, .int .i64 0, .int .i64 0, .int .i64 0, .int .i64 0, .int .i64 0, .int .i64 0] 104)).alloc (.cells #[.pointer (some ⟨pm, 0, none⟩), .pointer (some ⟨bt, 0, none⟩), .pointer none, .pointer (some ⟨pr, 0, none⟩), .pointer (some ⟨bu, 0, none⟩), .pointer none] 44)
  have hU : IsTref ((wc.alloc (.cells #[.int .i64 0, .int .i64 0, .int .i64 0, .int .i64 0, .int .i64 0, .int .i64 0, .int .i64 0, .int .i64 0, .int .i64 0, .int .i64 0, .int .i64 0, .int .i64 0, .int .i64 0, .int .i64 0, .int .i64 0, .int .i64 0, .int .i64 0, .int .i64 0, .int .i64 0, .int .i64 0, .int .i64 0, .int .i64 0, .int .i64 0, .int .i64 0, .int .i64 0, .int .i64 0, .int .i64 0, .int .i64 0, .int .i64 0, .int .i64 0, .int .i64 0, .int .i64 0, .int .i64 0, .int .i64 0, .int .i64 0, .int .i64 0, .int .i64 0, .int .i64 0, .int .i64 0, .int .i64 0, .int .i64 0, .int .i64 0] 104)).alloc (.cells #[.pointer (some ⟨pm, 0, none⟩), .pointer (some ⟨bt, 0, none⟩), .pointer none, .pointer (some ⟨pr, 0, none⟩), .pointer (some ⟨bu, 0, none⟩), .pointer none] 44)) bu (fun _ => zl) 0 0 := by rw [hbu]; exact (buf_zero _ _).alloc _
  have rs : Row ((wc.alloc (.cells #[.int .i64 0, .int .i64 0, .int .i64 0, .int .i64 0, .int .i64 0, .int .i64 0, .int .i64 0, .int .i64 0, .int .i64 0, .int .i64 0, .int .i64 0, .int .i64 0, .int .i64 0, .int .i64 0, .int .i64 0, .int .i64 0, .int .i64 0, .int .i64 0, .int .i64 0, .int .i64 0, .int .i64 0, .int .i64 0, .int .i64 0, .int .i64 0, .int .i64 0, .int .i64 0, .int .i64 0, .int .i64 0, .int .i64 0, .int .i64 0, .int .i64 0, .int .i64 0, .int .i64 0, .int .i64 0, .int .i64 0, .int .i64 0, .int .i64 0, .int .i64 0, .int .i64 0, .int .i64 0, .int .i64 0, .int .i64 0] 104)).alloc (.cells #[.pointer (some ⟨pm, 0, none⟩), .pointer (some ⟨bt, 0, none⟩), .pointer none, .pointer (some ⟨pr, 0, none⟩), .pointer (some ⟨bu, 0, none⟩), .pointer none] 44)) gs #[.pointer (some ⟨pm, 0, none⟩), .pointer (some ⟨bt, 0, none⟩), .pointer none, .pointer (some ⟨pr, 0, none⟩), .pointer (some ⟨bu, 0, none⟩), .pointer none] 44 := row_at (by rw [hgs]; simp)
  rw [hbu] at q1 hU rs
  go_upto_region 17 with fail
  obtain ⟨v5, hv5⟩ : ∃ v5, v5 = (wc.alloc (.cells #[.int .i64 0, .int .i64 0, .int .i64 0, .int .i64 0, .int .i64 0, .int .i64 0, .int .i64 0, .int .i64 0, .int .i64 0, .int .i64 0, .int .i64 0, .int .i64 0, .int .i64 0, .int .i64 0, .int .i64 0, .int .i64 0, .int .i64 0, .int .i64 0, .int .i64 0, .int .i64 0, .int .i64 0, .int .i64 0, .int .i64 0, .int .i64 0, .int .i64 0, .int .i64 0, .int .i64 0, .int .i64 0, .int .i64 0, .int .i64 0, .int .i64 0, .int .i64 0, .int .i64 0, .int .i64 0, .int .i64 0, .int .i64 0, .int .i64 0, .int .i64 0, .int .i64 0, .int .i64 0, .int .i64 0, .int .i64 0] 104)).alloc (.cells #[.pointer (some ⟨pm, 0, none⟩), .pointer (some ⟨bt, 0, none⟩), .pointer none, .pointer (some ⟨pr, 0, none⟩), .pointer (some ⟨wc.heap.size, 0, none⟩), .pointer none] 44) := ⟨_, rfl⟩
  rw [← hv5] at q1 hU rs ⊢
  rw [← hgs]
  rw [← hbu] at hU rs ⊢
  clear hv5 hbu hgs
  replace f0 := f0.trans q1
  replace TW0 := TW0.keep0 q1
  replace rx := rx.keep q1 (fun h => h)
  replace rr := rr.keep q1 (fun h => h)
  replace hT := hT.keep q1 (fun h => h)
  clear q1
  have c2 : v5.cell? ⟨gx, 2, none⟩ = some (.bool g) := rx.cell 2
  have HAll : Hid (w.heap.size + 2 ≤ bm ∧ bm < pm ∧ pm < br ∧ br < pr ∧ pr < bt ∧ bt < bu ∧ gs = bu + 1 ∧ gr = w.heap.size + 1 ∧ gx = w.heap.size) := (show _ ∧ _ from by have := HA.out; have := HT.out; have := HU.out; have := HG.out; omega)
  clear HA HT HU HG HP HQ
  cases g with
  | false =>
    obtain ⟨s0, s1, s2, s3, s4, s5⟩ := cells6 rs
    obtain ⟨r0, r1, r2, r3, r4, r5⟩ := cells6 rr
    obtain ⟨z0, z1, z2, z3, z4, z5⟩ := frozen6 rr
    go_wp2_with fail
    refine bodyPost_ret (ret_both rfl rfl (row_set6 rr _ _ _ _ _ _) rfl) rfl ?_
    have q := fr_own6 v5 gr (.pointer (some ⟨pm, 0, none⟩)) (.pointer (some ⟨bt, 0, none⟩)) (.pointer none) (.pointer (some ⟨pr, 0, none⟩)) (.pointer (some ⟨bu, 0, none⟩)) (.pointer none)
    have hh := HAll.out
    have TW3 := TW0.keep q (show pm ≠ gr by omega) (show bm ≠ gr by omega) (show pr ≠ gr by omega) (show br ≠ gr by omega)
    rw [HBS.out] at TW3
    refine ⟨⟨⟨pm, bm, bt, none⟩, pr, br, bu, none⟩, rfl, f0.newer q (by omega), ⟨⟨TW3.ram, hT.keep q (show bt ≠ gr by omega), trivial, by show pm ≠ bt; omega, by show bm ≠ bt; omega, by show pm ≠ bm; omega, fun e => e, fun e => e, fun e => e⟩, TW3.ref, hU.keep q (show bu ≠ gr by omega), trivial, fun k hk => ?_, ⟨by show _ ≤ pr; omega, by show _ ≤ br; omega, by show _ ≤ bu; omega, fun _ h => by cases h⟩, fun k hk => ?_, ⟨by show pr ≠ bu; omega, by show br ≠ bu; omega, fun _ h => by cases h⟩⟩⟩
    · have hk' : k = bm ∨ k = bt ∨ k = pm := by rcases hk with (h | h | h) | h; exact Or.inl h; exact Or.inr (Or.inl h); exact h.elim; exact Or.inr (Or.inr h)
      omega
    · have hk' : k = bm ∨ k = bt ∨ k = pm := by rcases hk with (h | h | h) | h; exact Or.inl h; exact Or.inr (Or.inl h); exact h.elim; exact Or.inr (Or.inr h)
      exact ⟨by show k ≠ pr; omega, by show k ≠ br; omega, by show k ≠ bu; omega, fun _ h => by cases h⟩
  | true =>
    go_wp2_with fail
    refine (v_new_ok _ 4 (by decide)).mono ?_
    rintro e v6 ⟨b, rfl, hbn, f6, hV⟩
    have HV1 : Hid (∀ k, b.s k → gs < k ∧ k < v6.heap.size) := fun k hk => ⟨Nat.lt_of_lt_of_le rs.lt (hbn k hk), hV.lt k hk⟩
    replace f0 := f0.trans f6
    replace TW0 := TW0.keep0 f6
    replace rr := rr.keep f6 (fun h => h)
    replace rs := rs.keep f6 (fun h => h)
    replace hT := hT.keep f6 (fun h => h)
    replace hU := hU.keep f6 (fun h => h)
    clear f6 hbn rx c2
    go_wp2_with fail
    refine (v_rnew_ok _ 4 (by decide)).mono ?_
    rintro e v7 ⟨vr, rfl, hvn, f7, hRV⟩
    have HV2 : Hid (∀ k, b.s k → gs < k ∧ k < vr) := fun k hk => ⟨(HV1.out k hk).1, Nat.lt_of_lt_of_le (HV1.out k hk).2 hvn⟩
    have HV3 : Hid (gs < vr) := Nat.lt_of_lt_of_le rs.lt hvn
    replace f0 := f0.trans f7
    replace TW0 := TW0.keep0 f7
    replace rr := rr.keep f7 (fun h => h)
    replace rs := rs.keep f7 (fun h => h)
    replace hT := hT.keep f7 (fun h => h)
    replace hU := hU.keep f7 (fun h => h)
    replace hV := hV.keep0 f7
    clear f7 hvn HV1
    obtain ⟨s0, s1, s2, s3, s4, s5⟩ := cells6 rs
    obtain ⟨y0, y1, y2, y3, y4, y5⟩ := frozen6 rs
    obtain ⟨r0, r1, r2, r3, r4, r5⟩ := cells6 rr
    obtain ⟨z0, z1, z2, z3, z4, z5⟩ := frozen6 rr
    have ngs : gs ≠ gr := by have := HAll.out; omega
    go_wp2_with fail
    have q1 : Fr (at' gs) v7 ((v7.setCell ⟨gs, 2, none⟩ (.pointer (some ⟨b.b, 0, none⟩))).setCell ⟨gs, 5, none⟩ (.pointer (some ⟨vr, 0, none⟩))) := fr_set v7 gs 5 _ (fr_set v7 gs 2 _ (Fr.refl _ v7))
    have rr1 := rr.keep q1 (show gr ≠ gs from Ne.symm ngs)
    obtain ⟨v8, hv8⟩ : ∃ v8, v8 = (v7.setCell ⟨gs, 2, none⟩ (.pointer (some ⟨b.b, 0, none⟩))).setCell ⟨gs, 5, none⟩ (.pointer (some ⟨vr, 0, none⟩)) := ⟨_, rfl⟩
    rw [← hv8] at q1 rr1 ⊢
    clear hv8
    refine bodyPost_ret (ret_both rfl rfl (row_set6 rr1 _ _ _ _ _ _) rfl) rfl ?_
    have q2 := fr_own6 v8 gr (.pointer (some ⟨pm, 0, none⟩)) (.pointer (some ⟨bt, 0, none⟩)) (.pointer (some ⟨b.b, 0, none⟩)) (.pointer (some ⟨pr, 0, none⟩)) (.pointer (some ⟨bu, 0, none⟩)) (.pointer (some ⟨vr, 0, none⟩))
    have hh := HAll.out
    have h3 := HV3.out
    have hs2 := HV2.out
    have TW3 := (TW0.keep q1 (show pm ≠ gs by omega) (show bm ≠ gs by omega) (show pr ≠ gs by omega) (show br ≠ gs by omega)).keep q2 (show pm ≠ gr by omega) (show bm ≠ gr by omega) (show pr ≠ gr by omega) (show br ≠ gr by omega)
    rw [HBS.out] at TW3
    refine ⟨⟨⟨pm, bm, bt, some b⟩, pr, br, bu, some vr⟩, rfl, (f0.newer q1 (by omega)).newer q2 (by omega), ⟨⟨TW3.ram, (hT.keep q1 (show bt ≠ gs by omega)).keep q2 (show bt ≠ gr by omega), ?_, by show pm ≠ bt; omega, by show bm ≠ bt; omega, by show pm ≠ bm; omega, fun e => by have := hs2 pm e; omega, fun e => by have := hs2 bm e; omega, fun e => by have := hs2 bt e; omega⟩, TW3.ref, (hU.keep q1 (show bu ≠ gs by omega)).keep q2 (show bu ≠ gr by omega), ?_, fun k hk => ?_, ⟨by show _ ≤ pr; omega, by show _ ≤ br; omega, by show _ ≤ bu; omega, fun b' h => by cases h; omega⟩, fun k hk => ?_, ⟨by show pr ≠ bu; omega, by show br ≠ bu; omega, fun b' h => by cases h; exact ⟨by show vr ≠ pr; omega, by show vr ≠ br; omega, by show vr ≠ bu; omega⟩⟩⟩⟩
    · exact (hV.keep q1 (fun k hk e => by have e' : k = gs := e; have := hs2 k hk; omega)).keep q2 (fun k hk e => by have e' : k = gr := e; have := hs2 k hk; omega)
    · exact (hRV.keep q1 (show vr ≠ gs by omega)).keep q2 (show vr ≠ gr by omega)
    · have hk' : (k = bm ∨ k = bt ∨ k = pm) ∨ b.s k := by rcases hk with (h | h | h) | h; exact Or.inl (Or.inl h); exact Or.inl (Or.inr (Or.inl h)); exact Or.inr h; exact Or.inl (Or.inr (Or.inr h))
      rcases hk' with hk' | hk'
      · omega
      · have := hs2 k hk'; omega
    · have hk' : (k = bm ∨ k = bt ∨ k = pm) ∨ b.s k := by rcases hk with (h | h | h) | h; exact Or.inl (Or.inl h); exact Or.inl (Or.inr (Or.inl h)); exact Or.inr h; exact Or.inl (Or.inr (Or.inr h))
      rcases hk' with hk' | hk'
      · exact ⟨by show k ≠ pr; omega, by show k ≠ br; omega, by show k ≠ bu; omega, fun b' h => by cases h; omega⟩
      · have := hs2 k hk'
        exact ⟨by show k ≠ pr; omega, by show k ≠ br; omega, by show k ≠ bu; omega, fun b' h => by cases h; omega⟩

end Go.Proofs.YtgnoakidjnilpaaGreat

/- WalkPure -/
namespace Go.Proofs.YtgnoakidjnilpaaGreat
open Go.RowKit

theorem nested_cases (bs : List UInt8) (nf : Nat) (first second page want : Int) :
    ((isP page = false ∨ isR want = false) ∧ nested bs nf first second page want = miss 3 0 0 false 0) ∨
    (isP page = true ∧ isR want = true ∧ first < 0 ∧ nested bs nf first second page want = granted bs nf second page want) ∨
    (isP page = true ∧ isR want = true ∧ (nested bs nf first second page want).ft.k ≠ 0 ∧ (nested bs nf first second page want).fr = 0 ∧ (nested bs nf first second page want).ri = 0) ∨
    (isP page = true ∧ isR want = true ∧ ¬ first < 0 ∧ (nested bs nf first second page want).ft.k = 0 ∧ ∃ y : Res, (0 ≤ y.fr ∧ y.fr ≤ 1023) ∧ (0 ≤ y.ri ∧ y.ri ≤ 7) ∧ bits .and .i64 y.ri want ≠ 0 ∧
      (granted bs nf second y.fr want).ft.k = 0 ∧ (nested bs nf first second page want).fr = (granted bs nf second y.fr want).fr ∧ (nested bs nf first second page want).ri = bits .and .i64 (granted bs nf second y.fr want).ri y.ri ∧ (nested bs nf first second page want).ft = f0) := by
  by_cases h0 : isP page = false ∨ isR want = false
  · left; refine ⟨h0, ?_⟩; unfold nested; rw [if_pos h0]
  have hp : isP page = true := by cases h : isP page with | true => rfl | false => exact absurd (Or.inl h) h0
  have hw : isR want = true := by cases h : isR want with | true => rfl | false => exact absurd (Or.inr h) h0
  right
  by_cases hf : first < 0
  · left; refine ⟨hp, hw, hf, ?_⟩; unfold nested; rw [if_neg h0, if_pos hf]
  right
  by_cases h1 : (guest bs nf second first page 0).ft.k = 0
  · by_cases h2 : (guest bs nf second (guest bs nf second first page 0).fr page 1).ft.k = 0
    · by_cases h3 : bits .and .i64 (guest bs nf second (guest bs nf second first page 0).fr page 1).ri want = 0
      · left
        have e : nested bs nf first second page want = miss 2 1 1 false page := by
          unfold nested
          rw [if_neg h0, if_neg hf, if_neg (by simpa using h1), if_neg (by simpa using h2), if_pos h3]
        rw [e]
        exact ⟨hp, hw, (by decide : (2 : Int) ≠ 0), rfl, rfl⟩
      · have e : nested bs nf first second page want = ⟨(granted bs nf second (guest bs nf second (guest bs nf second first page 0).fr page 1).fr want).fr,
            bits .and .i64 (granted bs nf second (guest bs nf second (guest bs nf second first page 0).fr page 1).fr want).ri (guest bs nf second (guest bs nf second first page 0).fr page 1).ri,
            (granted bs nf second (guest bs nf second (guest bs nf second first page 0).fr page 1).fr want).ft⟩ := by
          unfold nested
          rw [if_neg h0, if_neg hf, if_neg (by simpa using h1), if_neg (by simpa using h2), if_neg h3]
        have hr := guest_range h2
        by_cases h4 : (granted bs nf second (guest bs nf second (guest bs nf second first page 0).fr page 1).fr want).ft.k = 0
        · right
          rw [e]
          exact ⟨hp, hw, hf, h4, guest bs nf second (guest bs nf second first page 0).fr page 1, hr.1, hr.2, h3, h4, rfl, rfl, granted_f0 h4⟩
        · left
          rw [e]
          have z := granted_zero _ _ _ _ _ h4
          refine ⟨hp, hw, h4, z.1, ?_⟩
          show bits .and .i64 (granted bs nf second (guest bs nf second (guest bs nf second first page 0).fr page 1).fr want).ri (guest bs nf second (guest bs nf second first page 0).fr page 1).ri = 0
          rw [z.2]
          have a := and_range 0 (guest bs nf second (guest bs nf second first page 0).fr page 1).ri (by omega) (by omega)
          omega
    · left
      have e : nested bs nf first second page want = guest bs nf second (guest bs nf second first page 0).fr page 1 := by
        unfold nested
        rw [if_neg h0, if_neg hf, if_neg (by simpa using h1), if_pos h2]
      rw [e]
      exact ⟨hp, hw, h2, (guest_zero _ _ _ _ _ _ h2).1, (guest_zero _ _ _ _ _ _ h2).2⟩
  · left
    have e : nested bs nf first second page want = guest bs nf second first page 0 := by
      unfold nested
      rw [if_neg h0, if_neg hf, if_pos h1]
    rw [e]
    exact ⟨hp, hw, h1, (guest_zero _ _ _ _ _ _ h1).1, (guest_zero _ _ _ _ _ _ h1).2⟩

/-- With a fault nothing is found. -/
theorem nested_zero (bs : List UInt8) (nf : Nat) (first second page want : Int) (h : (nested bs nf first second page want).ft.k ≠ 0) : (nested bs nf first second page want).fr = 0 ∧ (nested bs nf first second page want).ri = 0 := by
  rcases nested_cases bs nf first second page want with ⟨_, e⟩ | ⟨_, _, _, e⟩ | ⟨_, _, _, e⟩ | ⟨_, _, _, e, _⟩
  · rw [e]; exact ⟨rfl, rfl⟩
  · rw [e] at h ⊢; exact granted_zero _ _ _ _ _ h
  · exact e
  · exact absurd e h

theorem and_self (r : Int) (h0 : 0 ≤ r) (h7 : r ≤ 7) : bits .andNot .i64 r r = 0 := by
  have hr : r = 0 ∨ r = 1 ∨ r = 2 ∨ r = 3 ∨ r = 4 ∨ r = 5 ∨ r = 6 ∨ r = 7 := by omega
  rcases hr with rfl | rfl | rfl | rfl | rfl | rfl | rfl | rfl <;> decide

/-- What is found lies in what the other table says of some page, with that right there. -/
theorem confined (bs : List UInt8) (nf : Nat) (first second page want : Int) (h : (nested bs nf first second page want).ft.k = 0) : bits .and .i64 (nested bs nf first second page want).ri want ≠ 0 ∧
    ∃ g : Nat, g < 1024 ∧ (single bs nf second (g : Int)).ft.k = 0 ∧ (single bs nf second (g : Int)).fr = (nested bs nf first second page want).fr ∧ bits .and .i64 (single bs nf second (g : Int)).ri want ≠ 0 ∧ bits .andNot .i64 (nested bs nf first second page want).ri (single bs nf second (g : Int)).ri = 0 := by
  rcases nested_cases bs nf first second page want with ⟨_, e⟩ | ⟨hp, _, _, e⟩ | ⟨_, _, e, _⟩ | ⟨_, hw, _, _, y, hy1, hy2, hy3, hg, e1, e2, _⟩
  · rw [e] at h; exact absurd (show (3 : Int) = 0 from h) (by decide)
  · rw [e] at h ⊢
    obtain ⟨e', h1, h2⟩ := granted_ok h
    rw [e']
    have hq := isP_iff.1 hp
    obtain ⟨g, rfl⟩ := Int.eq_ofNat_of_zero_le hq.1
    have hr := (single_range bs nf second (g : Int)).2.1
    exact ⟨h2, g, by omega, h1, rfl, h2, and_self _ hr.1 hr.2⟩
  · exact absurd h e
  · obtain ⟨e', h1, h2⟩ := granted_ok hg
    rw [e1, e2, e']
    obtain ⟨g, hgq⟩ := Int.eq_ofNat_of_zero_le hy1.1
    rw [hgq] at h1 h2 ⊢
    have hr := (single_range bs nf second (g : Int)).2.1
    exact ⟨and_both _ _ _ hr.1 hr.2 hy2.1 hy2.2 (isR_iff.1 hw) h2 hy3, g, by omega, h1, rfl, h2, and_sub _ _ hr.1 hr.2⟩

/-- A walk that is through has gone by two entries that can be used. -/
theorem single_through {bs : List UInt8} {nf : Nat} {root page : Int} (h : (single bs nf root page).ft.k = 0) : isP page = true ∧ entK bs nf root page 0 = 0 ∧ entK bs nf (df (ew bs root page 0)) page 1 = 0 ∧
    single bs nf root page = ⟨df (ew bs (df (ew bs root page 0)) page 1), dr (ew bs (df (ew bs root page 0)) page 1), f0⟩ := by
  rcases single_cases bs nf root page with ⟨_, e⟩ | ⟨_, h1, e⟩ | ⟨_, _, h2, e⟩ | h'
  · rw [e] at h; exact absurd (show (3 : Int) = 0 from h) (by decide)
  · rw [e] at h; exact absurd h h1
  · rw [e] at h; exact absurd h h2
  · exact h'

theorem entK_ok {bs : List UInt8} {nf : Nat} {t page lvl : Int} (h : entK bs nf t page lvl = 0) : ¬ (t < 0 ∨ (nf : Int) ≤ t) ∧ usable (ew bs t page lvl) lvl = true := by
  rcases entK_cases bs nf t page lvl with ⟨e, _⟩ | ⟨_, a, b⟩ | ⟨e, _⟩
  · rw [e] at h; exact absurd h (by decide)
  · exact ⟨a, b⟩
  · rw [e] at h; exact absurd h (by decide)

theorem entK_mk {bs : List UInt8} {nf : Nat} {t page lvl : Int} (h1 : ¬ (t < 0 ∨ (nf : Int) ≤ t)) (h2 : usable (ew bs t page lvl) lvl = true) : entK bs nf t page lvl = 0 := by
  unfold entK; rw [if_neg h1, if_pos h2]

/-- An entry of the last level that has a right less lets nothing be found that was not, nor elsewhere. -/
theorem single_less {bs bs' : List UInt8} {nf : Nat} {root page : Int} {T i : Nat} {r' : Int}
    (hv : dv ((half bs T i : Nat) : Int) = true) (hl : dl ((half bs T i : Nat) : Int) = true)
    (hl' : dl ((half bs' T i : Nat) : Int) = true) (hf : df ((half bs' T i : Nat) : Int) = df ((half bs T i : Nat) : Int)) (hr : dr ((half bs' T i : Nat) : Int) = bits .and .i64 (dr ((half bs T i : Nat) : Int)) r')
    (ho : ∀ k j : Nat, j < 32 → ¬ (k = T ∧ j = i) → half bs' k j = half bs k j) (h : (single bs' nf root page).ft.k = 0) :
    (single bs nf root page).ft.k = 0 ∧ (single bs nf root page).fr = (single bs' nf root page).fr ∧ ((single bs' nf root page).ri = (single bs nf root page).ri ∨ (single bs' nf root page).ri = bits .and .i64 (single bs nf root page).ri r') := by
  obtain ⟨hp, h1, h2, e⟩ := single_through h
  have hq := isP_iff.1 hp
  have i0 : idxOf page 0 = page / 32 := by unfold idxOf; rw [if_neg (by omega), if_pos rfl]
  have i1 : idxOf page 1 = page % 32 := by unfold idxOf; rw [if_neg (by omega), if_neg (by omega), if_pos rfl]
  obtain ⟨a1, u1⟩ := entK_ok h1
  obtain ⟨a2, u2⟩ := entK_ok h2
  have eq0 : ew bs root page 0 = ew bs' root page 0 := by
    unfold ew
    by_cases hc : root.toNat = T ∧ (idxOf page 0).toNat = i
    · exfalso
      have : ew bs' root page 0 = ((half bs' T i : Nat) : Int) := by unfold ew; rw [hc.1, hc.2]
      rw [this] at u1
      simp [usable, hl'] at u1
    · rw [ho _ _ (by rw [i0]; omega) hc]
  have k1 : entK bs nf root page 0 = 0 := entK_mk a1 (by rw [eq0]; exact u1)
  by_cases hc : (df (ew bs' root page 0)).toNat = T ∧ (idxOf page 1).toNat = i
  · have x' : ew bs' (df (ew bs' root page 0)) page 1 = ((half bs' T i : Nat) : Int) := by
      have : ∀ z : Int, z = df (ew bs' root page 0) → ew bs' z page 1 = ((half bs' T i : Nat) : Int) := fun z hz => by unfold ew; rw [hz, hc.1, hc.2]
      exact this _ rfl
    have x : ew bs (df (ew bs' root page 0)) page 1 = ((half bs T i : Nat) : Int) := by
      have : ∀ z : Int, z = df (ew bs' root page 0) → ew bs z page 1 = ((half bs T i : Nat) : Int) := fun z hz => by unfold ew; rw [hz, hc.1, hc.2]
      exact this _ rfl
    have k2 : entK bs nf (df (ew bs root page 0)) page 1 = 0 := by
      rw [eq0]
      exact entK_mk a2 (by rw [x]; simp [usable, hv, hl])
    have es : single bs nf root page = ⟨df (ew bs (df (ew bs root page 0)) page 1), dr (ew bs (df (ew bs root page 0)) page 1), f0⟩ := by
      unfold single; rw [if_neg (by simp [hp]), if_neg (by simpa using k1), if_neg (by simpa using k2)]
    rw [es, e, eq0, x, x']
    exact ⟨rfl, hf.symm, Or.inr hr⟩
  · have x : ew bs (df (ew bs' root page 0)) page 1 = ew bs' (df (ew bs' root page 0)) page 1 := by
      have : ∀ z : Int, z = df (ew bs' root page 0) → ew bs z page 1 = ew bs' z page 1 := fun z hz => by unfold ew; rw [ho _ _ (by rw [i1]; omega) (by rw [hz]; exact hc)]
      exact this _ rfl
    have k2 : entK bs nf (df (ew bs root page 0)) page 1 = 0 := by
      rw [eq0]
      exact entK_mk a2 (by rw [x]; exact u2)
    have es : single bs nf root page = ⟨df (ew bs (df (ew bs root page 0)) page 1), dr (ew bs (df (ew bs root page 0)) page 1), f0⟩ := by
      unfold single; rw [if_neg (by simp [hp]), if_neg (by simpa using k1), if_neg (by simpa using k2)]
    rw [es, e, eq0, x]
    exact ⟨rfl, rfl, Or.inl rfl⟩

theorem granted_mk {bs : List UInt8} {nf : Nat} {root page want : Int} (h1 : (single bs nf root page).ft.k = 0) (h2 : bits .and .i64 (single bs nf root page).ri want ≠ 0) : granted bs nf root page want = single bs nf root page := by
  unfold granted; rw [if_neg (by simpa using h1), if_neg h2]

/-- The same of a guest without tables of its own. -/
theorem nested_less {bs bs' : List UInt8} {nf : Nat} {first second page want : Int} {T i : Nat} {r' : Int} (hfirst : first < 0)
    (hv : dv ((half bs T i : Nat) : Int) = true) (hl : dl ((half bs T i : Nat) : Int) = true)
    (hl' : dl ((half bs' T i : Nat) : Int) = true) (hf : df ((half bs' T i : Nat) : Int) = df ((half bs T i : Nat) : Int)) (hr : dr ((half bs' T i : Nat) : Int) = bits .and .i64 (dr ((half bs T i : Nat) : Int)) r')
    (ho : ∀ k j : Nat, j < 32 → ¬ (k = T ∧ j = i) → half bs' k j = half bs k j) (h : (nested bs' nf first second page want).ft.k = 0) :
    (nested bs nf first second page want).ft.k = 0 ∧ (nested bs nf first second page want).fr = (nested bs' nf first second page want).fr ∧ bits .andNot .i64 (nested bs' nf first second page want).ri (nested bs nf first second page want).ri = 0 := by
  have plain : ∀ c : List UInt8, ¬ (isP page = false ∨ isR want = false) → nested c nf first second page want = granted c nf second page want := fun c h0 => by
    unfold nested; rw [if_neg h0, if_pos hfirst]
  by_cases h0 : isP page = false ∨ isR want = false
  · have : nested bs' nf first second page want = miss 3 0 0 false 0 := by unfold nested; rw [if_pos h0]
    rw [this] at h; exact absurd (show (3 : Int) = 0 from h) (by decide)
  · rw [plain bs h0, plain bs' h0] at *
    obtain ⟨e', h1, h2⟩ := granted_ok h
    obtain ⟨s1, s2, s3⟩ := single_less hv hl hl' hf hr ho h1
    have hq := (single_range bs nf second page).2.1
    have hb : bits .and .i64 (single bs nf second page).ri want ≠ 0 := by
      rcases s3 with s3 | s3
      · rw [← s3]; exact h2
      · rw [s3] at h2; exact and_more _ _ _ hq.1 hq.2 h2
    rw [granted_mk s1 hb, e']
    refine ⟨s1, s2, ?_⟩
    rcases s3 with s3 | s3
    · rw [s3]; exact and_self _ hq.1 hq.2
    · rw [s3]; exact and_sub _ _ hq.1 hq.2

end Go.Proofs.YtgnoakidjnilpaaGreat

/- WalkBuf -/
namespace Go.Proofs.YtgnoakidjnilpaaGreat
open Go.RowKit

theorem nested_same {bs : List UInt8} {nf : Nat} {first second page w0 want : Int} (h : (nested bs nf first second page w0).ft.k = 0) (hw : isR want = true) (hb : bits .and .i64 (nested bs nf first second page w0).ri want ≠ 0) :
    (nested bs nf first second page want).ft = f0 ∧ (nested bs nf first second page want).fr = (nested bs nf first second page w0).fr := by
  by_cases h0 : isP page = false ∨ isR w0 = false
  · have : nested bs nf first second page w0 = miss 3 0 0 false 0 := by unfold nested; rw [if_pos h0]
    rw [this] at h; exact absurd (show (3 : Int) = 0 from h) (by decide)
  have hp : isP page = true := by cases h' : isP page with | true => rfl | false => exact absurd (Or.inl h') h0
  have h0' : ¬ (isP page = false ∨ isR want = false) := by simp [hp, hw]
  by_cases hf : first < 0
  · have e : ∀ c : Int, ¬ (isP page = false ∨ isR c = false) → nested bs nf first second page c = granted bs nf second page c := fun c hc => by unfold nested; rw [if_neg hc, if_pos hf]
    rw [e w0 h0] at h hb ⊢
    rw [e want h0']
    obtain ⟨e', h1, _⟩ := granted_ok h
    rw [e'] at hb ⊢
    rw [granted_mk h1 hb]
    exact ⟨((single_range bs nf second page).2.2 h1).1, rfl⟩
  · by_cases h1 : (guest bs nf second first page 0).ft.k = 0
    · by_cases h2 : (guest bs nf second (guest bs nf second first page 0).fr page 1).ft.k = 0
      · have e : ∀ c : Int, ¬ (isP page = false ∨ isR c = false) → bits .and .i64 (guest bs nf second (guest bs nf second first page 0).fr page 1).ri c ≠ 0 → nested bs nf first second page c = ⟨(granted bs nf second (guest bs nf second (guest bs nf second first page 0).fr page 1).fr c).fr,
            bits .and .i64 (granted bs nf second (guest bs nf second (guest bs nf second first page 0).fr page 1).fr c).ri (guest bs nf second (guest bs nf second first page 0).fr page 1).ri, (granted bs nf second (guest bs nf second (guest bs nf second first page 0).fr page 1).fr c).ft⟩ := fun c hc h3 => by
          unfold nested; rw [if_neg hc, if_neg hf, if_neg (by simpa using h1), if_neg (by simpa using h2), if_neg h3]
        by_cases h3 : bits .and .i64 (guest bs nf second (guest bs nf second first page 0).fr page 1).ri w0 = 0
        · have : nested bs nf first second page w0 = miss 2 1 1 false page := by
            unfold nested; rw [if_neg h0, if_neg hf, if_neg (by simpa using h1), if_neg (by simpa using h2), if_pos h3]
          rw [this] at h; exact absurd (show (2 : Int) = 0 from h) (by decide)
        · rw [e w0 h0 h3] at h hb ⊢
          obtain ⟨e', g1, _⟩ := granted_ok h
          simp only [e'] at hb ⊢
          have rg := (guest_range h2).2
          have rs := (single_range bs nf second (guest bs nf second (guest bs nf second first page 0).fr page 1).fr).2.1
          have b1 := and_more _ _ _ rs.1 rs.2 hb
          rw [and_comm' _ _ rs.1 rs.2 rg.1 rg.2] at hb
          have b2 := and_more _ _ _ rg.1 rg.2 hb
          rw [e want h0' b2, granted_mk g1 b1]
          exact ⟨((single_range bs nf second _).2.2 g1).1, rfl⟩
      · have : nested bs nf first second page w0 = guest bs nf second (guest bs nf second first page 0).fr page 1 := by
          unfold nested; rw [if_neg h0, if_neg hf, if_neg (by simpa using h1), if_pos h2]
        rw [this] at h; exact absurd h h2
    · have : nested bs nf first second page w0 = guest bs nf second first page 0 := by
        unfold nested; rw [if_neg h0, if_neg hf, if_pos h1]
      rw [this] at h; exact absurd h h1

/-- A space: its two numbers, the page of its own table, the frame of the other one. -/
structure Spc where (v a f s : Int)

/-- Each line that is remembered is of one of three spaces, and was found so by both tables. -/
def BufOk (bs : List UInt8) (Q : Nat → Spc) (T : Nat → Ln) : Prop :=
  ∀ j, j < 8 → emp (T j) = false → ∃ k : Nat, (T j).v = 1 + (k : Int) ∧ (T j).a = (Q k).a ∧ ∃ w0 : Int, (nested bs 16 (Q k).f (Q k).s (T j).p w0).ft.k = 0 ∧ (nested bs 16 (Q k).f (Q k).s (T j).p w0).fr = (T j).f ∧ (nested bs 16 (Q k).f (Q k).s (T j).p w0).ri = (T j).r

theorem buf_zero' (bs : List UInt8) (Q : Nat → Spc) : BufOk bs Q (fun _ => zl) := fun _ _ h => absurd (show emp zl = false from h) (by decide)

theorem buf_upd {bs : List UInt8} {Q : Nat → Spc} {T : Nat → Ln} (h : BufOk bs Q T) (i : Nat) (l : Ln)
    (hl : emp l = false → ∃ k : Nat, l.v = 1 + (k : Int) ∧ l.a = (Q k).a ∧ ∃ w0 : Int, (nested bs 16 (Q k).f (Q k).s l.p w0).ft.k = 0 ∧ (nested bs 16 (Q k).f (Q k).s l.p w0).fr = l.f ∧ (nested bs 16 (Q k).f (Q k).s l.p w0).ri = l.r) : BufOk bs Q (upd T i l) := fun j hj he => by
  by_cases hi : j = i
  · subst hi; rw [upd_same] at he ⊢; exact hl he
  · rw [upd_other T l hi] at he ⊢; exact h j hj he

theorem buf_wipe {bs : List UInt8} {Q : Nat → Spc} {T : Nat → Ln} (h : BufOk bs Q T) (g : Ln → Bool) : BufOk bs Q (wipe g T) := fun j hj he => by
  rcases wipe_cases g T j with ⟨e, _⟩ | ⟨e, _⟩
  · rw [e] at he; exact absurd he (by decide)
  · rw [e] at he ⊢; exact h j hj he

theorem buf_ev {bs : List UInt8} {Q : Nat → Spc} {T : Nat → Ln} (h : BufOk bs Q T) (i : Int) : BufOk bs Q (evT T i) := by
  unfold evT
  cases inB i 0 7
  · exact h
  · exact buf_upd h _ _ (fun he => absurd he (by decide))

/-- Behind a question the buffer still remembers only what was found. -/
theorem buf_reach {bs : List UInt8} {Q : Nat → Spc} {T : Nat → Ln} (h : BufOk bs Q T) (k : Nat) (page want ix : Int) : BufOk bs Q (reachT bs 16 T (1 + (k : Int)) (Q k).a (Q k).f (Q k).s page want ix) := by
  unfold reachT
  split
  · exact h
  · split
    · rename_i hk
      unfold fillT
      cases inB ix 0 7 && rightL ⟨1 + (k : Int), (Q k).a, page, (nested bs 16 (Q k).f (Q k).s page want).fr, (nested bs 16 (Q k).f (Q k).s page want).ri⟩
      · exact h
      · exact buf_upd (buf_wipe h _) _ _ (fun _ => ⟨k, rfl, rfl, want, hk, rfl, rfl⟩)
    · exact h

/-- The buffer is not seen. -/
theorem reach_same {bs : List UInt8} {Q : Nat → Spc} {T : Nat → Ln} (h : BufOk bs Q T) (k : Nat) (page want : Int) :
    reachF bs 16 T (1 + (k : Int)) (Q k).a (Q k).f (Q k).s page want = (nested bs 16 (Q k).f (Q k).s page want).fr ∧ reachX bs 16 T (1 + (k : Int)) (Q k).a (Q k).f (Q k).s page want = (nested bs 16 (Q k).f (Q k).s page want).ft := by
  cases hh : hitR T (1 + (k : Int)) (Q k).a page want with
  | false => unfold reachF reachX; rw [if_neg (by simp [hh]), if_neg (by simp [hh])]; exact ⟨rfl, rfl⟩
  | true =>
    have e1 : reachF bs 16 T (1 + (k : Int)) (Q k).a (Q k).f (Q k).s page want = ansF T (idx T (1 + (k : Int)) (Q k).a page 8) := by unfold reachF; rw [if_pos hh]
    have e2 : reachX bs 16 T (1 + (k : Int)) (Q k).a (Q k).f (Q k).s page want = f0 := by unfold reachX; rw [if_pos hh]
    rw [e1, e2]
    have hs : ansB (idx T (1 + (k : Int)) (Q k).a page 8) = true ∧ isR want = true ∧ bits .and .i64 (ansR T (idx T (1 + (k : Int)) (Q k).a page 8)) want ≠ 0 := by
      simpa [hitR] using hh
    obtain ⟨a1, a2, a3⟩ := hs
    rcases idx_cases T (1 + (k : Int)) (Q k).a page 8 with ⟨e, _⟩ | ⟨j, hj, e, ht, _⟩
    · rw [e] at a1; exact absurd a1 (by decide)
    · have n0 : ¬ (j : Int) < 0 := by omega
      rw [e] at a3 ⊢
      simp only [ansR, ansF, decide_eq_false n0, cond_false, Int.toNat_natCast] at a3 ⊢
      have hem : emp (T j) = false := by
        unfold hit at ht
        cases hx : emp (T j) <;> simp_all
      have hkey : key (T j) ⟨1 + (k : Int), (Q k).a, page, 0, 0⟩ = true := by
        unfold hit at ht
        simp [hem] at ht
        exact ht
      obtain ⟨k1, _, k3⟩ := key_iff.1 hkey
      obtain ⟨k', v1, _, w0, g1, g2, g3⟩ := h j hj hem
      have hkk : k' = k := by
        have : (T j).v = 1 + (k : Int) := k1
        omega
      subst hkk
      have hpg : (T j).p = page := k3
      rw [hpg] at g1 g2 g3
      rw [← g3] at a3
      obtain ⟨r1, r2⟩ := nested_same g1 a2 a3
      rw [r1, r2, g2]
      exact ⟨rfl, rfl⟩

end Go.Proofs.YtgnoakidjnilpaaGreat

/- CpuTrapP -/
namespace Go.Proofs.YtgnoakidjnilpaaGreat
open Go.RowKit

/-- The lines of one space are what both tables tell. -/
def Sok (bs : List UInt8) (vm sd fi se : Int) (T : Nat → Ln) : Prop :=
  ∀ j, j < 8 → emp (T j) = false → (T j).v = vm → (T j).a = sd → ∃ w0 : Int, (nested bs 16 fi se (T j).p w0).ft.k = 0 ∧ (nested bs 16 fi se (T j).p w0).fr = (T j).f ∧ (nested bs 16 fi se (T j).p w0).ri = (T j).r

theorem sok_zero (bs : List UInt8) (vm sd fi se : Int) : Sok bs vm sd fi se (fun _ => zl) := fun _ _ h => absurd (show emp zl = false from h) (by decide)

theorem sok_reach {bs : List UInt8} {vm sd fi se : Int} {T : Nat → Ln} (h : Sok bs vm sd fi se T) (page want ix : Int) : Sok bs vm sd fi se (reachT bs 16 T vm sd fi se page want ix) := by
  unfold reachT
  split
  · exact h
  · split
    · rename_i hk
      unfold fillT
      cases inB ix 0 7 && rightL ⟨vm, sd, page, (nested bs 16 fi se page want).fr, (nested bs 16 fi se page want).ri⟩
      · exact h
      · intro j hj he hv ha
        by_cases hi : j = ix.toNat
        · subst hi
          have e : ∀ (U : Nat → Ln) (l : Ln), upd U ix.toNat l ix.toNat = l := fun U l => upd_same U _ l
          simp only [cond_true, filled] at he hv ha ⊢
          rw [e] at he hv ha ⊢
          exact ⟨want, hk, rfl, rfl⟩
        · simp only [cond_true, filled] at he hv ha ⊢
          rw [upd_other _ _ hi] at he hv ha ⊢
          rcases wipe_cases (fun x => key x ⟨vm, sd, page, (nested bs 16 fi se page want).fr, (nested bs 16 fi se page want).ri⟩) T j with ⟨e, _⟩ | ⟨e, _⟩
          · rw [e] at he; exact absurd he (by decide)
          · rw [e] at he hv ha ⊢; exact h j hj he hv ha
    · exact h

theorem sok_same {bs : List UInt8} {vm sd fi se : Int} {T : Nat → Ln} (h : Sok bs vm sd fi se T) (page want : Int) :
    reachF bs 16 T vm sd fi se page want = (nested bs 16 fi se page want).fr ∧ reachX bs 16 T vm sd fi se page want = (nested bs 16 fi se page want).ft := by
  cases hh : hitR T vm sd page want with
  | false => unfold reachF reachX; rw [if_neg (by simp [hh]), if_neg (by simp [hh])]; exact ⟨rfl, rfl⟩
  | true =>
    have e1 : reachF bs 16 T vm sd fi se page want = ansF T (idx T vm sd page 8) := by unfold reachF; rw [if_pos hh]
    have e2 : reachX bs 16 T vm sd fi se page want = f0 := by unfold reachX; rw [if_pos hh]
    rw [e1, e2]
    have hs : ansB (idx T vm sd page 8) = true ∧ isR want = true ∧ bits .and .i64 (ansR T (idx T vm sd page 8)) want ≠ 0 := by
      simpa [hitR] using hh
    obtain ⟨a1, a2, a3⟩ := hs
    rcases idx_cases T vm sd page 8 with ⟨e, _⟩ | ⟨j, hj, e, ht, _⟩
    · rw [e] at a1; exact absurd a1 (by decide)
    · have n0 : ¬ (j : Int) < 0 := by omega
      rw [e] at a3 ⊢
      simp only [ansR, ansF, decide_eq_false n0, cond_false, Int.toNat_natCast] at a3 ⊢
      have hem : emp (T j) = false := by
        unfold hit at ht
        cases hx : emp (T j) <;> simp_all
      have hkey : key (T j) ⟨vm, sd, page, 0, 0⟩ = true := by
        unfold hit at ht
        simp [hem] at ht
        exact ht
      obtain ⟨k1, k2, k3⟩ := key_iff.1 hkey
      obtain ⟨w0, g1, g2, g3⟩ := h j hj hem k1 k2
      have hpg : (T j).p = page := k3
      rw [hpg] at g1 g2 g3
      rw [← g3] at a3
      obtain ⟨r1, r2⟩ := nested_same g1 a2 a3
      rw [r1, r2, g2]
      exact ⟨rfl, rfl⟩

/-- What a machine tells of an address, whatever its buffer remembers. -/
theorem rc_same {M M' : Mc} {vm sd fi se : Int} (hb : M.bs = M'.bs) (s : Sok M.bs vm sd fi se M.T) (s' : Sok M'.bs vm sd fi se M'.T) (ad want : Int) :
    rcF M 16 vm sd fi se ad want = rcF M' 16 vm sd fi se ad want ∧ rcP M 16 vm sd fi se ad want = rcP M' 16 vm sd fi se ad want := by
  obtain ⟨a1, a2⟩ := sok_same s (ad / 64) want
  obtain ⟨b1, b2⟩ := sok_same s' (ad / 64) want
  have e : rcF M 16 vm sd fi se ad want = rcF M' 16 vm sd fi se ad want := by
    unfold rcF; rw [a1, a2, b1, b2, hb]
  refine ⟨e, ?_⟩
  unfold rcP
  rw [e, a1, b1, hb]

theorem rc_keep {M : Mc} {vm sd fi se : Int} (s : Sok M.bs vm sd fi se M.T) (ad want ix : Int) : Sok (rcM M 16 vm sd fi se ad want ix).bs vm sd fi se (rcM M 16 vm sd fi se ad want ix).T ∧ (rcM M 16 vm sd fi se ad want ix).bs = M.bs ∧ (rcM M 16 vm sd fi se ad want ix).V = M.V :=
  ⟨sok_reach s (ad / 64) want ix, rfl, rfl⟩

theorem dT_same {M M' : Mc} {X : Wk} (hb : M.bs = M'.bs) (s : Sok M.bs X.vm X.sd X.fi X.se M.T) (s' : Sok M'.bs X.vm X.sd X.fi X.se M'.T) (size want cause : Int) : dT M 16 X size want cause = dT M' 16 X size want cause := by
  unfold dT
  rw [(rc_same hb s s' X.ad want).1]

theorem dM_keep {M : Mc} {X : Wk} (s : Sok M.bs X.vm X.sd X.fi X.se M.T) (size want : Int) : Sok (dM M 16 X size want).bs X.vm X.sd X.fi X.se (dM M 16 X size want).T ∧ (dM M 16 X size want).bs = M.bs ∧ (dM M 16 X size want).V = M.V := by
  unfold dM
  split
  · exact ⟨s, rfl, rfl⟩
  · exact rc_keep s _ _ _

theorem exec_same {M M' : Mc} {X : Wk} (hb : M.bs = M'.bs) (hv : M.V = M'.V) (s : Sok M.bs X.vm X.sd X.fi X.se M.T) (s' : Sok M'.bs X.vm X.sd X.fi X.se M'.T) : (exec 16 M X).2.2 = (exec 16 M' X).2.2 := by
  have d := dT_same hb s s'
  have w : wfT M X = wfT M' X := by unfold wfT; rw [hv]
  have q : M.S = M'.S := by unfold Mc.S; rw [hv]
  by_cases hk : X.op ≤ 24
  · have : X.op = 0 ∨ X.op = 1 ∨ X.op = 2 ∨ X.op = 3 ∨ X.op = 4 ∨ X.op = 5 ∨ X.op = 6 ∨ X.op = 7 ∨ X.op = 8 ∨ X.op = 9 ∨ X.op = 10 ∨ X.op = 11 ∨ X.op = 12 ∨ X.op = 13 ∨ X.op = 14 ∨ X.op = 15 ∨ X.op = 16 ∨ X.op = 17 ∨ X.op = 18 ∨ X.op = 19 ∨ X.op = 20 ∨ X.op = 21 ∨ X.op = 22 ∨ X.op = 23 ∨ X.op = 24 := by omega
    rcases this with ho | ho | ho | ho | ho | ho | ho | ho | ho | ho | ho | ho | ho | ho | ho | ho | ho | ho | ho | ho | ho | ho | ho | ho | ho
    all_goals
      unfold exec
      rw [ho]
      first
        | exact d _ _ _
        | exact w
        | exact congrArg (fun S => eoT S X) q
        | rfl
  · obtain ⟨j, ho⟩ : ∃ j, X.op = j + 25 := ⟨X.op - 25, by omega⟩
    unfold exec
    rw [ho]
    rfl

/-- A step that traps, but that of maintenance, leaves bytes and virtual interrupts as they were. -/
theorem exec_keep {M : Mc} {X : Wk} (s : Sok M.bs X.vm X.sd X.fi X.se M.T) (h : (exec 16 M X).2.2.ca ≠ 0) (h' : (exec 16 M X).2.2.ca ≠ 10) :
    Sok (exec 16 M X).1.bs X.vm X.sd X.fi X.se (exec 16 M X).1.T ∧ (exec 16 M X).1.bs = M.bs ∧ (exec 16 M X).1.V = M.V := by
  by_cases hk : X.op ≤ 24
  · have : X.op = 0 ∨ X.op = 1 ∨ X.op = 2 ∨ X.op = 3 ∨ X.op = 4 ∨ X.op = 5 ∨ X.op = 6 ∨ X.op = 7 ∨ X.op = 8 ∨ X.op = 9 ∨ X.op = 10 ∨ X.op = 11 ∨ X.op = 12 ∨ X.op = 13 ∨ X.op = 14 ∨ X.op = 15 ∨ X.op = 16 ∨ X.op = 17 ∨ X.op = 18 ∨ X.op = 19 ∨ X.op = 20 ∨ X.op = 21 ∨ X.op = 22 ∨ X.op = 23 ∨ X.op = 24 := by omega
    rcases this with ho | ho | ho | ho | ho | ho | ho | ho | ho | ho | ho | ho | ho | ho | ho | ho | ho | ho | ho | ho | ho | ho | ho | ho | ho
    all_goals
      unfold exec at h h' ⊢
      rw [ho] at h h' ⊢
      try first
        | exact absurd rfl h
        | exact dM_keep s _ _
        | exact ⟨s, rfl, rfl⟩
    · show Sok (stM M 16 X 4).bs X.vm X.sd X.fi X.se (stM M 16 X 4).T ∧ (stM M 16 X 4).bs = M.bs ∧ (stM M 16 X 4).V = M.V
      have h2 : (dT M 16 X 4 2 3).ca ≠ 0 := h
      unfold stM
      rw [if_pos h2]
      exact dM_keep s _ _
    · show Sok (stM M 16 X 1).bs X.vm X.sd X.fi X.se (stM M 16 X 1).T ∧ (stM M 16 X 1).bs = M.bs ∧ (stM M 16 X 1).V = M.V
      have h2 : (dT M 16 X 1 2 3).ca ≠ 0 := h
      unfold stM
      rw [if_pos h2]
      exact dM_keep s _ _
    · show Sok (wrM M M.S X).bs X.vm X.sd X.fi X.se (wrM M M.S X).T ∧ (wrM M M.S X).bs = M.bs ∧ (wrM M M.S X).V = M.V
      have hx : (5 : Int) < (X.imm : Int) := by
        have h2 : (wrT X).ca ≠ 0 := h
        unfold wrT at h2
        split at h2
        · assumption
        · exact absurd rfl h2
      unfold wrM
      rw [if_pos hx]
      exact ⟨s, rfl, rfl⟩
    · exfalso
      have h2 : (eoT M.S X).ca ≠ 0 := h
      have h3 : (eoT M.S X).ca ≠ 10 := h'
      unfold eoT at h2 h3
      split at h2
      · rename_i q; rw [if_pos q] at h3; exact absurd rfl h3
      · exact absurd rfl h2
  · obtain ⟨j, ho⟩ : ∃ j, X.op = j + 25 := ⟨X.op - 25, by omega⟩
    unfold exec at h
    rw [ho] at h
    exact absurd rfl h

theorem fX_same {M M' : Mc} {X : Wk} (hb : M.bs = M'.bs) (s : Sok M.bs X.vm X.sd X.fi X.se M.T) (s' : Sok M'.bs X.vm X.sd X.fi X.se M'.T) : fX 16 M X = fX 16 M' X := by
  unfold fX
  rw [(rc_same hb s s' X.pc 4).2, hb]

theorem do_same {M M' : Mc} {X : Wk} (hb : M.bs = M'.bs) (hv : M.V = M'.V) (s : Sok M.bs X.vm X.sd X.fi X.se M.T) (s' : Sok M'.bs X.vm X.sd X.fi X.se M'.T) : (doR 16 M X).2.2 = (doR 16 M' X).2.2 := by
  have e1 := (rc_same hb s s' X.pc 4).1
  have e2 := fX_same hb s s'
  have k1 := rc_keep s X.pc 4 X.ix
  have k2 := rc_keep s' X.pc 4 X.ix
  unfold doR
  rw [e1, e2, hv]
  split
  · rfl
  · split
    · rfl
    · split
      · rfl
      · exact exec_same (M := doM 16 M X) (M' := doM 16 M' X) (X := dX (fX 16 M' X)) (by show M.bs = M'.bs; exact hb) (by show M.V = M'.V; exact hv) k1.1 k2.1

theorem do_keep {M : Mc} {X : Wk} (s : Sok M.bs X.vm X.sd X.fi X.se M.T) (h : (doR 16 M X).2.2.ca ≠ 0) (h' : (doR 16 M X).2.2.ca ≠ 10) :
    Sok (doR 16 M X).1.bs X.vm X.sd X.fi X.se (doR 16 M X).1.T ∧ (doR 16 M X).1.bs = M.bs ∧ (doR 16 M X).1.V = M.V := by
  have k1 := rc_keep s X.pc 4 X.ix
  unfold doR at h h' ⊢
  split at h
  · rw [if_pos (by assumption)]; exact k1
  · rename_i c1
    rw [if_neg c1] at h' ⊢
    split at h
    · rw [if_pos (by assumption)]; exact k1
    · rename_i c2
      rw [if_neg c2] at h' ⊢
      split at h
      · rw [if_pos (by assumption)]; exact k1
      · rename_i c3
        rw [if_neg c3] at h' ⊢
        exact exec_keep (M := doM 16 M X) (X := dX (fX 16 M X)) k1.1 h h'

/-- Nobody has a virtual interrupt in a machine that is new: no end tells anything. -/
theorem do_new (bs : List UInt8) (g : Bool) (X : Wk) : (doR 16 (M0 bs g) X).2.2.ca ≠ 10 := by
  unfold doR
  split
  · exact (show ¬((1 : Int) = 10) by decide)
  · split
    · exact (show ¬((8 : Int) = 10) by decide)
    · split
      · exact (show ¬((8 : Int) = 10) by decide)
      · rename_i c3
        unfold exec
        split
        all_goals first
          | exact (show ¬((0 : Int) = 10) by decide)
          | exact (show ¬((5 : Int) = 10) by decide)
          | exact (show ¬((6 : Int) = 10) by decide)
          | (show ¬((dT _ _ _ _ _ _).ca = 10); unfold dT; split; exact (show ¬((4 : Int) = 10) by decide); split; exact (show ¬((2 : Int) = 10) by decide); exact (show ¬((0 : Int) = 10) by decide))
          | (show ¬((dT _ _ _ _ _ _).ca = 10); unfold dT; split; exact (show ¬((4 : Int) = 10) by decide); split; exact (show ¬((3 : Int) = 10) by decide); exact (show ¬((0 : Int) = 10) by decide))
          | (show ¬((rdT _).ca = 10); unfold rdT; split; exact (show ¬((7 : Int) = 10) by decide); exact (show ¬((0 : Int) = 10) by decide))
          | (show ¬((wrT _).ca = 10); unfold wrT; split; exact (show ¬((7 : Int) = 10) by decide); exact (show ¬((0 : Int) = 10) by decide))
          | skip
        · show ¬((wfT _ _).ca = 10)
          unfold wfT
          split
          · split
            · exact (show ¬((0 : Int) = 10) by decide)
            · exact (show ¬((9 : Int) = 10) by decide)
          · exact (show ¬((9 : Int) = 10) by decide)
        · show ¬((eoT (doM 16 (M0 bs g) X).S _).ca = 10)
          have e : (doM 16 (M0 bs g) X).S = zeroV 4 ∨ (doM 16 (M0 bs g) X).S = zeroV 1 := by
            cases g
            · exact Or.inr rfl
            · exact Or.inl rfl
          have z : ∀ n, endF (doM 16 (M0 bs g) X).S n = false := by
            intro n
            rcases e with e | e <;> rw [e] <;> unfold endF <;> cases isI n <;> rfl
          unfold eoT
          rw [if_neg (by rw [z]; decide)]
          exact (show ¬((0 : Int) = 10) by decide)

theorem do_again {M : Mc} {X : Wk} (s : Sok M.bs X.vm X.sd X.fi X.se M.T) (h : (doR 16 M X).2.2.ca ≠ 0) (h' : (doR 16 M X).2.2.ca ≠ 10) : (doR 16 (doR 16 M X).1 X).2.2 = (doR 16 M X).2.2 := by
  obtain ⟨s1, b1, v1⟩ := do_keep s h h'
  exact do_same b1 v1 s1 s

theorem st_same {c : Cp} {R : Mc × Wk × Tr} (a : R.2.2.ca ≠ 0) (b : R.2.2.ca ≠ 10) : stC c R = c := by
  unfold stC; rw [if_neg (by rintro (q | q); exact a q; exact b q)]

/-- What traps did nothing, and traps again. -/
theorem trap_again (bs : List UInt8) (g : Bool) (c : Cp) (vm se ix : Int) (h : (stepR 16 (M0 bs g) c vm se ix).2.2.ca ≠ 0) :
    (stepR 16 (M0 bs g) c vm se ix).2.2.ca ≠ 10 ∧ (stepR 16 (M0 bs g) c vm se ix).1.bs = bs ∧ (stepR 16 (M0 bs g) c vm se ix).2.1 = c ∧ (stepR 16 (stepR 16 (M0 bs g) c vm se ix).1 c vm se ix).2.1 = c ∧ (stepR 16 (stepR 16 (M0 bs g) c vm se ix).1 c vm se ix).2.2 = (stepR 16 (M0 bs g) c vm se ix).2.2 := by
  by_cases hb : c.bad
  · have e : ∀ M : Mc, stepR 16 M c vm se ix = (M, c, ⟨4, 0, c.pc, f0⟩) := fun M => if_pos hb
    rw [e (M0 bs g)]
    refine ⟨(show ¬((4 : Int) = 10) by decide), rfl, rfl, ?_, ?_⟩
    · show (stepR 16 (M0 bs g) c vm se ix).2.1 = c
      rw [e (M0 bs g)]
    · show (stepR 16 (M0 bs g) c vm se ix).2.2 = _
      rw [e (M0 bs g)]
  · have e : ∀ M : Mc, stepR 16 M c vm se ix = ((doR 16 M (wkP M.V.isSome c vm se ix)).1, stC c (doR 16 M (wkP M.V.isSome c vm se ix)), (doR 16 M (wkP M.V.isSome c vm se ix)).2.2) := fun M => if_neg hb
    have h10 := do_new bs g (wkP (M0 bs g).V.isSome c vm se ix)
    have s0 : Sok (M0 bs g).bs (wkP (M0 bs g).V.isSome c vm se ix).vm (wkP (M0 bs g).V.isSome c vm se ix).sd (wkP (M0 bs g).V.isSome c vm se ix).fi (wkP (M0 bs g).V.isSome c vm se ix).se (M0 bs g).T := sok_zero _ _ _ _ _
    have b0 : (M0 bs g).bs = bs := rfl
    have eM := e (M0 bs g)
    generalize M0 bs g = M at *
    rw [eM] at h ⊢
    clear eM
    replace h : (doR 16 M (wkP M.V.isSome c vm se ix)).2.2.ca ≠ 0 := h
    obtain ⟨_, b1, v1⟩ := do_keep s0 h h10
    have a1 := do_again s0 h h10
    refine ⟨h10, b1.trans b0, st_same h h10, ?_, ?_⟩
    · show (stepR 16 (doR 16 M (wkP M.V.isSome c vm se ix)).1 c vm se ix).2.1 = c
      rw [e, v1]
      exact st_same (by rw [a1]; exact h) (by rw [a1]; exact h10)
    · show (stepR 16 (doR 16 M (wkP M.V.isSome c vm se ix)).1 c vm se ix).2.2 = (doR 16 M (wkP M.V.isSome c vm se ix)).2.2
      rw [e, v1]
      exact a1

end Go.Proofs.YtgnoakidjnilpaaGreat

/- WalkFar -/
namespace Go.Proofs.YtgnoakidjnilpaaGreat
open Go.RowKit

theorem half_far (bs : List UInt8) (a v t i : Nat) (h : a + 1 ≤ bs.length) (hi : i < 32) (hn : a / 64 ≠ t) : half (putAt bs a (bytesOf 1 v)) t i = half bs t i := by
  unfold half
  congr 1
  apply List.ext_getElem?
  intro j
  rw [List.getElem?_take, List.getElem?_take]
  by_cases hj : j < 2
  · rw [if_pos hj, if_pos hj, List.getElem?_drop, List.getElem?_drop, putAt_get? _ _ _ (by rw [length_bytesOf]; exact h), length_bytesOf, if_neg (by omega)]
  · rw [if_neg hj, if_neg hj]

theorem single_blind {bs bs' : List UInt8} {nf : Nat} {root page : Int} (h0 : ∀ i : Nat, i < 32 → half bs' root.toNat i = half bs root.toNat i)
    (h1 : isP page = true → entK bs nf root page 0 = 0 → ∀ i : Nat, i < 32 → half bs' (df (ew bs root page 0)).toNat i = half bs (df (ew bs root page 0)).toNat i) : single bs' nf root page = single bs nf root page := by
  cases hp : isP page with
  | false => unfold single; rw [if_pos hp, if_pos hp]
  | true =>
    have hq := isP_iff.1 hp
    have i0 : idxOf page 0 = page / 32 := by unfold idxOf; rw [if_neg (by omega), if_pos rfl]
    have i1 : idxOf page 1 = page % 32 := by unfold idxOf; rw [if_neg (by omega), if_neg (by omega), if_pos rfl]
    have e0 : ew bs' root page 0 = ew bs root page 0 := by unfold ew; rw [h0 _ (by rw [i0]; omega)]
    have k0 : entK bs' nf root page 0 = entK bs nf root page 0 := by unfold entK; rw [e0]
    by_cases hk : entK bs nf root page 0 = 0
    · have e1 : ew bs' (df (ew bs root page 0)) page 1 = ew bs (df (ew bs root page 0)) page 1 := by
        have := h1 hp hk (idxOf page 1).toNat (by rw [i1]; omega)
        have g : ∀ z : Int, half bs' z.toNat (idxOf page 1).toNat = half bs z.toNat (idxOf page 1).toNat → ew bs' z page 1 = ew bs z page 1 := fun z hz => by unfold ew; rw [hz]
        exact g _ this
      have k1 : entK bs' nf (df (ew bs root page 0)) page 1 = entK bs nf (df (ew bs root page 0)) page 1 := by unfold entK; rw [e1]
      unfold single
      rw [e0, k0, k1, e1]
    · unfold single
      rw [k0, if_neg (by simp [hp]), if_pos hk, if_neg (by simp [hp]), if_pos hk]

/-- A byte laid into a frame that is none of a walk's tables is not seen by it. -/
theorem store_blind {bs : List UInt8} {root page addr : Int} {v : Nat} (hl : bs.length = 64 * 16) (ha : 0 ≤ addr) (hr : addr / 64 ≠ root)
    (hd : isP page = true → entK bs 16 root page 0 = 0 → addr / 64 ≠ df (ew bs root page 0)) : single (storeB bs addr 1 16 v) 16 root page = single bs 16 root page := by
  unfold storeB
  by_cases he : errOf addr 1 16 = 0
  · rw [if_pos he]
    obtain ⟨_, _, h0, h1⟩ := err_zero he
    have hlen : addr.toNat + 1 ≤ bs.length := by omega
    by_cases hroot : 0 ≤ root
    · refine single_blind (fun i hi => half_far bs addr.toNat v root.toNat i hlen hi (by omega)) (fun hp hk i hi => ?_)
      have hx := ew_range bs root page 0
      have hf := df_range hx.1 hx.2
      have := hd hp hk
      exact half_far bs addr.toNat v _ i hlen hi (by omega)
    · have out : ∀ c : List UInt8, entK c 16 root page 0 = 3 := fun c => by unfold entK; rw [if_pos (Or.inl (by omega))]
      unfold single
      rw [out, out]
      simp
  · rw [if_neg he]

end Go.Proofs.YtgnoakidjnilpaaGreat

/- CpuConfP -/
namespace Go.Proofs.YtgnoakidjnilpaaGreat
open Go.RowKit

/-- The other table gives a frame with Write. -/
def May (bs : List UInt8) (se f : Int) : Prop := ∃ g : Nat, g < 1024 ∧ (single bs 16 se (g : Int)).ft.k = 0 ∧ bits .and .i64 (single bs 16 se (g : Int)).ri 2 ≠ 0 ∧ (single bs 16 se (g : Int)).fr = f

/-- The other table's own frames are none of these. -/
structure Shut (bs : List UInt8) (se : Int) : Prop where
  len : bs.length = 1024
  lo : 0 ≤ se
  root : ¬ May bs se se
  tab : ∀ i : Nat, i < 32 → dv ((half bs se.toNat i : Nat) : Int) = true → dl ((half bs se.toNat i : Nat) : Int) = false → df ((half bs se.toNat i : Nat) : Int) < 16 → ¬ May bs se (df ((half bs se.toNat i : Nat) : Int))

structure Kept (b0 : List UInt8) (se : Int) (bs : List UInt8) (T : Nat → Ln) : Prop where
  len : bs.length = 1024
  by' : ∀ i : Nat, ¬ May b0 se ((i / 64 : Nat) : Int) → bs[i]? = b0[i]?
  ln : ∀ j, j < 8 → emp (T j) = false → bits .and .i64 (T j).r 2 ≠ 0 → May b0 se (T j).f

theorem and_two : ∀ a b : Fin 8, bits .andNot .i64 ((a.val : Nat) : Int) ((b.val : Nat) : Int) = 0 → bits .and .i64 ((a.val : Nat) : Int) 2 ≠ 0 → bits .and .i64 ((b.val : Nat) : Int) 2 ≠ 0 := by decide +kernel
theorem and_two' {a b : Int} (ha : 0 ≤ a) (ha' : a ≤ 7) (hb : 0 ≤ b) (hb' : b ≤ 7) (h : bits .andNot .i64 a b = 0) (h2 : bits .and .i64 a 2 ≠ 0) : bits .and .i64 b 2 ≠ 0 := by
  have := and_two ⟨a.toNat, by omega⟩ ⟨b.toNat, by omega⟩
  simp only [Int.toNat_of_nonneg ha, Int.toNat_of_nonneg hb] at this
  exact this h h2

theorem half_by {bs b0 : List UInt8} {t i : Nat} (hi : i < 32) (h : ∀ j : Nat, j / 64 = t → bs[j]? = b0[j]?) : half bs t i = half b0 t i := by
  unfold half
  congr 1
  apply List.ext_getElem?
  intro j
  rw [List.getElem?_take, List.getElem?_take]
  by_cases hj : j < 2
  · rw [if_pos hj, if_pos hj, List.getElem?_drop, List.getElem?_drop, h _ (by omega)]
  · rw [if_neg hj, if_neg hj]

section
variable {b0 bs : List UInt8} {se : Int} {T : Nat → Ln}
theorem kept_new (hs : Shut b0 se) : Kept b0 se b0 (fun _ => zl) := ⟨hs.len, fun _ _ => rfl, fun _ _ h => absurd (show emp zl = false from h) (by decide)⟩
theorem Kept.single (h : Kept b0 se bs T) (hs : Shut b0 se) (page : Int) : single bs 16 se page = single b0 16 se page := by
  have key : ∀ t : Nat, ¬ May b0 se (t : Int) → ∀ i, i < 32 → half bs t i = half b0 t i := fun t ht i hi => half_by hi (fun j hj => h.by' j (by rw [hj]; exact ht))
  have hse : ((se.toNat : Nat) : Int) = se := Int.toNat_of_nonneg hs.lo
  refine single_blind (key se.toNat (by rw [hse]; exact hs.root)) (fun hp hk i hi => ?_)
  have hx := ew_range b0 se page 0
  have hf := df_range hx.1 hx.2
  have hq := isP_iff.1 hp
  have i0 : idxOf page 0 = page / 32 := by unfold idxOf; rw [if_neg (by omega), if_pos rfl]
  by_cases h16 : df (ew b0 se page 0) < 16
  · refine key _ ?_ i hi
    rw [Int.toNat_of_nonneg hf.1]
    obtain ⟨_, hu⟩ := entK_ok hk
    have hu' : dv (ew b0 se page 0) = true ∧ dl (ew b0 se page 0) = false := by
      simp only [usable, Bool.and_eq_true] at hu
      refine ⟨hu.1, ?_⟩
      have h2 := hu.2
      cases hd : dl (ew b0 se page 0)
      · rfl
      · rw [hd] at h2; exact absurd h2 (by decide)
    exact hs.tab (idxOf page 0).toNat (by rw [i0]; omega) hu'.1 hu'.2 h16
  · refine half_by hi (fun j hj => ?_)
    have : 16 ≤ (df (ew b0 se page 0)).toNat := by omega
    rw [List.getElem?_eq_none (by rw [h.len]; omega), List.getElem?_eq_none (by rw [hs.len]; omega)]
theorem Kept.give (h : Kept b0 se bs T) (hs : Shut b0 se) {fi page want : Int} (hk : (nested bs 16 fi se page want).ft.k = 0) (hr : want = 2 ∨ (0 ≤ (nested bs 16 fi se page want).ri ∧ (nested bs 16 fi se page want).ri ≤ 7 ∧ bits .and .i64 (nested bs 16 fi se page want).ri 2 ≠ 0)) : May b0 se (nested bs 16 fi se page want).fr := by
  obtain ⟨_, g, hg, g1, g2, g3, g4⟩ := confined bs 16 fi se page want hk
  have hsr := (single_range bs 16 se (g : Int)).2.1
  rw [h.single hs] at g1 g2 g3 g4 hsr
  refine ⟨g, hg, g1, ?_, g2⟩
  rcases hr with rfl | ⟨r0, r7, r2⟩
  · exact g3
  · exact and_two' r0 r7 hsr.1 hsr.2 g4 r2
theorem Kept.reach (h : Kept b0 se bs T) (hs : Shut b0 se) (vm sd fi page want ix : Int) : Kept b0 se bs (reachT bs 16 T vm sd fi se page want ix) := by
  unfold reachT
  split
  · exact h
  · split
    · rename_i hk
      unfold fillT
      cases hfl : inB ix 0 7 && rightL ⟨vm, sd, page, (nested bs 16 fi se page want).fr, (nested bs 16 fi se page want).ri⟩
      · exact h
      · refine ⟨h.len, h.by', fun j hj he hr => ?_⟩
        have hrr : 0 ≤ (nested bs 16 fi se page want).ri ∧ (nested bs 16 fi se page want).ri ≤ 7 := by
          simp only [rightL, inB, Bool.and_eq_true, decide_eq_true_eq] at hfl
          exact hfl.2.2.2.2.2
        by_cases hi : j = ix.toNat
        · subst hi
          have e : ∀ (U : Nat → Ln) (l : Ln), upd U ix.toNat l ix.toNat = l := fun U l => upd_same U _ l
          simp only [cond_true, filled] at he hr ⊢
          rw [e] at he hr ⊢
          exact h.give hs hk (Or.inr ⟨hrr.1, hrr.2, hr⟩)
        · simp only [cond_true, filled] at he hr ⊢
          rw [upd_other _ _ hi] at he hr ⊢
          rcases wipe_cases (fun x => key x ⟨vm, sd, page, (nested bs 16 fi se page want).fr, (nested bs 16 fi se page want).ri⟩) T j with ⟨e, _⟩ | ⟨e, _⟩
          · rw [e] at he; exact absurd he (by decide)
          · rw [e] at he hr ⊢; exact h.ln j hj he hr
    · exact h
theorem Kept.wipe (h : Kept b0 se bs T) (g : Ln → Bool) : Kept b0 se bs (wipe g T) := ⟨h.len, h.by', fun j hj he hr => by
  rcases wipe_cases g T j with ⟨e, _⟩ | ⟨e, _⟩
  · rw [e] at he; exact absurd he (by decide)
  · rw [e] at he hr ⊢; exact h.ln j hj he hr⟩
theorem Kept.found (h : Kept b0 se bs T) (hs : Shut b0 se) {vm sd fi page : Int} (hk : (reachX bs 16 T vm sd fi se page 2).k = 0) : May b0 se (reachF bs 16 T vm sd fi se page 2) := by
  cases hh : hitR T vm sd page 2 with
  | false =>
    unfold reachX at hk
    unfold reachF
    rw [if_neg (by simp [hh])] at hk ⊢
    exact h.give hs hk (Or.inl rfl)
  | true =>
    unfold reachF
    rw [if_pos hh]
    have hx : ansB (idx T vm sd page 8) = true ∧ isR 2 = true ∧ bits .and .i64 (ansR T (idx T vm sd page 8)) 2 ≠ 0 := by
      simpa [hitR] using hh
    obtain ⟨a1, _, a3⟩ := hx
    rcases idx_cases T vm sd page 8 with ⟨e, _⟩ | ⟨j, hj, e, ht, _⟩
    · rw [e] at a1; exact absurd a1 (by decide)
    · have n0 : ¬ (j : Int) < 0 := by omega
      rw [e] at a3 ⊢
      simp only [ansR, ansF, decide_eq_false n0, cond_false, Int.toNat_natCast] at a3 ⊢
      have hem : emp (T j) = false := by
        unfold hit at ht
        cases hx : emp (T j) <;> simp_all
      exact h.ln j hj hem a3
end

section
variable {b0 : List UInt8} {se : Int} {M : Mc}
theorem kept_rc (h : Kept b0 se M.bs M.T) (hs : Shut b0 se) (vm sd fi ad want ix : Int) : Kept b0 se (rcM M 16 vm sd fi se ad want ix).bs (rcM M 16 vm sd fi se ad want ix).T := h.reach hs _ _ _ _ _ _
theorem kept_d (h : Kept b0 se M.bs M.T) (hs : Shut b0 se) {X : Wk} (hX : X.se = se) (size want : Int) : Kept b0 se (dM M 16 X size want).bs (dM M 16 X size want).T ∧ (dM M 16 X size want).bs = M.bs := by
  unfold dM
  split
  · exact ⟨h, rfl⟩
  · rw [hX]; exact ⟨kept_rc h hs _ _ _ _ _ _, rfl⟩
theorem kept_store {bs : List UInt8} {T : Nat → Ln} (h : Kept b0 se bs T) {p fr r size : Int} {v : Nat} (hsz : size = 1 ∨ size = 4) (hp : p = fr * 64 + r) (hr0 : 0 ≤ r) (hr1 : r + size ≤ 64) (hf : 0 ≤ fr) (hm : May b0 se fr) : Kept b0 se (storeB bs p size 16 v) T := by
  unfold storeB
  split
  · rename_i he
    obtain ⟨_, _, h0, h1⟩ := err_zero he
    have hl : (bytesOf size.toNat v).length = size.toNat := length_bytesOf _ _
    have hsz' : size.toNat = 1 ∨ size.toNat = 4 := by omega
    have hlen : p.toNat + (bytesOf size.toNat v).length ≤ bs.length := by
      rw [hl, h.len]
      have : fr < 16 := by omega
      omega
    refine ⟨by rw [length_putAt, h.len], fun i hi => ?_, h.ln⟩
    rw [putAt_get? _ _ _ hlen]
    by_cases hc : p.toNat ≤ i ∧ i < p.toNat + (bytesOf size.toNat v).length
    · exfalso
      apply hi
      have : ((i / 64 : Nat) : Int) = fr := by
        rw [hl] at hc
        omega
      rw [this]
      exact hm
    · rw [if_neg hc]
      exact h.by' i hi
  · exact h
theorem kept_st (h : Kept b0 se M.bs M.T) (hs : Shut b0 se) {X : Wk} (hX : X.se = se) {size : Int} (hsz : size = 1 ∨ size = 4) : Kept b0 se (stM M 16 X size).bs (stM M 16 X size).T := by
  unfold stM
  split
  · exact (kept_d h hs hX size 2).1
  · rename_i hc
    have hc' : (dT M 16 X size 2 3).ca = 0 := by simpa using hc
    unfold dT at hc'
    split at hc'
    · exact absurd hc' (show ¬ ((4 : Int) = 0) by decide)
    · rename_i hal
      split at hc'
      · exact absurd hc' (show ¬ ((3 : Int) = 0) by decide)
      · rename_i hf
        have hf' : (rcF M 16 X.vm X.sd X.fi X.se X.ad 2).k = 0 := by simpa using hf
        have hP : dP M 16 X size 2 = reachF M.bs 16 M.T X.vm X.sd X.fi X.se (X.ad / 64) 2 * 64 + X.ad % 64 := by
          unfold dP
          rw [if_neg hal]
          unfold rcP
          rw [if_neg hf]
        have hx0 : (reachX M.bs 16 M.T X.vm X.sd X.fi X.se (X.ad / 64) 2).k = 0 := by
          unfold rcF at hf'
          split at hf'
          · exact absurd hf' (by assumption)
          · rename_i hz; simpa using hz
        rw [hX] at hP hx0
        have hm := h.found hs hx0
        have hfr : 0 ≤ reachF M.bs 16 M.T X.vm X.sd X.fi se (X.ad / 64) 2 := by
          obtain ⟨g, _, _, _, e⟩ := hm
          rw [← e]
          exact (single_range b0 16 se (g : Int)).1.1
        obtain ⟨k1, k2⟩ := kept_d h hs hX size 2
        have k3 : Kept b0 se M.bs (dM M 16 X size 2).T := by rw [k2] at k1; exact k1
        have hmod : X.ad % size = 0 := by simpa using hal
        refine kept_store k3 hsz hP (Int.emod_nonneg _ (by decide)) ?_ hfr hm
        rcases hsz with rfl | rfl <;> omega
theorem kept_wr (h : Kept b0 se M.bs M.T) (X : Wk) : Kept b0 se (wrM M M.S X).bs (wrM M M.S X).T := by
  unfold wrM
  by_cases e : (5 : Int) < (X.imm : Int)
  · rw [if_pos e]; exact h
  · rw [if_neg e]
    by_cases e2 : (X.imm : Int) = 2
    · rw [if_pos e2]; exact h
    · rw [if_neg e2]; exact h
theorem kept_exec (h : Kept b0 se M.bs M.T) (hs : Shut b0 se) {X : Wk} (hX : X.se = se) : Kept b0 se (exec 16 M X).1.bs (exec 16 M X).1.T := by
  by_cases hk : X.op ≤ 24
  · have : X.op = 0 ∨ X.op = 1 ∨ X.op = 2 ∨ X.op = 3 ∨ X.op = 4 ∨ X.op = 5 ∨ X.op = 6 ∨ X.op = 7 ∨ X.op = 8 ∨ X.op = 9 ∨ X.op = 10 ∨ X.op = 11 ∨ X.op = 12 ∨ X.op = 13 ∨ X.op = 14 ∨ X.op = 15 ∨ X.op = 16 ∨ X.op = 17 ∨ X.op = 18 ∨ X.op = 19 ∨ X.op = 20 ∨ X.op = 21 ∨ X.op = 22 ∨ X.op = 23 ∨ X.op = 24 := by omega
    rcases this with ho | ho | ho | ho | ho | ho | ho | ho | ho | ho | ho | ho | ho | ho | ho | ho | ho | ho | ho | ho | ho | ho | ho | ho | ho
    all_goals
      unfold exec
      rw [ho]
      first
        | exact h
        | exact (kept_d h hs hX 4 1).1
        | exact (kept_d h hs hX 1 1).1
        | exact kept_st h hs hX (Or.inr rfl)
        | exact kept_st h hs hX (Or.inl rfl)
        | exact h.wipe _
        | exact kept_wr h X
  · obtain ⟨j, ho⟩ : ∃ j, X.op = j + 25 := ⟨X.op - 25, by omega⟩
    unfold exec
    rw [ho]
    exact h
theorem kept_do (h : Kept b0 se M.bs M.T) (hs : Shut b0 se) {X : Wk} (hX : X.se = se) : Kept b0 se (doR 16 M X).1.bs (doR 16 M X).1.T := by
  have k1 : Kept b0 se (doM 16 M X).bs (doM 16 M X).T := by unfold doM; rw [hX]; exact kept_rc h hs _ _ _ _ _ _
  unfold doR
  split
  · exact k1
  · split
    · exact k1
    · split
      · exact k1
      · exact kept_exec (M := doM 16 M X) (X := dX (fX 16 M X)) k1 hs hX
theorem kept_step (h : Kept b0 se M.bs M.T) (hs : Shut b0 se) (c : Cp) (vm ix : Int) : Kept b0 se (stepR 16 M c vm se ix).1.bs (stepR 16 M c vm se ix).1.T := by
  unfold stepR
  split
  · exact h
  · exact kept_do h hs rfl
theorem kept_seq (h : Kept b0 se M.bs M.T) (hs : Shut b0 se) (c : Cp) (vm : Int) : ∀ k : Nat, Kept b0 se (seqR 16 M c vm se k).1.bs (seqR 16 M c vm se k).1.T
  | 0 => h
  | k + 1 => kept_step (kept_seq h hs c vm k) hs _ vm _
theorem kept_ran (h : Kept b0 se M.bs M.T) (hs : Shut b0 se) {c c' : Cp} {vm : Int} {many k : Nat} {M' : Mc} {t : Tr} (hr : Ran 16 M c vm se many k M' c' t) : Kept b0 se M'.bs M'.T := by
  obtain ⟨_, ⟨_, e, _⟩ | ⟨_, _, e, _⟩⟩ := hr
  · rw [e]; exact kept_seq h hs c vm k
  · rw [e]; exact kept_seq h hs c vm (k + 1)
/-- Each frame whose bytes are other ones is one that the table gave. -/
theorem kept_frame {bs : List UInt8} {T : Nat → Ln} (h : Kept b0 se bs T) (f : Nat) (hf : ¬ May b0 se (f : Int)) : frameOf bs f = frameOf b0 f := by
  unfold frameOf
  apply List.ext_getElem?
  intro j
  rw [List.getElem?_take, List.getElem?_take]
  by_cases hj : j < 64
  · rw [if_pos hj, if_pos hj, List.getElem?_drop, List.getElem?_drop, h.by' _ (by rw [show (f * 64 + j) / 64 = f by omega]; exact hf)]
  · rw [if_neg hj, if_neg hj]
end

end Go.Proofs.YtgnoakidjnilpaaGreat

/- CpuForgP -/
namespace Go.Proofs.YtgnoakidjnilpaaGreat
open Go.RowKit

def Wk.ixs (X : Wk) (i : Int) : Wk := { X with ix := i }

theorem dM_bv (M : Mc) (X : Wk) (size want : Int) : (dM M 16 X size want).bs = M.bs ∧ (dM M 16 X size want).V = M.V := by
  unfold dM
  split <;> exact ⟨rfl, rfl⟩
theorem stM_bs (M : Mc) (X : Wk) (size : Int) : (stM M 16 X size).bs = (if (dT M 16 X size 2 3).ca ≠ 0 then M.bs else storeB M.bs (dP M 16 X size 2) size 16 (X.z.r X.a)) ∧ (stM M 16 X size).V = M.V := by
  unfold stM
  split
  · exact dM_bv M X size 2
  · exact ⟨rfl, (dM_bv M X size 2).2⟩
theorem ldX_z (M : Mc) (X : Wk) (size : Int) : (ldX M 16 X size).z = (if (dT M 16 X size 1 2).ca ≠ 0 then X.z else X.z.setR X.a (loadV M.bs (dP M 16 X size 1) size 16).toNat) := by
  unfold ldX
  split <;> rfl
theorem rdX_z (X : Wk) (i : Int) : (rdX (X.ixs i)).z = (rdX X).z := by
  unfold rdX
  show (if (6 : Int) < (X.imm : Int) then X.ixs i else _).z = _
  split <;> rfl
theorem wrX_z (X : Wk) (i : Int) : (wrX (X.ixs i)).z = (wrX X).z := by
  unfold wrX
  show (if (5 : Int) < (X.imm : Int) then X.ixs i else _).z = _
  split <;> rfl
theorem wrM_bs (M : Mc) (X : Wk) : (wrM M M.S X).bs = M.bs ∧ (wrM M M.S X).T = M.T := by
  unfold wrM
  by_cases e : (5 : Int) < (X.imm : Int)
  · rw [if_pos e]; exact ⟨rfl, rfl⟩
  · rw [if_neg e]
    by_cases e2 : (X.imm : Int) = 2
    · rw [if_pos e2]; exact ⟨rfl, rfl⟩
    · rw [if_neg e2]; exact ⟨rfl, rfl⟩
theorem wrM_V {M M' : Mc} (X : Wk) (i : Int) (hv : M.V = M'.V) : (wrM M M.S X).V = (wrM M' M'.S (X.ixs i)).V := by
  have q : M.S = M'.S := by unfold Mc.S; rw [hv]
  unfold wrM
  show (if (5 : Int) < (X.imm : Int) then M else if (X.imm : Int) = 2 then { M with V := some (masS M.S ((min (X.z.r X.b) 256 : Nat) : Int)) } else M).V = (if (5 : Int) < (X.imm : Int) then M' else if (X.imm : Int) = 2 then { M' with V := some (masS M'.S ((min (X.z.r X.b) 256 : Nat) : Int)) } else M').V
  rw [q]
  by_cases e : (5 : Int) < (X.imm : Int)
  · rw [if_pos e, if_pos e]; exact hv
  · rw [if_neg e, if_neg e]
    by_cases e2 : (X.imm : Int) = 2
    · rw [if_pos e2, if_pos e2]
    · rw [if_neg e2, if_neg e2]; exact hv

/-- What a step tells: state, trap, bytes, virtual interrupts. -/
def Alike (R R' : Mc × Wk × Tr) : Prop := R.2.1.z = R'.2.1.z ∧ R.2.2 = R'.2.2 ∧ R.1.bs = R'.1.bs ∧ R.1.V = R'.1.V

theorem dP_same {M M' : Mc} {X : Wk} (hb : M.bs = M'.bs) (s : Sok M.bs X.vm X.sd X.fi X.se M.T) (s' : Sok M'.bs X.vm X.sd X.fi X.se M'.T) (size want : Int) : dP M 16 X size want = dP M' 16 X size want := by
  unfold dP
  rw [(rc_same hb s s' X.ad want).2]

theorem exec_al0 {M M' : Mc} {X : Wk} (i : Int) (hb : M.bs = M'.bs) (hv : M.V = M'.V) (ho : X.op = 0) : Alike (exec 16 M X) (exec 16 M' (X.ixs i)) := by
  have hx : (X.ixs i).op = X.op := rfl
  unfold exec
  rw [hx, ho]
  exact ⟨rfl, rfl, hb, hv⟩
theorem exec_al1 {M M' : Mc} {X : Wk} (i : Int) (hb : M.bs = M'.bs) (hv : M.V = M'.V) (ho : X.op = 1) : Alike (exec 16 M X) (exec 16 M' (X.ixs i)) := by
  have hx : (X.ixs i).op = X.op := rfl
  unfold exec
  rw [hx, ho]
  exact ⟨rfl, rfl, hb, hv⟩
theorem exec_al2 {M M' : Mc} {X : Wk} (i : Int) (hb : M.bs = M'.bs) (hv : M.V = M'.V) (ho : X.op = 2) : Alike (exec 16 M X) (exec 16 M' (X.ixs i)) := by
  have hx : (X.ixs i).op = X.op := rfl
  unfold exec
  rw [hx, ho]
  exact ⟨rfl, rfl, hb, hv⟩
theorem exec_al3 {M M' : Mc} {X : Wk} (i : Int) (hb : M.bs = M'.bs) (hv : M.V = M'.V) (ho : X.op = 3) : Alike (exec 16 M X) (exec 16 M' (X.ixs i)) := by
  have hx : (X.ixs i).op = X.op := rfl
  unfold exec
  rw [hx, ho]
  exact ⟨rfl, rfl, hb, hv⟩
theorem exec_al4 {M M' : Mc} {X : Wk} (i : Int) (hb : M.bs = M'.bs) (hv : M.V = M'.V) (ho : X.op = 4) : Alike (exec 16 M X) (exec 16 M' (X.ixs i)) := by
  have hx : (X.ixs i).op = X.op := rfl
  unfold exec
  rw [hx, ho]
  exact ⟨rfl, rfl, hb, hv⟩
theorem exec_al5 {M M' : Mc} {X : Wk} (i : Int) (hb : M.bs = M'.bs) (hv : M.V = M'.V) (ho : X.op = 5) : Alike (exec 16 M X) (exec 16 M' (X.ixs i)) := by
  have hx : (X.ixs i).op = X.op := rfl
  unfold exec
  rw [hx, ho]
  exact ⟨rfl, rfl, hb, hv⟩
theorem exec_al6 {M M' : Mc} {X : Wk} (i : Int) (hb : M.bs = M'.bs) (hv : M.V = M'.V) (ho : X.op = 6) : Alike (exec 16 M X) (exec 16 M' (X.ixs i)) := by
  have hx : (X.ixs i).op = X.op := rfl
  unfold exec
  rw [hx, ho]
  exact ⟨rfl, rfl, hb, hv⟩
theorem exec_al7 {M M' : Mc} {X : Wk} (i : Int) (hb : M.bs = M'.bs) (hv : M.V = M'.V) (s : Sok M.bs X.vm X.sd X.fi X.se M.T) (s' : Sok M'.bs X.vm X.sd X.fi X.se M'.T) (ho : X.op = 7) : Alike (exec 16 M X) (exec 16 M' (X.ixs i)) := by
  have d := dT_same hb s s'
  have p := dP_same hb s s'
  have w : wfT M X = wfT M' X := by unfold wfT; rw [hv]
  have q : M.S = M'.S := by unfold Mc.S; rw [hv]
  have ld : ∀ size, (ldX M 16 X size).z = (ldX M' 16 (X.ixs i) size).z := fun size => by
    rw [ldX_z, ldX_z]
    show (if (dT M 16 X size 1 2).ca ≠ 0 then X.z else X.z.setR X.a (loadV M.bs (dP M 16 X size 1) size 16).toNat) = (if (dT M' 16 X size 1 2).ca ≠ 0 then X.z else X.z.setR X.a (loadV M'.bs (dP M' 16 X size 1) size 16).toNat)
    rw [d, p, hb]
  have st : ∀ size, (stM M 16 X size).bs = (stM M' 16 (X.ixs i) size).bs ∧ (stM M 16 X size).V = (stM M' 16 (X.ixs i) size).V := fun size => by
    rw [(stM_bs M X size).1, (stM_bs M' (X.ixs i) size).1, (stM_bs M X size).2, (stM_bs M' (X.ixs i) size).2]
    refine ⟨?_, hv⟩
    show (if (dT M 16 X size 2 3).ca ≠ 0 then M.bs else storeB M.bs (dP M 16 X size 2) size 16 (X.z.r X.a)) = (if (dT M' 16 X size 2 3).ca ≠ 0 then M'.bs else storeB M'.bs (dP M' 16 X size 2) size 16 (X.z.r X.a))
    rw [d, p, hb]
  have dm : ∀ size want, (dM M 16 X size want).bs = (dM M' 16 (X.ixs i) size want).bs ∧ (dM M 16 X size want).V = (dM M' 16 (X.ixs i) size want).V := fun size want => by
    rw [(dM_bv M X size want).1, (dM_bv M' (X.ixs i) size want).1, (dM_bv M X size want).2, (dM_bv M' (X.ixs i) size want).2]
    exact ⟨hb, hv⟩
  have hx : (X.ixs i).op = X.op := rfl
  unfold exec
  rw [hx, ho]
  exact ⟨ld 4, d _ _ _, (dm 4 1).1, (dm 4 1).2⟩
theorem exec_al8 {M M' : Mc} {X : Wk} (i : Int) (hb : M.bs = M'.bs) (hv : M.V = M'.V) (s : Sok M.bs X.vm X.sd X.fi X.se M.T) (s' : Sok M'.bs X.vm X.sd X.fi X.se M'.T) (ho : X.op = 8) : Alike (exec 16 M X) (exec 16 M' (X.ixs i)) := by
  have d := dT_same hb s s'
  have p := dP_same hb s s'
  have w : wfT M X = wfT M' X := by unfold wfT; rw [hv]
  have q : M.S = M'.S := by unfold Mc.S; rw [hv]
  have ld : ∀ size, (ldX M 16 X size).z = (ldX M' 16 (X.ixs i) size).z := fun size => by
    rw [ldX_z, ldX_z]
    show (if (dT M 16 X size 1 2).ca ≠ 0 then X.z else X.z.setR X.a (loadV M.bs (dP M 16 X size 1) size 16).toNat) = (if (dT M' 16 X size 1 2).ca ≠ 0 then X.z else X.z.setR X.a (loadV M'.bs (dP M' 16 X size 1) size 16).toNat)
    rw [d, p, hb]
  have st : ∀ size, (stM M 16 X size).bs = (stM M' 16 (X.ixs i) size).bs ∧ (stM M 16 X size).V = (stM M' 16 (X.ixs i) size).V := fun size => by
    rw [(stM_bs M X size).1, (stM_bs M' (X.ixs i) size).1, (stM_bs M X size).2, (stM_bs M' (X.ixs i) size).2]
    refine ⟨?_, hv⟩
    show (if (dT M 16 X size 2 3).ca ≠ 0 then M.bs else storeB M.bs (dP M 16 X size 2) size 16 (X.z.r X.a)) = (if (dT M' 16 X size 2 3).ca ≠ 0 then M'.bs else storeB M'.bs (dP M' 16 X size 2) size 16 (X.z.r X.a))
    rw [d, p, hb]
  have dm : ∀ size want, (dM M 16 X size want).bs = (dM M' 16 (X.ixs i) size want).bs ∧ (dM M 16 X size want).V = (dM M' 16 (X.ixs i) size want).V := fun size want => by
    rw [(dM_bv M X size want).1, (dM_bv M' (X.ixs i) size want).1, (dM_bv M X size want).2, (dM_bv M' (X.ixs i) size want).2]
    exact ⟨hb, hv⟩
  have hx : (X.ixs i).op = X.op := rfl
  unfold exec
  rw [hx, ho]
  generalize hA : stM M 16 X 4 = A at *
  have sA := st 4
  rw [hA] at sA
  generalize hB : stM M' 16 (X.ixs i) 4 = B at *
  refine ⟨?_, ?_, ?_, ?_⟩
  · show X.z = (X.ixs i).z
    rfl
  · show dT M 16 X 4 2 3 = dT M' 16 X 4 2 3
    exact d _ _ _
  · show A.bs = B.bs
    exact sA.1
  · show A.V = B.V
    exact sA.2
theorem exec_al9 {M M' : Mc} {X : Wk} (i : Int) (hb : M.bs = M'.bs) (hv : M.V = M'.V) (s : Sok M.bs X.vm X.sd X.fi X.se M.T) (s' : Sok M'.bs X.vm X.sd X.fi X.se M'.T) (ho : X.op = 9) : Alike (exec 16 M X) (exec 16 M' (X.ixs i)) := by
  have d := dT_same hb s s'
  have p := dP_same hb s s'
  have w : wfT M X = wfT M' X := by unfold wfT; rw [hv]
  have q : M.S = M'.S := by unfold Mc.S; rw [hv]
  have ld : ∀ size, (ldX M 16 X size).z = (ldX M' 16 (X.ixs i) size).z := fun size => by
    rw [ldX_z, ldX_z]
    show (if (dT M 16 X size 1 2).ca ≠ 0 then X.z else X.z.setR X.a (loadV M.bs (dP M 16 X size 1) size 16).toNat) = (if (dT M' 16 X size 1 2).ca ≠ 0 then X.z else X.z.setR X.a (loadV M'.bs (dP M' 16 X size 1) size 16).toNat)
    rw [d, p, hb]
  have st : ∀ size, (stM M 16 X size).bs = (stM M' 16 (X.ixs i) size).bs ∧ (stM M 16 X size).V = (stM M' 16 (X.ixs i) size).V := fun size => by
    rw [(stM_bs M X size).1, (stM_bs M' (X.ixs i) size).1, (stM_bs M X size).2, (stM_bs M' (X.ixs i) size).2]
    refine ⟨?_, hv⟩
    show (if (dT M 16 X size 2 3).ca ≠ 0 then M.bs else storeB M.bs (dP M 16 X size 2) size 16 (X.z.r X.a)) = (if (dT M' 16 X size 2 3).ca ≠ 0 then M'.bs else storeB M'.bs (dP M' 16 X size 2) size 16 (X.z.r X.a))
    rw [d, p, hb]
  have dm : ∀ size want, (dM M 16 X size want).bs = (dM M' 16 (X.ixs i) size want).bs ∧ (dM M 16 X size want).V = (dM M' 16 (X.ixs i) size want).V := fun size want => by
    rw [(dM_bv M X size want).1, (dM_bv M' (X.ixs i) size want).1, (dM_bv M X size want).2, (dM_bv M' (X.ixs i) size want).2]
    exact ⟨hb, hv⟩
  have hx : (X.ixs i).op = X.op := rfl
  unfold exec
  rw [hx, ho]
  exact ⟨ld 1, d _ _ _, (dm 1 1).1, (dm 1 1).2⟩
theorem exec_al10 {M M' : Mc} {X : Wk} (i : Int) (hb : M.bs = M'.bs) (hv : M.V = M'.V) (s : Sok M.bs X.vm X.sd X.fi X.se M.T) (s' : Sok M'.bs X.vm X.sd X.fi X.se M'.T) (ho : X.op = 10) : Alike (exec 16 M X) (exec 16 M' (X.ixs i)) := by
  have d := dT_same hb s s'
  have p := dP_same hb s s'
  have w : wfT M X = wfT M' X := by unfold wfT; rw [hv]
  have q : M.S = M'.S := by unfold Mc.S; rw [hv]
  have ld : ∀ size, (ldX M 16 X size).z = (ldX M' 16 (X.ixs i) size).z := fun size => by
    rw [ldX_z, ldX_z]
    show (if (dT M 16 X size 1 2).ca ≠ 0 then X.z else X.z.setR X.a (loadV M.bs (dP M 16 X size 1) size 16).toNat) = (if (dT M' 16 X size 1 2).ca ≠ 0 then X.z else X.z.setR X.a (loadV M'.bs (dP M' 16 X size 1) size 16).toNat)
    rw [d, p, hb]
  have st : ∀ size, (stM M 16 X size).bs = (stM M' 16 (X.ixs i) size).bs ∧ (stM M 16 X size).V = (stM M' 16 (X.ixs i) size).V := fun size => by
    rw [(stM_bs M X size).1, (stM_bs M' (X.ixs i) size).1, (stM_bs M X size).2, (stM_bs M' (X.ixs i) size).2]
    refine ⟨?_, hv⟩
    show (if (dT M 16 X size 2 3).ca ≠ 0 then M.bs else storeB M.bs (dP M 16 X size 2) size 16 (X.z.r X.a)) = (if (dT M' 16 X size 2 3).ca ≠ 0 then M'.bs else storeB M'.bs (dP M' 16 X size 2) size 16 (X.z.r X.a))
    rw [d, p, hb]
  have dm : ∀ size want, (dM M 16 X size want).bs = (dM M' 16 (X.ixs i) size want).bs ∧ (dM M 16 X size want).V = (dM M' 16 (X.ixs i) size want).V := fun size want => by
    rw [(dM_bv M X size want).1, (dM_bv M' (X.ixs i) size want).1, (dM_bv M X size want).2, (dM_bv M' (X.ixs i) size want).2]
    exact ⟨hb, hv⟩
  have hx : (X.ixs i).op = X.op := rfl
  unfold exec
  rw [hx, ho]
  generalize hA : stM M 16 X 1 = A at *
  have sA := st 1
  rw [hA] at sA
  generalize hB : stM M' 16 (X.ixs i) 1 = B at *
  refine ⟨?_, ?_, ?_, ?_⟩
  · show X.z = (X.ixs i).z
    rfl
  · show dT M 16 X 1 2 3 = dT M' 16 X 1 2 3
    exact d _ _ _
  · show A.bs = B.bs
    exact sA.1
  · show A.V = B.V
    exact sA.2
theorem exec_al11 {M M' : Mc} {X : Wk} (i : Int) (hb : M.bs = M'.bs) (hv : M.V = M'.V) (ho : X.op = 11) : Alike (exec 16 M X) (exec 16 M' (X.ixs i)) := by
  have hx : (X.ixs i).op = X.op := rfl
  unfold exec
  rw [hx, ho]
  exact ⟨rfl, rfl, hb, hv⟩
theorem exec_al12 {M M' : Mc} {X : Wk} (i : Int) (hb : M.bs = M'.bs) (hv : M.V = M'.V) (ho : X.op = 12) : Alike (exec 16 M X) (exec 16 M' (X.ixs i)) := by
  have hx : (X.ixs i).op = X.op := rfl
  unfold exec
  rw [hx, ho]
  exact ⟨rfl, rfl, hb, hv⟩
theorem exec_al13 {M M' : Mc} {X : Wk} (i : Int) (hb : M.bs = M'.bs) (hv : M.V = M'.V) (ho : X.op = 13) : Alike (exec 16 M X) (exec 16 M' (X.ixs i)) := by
  have hx : (X.ixs i).op = X.op := rfl
  unfold exec
  rw [hx, ho]
  exact ⟨rfl, rfl, hb, hv⟩
theorem exec_al14 {M M' : Mc} {X : Wk} (i : Int) (hb : M.bs = M'.bs) (hv : M.V = M'.V) (ho : X.op = 14) : Alike (exec 16 M X) (exec 16 M' (X.ixs i)) := by
  have hx : (X.ixs i).op = X.op := rfl
  unfold exec
  rw [hx, ho]
  exact ⟨rfl, rfl, hb, hv⟩
theorem exec_al15 {M M' : Mc} {X : Wk} (i : Int) (hb : M.bs = M'.bs) (hv : M.V = M'.V) (ho : X.op = 15) : Alike (exec 16 M X) (exec 16 M' (X.ixs i)) := by
  have hx : (X.ixs i).op = X.op := rfl
  unfold exec
  rw [hx, ho]
  exact ⟨rfl, rfl, hb, hv⟩
theorem exec_al16 {M M' : Mc} {X : Wk} (i : Int) (hb : M.bs = M'.bs) (hv : M.V = M'.V) (ho : X.op = 16) : Alike (exec 16 M X) (exec 16 M' (X.ixs i)) := by
  have hx : (X.ixs i).op = X.op := rfl
  unfold exec
  rw [hx, ho]
  exact ⟨rfl, rfl, hb, hv⟩
theorem exec_al17 {M M' : Mc} {X : Wk} (i : Int) (hb : M.bs = M'.bs) (hv : M.V = M'.V) (ho : X.op = 17) : Alike (exec 16 M X) (exec 16 M' (X.ixs i)) := by
  have hx : (X.ixs i).op = X.op := rfl
  unfold exec
  rw [hx, ho]
  exact ⟨rfl, rfl, hb, hv⟩
theorem exec_al18 {M M' : Mc} {X : Wk} (i : Int) (hb : M.bs = M'.bs) (hv : M.V = M'.V) (ho : X.op = 18) : Alike (exec 16 M X) (exec 16 M' (X.ixs i)) := by
  have hx : (X.ixs i).op = X.op := rfl
  unfold exec
  rw [hx, ho]
  exact ⟨rfl, rfl, hb, hv⟩
theorem exec_al19 {M M' : Mc} {X : Wk} (i : Int) (hb : M.bs = M'.bs) (hv : M.V = M'.V) (ho : X.op = 19) : Alike (exec 16 M X) (exec 16 M' (X.ixs i)) := by
  have hx : (X.ixs i).op = X.op := rfl
  unfold exec
  rw [hx, ho]
  exact ⟨(rdX_z X i).symm, rfl, hb, hv⟩
theorem exec_al20 {M M' : Mc} {X : Wk} (i : Int) (hb : M.bs = M'.bs) (hv : M.V = M'.V) (ho : X.op = 20) : Alike (exec 16 M X) (exec 16 M' (X.ixs i)) := by
  have hx : (X.ixs i).op = X.op := rfl
  unfold exec
  rw [hx, ho]
  exact ⟨(wrX_z X i).symm, rfl, ((wrM_bs M X).1.trans hb).trans (wrM_bs M' (X.ixs i)).1.symm, wrM_V X i hv⟩
theorem exec_al21 {M M' : Mc} {X : Wk} (i : Int) (hb : M.bs = M'.bs) (hv : M.V = M'.V) (ho : X.op = 21) : Alike (exec 16 M X) (exec 16 M' (X.ixs i)) := by
  have w : wfT M X = wfT M' X := by unfold wfT; rw [hv]
  have hx : (X.ixs i).op = X.op := rfl
  unfold exec
  rw [hx, ho]
  exact ⟨rfl, w, hb, hv⟩
theorem exec_al22 {M M' : Mc} {X : Wk} (i : Int) (hb : M.bs = M'.bs) (hv : M.V = M'.V) (ho : X.op = 22) : Alike (exec 16 M X) (exec 16 M' (X.ixs i)) := by
  have q : M.S = M'.S := by unfold Mc.S; rw [hv]
  have hx : (X.ixs i).op = X.op := rfl
  unfold exec
  rw [hx, ho]
  refine ⟨?_, rfl, hb, ?_⟩
  · show X.z.setR X.a (ackA M.S).toNat = X.z.setR X.a (ackA M'.S).toNat
    rw [q]
  · show some (ackS M.S) = some (ackS M'.S)
    rw [q]
theorem exec_al23 {M M' : Mc} {X : Wk} (i : Int) (hb : M.bs = M'.bs) (hv : M.V = M'.V) (ho : X.op = 23) : Alike (exec 16 M X) (exec 16 M' (X.ixs i)) := by
  have q : M.S = M'.S := by unfold Mc.S; rw [hv]
  have hx : (X.ixs i).op = X.op := rfl
  unfold exec
  rw [hx, ho]
  refine ⟨rfl, ?_, hb, ?_⟩
  · show eoT M.S X = eoT M'.S X
    rw [q]
  · show some (endS M.S ((min (X.z.r X.b) 64 : Nat) : Int)) = some (endS M'.S ((min (X.z.r X.b) 64 : Nat) : Int))
    rw [q]
theorem exec_al24 {M M' : Mc} {X : Wk} (i : Int) (hb : M.bs = M'.bs) (hv : M.V = M'.V) (ho : X.op = 24) : Alike (exec 16 M X) (exec 16 M' (X.ixs i)) := by
  have hx : (X.ixs i).op = X.op := rfl
  unfold exec
  rw [hx, ho]
  exact ⟨rfl, rfl, hb, hv⟩
theorem exec_alike {M M' : Mc} {X : Wk} (i : Int) (hb : M.bs = M'.bs) (hv : M.V = M'.V) (s : Sok M.bs X.vm X.sd X.fi X.se M.T) (s' : Sok M'.bs X.vm X.sd X.fi X.se M'.T) : Alike (exec 16 M X) (exec 16 M' (X.ixs i)) := by
  by_cases hk : X.op ≤ 24
  · have : X.op = 0 ∨ X.op = 1 ∨ X.op = 2 ∨ X.op = 3 ∨ X.op = 4 ∨ X.op = 5 ∨ X.op = 6 ∨ X.op = 7 ∨ X.op = 8 ∨ X.op = 9 ∨ X.op = 10 ∨ X.op = 11 ∨ X.op = 12 ∨ X.op = 13 ∨ X.op = 14 ∨ X.op = 15 ∨ X.op = 16 ∨ X.op = 17 ∨ X.op = 18 ∨ X.op = 19 ∨ X.op = 20 ∨ X.op = 21 ∨ X.op = 22 ∨ X.op = 23 ∨ X.op = 24 := by omega
    rcases this with ho | ho | ho | ho | ho | ho | ho | ho | ho | ho | ho | ho | ho | ho | ho | ho | ho | ho | ho | ho | ho | ho | ho | ho | ho
    · exact exec_al0 i hb hv ho
    · exact exec_al1 i hb hv ho
    · exact exec_al2 i hb hv ho
    · exact exec_al3 i hb hv ho
    · exact exec_al4 i hb hv ho
    · exact exec_al5 i hb hv ho
    · exact exec_al6 i hb hv ho
    · exact exec_al7 i hb hv s s' ho
    · exact exec_al8 i hb hv s s' ho
    · exact exec_al9 i hb hv s s' ho
    · exact exec_al10 i hb hv s s' ho
    · exact exec_al11 i hb hv ho
    · exact exec_al12 i hb hv ho
    · exact exec_al13 i hb hv ho
    · exact exec_al14 i hb hv ho
    · exact exec_al15 i hb hv ho
    · exact exec_al16 i hb hv ho
    · exact exec_al17 i hb hv ho
    · exact exec_al18 i hb hv ho
    · exact exec_al19 i hb hv ho
    · exact exec_al20 i hb hv ho
    · exact exec_al21 i hb hv ho
    · exact exec_al22 i hb hv ho
    · exact exec_al23 i hb hv ho
    · exact exec_al24 i hb hv ho
  · obtain ⟨j, ho⟩ : ∃ j, X.op = j + 25 := ⟨X.op - 25, by omega⟩
    have hx : (X.ixs i).op = X.op := rfl
    unfold exec
    rw [hx, ho]
    exact ⟨rfl, rfl, hb, hv⟩

theorem do_alike {M M' : Mc} {X : Wk} (i : Int) (hb : M.bs = M'.bs) (hv : M.V = M'.V) (s : Sok M.bs X.vm X.sd X.fi X.se M.T) (s' : Sok M'.bs X.vm X.sd X.fi X.se M'.T) : Alike (doR 16 M X) (doR 16 M' (X.ixs i)) := by
  have e1 := (rc_same hb s s' X.pc 4).1
  have e2 := fX_same hb s s'
  have k1 := rc_keep s X.pc 4 X.ix
  have k2 := rc_keep s' X.pc 4 i
  have e3 : fX 16 M' (X.ixs i) = (fX 16 M' X).ixs i := rfl
  have e4 : ∀ Y : Wk, dX (Y.ixs i) = (dX Y).ixs i := fun _ => rfl
  have e5 : rcF M' 16 (X.ixs i).vm (X.ixs i).sd (X.ixs i).fi (X.ixs i).se (X.ixs i).pc 4 = rcF M' 16 X.vm X.sd X.fi X.se X.pc 4 := rfl
  unfold doR
  rw [e5, e3, e4, e1, e2, hv]
  have e6 : ((fX 16 M' X).ixs i).wd = (fX 16 M' X).wd := rfl
  have e7 : ((dX (fX 16 M' X)).ixs i).op = (dX (fX 16 M' X)).op := rfl
  rw [e6, e7]
  split
  · exact ⟨rfl, rfl, hb, hv⟩
  · split
    · exact ⟨rfl, rfl, hb, hv⟩
    · split
      · exact ⟨rfl, rfl, hb, hv⟩
      · exact exec_alike (M := doM 16 M X) (M' := doM 16 M' (X.ixs i)) (X := dX (fX 16 M' X)) i hb hv k1.1 k2.1

theorem step_alike {M M' : Mc} {c : Cp} {vm se : Int} (ix i : Int) (hb : M.bs = M'.bs) (hv : M.V = M'.V) (s : ∀ b, Sok M.bs vm (spA b c) (spF b c) se M.T) (s' : ∀ b, Sok M'.bs vm (spA b c) (spF b c) se M'.T) :
    (stepR 16 M c vm se ix).2 = (stepR 16 M' c vm se i).2 ∧ (stepR 16 M c vm se ix).1.bs = (stepR 16 M' c vm se i).1.bs ∧ (stepR 16 M c vm se ix).1.V = (stepR 16 M' c vm se i).1.V := by
  unfold stepR
  by_cases h : c.bad
  · rw [if_pos h, if_pos h]
    exact ⟨rfl, hb, hv⟩
  · rw [if_neg h, if_neg h]
    have e : wkP M'.V.isSome c vm se i = (wkP M.V.isSome c vm se ix).ixs i := by rw [← hv]; rfl
    rw [e]
    obtain ⟨a1, a2, a3, a4⟩ := do_alike (X := wkP M.V.isSome c vm se ix) i hb hv (s _) (s' _)
    refine ⟨?_, a3, a4⟩
    show (stC c _, _) = (stC c _, _)
    unfold stC
    rw [a1, a2]

/-! ### what is remembered stays what the tables say -/
theorem nested_pl {bs bs' : List UInt8} {fi se : Int} (hf : fi < 0) (h : ∀ page, single bs' 16 se page = single bs 16 se page) (page want : Int) : nested bs' 16 fi se page want = nested bs 16 fi se page want := by
  unfold nested
  by_cases h0 : isP page = false ∨ isR want = false
  · rw [if_pos h0, if_pos h0]
  · rw [if_neg h0, if_neg h0, if_pos hf, if_pos hf]
    unfold granted
    rw [h]
theorem sok_bs {bs bs' : List UInt8} {vm sd fi se : Int} {T : Nat → Ln} (hf : fi < 0) (h : ∀ page, single bs' 16 se page = single bs 16 se page) (s : Sok bs vm sd fi se T) : Sok bs' vm sd fi se T := fun j hj he hv ha => by
  obtain ⟨w0, g⟩ := s j hj he hv ha
  refine ⟨w0, ?_⟩
  rw [nested_pl hf h]
  exact g
theorem sok_wipe {bs : List UInt8} {vm sd fi se : Int} {T : Nat → Ln} (g : Ln → Bool) (s : Sok bs vm sd fi se T) : Sok bs vm sd fi se (wipe g T) := fun j hj he hv ha => by
  rcases wipe_cases g T j with ⟨e, _⟩ | ⟨e, _⟩
  · rw [e] at he; exact absurd he (by decide)
  · rw [e] at he hv ha ⊢; exact s j hj he hv ha
theorem sok_none (bs : List UInt8) (vm sd fi se : Int) (T : Nat → Ln) : Sok bs vm sd fi se (wipe (fun _ => true) T) := fun j hj he _ _ => by
  rcases wipe_cases (fun _ => true) T j with ⟨e, _⟩ | ⟨e, hg⟩
  · rw [e] at he; exact absurd he (by decide)
  · rw [e] at he
    simp [goes, he] at hg

section
variable {b0 : List UInt8} {se : Int} {M : Mc}
theorem sok_exec (k : Kept b0 se M.bs M.T) (hs : Shut b0 se) {X : Wk} (hX : X.se = se) (hf : X.fi < 0) (s : Sok M.bs X.vm X.sd X.fi X.se M.T) : Sok (exec 16 M X).1.bs X.vm X.sd X.fi X.se (exec 16 M X).1.T := by
  have st : ∀ size, size = 1 ∨ size = 4 → Sok (stM M 16 X size).bs X.vm X.sd X.fi X.se (stM M 16 X size).T := fun size hsz => by
    have k1 := kept_st k hs hX hsz
    have hT : (stM M 16 X size).T = (dM M 16 X size 2).T := by unfold stM; split <;> rfl
    rw [hT]
    refine sok_bs (bs := M.bs) hf (fun page => ?_) (by have := dM_keep s size 2; rw [this.2.1] at this; exact this.1)
    rw [hX, k1.single hs, k.single hs]
  by_cases hk : X.op ≤ 24
  · have : X.op = 0 ∨ X.op = 1 ∨ X.op = 2 ∨ X.op = 3 ∨ X.op = 4 ∨ X.op = 5 ∨ X.op = 6 ∨ X.op = 7 ∨ X.op = 8 ∨ X.op = 9 ∨ X.op = 10 ∨ X.op = 11 ∨ X.op = 12 ∨ X.op = 13 ∨ X.op = 14 ∨ X.op = 15 ∨ X.op = 16 ∨ X.op = 17 ∨ X.op = 18 ∨ X.op = 19 ∨ X.op = 20 ∨ X.op = 21 ∨ X.op = 22 ∨ X.op = 23 ∨ X.op = 24 := by omega
    rcases this with ho | ho | ho | ho | ho | ho | ho | ho | ho | ho | ho | ho | ho | ho | ho | ho | ho | ho | ho | ho | ho | ho | ho | ho | ho
    all_goals
      unfold exec
      rw [ho]
      try first
        | exact s
        | exact (dM_keep s _ _).1
        | exact st 4 (Or.inr rfl)
        | exact st 1 (Or.inl rfl)
        | exact sok_wipe _ s
    show Sok (wrM M M.S X).bs X.vm X.sd X.fi X.se (wrM M M.S X).T
    rw [(wrM_bs M X).1, (wrM_bs M X).2]
    exact s
  · obtain ⟨j, ho⟩ : ∃ j, X.op = j + 25 := ⟨X.op - 25, by omega⟩
    unfold exec
    rw [ho]
    exact s
theorem sok_do (k : Kept b0 se M.bs M.T) (hs : Shut b0 se) {X : Wk} (hX : X.se = se) (hf : X.fi < 0) (s : Sok M.bs X.vm X.sd X.fi X.se M.T) : Sok (doR 16 M X).1.bs X.vm X.sd X.fi X.se (doR 16 M X).1.T := by
  have k1 := rc_keep s X.pc 4 X.ix
  have k2 : Kept b0 se (doM 16 M X).bs (doM 16 M X).T := by unfold doM; rw [hX]; exact kept_rc k hs _ _ _ _ _ _
  unfold doR
  split
  · exact k1.1
  · split
    · exact k1.1
    · split
      · exact k1.1
      · exact sok_exec (M := doM 16 M X) (X := dX (fX 16 M X)) k2 hs hX hf k1.1
theorem sp_none (c : Cp) : spF false c = -1 ∧ spA false c = 0 := by
  unfold spF spA
  simp
theorem sok_step (k : Kept b0 se M.bs M.T) (hs : Shut b0 se) (hV : M.V = none) {vm : Int} (s : Sok M.bs vm 0 (-1) se M.T) (c : Cp) (ix : Int) : Sok (stepR 16 M c vm se ix).1.bs vm 0 (-1) se (stepR 16 M c vm se ix).1.T := by
  have e1 : spF M.V.isSome c = -1 := by rw [hV]; exact (sp_none c).1
  have e2 : spA M.V.isSome c = 0 := by rw [hV]; exact (sp_none c).2
  unfold stepR
  split
  · exact s
  · have := sok_do (X := wkP M.V.isSome c vm se ix) k hs rfl (by show spF M.V.isSome c < 0; rw [e1]; decide) (by
      show Sok M.bs vm (spA M.V.isSome c) (spF M.V.isSome c) se M.T
      rw [e1, e2]; exact s)
    have h2 : Sok (doR 16 M (wkP M.V.isSome c vm se ix)).1.bs vm (spA M.V.isSome c) (spF M.V.isSome c) se (doR 16 M (wkP M.V.isSome c vm se ix)).1.T := this
    rw [e1, e2] at h2
    exact h2
theorem v_step (hV : M.V = none) (c : Cp) (vm ix : Int) : (stepR 16 M c vm se ix).1.V = none := by
  unfold stepR
  split
  · exact hV
  · show (doR 16 M _).1.V = none
    have hd : ∀ X, (doM 16 M X).V = none := fun X => hV
    unfold doR
    split
    · exact hd _
    · split
      · exact hd _
      · split
        · exact hd _
        · rename_i h3
          have hng : isG (dX (fX 16 M (wkP M.V.isSome c vm se ix))).op = false := by
            cases hg : isG (dX (fX 16 M (wkP M.V.isSome c vm se ix))).op with
            | false => rfl
            | true => exact absurd ⟨hg, hV⟩ h3
          have key : ∀ (N : Mc) (X : Wk), N.V = none → isG X.op = false → (exec 16 N X).1.V = none := fun N X hN hX => by
            by_cases hk : X.op ≤ 24
            · have : X.op = 0 ∨ X.op = 1 ∨ X.op = 2 ∨ X.op = 3 ∨ X.op = 4 ∨ X.op = 5 ∨ X.op = 6 ∨ X.op = 7 ∨ X.op = 8 ∨ X.op = 9 ∨ X.op = 10 ∨ X.op = 11 ∨ X.op = 12 ∨ X.op = 13 ∨ X.op = 14 ∨ X.op = 15 ∨ X.op = 16 ∨ X.op = 17 ∨ X.op = 18 ∨ X.op = 19 ∨ X.op = 20 ∨ X.op = 21 ∨ X.op = 22 ∨ X.op = 23 ∨ X.op = 24 := by omega
              rcases this with ho | ho | ho | ho | ho | ho | ho | ho | ho | ho | ho | ho | ho | ho | ho | ho | ho | ho | ho | ho | ho | ho | ho | ho | ho
              all_goals
                rw [ho] at hX
                unfold exec
                rw [ho]
                first
                  | exact hN
                  | exact ((dM_bv N X _ _).2).trans hN
                  | exact ((stM_bs N X _).2).trans hN
                  | exact absurd hX (by decide)
            · obtain ⟨j, ho⟩ : ∃ j, X.op = j + 25 := ⟨X.op - 25, by omega⟩
              unfold exec
              rw [ho]
              exact hN
          exact key _ _ (hd _) hng

/-- Two machines, of which one has forgotten. -/
structure Fo (b0 : List UInt8) (vm se : Int) (Ma Mb : Mc) (n : Nat) : Prop where
  bs : Ma.bs = Mb.bs
  va : Ma.V = none
  vb : Mb.V = none
  k : Kept b0 se Ma.bs Ma.T
  s : Sok Ma.bs vm 0 (-1) se Ma.T
  fa : Ma.few n
  fb : Mb.few n
def Mc.fg (M : Mc) : Mc := { M with T := wipe (fun _ => true) M.T }
theorem fg_few {M : Mc} {n : Nat} (h : M.few n) : M.fg.few n := ⟨h.fo, h.mi, h.sum, good_wipe h.good _, uniq_wipe h.uniq _⟩
theorem fo_step {Ma Mb : Mc} {vm : Int} {n : Nat} (h : Fo b0 vm se Ma Mb n) (hs : Shut b0 se) (c : Cp) (ix i : Int) :
    (stepR 16 Ma c vm se ix).2 = (stepR 16 Mb.fg c vm se i).2 ∧ (stepR 16 Ma c vm se ix).2.2.ca = (stepR 16 Mb.fg c vm se i).2.2.ca ∧ Fo b0 vm se (stepR 16 Ma c vm se ix).1 (stepR 16 Mb.fg c vm se i).1 (n + 2) := by
  have hsa : ∀ b, Sok Ma.bs vm (spA b c) (spF b c) se Ma.T ∨ b = true := fun b => by
    cases b with
    | true => exact Or.inr rfl
    | false => rw [(sp_none c).1, (sp_none c).2]; exact Or.inl h.s
  have st : (stepR 16 Ma c vm se ix).2 = (stepR 16 Mb.fg c vm se i).2 ∧ (stepR 16 Ma c vm se ix).1.bs = (stepR 16 Mb.fg c vm se i).1.bs ∧ (stepR 16 Ma c vm se ix).1.V = (stepR 16 Mb.fg c vm se i).1.V := by
    unfold stepR
    by_cases hb : c.bad
    · rw [if_pos hb, if_pos hb]
      exact ⟨rfl, h.bs, h.va.trans h.vb.symm⟩
    · rw [if_neg hb, if_neg hb]
      have hv : Ma.V = Mb.fg.V := h.va.trans h.vb.symm
      have e : wkP Mb.fg.V.isSome c vm se i = (wkP Ma.V.isSome c vm se ix).ixs i := by rw [← hv]; rfl
      rw [e]
      have s1 : Sok Ma.bs vm (spA Ma.V.isSome c) (spF Ma.V.isSome c) se Ma.T := by
        rw [h.va, show (none : Option Vg).isSome = false from rfl, (sp_none c).1, (sp_none c).2]; exact h.s
      obtain ⟨a1, a2, a3, a4⟩ := do_alike (M := Ma) (M' := Mb.fg) (X := wkP Ma.V.isSome c vm se ix) i h.bs hv s1 (sok_none _ _ _ _ _ _)
      refine ⟨?_, a3, a4⟩
      show (stC c _, _) = (stC c _, _)
      unfold stC
      rw [a1, a2]
  refine ⟨st.1, by rw [st.1], st.2.1, v_step h.va c vm ix, ?_, kept_step h.k hs c vm ix, sok_step h.k hs h.va h.s c ix, few_step h.fa 16 c vm se ix, few_step (fg_few h.fb) 16 c vm se i⟩
  rw [← st.2.2]
  exact v_step h.va c vm ix
theorem fo_new (hs : Shut b0 se) (vm : Int) : Fo b0 vm se (M0 b0 false) (M0 b0 false) 0 := ⟨rfl, rfl, rfl, kept_new hs, sok_zero _ _ _ _ _, M0_few _ _, M0_few _ _⟩
end

end Go.Proofs.YtgnoakidjnilpaaGreat

/- WalkRefS -/
namespace Go.Proofs.YtgnoakidjnilpaaGreat
open Go.RowKit

theorem IsRef.alloc {w : World} {p bf nf : Nat} {bs : List UInt8} (h : IsRef w p bf nf bs) (o : Obj) : IsRef (w.alloc o) p bf nf bs := h.keep ((Fr.refl none' w).alloc o) (fun h => h) (fun h => h)

set_option maxHeartbeats 1000000 in
theorem rsingle_lo (w : World) (p : Nat) (root page : Int) (hp : page < 0) :
    Calls Tryz.prog 24 #[.pointer (some ⟨p, 0, none⟩), .int .i64 root, .int .i64 page] w fun e w' => e = .returned (.tuple #[.int .i64 0, .int .i64 0, .agg #[.int .i64 3, .int .i64 0, .int .i64 0, .bool false, .int .i64 0]]) ∧ Fr none' w w' := by
  have t0 : decide (page < 0) = true := decide_eq_true hp
  go_enter Tryz.func24, Tryz.ntmps24
  go_wp2_with fail
  refine bodyPost_ret (ret_ttf rfl rfl (row_alloc _ _ _) rfl) rfl ?_
  exact ⟨rfl, (Fr.refl _ _).alloc _⟩

set_option maxHeartbeats 1000000 in
theorem rsingle_hi (w : World) (p : Nat) (root page : Int) (h0 : ¬ page < 0) (hp : 1023 < page) :
    Calls Tryz.prog 24 #[.pointer (some ⟨p, 0, none⟩), .int .i64 root, .int .i64 page] w fun e w' => e = .returned (.tuple #[.int .i64 0, .int .i64 0, .agg #[.int .i64 3, .int .i64 0, .int .i64 0, .bool false, .int .i64 0]]) ∧ Fr none' w w' := by
  have t0 : decide (page < 0) = false := decide_eq_false h0
  have t1 : decide (1023 < page) = true := decide_eq_true hp
  go_enter Tryz.func24, Tryz.ntmps24
  go_wp2_with fail
  refine bodyPost_ret (ret_ttf rfl rfl (row_alloc _ _ _) rfl) rfl ?_
  exact ⟨rfl, (Fr.refl _ _).alloc _⟩

set_option maxHeartbeats 1000000 in
theorem rsingle_bad0 (w : World) (p bf nf : Nat) (bs : List UInt8) (root page : Int) (h : IsRef w p bf nf bs) (hp : isP page = true) (hk : entK bs nf root page 0 ≠ 0) :
    Calls Tryz.prog 24 #[.pointer (some ⟨p, 0, none⟩), .int .i64 root, .int .i64 page] w fun e w' => e = .returned (.tuple #[.int .i64 0, .int .i64 0, .agg #[.int .i64 (entK bs nf root page 0), .int .i64 2, .int .i64 0, .bool false, .int .i64 page]]) ∧ Fr none' w w' := by
  have f1 := Fr.refl none' w
  have t0 : decide (page < 0) = false := decide_eq_false (by have := isP_iff.1 hp; omega)
  have t1 : decide (1023 < page) = false := decide_eq_false (by have := isP_iff.1 hp; omega)
  have t2 : (entK bs nf root page 0 != 0) = true := by simp [hk]
  have r8 := row_alloc w #[.int .i64 0, .int .i64 0, .int .i64 0, .bool false, .int .i64 0] 50
  replace h := h.alloc (.cells #[.int .i64 0, .int .i64 0, .int .i64 0, .bool false, .int .i64 0] 50)
  replace f1 := f1.alloc (.cells #[.int .i64 0, .int .i64 0, .int .i64 0, .bool false, .int .i64 0] 50)
  go_enter Tryz.func24, Tryz.ntmps24
  go_wp2_with fail
  refine (rentry_bad _ _ _ _ _ _ _ _ h hp (Or.inl rfl) hk).mono ?_
  rintro e v1 ⟨rfl, g1⟩
  replace r8 := r8.keep g1 (fun h => h)
  replace h := h.keep g1 (fun h => h) (fun h => h)
  replace f1 := f1.trans g1
  clear g1
  have r9 := row_alloc v1 #[.bool false, .bool false, .int .i64 0, .int .i64 0] 71
  replace r8 := r8.alloc (.cells #[.bool false, .bool false, .int .i64 0, .int .i64 0] 71)
  replace h := h.alloc (.cells #[.bool false, .bool false, .int .i64 0, .int .i64 0] 71)
  replace f1 := f1.alloc (.cells #[.bool false, .bool false, .int .i64 0, .int .i64 0] 71)
  obtain ⟨c0x0, c0x1, c0x2, c0x3, c0x4⟩ := cells5 r8
  obtain ⟨z1x0, z1x1, z1x2, z1x3, z1x4⟩ := frozen5 r8
  go_wp2_with fail
  refine bodyPost_ret (ret_ttf rfl rfl (r8.put5 _ _ _ _ _) rfl) rfl ?_
  exact ⟨rfl, f1.put5 (Or.inl (Nat.le_refl _)) _ _ _ _ _⟩

set_option maxHeartbeats 1000000 in
theorem rsingle_bad1 (w : World) (p bf nf : Nat) (bs : List UInt8) (root page : Int) (h : IsRef w p bf nf bs) (hp : isP page = true) (hk : entK bs nf root page 0 = 0) (hj : entK bs nf (df (ew bs root page 0)) page 1 ≠ 0) :
    Calls Tryz.prog 24 #[.pointer (some ⟨p, 0, none⟩), .int .i64 root, .int .i64 page] w fun e w' => e = .returned (.tuple #[.int .i64 0, .int .i64 0, .agg #[.int .i64 (entK bs nf (df (ew bs root page 0)) page 1), .int .i64 2, .int .i64 1, .bool false, .int .i64 page]]) ∧ Fr none' w w' := by
  have f1 := Fr.refl none' w
  have t0 : decide (page < 0) = false := decide_eq_false (by have := isP_iff.1 hp; omega)
  have t1 : decide (1023 < page) = false := decide_eq_false (by have := isP_iff.1 hp; omega)
  have t2 : ((entK bs nf (df (ew bs root page 0)) page 1) != 0) = true := by simp [hj]
  have r8 := row_alloc w #[.int .i64 0, .int .i64 0, .int .i64 0, .bool false, .int .i64 0] 50
  replace h := h.alloc (.cells #[.int .i64 0, .int .i64 0, .int .i64 0, .bool false, .int .i64 0] 50)
  replace f1 := f1.alloc (.cells #[.int .i64 0, .int .i64 0, .int .i64 0, .bool false, .int .i64 0] 50)
  go_enter Tryz.func24, Tryz.ntmps24
  go_wp2_with fail
  refine (rentry_ok _ _ _ _ _ _ _ _ h hp (Or.inl rfl) hk).mono ?_
  rintro e v1 ⟨rfl, g1⟩
  replace r8 := r8.keep g1 (fun h => h)
  replace h := h.keep g1 (fun h => h) (fun h => h)
  replace f1 := f1.trans g1
  clear g1
  have r9 := row_alloc v1 #[.bool true, .bool false, .int .i64 (dr (ew bs root page 0)), .int .i64 (df (ew bs root page 0))] 71
  replace r8 := r8.alloc (.cells #[.bool true, .bool false, .int .i64 (dr (ew bs root page 0)), .int .i64 (df (ew bs root page 0))] 71)
  replace h := h.alloc (.cells #[.bool true, .bool false, .int .i64 (dr (ew bs root page 0)), .int .i64 (df (ew bs root page 0))] 71)
  replace f1 := f1.alloc (.cells #[.bool true, .bool false, .int .i64 (dr (ew bs root page 0)), .int .i64 (df (ew bs root page 0))] 71)
  obtain ⟨c0x0, c0x1, c0x2, c0x3⟩ := row4 r9
  go_wp2_with fail
  refine (rentry_bad _ _ _ _ _ _ _ _ h hp (Or.inr rfl) hj).mono ?_
  rintro e v2 ⟨rfl, g2⟩
  clear c0x0 c0x1 c0x2 c0x3
  replace r8 := r8.keep g2 (fun h => h)
  replace r9 := r9.keep g2 (fun h => h)
  replace h := h.keep g2 (fun h => h) (fun h => h)
  replace f1 := f1.trans g2
  clear g2
  have r11 := row_alloc v2 #[.bool false, .bool false, .int .i64 0, .int .i64 0] 71
  replace r8 := r8.alloc (.cells #[.bool false, .bool false, .int .i64 0, .int .i64 0] 71)
  replace r9 := r9.alloc (.cells #[.bool false, .bool false, .int .i64 0, .int .i64 0] 71)
  replace h := h.alloc (.cells #[.bool false, .bool false, .int .i64 0, .int .i64 0] 71)
  replace f1 := f1.alloc (.cells #[.bool false, .bool false, .int .i64 0, .int .i64 0] 71)
  obtain ⟨c1x0, c1x1, c1x2, c1x3, c1x4⟩ := cells5 r8
  obtain ⟨z2x0, z2x1, z2x2, z2x3, z2x4⟩ := frozen5 r8
  go_wp2_with fail
  refine bodyPost_ret (ret_ttf rfl rfl (r8.put5 _ _ _ _ _) rfl) rfl ?_
  exact ⟨rfl, f1.put5 (Or.inl (Nat.le_refl _)) _ _ _ _ _⟩

set_option maxHeartbeats 2000000 in
theorem rsingle_ok (w : World) (p bf nf : Nat) (bs : List UInt8) (root page : Int) (h : IsRef w p bf nf bs) (hp : isP page = true) (hk : entK bs nf root page 0 = 0) (hj : entK bs nf (df (ew bs root page 0)) page 1 = 0) :
    Calls Tryz.prog 24 #[.pointer (some ⟨p, 0, none⟩), .int .i64 root, .int .i64 page] w fun e w' => e = .returned (.tuple #[.int .i64 (df (ew bs (df (ew bs root page 0)) page 1)), .int .i64 (dr (ew bs (df (ew bs root page 0)) page 1)), .agg #[.int .i64 0, .int .i64 0, .int .i64 0, .bool false, .int .i64 0]]) ∧ Fr none' w w' := by
  have f1 := Fr.refl none' w
  have t0 : decide (page < 0) = false := decide_eq_false (by have := isP_iff.1 hp; omega)
  have t1 : decide (1023 < page) = false := decide_eq_false (by have := isP_iff.1 hp; omega)
  have r8 := row_alloc w #[.int .i64 0, .int .i64 0, .int .i64 0, .bool false, .int .i64 0] 50
  replace h := h.alloc (.cells #[.int .i64 0, .int .i64 0, .int .i64 0, .bool false, .int .i64 0] 50)
  replace f1 := f1.alloc (.cells #[.int .i64 0, .int .i64 0, .int .i64 0, .bool false, .int .i64 0] 50)
  go_enter Tryz.func24, Tryz.ntmps24
  go_wp2_with fail
  refine (rentry_ok _ _ _ _ _ _ _ _ h hp (Or.inl rfl) hk).mono ?_
  rintro e v1 ⟨rfl, g1⟩
  replace r8 := r8.keep g1 (fun h => h)
  replace h := h.keep g1 (fun h => h) (fun h => h)
  replace f1 := f1.trans g1
  clear g1
  have r9 := row_alloc v1 #[.bool true, .bool false, .int .i64 (dr (ew bs root page 0)), .int .i64 (df (ew bs root page 0))] 71
  replace r8 := r8.alloc (.cells #[.bool true, .bool false, .int .i64 (dr (ew bs root page 0)), .int .i64 (df (ew bs root page 0))] 71)
  replace h := h.alloc (.cells #[.bool true, .bool false, .int .i64 (dr (ew bs root page 0)), .int .i64 (df (ew bs root page 0))] 71)
  replace f1 := f1.alloc (.cells #[.bool true, .bool false, .int .i64 (dr (ew bs root page 0)), .int .i64 (df (ew bs root page 0))] 71)
  obtain ⟨c0x0, c0x1, c0x2, c0x3⟩ := row4 r9
  go_wp2_with fail
  refine (rentry_ok _ _ _ _ _ _ _ _ h hp (Or.inr rfl) hj).mono ?_
  rintro e v2 ⟨rfl, g2⟩
  clear c0x0 c0x1 c0x2 c0x3
  replace r8 := r8.keep g2 (fun h => h)
  replace r9 := r9.keep g2 (fun h => h)
  replace h := h.keep g2 (fun h => h) (fun h => h)
  replace f1 := f1.trans g2
  clear g2
  have r11 := row_alloc v2 #[.bool true, .bool true, .int .i64 (dr (ew bs (df (ew bs root page 0)) page 1)), .int .i64 (df (ew bs (df (ew bs root page 0)) page 1))] 71
  replace r8 := r8.alloc (.cells #[.bool true, .bool true, .int .i64 (dr (ew bs (df (ew bs root page 0)) page 1)), .int .i64 (df (ew bs (df (ew bs root page 0)) page 1))] 71)
  replace r9 := r9.alloc (.cells #[.bool true, .bool true, .int .i64 (dr (ew bs (df (ew bs root page 0)) page 1)), .int .i64 (df (ew bs (df (ew bs root page 0)) page 1))] 71)
  replace h := h.alloc (.cells #[.bool true, .bool true, .int .i64 (dr (ew bs (df (ew bs root page 0)) page 1)), .int .i64 (df (ew bs (df (ew bs root page 0)) page 1))] 71)
  replace f1 := f1.alloc (.cells #[.bool true, .bool true, .int .i64 (dr (ew bs (df (ew bs root page 0)) page 1)), .int .i64 (df (ew bs (df (ew bs root page 0)) page 1))] 71)
  obtain ⟨c1x0, c1x1, c1x2, c1x3⟩ := row4 r11
  obtain ⟨c2x0, c2x1, c2x2, c2x3, c2x4⟩ := cells5 r8
  obtain ⟨z3x0, z3x1, z3x2, z3x3, z3x4⟩ := frozen5 r8
  go_wp2_with fail
  go_region
  go_wp2_with fail
  refine bodyPost_ret (ret_ttf rfl rfl (r8.put5 _ _ _ _ _).drew rfl) rfl ?_
  exact ⟨rfl, (f1.put5 (Or.inl (Nat.le_refl _)) _ _ _ _ _).drew⟩

theorem rsingle_any (w : World) (p bf nf : Nat) (bs : List UInt8) (root page : Int) (h : IsRef w p bf nf bs) :
    Calls Tryz.prog 24 #[.pointer (some ⟨p, 0, none⟩), .int .i64 root, .int .i64 page] w fun e w' => e = .returned (.tuple #[.int .i64 (single bs nf root page).fr, .int .i64 (single bs nf root page).ri, .agg #[.int .i64 (single bs nf root page).ft.k, .int .i64 (single bs nf root page).ft.s, .int .i64 (single bs nf root page).ft.l, .bool (single bs nf root page).ft.wk, .int .i64 (single bs nf root page).ft.p]]) ∧ Fr none' w w' := by
  rcases single_cases bs nf root page with ⟨hp, e⟩ | ⟨hp, h1, e⟩ | ⟨hp, h1, h2, e⟩ | ⟨hp, h1, h2, e⟩
  · rw [e]
    have hn : ¬ (0 ≤ page ∧ page ≤ 1023) := fun hh => by rw [isP_iff.2 hh] at hp; exact absurd hp (by decide)
    by_cases h0 : page < 0
    · exact rsingle_lo w p root page h0
    · exact rsingle_hi w p root page h0 (by omega)
  · rw [e]; exact rsingle_bad0 w p bf nf bs root page h hp h1
  · rw [e]; exact rsingle_bad1 w p bf nf bs root page h hp h1 h2
  · rw [e]; exact rsingle_ok w p bf nf bs root page h hp h1 h2

set_option maxHeartbeats 2000000 in
theorem rwith_bad (w : World) (p bf nf : Nat) (bs : List UInt8) (root page want : Int) (h : IsRef w p bf nf bs) (x : Res) (hx : single bs nf root page = x) (hk : x.ft.k ≠ 0) :
    Calls Tryz.prog 162 #[.pointer (some ⟨p, 0, none⟩), .int .i64 root, .int .i64 page, .int .i64 want] w fun e w' => e = .returned (.tuple #[.int .i64 0, .int .i64 0, .agg #[.int .i64 x.ft.k, .int .i64 x.ft.s, .int .i64 x.ft.l, .bool x.ft.wk, .int .i64 x.ft.p]]) ∧ Fr none' w w' := by
  have f1 := Fr.refl none' w
  have t2 : (x.ft.k != 0) = true := by simp [hk]
  clear hk
  have hs := fun w0 h0 => rsingle_any w0 p bf nf bs root page h0
  rw [hx] at hs
  clear hx
  have r10 := row_alloc w #[.int .i64 0, .int .i64 0, .int .i64 0, .bool false, .int .i64 0] 50
  replace h := h.alloc (.cells #[.int .i64 0, .int .i64 0, .int .i64 0, .bool false, .int .i64 0] 50)
  replace f1 := f1.alloc (.cells #[.int .i64 0, .int .i64 0, .int .i64 0, .bool false, .int .i64 0] 50)
  go_enter Tryz.func162, Tryz.ntmps162
  go_wp2_with fail
  refine (hs _ h).mono ?_
  rintro e v1 ⟨rfl, g1⟩
  replace r10 := r10.keep g1 (fun h => h)
  replace h := h.keep g1 (fun h => h) (fun h => h)
  replace f1 := f1.trans g1
  clear g1
  have r13 := row_alloc v1 #[.int .i64 x.ft.k, .int .i64 x.ft.s, .int .i64 x.ft.l, .bool x.ft.wk, .int .i64 x.ft.p] 50
  replace r10 := r10.alloc (.cells #[.int .i64 x.ft.k, .int .i64 x.ft.s, .int .i64 x.ft.l, .bool x.ft.wk, .int .i64 x.ft.p] 50)
  replace h := h.alloc (.cells #[.int .i64 x.ft.k, .int .i64 x.ft.s, .int .i64 x.ft.l, .bool x.ft.wk, .int .i64 x.ft.p] 50)
  replace f1 := f1.alloc (.cells #[.int .i64 x.ft.k, .int .i64 x.ft.s, .int .i64 x.ft.l, .bool x.ft.wk, .int .i64 x.ft.p] 50)
  obtain ⟨c0x0, c0x1, c0x2, c0x3, c0x4⟩ := cells5 r13
  obtain ⟨c1x0, c1x1, c1x2, c1x3, c1x4⟩ := cells5 r10
  obtain ⟨z2x0, z2x1, z2x2, z2x3, z2x4⟩ := frozen5 r10
  go_wp2_with fail
  go_region
  go_wp2_with fail
  refine bodyPost_ret (ret_ttf rfl rfl (r10.put5 _ _ _ _ _).drew rfl) rfl ?_
  exact ⟨rfl, (f1.put5 (Or.inl (Nat.le_refl _)) _ _ _ _ _).drew⟩

set_option maxHeartbeats 2000000 in
theorem rwith_no (w : World) (p bf nf : Nat) (bs : List UInt8) (root page want : Int) (h : IsRef w p bf nf bs) (x : Res) (hx : single bs nf root page = x) (hk : x.ft.k = 0) (hb : bits .and .i64 x.ri want = 0) :
    Calls Tryz.prog 162 #[.pointer (some ⟨p, 0, none⟩), .int .i64 root, .int .i64 page, .int .i64 want] w fun e w' => e = .returned (.tuple #[.int .i64 0, .int .i64 0, .agg #[.int .i64 2, .int .i64 2, .int .i64 1, .bool false, .int .i64 page]]) ∧ Fr none' w w' := by
  have f1 := Fr.refl none' w
  have t2 : (x.ft.k != 0) = false := by simp [hk]
  have t3 : (bits .and .i64 x.ri want == 0) = true := by simp [hb]
  clear hk hb
  have hs := fun w0 h0 => rsingle_any w0 p bf nf bs root page h0
  rw [hx] at hs
  clear hx
  have r10 := row_alloc w #[.int .i64 0, .int .i64 0, .int .i64 0, .bool false, .int .i64 0] 50
  replace h := h.alloc (.cells #[.int .i64 0, .int .i64 0, .int .i64 0, .bool false, .int .i64 0] 50)
  replace f1 := f1.alloc (.cells #[.int .i64 0, .int .i64 0, .int .i64 0, .bool false, .int .i64 0] 50)
  go_enter Tryz.func162, Tryz.ntmps162
  go_wp2_with fail
  refine (hs _ h).mono ?_
  rintro e v1 ⟨rfl, g1⟩
  replace r10 := r10.keep g1 (fun h => h)
  replace h := h.keep g1 (fun h => h) (fun h => h)
  replace f1 := f1.trans g1
  clear g1
  have r13 := row_alloc v1 #[.int .i64 x.ft.k, .int .i64 x.ft.s, .int .i64 x.ft.l, .bool x.ft.wk, .int .i64 x.ft.p] 50
  replace r10 := r10.alloc (.cells #[.int .i64 x.ft.k, .int .i64 x.ft.s, .int .i64 x.ft.l, .bool x.ft.wk, .int .i64 x.ft.p] 50)
  replace h := h.alloc (.cells #[.int .i64 x.ft.k, .int .i64 x.ft.s, .int .i64 x.ft.l, .bool x.ft.wk, .int .i64 x.ft.p] 50)
  replace f1 := f1.alloc (.cells #[.int .i64 x.ft.k, .int .i64 x.ft.s, .int .i64 x.ft.l, .bool x.ft.wk, .int .i64 x.ft.p] 50)
  obtain ⟨c0x0, c0x1, c0x2, c0x3, c0x4⟩ := cells5 r13
  obtain ⟨c1x0, c1x1, c1x2, c1x3, c1x4⟩ := cells5 r10
  obtain ⟨z2x0, z2x1, z2x2, z2x3, z2x4⟩ := frozen5 r10
  go_wp2_with fail
  refine bodyPost_ret (ret_ttf rfl rfl (r10.put5 _ _ _ _ _) rfl) rfl ?_
  exact ⟨rfl, f1.put5 (Or.inl (Nat.le_refl _)) _ _ _ _ _⟩

set_option maxHeartbeats 2000000 in
theorem rwith_yes (w : World) (p bf nf : Nat) (bs : List UInt8) (root page want : Int) (h : IsRef w p bf nf bs) (x : Res) (hx : single bs nf root page = x) (hk : x.ft.k = 0) (hb : bits .and .i64 x.ri want ≠ 0) :
    Calls Tryz.prog 162 #[.pointer (some ⟨p, 0, none⟩), .int .i64 root, .int .i64 page, .int .i64 want] w fun e w' => e = .returned (.tuple #[.int .i64 x.fr, .int .i64 x.ri, .agg #[.int .i64 x.ft.k, .int .i64 x.ft.s, .int .i64 x.ft.l, .bool x.ft.wk, .int .i64 x.ft.p]]) ∧ Fr none' w w' := by
  have f1 := Fr.refl none' w
  have t2 : (x.ft.k != 0) = false := by simp [hk]
  have t3 : (bits .and .i64 x.ri want == 0) = false := by simp [hb]
  clear hk hb
  have hs := fun w0 h0 => rsingle_any w0 p bf nf bs root page h0
  rw [hx] at hs
  clear hx
  have r10 := row_alloc w #[.int .i64 0, .int .i64 0, .int .i64 0, .bool false, .int .i64 0] 50
  replace h := h.alloc (.cells #[.int .i64 0, .int .i64 0, .int .i64 0, .bool false, .int .i64 0] 50)
  replace f1 := f1.alloc (.cells #[.int .i64 0, .int .i64 0, .int .i64 0, .bool false, .int .i64 0] 50)
  go_enter Tryz.func162, Tryz.ntmps162
  go_wp2_with fail
  refine (hs _ h).mono ?_
  rintro e v1 ⟨rfl, g1⟩
  replace r10 := r10.keep g1 (fun h => h)
  replace h := h.keep g1 (fun h => h) (fun h => h)
  replace f1 := f1.trans g1
  clear g1
  have r13 := row_alloc v1 #[.int .i64 x.ft.k, .int .i64 x.ft.s, .int .i64 x.ft.l, .bool x.ft.wk, .int .i64 x.ft.p] 50
  replace r10 := r10.alloc (.cells #[.int .i64 x.ft.k, .int .i64 x.ft.s, .int .i64 x.ft.l, .bool x.ft.wk, .int .i64 x.ft.p] 50)
  replace h := h.alloc (.cells #[.int .i64 x.ft.k, .int .i64 x.ft.s, .int .i64 x.ft.l, .bool x.ft.wk, .int .i64 x.ft.p] 50)
  replace f1 := f1.alloc (.cells #[.int .i64 x.ft.k, .int .i64 x.ft.s, .int .i64 x.ft.l, .bool x.ft.wk, .int .i64 x.ft.p] 50)
  obtain ⟨c0x0, c0x1, c0x2, c0x3, c0x4⟩ := cells5 r13
  obtain ⟨c1x0, c1x1, c1x2, c1x3, c1x4⟩ := cells5 r10
  obtain ⟨z2x0, z2x1, z2x2, z2x3, z2x4⟩ := frozen5 r10
  go_wp2_with fail
  go_region
  go_wp2_with fail
  refine bodyPost_ret (ret_ttf rfl rfl (r10.put5 _ _ _ _ _).drew rfl) rfl ?_
  exact ⟨rfl, (f1.put5 (Or.inl (Nat.le_refl _)) _ _ _ _ _).drew⟩

theorem rwith_any (w : World) (p bf nf : Nat) (bs : List UInt8) (root page want : Int) (h : IsRef w p bf nf bs) :
    Calls Tryz.prog 162 #[.pointer (some ⟨p, 0, none⟩), .int .i64 root, .int .i64 page, .int .i64 want] w fun e w' => e = .returned (.tuple #[.int .i64 (granted bs nf root page want).fr, .int .i64 (granted bs nf root page want).ri, .agg #[.int .i64 (granted bs nf root page want).ft.k, .int .i64 (granted bs nf root page want).ft.s, .int .i64 (granted bs nf root page want).ft.l, .bool (granted bs nf root page want).ft.wk, .int .i64 (granted bs nf root page want).ft.p]]) ∧ Fr none' w w' := by
  rcases granted_cases bs nf root page want with ⟨h1, e⟩ | ⟨h1, h2, e⟩ | ⟨h1, h2, e⟩
  · rw [e]
    have z := single_zero bs nf root page h1
    rw [z.1, z.2]
    exact rwith_bad w p bf nf bs root page want h _ rfl h1
  · rw [e]; exact rwith_no w p bf nf bs root page want h _ rfl h1 h2
  · rw [e]; exact rwith_yes w p bf nf bs root page want h _ rfl h1 h2

end Go.Proofs.YtgnoakidjnilpaaGreat

/- CpuExample -/
namespace Go.Proofs.YtgnoakidjnilpaaGreat
open Go.RowKit

theorem size_world : (Tryz.prog.info? 25).map (·.size) = some 5 := by kernel_rfl
theorem ret_world {fn : Func} {p : Tmp} {tmps : Array Value} {g : Nat} {cs : Array Value} {w : World} (h : fn.results = #[.cell p 25]) (hp : tmps.getD p undef = .pointer (some ⟨g, 0, none⟩)) (hr : Row w g cs 25) (hs : cs.size = 5) :
    (results fn tmps).run Tryz.prog w = .ok (.agg cs) w :=
  results_cell_row h tmps w g _ cs (0, 0) _ hp hr Tryz.underlying25 rfl (by rw [hs]; exact size_world)
theorem size_entry : (Tryz.prog.info? 71).map (·.size) = some 4 := by kernel_rfl
theorem ret_entry {fn : Func} {p : Tmp} {tmps : Array Value} {g : Nat} {cs : Array Value} {w : World} (h : fn.results = #[.cell p 71]) (hp : tmps.getD p undef = .pointer (some ⟨g, 0, none⟩)) (hr : Row w g cs 71) (hs : cs.size = 4) :
    (results fn tmps).run Tryz.prog w = .ok (.agg cs) w :=
  results_cell_row h tmps w g _ cs (0, 0) _ hp hr Tryz.underlying71 rfl (by rw [hs]; exact size_entry)

theorem leaf_any (w : World) (f r : Int) : Calls Tryz.prog 66 #[.int .i64 f, .int .i64 r] w fun e w' => e = .returned (.agg #[.bool true, .bool true, .int .i64 r, .int .i64 f]) ∧ Fr none' w w' := by
  go_enter Tryz.func66, Tryz.ntmps66
  go_wp2_with fail
  refine bodyPost_ret (ret_entry rfl rfl (row_alloc _ _ _) rfl) rfl ?_
  exact ⟨rfl, (Fr.refl _ w).alloc _⟩

def exP : Nat → Pu
  | 0 => ⟨3, 0, true, false, 0, 4⟩
  | 1 => ⟨4, 0, true, true, 5, 1⟩
  | _ => ⟨4, 1, true, true, 3, 2⟩
def exQ (W : Nat) : Nat → Wo
  | 0 => ⟨64, W⟩
  | _ => ⟨128, 77⟩
/-- The example's memory. -/
def exB (W : Nat) : List UInt8 := wB (pB exP 3) (exQ W) 2

set_option maxHeartbeats 4000000 in
set_option maxRecDepth 100000 in
theorem example_any (w : World) (o a b c i : Int) (g : Bool) (W : Nat) (hW : i_encW o a b c i = W) (hWl : W < 4294967296) :
    Calls Tryz.prog 26 #[.agg #[.int .i64 o, .int .i64 a, .int .i64 b, .int .i64 c, .int .i64 i], .bool g] w fun e w' => ∃ a0 a1, e = .returned (.agg #[.slice a0 3 3, .slice a1 2 2, .bool g, .int .i64 1, .int .i64 3]) ∧ Fr none' w w' ∧ Pus w' a0 3 exP ∧ Wos w' a1 2 (exQ W) := by
  have hE := fun w1 => i_enc_any o a b c i w1
  rw [hW] at hE
  have f0 := ((Fr.refl none' w).alloc (.cells #[.int .i64 o, .int .i64 a, .int .i64 b, .int .i64 c, .int .i64 i] 84)).alloc (.cells #[.slice none 0 0, .slice none 0 0, .bool false, .int .i64 0, .int .i64 0] 25)
  have rr := row_at (W := w.alloc (.cells #[.int .i64 o, .int .i64 a, .int .i64 b, .int .i64 c, .int .i64 i] 84)) (n := w.heap.size + 1) (cs := #[.slice none 0 0, .slice none 0 0, .bool false, .int .i64 0, .int .i64 0]) (t := 25) (by simp)
  clear hW
  go_enter Tryz.func26, Tryz.ntmps26
  go_wp2_with fail
  refine (hE _).mono ?_
  rintro e v1 ⟨rfl, g1⟩
  replace f0 := f0.trans g1
  replace rr := rr.keep g1 (fun h => h)
  clear g1 hE
  go_wp2_with fail
  refine (leaf_any _ _ _).mono ?_
  rintro e v2 ⟨rfl, g2⟩
  replace f0 := f0.trans g2
  replace rr := rr.keep g2 (fun h => h)
  clear g2
  go_wp2_with fail
  refine (leaf_any _ _ _).mono ?_
  rintro e v3 ⟨rfl, g3⟩
  replace f0 := f0.trans g3
  replace rr := rr.keep g3 (fun h => h)
  clear g3
  have hlt := rr.lt
  have HG : Hid (w.heap.size + 1 < v3.heap.size) := hlt
  clear hlt
  have f4 := (f0.alloc (.cells #[.int .i64 3, .int .i64 0, .bool true, .bool false, .int .i64 0, .int .i64 4, .int .i64 4, .int .i64 0, .bool true, .bool true, .int .i64 5, .int .i64 1, .int .i64 4, .int .i64 1, .bool true, .bool true, .int .i64 3, .int .i64 2] 96)).alloc (.cells #[.int .i64 64, .int .u32 (W : Int), .int .i64 128, .int .u32 77] 99)
  have rr2 := (rr.alloc (.cells #[.int .i64 3, .int .i64 0, .bool true, .bool false, .int .i64 0, .int .i64 4, .int .i64 4, .int .i64 0, .bool true, .bool true, .int .i64 5, .int .i64 1, .int .i64 4, .int .i64 1, .bool true, .bool true, .int .i64 3, .int .i64 2] 96)).alloc (.cells #[.int .i64 64, .int .u32 (W : Int), .int .i64 128, .int .u32 77] 99)
  have rp := (row_alloc v3 #[.int .i64 3, .int .i64 0, .bool true, .bool false, .int .i64 0, .int .i64 4, .int .i64 4, .int .i64 0, .bool true, .bool true, .int .i64 5, .int .i64 1, .int .i64 4, .int .i64 1, .bool true, .bool true, .int .i64 3, .int .i64 2] 96).alloc (.cells #[.int .i64 64, .int .u32 (W : Int), .int .i64 128, .int .u32 77] 99)
  have rw' := row_at (W := v3.alloc (.cells #[.int .i64 3, .int .i64 0, .bool true, .bool false, .int .i64 0, .int .i64 4, .int .i64 4, .int .i64 0, .bool true, .bool true, .int .i64 5, .int .i64 1, .int .i64 4, .int .i64 1, .bool true, .bool true, .int .i64 3, .int .i64 2] 96)) (n := v3.heap.size + 1) (cs := #[.int .i64 64, .int .u32 (W : Int), .int .i64 128, .int .u32 77]) (t := 99) (by simp)
  obtain ⟨z0, z1, z2, z3, z4⟩ := frozen5 rr2
  obtain ⟨x0, x1, x2, x3, x4⟩ := cells5 rr2
  go_wp2_with fail
  obtain ⟨v4, hv4⟩ : ∃ v4, v4 = (v3.alloc (.cells #[.int .i64 3, .int .i64 0, .bool true, .bool false, .int .i64 0, .int .i64 4, .int .i64 4, .int .i64 0, .bool true, .bool true, .int .i64 5, .int .i64 1, .int .i64 4, .int .i64 1, .bool true, .bool true, .int .i64 3, .int .i64 2] 96)).alloc (.cells #[.int .i64 64, .int .u32 (W : Int), .int .i64 128, .int .u32 77] 99) := ⟨_, rfl⟩
  rw [← hv4] at rr2 rp rw' f4 ⊢
  clear hv4 x0 x1 x2 x3 x4 z0 z1 z2 z3 z4
  refine bodyPost_ret (ret_world rfl rfl (row_set5' rr2 _ _ _ _ _) rfl) rfl ?_
  have q := fr_own5 v4 (w.heap.size + 1) (.slice (some ⟨v3.heap.size, 0, none⟩) 3 3) (.slice (some ⟨v3.heap.size + 1, 0, none⟩) 2 2) (.bool g) (.int .i64 1) (.int .i64 3)
  have hp := rp.keep q (show v3.heap.size ≠ w.heap.size + 1 by have := HG.out; omega)
  have hw := rw'.keep q (show v3.heap.size + 1 ≠ w.heap.size + 1 by have := HG.out; omega)
  refine ⟨_, _, rfl, f4.newer q (by omega), fun k hk => ?_, fun k hk => ?_⟩
  · have hk3 : k = 0 ∨ k = 1 ∨ k = 2 := by omega
    rcases hk3 with rfl | rfl | rfl
    · exact ⟨_, _, rfl, hp.cell 0, hp.cell 1, hp.cell 2, hp.cell 3, hp.cell 4, hp.cell 5⟩
    · exact ⟨_, _, rfl, hp.cell 6, hp.cell 7, hp.cell 8, hp.cell 9, hp.cell 10, hp.cell 11⟩
    · exact ⟨_, _, rfl, hp.cell 12, hp.cell 13, hp.cell 14, hp.cell 15, hp.cell 16, hp.cell 17⟩
  · have hk2 : k = 0 ∨ k = 1 := by omega
    rcases hk2 with rfl | rfl
    · exact ⟨_, _, rfl, hw.cell 0, hw.cell 1, (by decide : (64 : Int) ≤ 9223372036854775807), hWl⟩
    · exact ⟨_, _, rfl, hw.cell 2, hw.cell 3, (by decide : (128 : Int) ≤ 9223372036854775807), (by decide : (77 : Nat) < 4294967296)⟩

/-- The example, made. -/
theorem exmade_any (w : World) (a0 a1 : Option Addr) (g : Bool) (W : Nat) (hP : Pus w a0 3 exP) (hQ : Wos w a1 2 (exQ W)) :
    Calls Tryz.prog 8 #[.agg #[.slice a0 3 3, .slice a1 2 2, .bool g, .int .i64 1, .int .i64 3]] w fun e w' => ∃ O : Bo, e = .returned (.tuple #[.agg O.a, .bool true]) ∧ Fr none' w w' ∧ IsBo w' w.heap.size O (M0 (exB W) g) :=
  made_any w a0 a1 3 3 2 2 g 1 3 exP (exQ W) (by decide) (by decide) hP hQ

end Go.Proofs.YtgnoakidjnilpaaGreat

/- CpuAwake -/
namespace Go.Proofs.YtgnoakidjnilpaaGreat
open Go.RowKit

theorem cpA_eq (c : Cp) : cpA c = #[.int .u32 ((c.r 0 : Nat) : Int), .int .u32 ((c.r 1 : Nat) : Int), .int .u32 ((c.r 2 : Nat) : Int), .int .u32 ((c.r 3 : Nat) : Int), .int .u32 ((c.r 4 : Nat) : Int), .int .u32 ((c.r 5 : Nat) : Int), .int .u32 ((c.r 6 : Nat) : Int), .int .u32 ((c.r 7 : Nat) : Int), .int .u32 ((c.r 8 : Nat) : Int), .int .u32 ((c.r 9 : Nat) : Int), .int .u32 ((c.r 10 : Nat) : Int), .int .u32 ((c.r 11 : Nat) : Int), .int .u32 ((c.r 12 : Nat) : Int), .int .u32 ((c.r 13 : Nat) : Int), .int .u32 ((c.r 14 : Nat) : Int), .int .u32 ((c.r 15 : Nat) : Int), .int .i64 c.pc, .int .u32 ((c.s 0 : Nat) : Int), .int .u32 ((c.s 1 : Nat) : Int), .int .u32 ((c.s 2 : Nat) : Int), .int .u32 ((c.s 3 : Nat) : Int), .int .u32 ((c.s 4 : Nat) : Int), .int .u32 ((c.s 5 : Nat) : Int), .int .u32 ((c.s 6 : Nat) : Int), .int .u32 ((c.s 7 : Nat) : Int)] := rfl
theorem zcA_eq : cpA zc = #[.int .u32 0, .int .u32 0, .int .u32 0, .int .u32 0, .int .u32 0, .int .u32 0, .int .u32 0, .int .u32 0, .int .u32 0, .int .u32 0, .int .u32 0, .int .u32 0, .int .u32 0, .int .u32 0, .int .u32 0, .int .u32 0, .int .i64 0, .int .u32 0, .int .u32 0, .int .u32 0, .int .u32 0, .int .u32 0, .int .u32 0, .int .u32 0, .int .u32 0] := rfl
theorem inA_eq : cpA (zc.setR 1 64) = #[.int .u32 0, .int .u32 64, .int .u32 0, .int .u32 0, .int .u32 0, .int .u32 0, .int .u32 0, .int .u32 0, .int .u32 0, .int .u32 0, .int .u32 0, .int .u32 0, .int .u32 0, .int .u32 0, .int .u32 0, .int .u32 0, .int .i64 0, .int .u32 0, .int .u32 0, .int .u32 0, .int .u32 0, .int .u32 0, .int .u32 0, .int .u32 0, .int .u32 0] := rfl
theorem cells25 {w : World} {g : Nat} {c0 c1 c2 c3 c4 c5 c6 c7 c8 c9 c10 c11 c12 c13 c14 c15 c16 c17 c18 c19 c20 c21 c22 c23 c24 : Value} {t : TypeId} (h : Row w g #[c0, c1, c2, c3, c4, c5, c6, c7, c8, c9, c10, c11, c12, c13, c14, c15, c16, c17, c18, c19, c20, c21, c22, c23, c24] t) : w.cell? ⟨g, 0, none⟩ = some c0 ∧ w.cell? ⟨g, 1, none⟩ = some c1 ∧ w.cell? ⟨g, 2, none⟩ = some c2 ∧ w.cell? ⟨g, 3, none⟩ = some c3 ∧ w.cell? ⟨g, 4, none⟩ = some c4 ∧ w.cell? ⟨g, 5, none⟩ = some c5 ∧ w.cell? ⟨g, 6, none⟩ = some c6 ∧ w.cell? ⟨g, 7, none⟩ = some c7 ∧ w.cell? ⟨g, 8, none⟩ = some c8 ∧ w.cell? ⟨g, 9, none⟩ = some c9 ∧ w.cell? ⟨g, 10, none⟩ = some c10 ∧ w.cell? ⟨g, 11, none⟩ = some c11 ∧ w.cell? ⟨g, 12, none⟩ = some c12 ∧ w.cell? ⟨g, 13, none⟩ = some c13 ∧ w.cell? ⟨g, 14, none⟩ = some c14 ∧ w.cell? ⟨g, 15, none⟩ = some c15 ∧ w.cell? ⟨g, 16, none⟩ = some c16 ∧ w.cell? ⟨g, 17, none⟩ = some c17 ∧ w.cell? ⟨g, 18, none⟩ = some c18 ∧ w.cell? ⟨g, 19, none⟩ = some c19 ∧ w.cell? ⟨g, 20, none⟩ = some c20 ∧ w.cell? ⟨g, 21, none⟩ = some c21 ∧ w.cell? ⟨g, 22, none⟩ = some c22 ∧ w.cell? ⟨g, 23, none⟩ = some c23 ∧ w.cell? ⟨g, 24, none⟩ = some c24 := ⟨h.cell 0, h.cell 1, h.cell 2, h.cell 3, h.cell 4, h.cell 5, h.cell 6, h.cell 7, h.cell 8, h.cell 9, h.cell 10, h.cell 11, h.cell 12, h.cell 13, h.cell 14, h.cell 15, h.cell 16, h.cell 17, h.cell 18, h.cell 19, h.cell 20, h.cell 21, h.cell 22, h.cell 23, h.cell 24⟩

/-- Step of the example's machine, told cell by cell. -/
theorem exStep (w : World) (B : Bm) (bs : List UInt8) (g : Bool) (c : Cp) (A : Array Value) (hA : cpA c = A) (hok : c.Ok) (hM : IsMc w B 16 (M0 bs g)) :
    Calls Tryz.prog 9 #[.agg #[.pointer (some ⟨B.p, 0, none⟩), .pointer (some ⟨B.bt, 0, none⟩), ptrV (B.v.map Bk.b)], .agg A, .int .i64 1, .int .i64 3, .int .i64 0] w fun e w' => ∃ (c' : Cp) (T : Tr), c' = (stepR 16 (M0 bs g) c 1 3 0).2.1 ∧ T = (stepR 16 (M0 bs g) c 1 3 0).2.2 ∧ e = .returned (.tuple #[.agg #[.int .u32 ((c'.r 0 : Nat) : Int), .int .u32 ((c'.r 1 : Nat) : Int), .int .u32 ((c'.r 2 : Nat) : Int), .int .u32 ((c'.r 3 : Nat) : Int), .int .u32 ((c'.r 4 : Nat) : Int), .int .u32 ((c'.r 5 : Nat) : Int), .int .u32 ((c'.r 6 : Nat) : Int), .int .u32 ((c'.r 7 : Nat) : Int), .int .u32 ((c'.r 8 : Nat) : Int), .int .u32 ((c'.r 9 : Nat) : Int), .int .u32 ((c'.r 10 : Nat) : Int), .int .u32 ((c'.r 11 : Nat) : Int), .int .u32 ((c'.r 12 : Nat) : Int), .int .u32 ((c'.r 13 : Nat) : Int), .int .u32 ((c'.r 14 : Nat) : Int), .int .u32 ((c'.r 15 : Nat) : Int), .int .i64 c'.pc, .int .u32 ((c'.s 0 : Nat) : Int), .int .u32 ((c'.s 1 : Nat) : Int), .int .u32 ((c'.s 2 : Nat) : Int), .int .u32 ((c'.s 3 : Nat) : Int), .int .u32 ((c'.s 4 : Nat) : Int), .int .u32 ((c'.s 5 : Nat) : Int), .int .u32 ((c'.s 6 : Nat) : Int), .int .u32 ((c'.s 7 : Nat) : Int)], .agg #[.int .i64 T.ca, .int .i64 T.nu, .int .i64 T.ad, .int .i64 T.f.k, .int .i64 T.f.s, .int .i64 T.f.l, .bool T.f.wk, .int .i64 T.f.p]]) ∧ Fr B.s w w' ∧ IsMc w' B 16 (stepR 16 (M0 bs g) c 1 3 0).1 := by
  subst hA
  exact (Step_any w B 16 (M0 bs g) c hok 1 3 0 hM (M0_few bs g) (by decide)).mono (fun e w' ⟨a, f, m, _⟩ => ⟨_, _, rfl, rfl, a, f, m⟩)

/-- A machine that others leave alone. -/
theorem isMc_far {w w' : World} {B C : Bm} {nf : Nat} {M : Mc} (h : IsMc w B nf M) (f : Fr C.s w w') (h1 : ∀ k, (B.s k ∨ k = B.p) → ¬ C.s k) : IsMc w' B nf M :=
  h.keep f (h1 _ (Or.inr rfl)) (h1 _ (Or.inl (Or.inl rfl))) (h1 _ (Or.inl (Or.inr (Or.inl rfl)))) (fun k hk => h1 k (Or.inl (Or.inr (Or.inr hk))))

theorem enc_a : i_encW 1 1 0 0 300 = ((17826092 : Nat) : Int) := by decide +kernel
theorem tr_a : (stepR 16 (M0 (exB 17826092) false) zc 1 3 0).2.2.ca = 0 ∧ (stepR 16 (M0 (exB 17826092) false) zc 1 3 0).2.2.nu = 0 ∧ (stepR 16 (M0 (exB 17826092) false) zc 1 3 0).2.2.ad = 0 ∧ (stepR 16 (M0 (exB 17826092) false) zc 1 3 0).2.2.f.k = 0 ∧ (stepR 16 (M0 (exB 17826092) false) zc 1 3 0).2.2.f.s = 0 ∧ (stepR 16 (M0 (exB 17826092) false) zc 1 3 0).2.2.f.l = 0 ∧ (stepR 16 (M0 (exB 17826092) false) zc 1 3 0).2.2.f.wk = false ∧ (stepR 16 (M0 (exB 17826092) false) zc 1 3 0).2.2.f.p = 0 := by decide +kernel
theorem re_a : (stepR 16 (M0 (exB 17826092) false) zc 1 3 0).2.1.r 1 = 300 ∧ (stepR 16 (M0 (exB 17826092) false) zc 1 3 0).2.1.pc = 4 := by decide +kernel
theorem enc_b : i_encW 7 2 1 0 0 = ((119603200 : Nat) : Int) := by decide +kernel
theorem tr_b : (stepR 16 (M0 (exB 119603200) false) (zc.setR 1 64) 1 3 0).2.2.ca = 0 ∧ (stepR 16 (M0 (exB 119603200) false) (zc.setR 1 64) 1 3 0).2.2.nu = 0 ∧ (stepR 16 (M0 (exB 119603200) false) (zc.setR 1 64) 1 3 0).2.2.ad = 0 ∧ (stepR 16 (M0 (exB 119603200) false) (zc.setR 1 64) 1 3 0).2.2.f.k = 0 ∧ (stepR 16 (M0 (exB 119603200) false) (zc.setR 1 64) 1 3 0).2.2.f.s = 0 ∧ (stepR 16 (M0 (exB 119603200) false) (zc.setR 1 64) 1 3 0).2.2.f.l = 0 ∧ (stepR 16 (M0 (exB 119603200) false) (zc.setR 1 64) 1 3 0).2.2.f.wk = false ∧ (stepR 16 (M0 (exB 119603200) false) (zc.setR 1 64) 1 3 0).2.2.f.p = 0 := by decide +kernel
theorem re_b : (stepR 16 (M0 (exB 119603200) false) (zc.setR 1 64) 1 3 0).2.1.r 2 = 77 := by decide +kernel
theorem enc_c : i_encW 17 0 0 0 3 = ((285212675 : Nat) : Int) := by decide +kernel
theorem tr_c : (stepR 16 (M0 (exB 285212675) false) zc 1 3 0).2.2.ca = 8 ∧ (stepR 16 (M0 (exB 285212675) false) zc 1 3 0).2.2.nu = 285212675 ∧ (stepR 16 (M0 (exB 285212675) false) zc 1 3 0).2.2.ad = 0 ∧ (stepR 16 (M0 (exB 285212675) false) zc 1 3 0).2.2.f.k = 0 ∧ (stepR 16 (M0 (exB 285212675) false) zc 1 3 0).2.2.f.s = 0 ∧ (stepR 16 (M0 (exB 285212675) false) zc 1 3 0).2.2.f.l = 0 ∧ (stepR 16 (M0 (exB 285212675) false) zc 1 3 0).2.2.f.wk = false ∧ (stepR 16 (M0 (exB 285212675) false) zc 1 3 0).2.2.f.p = 0 := by decide +kernel
theorem enc_d : i_encW 17 0 0 0 3 = ((285212675 : Nat) : Int) := by decide +kernel
theorem tr_d : (stepR 16 (M0 (exB 285212675) true) zc 1 3 0).2.2.ca = 5 ∧ (stepR 16 (M0 (exB 285212675) true) zc 1 3 0).2.2.nu = 3 ∧ (stepR 16 (M0 (exB 285212675) true) zc 1 3 0).2.2.ad = 0 ∧ (stepR 16 (M0 (exB 285212675) true) zc 1 3 0).2.2.f.k = 0 ∧ (stepR 16 (M0 (exB 285212675) true) zc 1 3 0).2.2.f.s = 0 ∧ (stepR 16 (M0 (exB 285212675) true) zc 1 3 0).2.2.f.l = 0 ∧ (stepR 16 (M0 (exB 285212675) true) zc 1 3 0).2.2.f.wk = false ∧ (stepR 16 (M0 (exB 285212675) true) zc 1 3 0).2.2.f.p = 0 := by decide +kernel

theorem exmade_f (w : World) (a0 a1 : Option Addr) (W : Nat) (hP : Pus w a0 3 exP) (hQ : Wos w a1 2 (exQ W)) :
    Calls Tryz.prog 8 #[.agg #[.slice a0 3 3, .slice a1 2 2, .bool false, .int .i64 1, .int .i64 3]] w fun e w' => ∃ O : Bo, O.B.v = none ∧ e = .returned (.tuple #[.agg #[.pointer (some ⟨O.B.p, 0, none⟩), .pointer (some ⟨O.B.bt, 0, none⟩), .pointer none, .pointer (some ⟨O.pr, 0, none⟩), .pointer (some ⟨O.bu, 0, none⟩), .pointer none], .bool true]) ∧ Fr none' w w' ∧ IsBo w' w.heap.size O (M0 (exB W) false) := by
  refine (exmade_any w a0 a1 false W hP hQ).mono ?_
  rintro e w' ⟨O, rfl, f, h⟩
  have h1 := h.m.vg
  have h2 := h.v
  obtain ⟨⟨p, bf, bt, v⟩, pr, br, bu, vr⟩ := O
  cases v with
  | none =>
    cases vr with
    | none => exact ⟨_, rfl, rfl, f, h⟩
    | some b => exact h2.elim
  | some b => exact h1.elim
theorem exmade_t (w : World) (a0 a1 : Option Addr) (W : Nat) (hP : Pus w a0 3 exP) (hQ : Wos w a1 2 (exQ W)) :
    Calls Tryz.prog 8 #[.agg #[.slice a0 3 3, .slice a1 2 2, .bool true, .int .i64 1, .int .i64 3]] w fun e w' => ∃ (O : Bo) (b : Bk) (vr : Nat), O.B.v = some b ∧ e = .returned (.tuple #[.agg #[.pointer (some ⟨O.B.p, 0, none⟩), .pointer (some ⟨O.B.bt, 0, none⟩), .pointer (some ⟨b.b, 0, none⟩), .pointer (some ⟨O.pr, 0, none⟩), .pointer (some ⟨O.bu, 0, none⟩), .pointer (some ⟨vr, 0, none⟩)], .bool true]) ∧ Fr none' w w' ∧ IsBo w' w.heap.size O (M0 (exB W) true) := by
  refine (exmade_any w a0 a1 true W hP hQ).mono ?_
  rintro e w' ⟨O, rfl, f, h⟩
  have h1 := h.m.vg
  have h2 := h.v
  obtain ⟨⟨p, bf, bt, v⟩, pr, br, bu, vr⟩ := O
  cases v with
  | none => exact h1.elim
  | some b =>
    cases vr with
    | none => exact h2.elim
    | some vr => exact ⟨_, b, vr, rfl, rfl, f, h⟩
theorem ne_new' {a b : Nat} (h : a < b) : ¬ at' a b := fun e => by have e' : b = a := e; omega
theorem IsBo.in {w : World} {n : Nat} {O : Bo} {M : Mc} (h : IsBo w n O M) : ∀ k, (O.B.s k ∨ k = O.B.p) → n ≤ k ∧ k < w.heap.size := fun k hk => ⟨h.new k hk, h.m.ltp k hk⟩

theorem exS_a (w : World) (B : Bm) (hv : B.v = none) (hM : IsMc w B 16 (M0 (exB 17826092) false)) :
    Calls Tryz.prog 9 #[.agg #[.pointer (some ⟨B.p, 0, none⟩), .pointer (some ⟨B.bt, 0, none⟩), .pointer none], .agg #[.int .u32 0, .int .u32 0, .int .u32 0, .int .u32 0, .int .u32 0, .int .u32 0, .int .u32 0, .int .u32 0, .int .u32 0, .int .u32 0, .int .u32 0, .int .u32 0, .int .u32 0, .int .u32 0, .int .u32 0, .int .u32 0, .int .i64 0, .int .u32 0, .int .u32 0, .int .u32 0, .int .u32 0, .int .u32 0, .int .u32 0, .int .u32 0, .int .u32 0], .int .i64 1, .int .i64 3, .int .i64 0] w fun e w' => ∃ A : Array Value, A.size = 25 ∧ A.all (·.oneCell') = true ∧ (A[1]? = some (.int .u32 300) ∧ A[16]? = some (.int .i64 4)) ∧ e = .returned (.tuple #[.agg A, .agg #[.int .i64 0, .int .i64 0, .int .i64 0, .int .i64 0, .int .i64 0, .int .i64 0, .bool false, .int .i64 0]]) ∧ Fr B.s w w' := by
  have h := exStep w B (exB 17826092) false zc _ zcA_eq zc_ok hM
  rw [hv] at h
  refine h.mono ?_
  rintro e w' ⟨c', T, hc, hT, rfl, f, _⟩
  obtain ⟨h1, h2, h3, h4, h5, h6, h7, h8⟩ := tr_a
  rw [← hT] at h1 h2 h3 h4 h5 h6 h7 h8
  obtain ⟨r1, r2⟩ := re_a
  rw [← hc] at r1 r2
  refine ⟨cpA c', cpA_size c', cpA_one c', ⟨by rw [cpA_get, cpL_r c' (by decide), r1]; rfl, by rw [cpA_get, cpL_pc, r2]⟩, ?_, f⟩
  rw [h1, h2, h3, h4, h5, h6, h7, h8]
  rfl

theorem exS_b (w : World) (B : Bm) (hv : B.v = none) (hM : IsMc w B 16 (M0 (exB 119603200) false)) :
    Calls Tryz.prog 9 #[.agg #[.pointer (some ⟨B.p, 0, none⟩), .pointer (some ⟨B.bt, 0, none⟩), .pointer none], .agg #[.int .u32 0, .int .u32 64, .int .u32 0, .int .u32 0, .int .u32 0, .int .u32 0, .int .u32 0, .int .u32 0, .int .u32 0, .int .u32 0, .int .u32 0, .int .u32 0, .int .u32 0, .int .u32 0, .int .u32 0, .int .u32 0, .int .i64 0, .int .u32 0, .int .u32 0, .int .u32 0, .int .u32 0, .int .u32 0, .int .u32 0, .int .u32 0, .int .u32 0], .int .i64 1, .int .i64 3, .int .i64 0] w fun e w' => ∃ A : Array Value, A.size = 25 ∧ A.all (·.oneCell') = true ∧ (A[2]? = some (.int .u32 77) ∧ True) ∧ e = .returned (.tuple #[.agg A, .agg #[.int .i64 0, .int .i64 0, .int .i64 0, .int .i64 0, .int .i64 0, .int .i64 0, .bool false, .int .i64 0]]) ∧ Fr B.s w w' := by
  have h := exStep w B (exB 119603200) false (zc.setR 1 64) _ inA_eq (zc_ok.setR 1 (by decide)) hM
  rw [hv] at h
  refine h.mono ?_
  rintro e w' ⟨c', T, hc, hT, rfl, f, _⟩
  obtain ⟨h1, h2, h3, h4, h5, h6, h7, h8⟩ := tr_b
  rw [← hT] at h1 h2 h3 h4 h5 h6 h7 h8
  have r1 := re_b
  rw [← hc] at r1
  refine ⟨cpA c', cpA_size c', cpA_one c', ⟨by rw [cpA_get, cpL_r c' (by decide), r1]; rfl, trivial⟩, ?_, f⟩
  rw [h1, h2, h3, h4, h5, h6, h7, h8]
  rfl

theorem exS_c (w : World) (B : Bm) (hv : B.v = none) (hM : IsMc w B 16 (M0 (exB 285212675) false)) :
    Calls Tryz.prog 9 #[.agg #[.pointer (some ⟨B.p, 0, none⟩), .pointer (some ⟨B.bt, 0, none⟩), .pointer none], .agg #[.int .u32 0, .int .u32 0, .int .u32 0, .int .u32 0, .int .u32 0, .int .u32 0, .int .u32 0, .int .u32 0, .int .u32 0, .int .u32 0, .int .u32 0, .int .u32 0, .int .u32 0, .int .u32 0, .int .u32 0, .int .u32 0, .int .i64 0, .int .u32 0, .int .u32 0, .int .u32 0, .int .u32 0, .int .u32 0, .int .u32 0, .int .u32 0, .int .u32 0], .int .i64 1, .int .i64 3, .int .i64 0] w fun e w' => ∃ A : Array Value, A.size = 25 ∧ A.all (·.oneCell') = true ∧ (True ∧ True) ∧ e = .returned (.tuple #[.agg A, .agg #[.int .i64 8, .int .i64 285212675, .int .i64 0, .int .i64 0, .int .i64 0, .int .i64 0, .bool false, .int .i64 0]]) ∧ Fr B.s w w' := by
  have h := exStep w B (exB 285212675) false zc _ zcA_eq zc_ok hM
  rw [hv] at h
  refine h.mono ?_
  rintro e w' ⟨c', T, hc, hT, rfl, f, _⟩
  obtain ⟨h1, h2, h3, h4, h5, h6, h7, h8⟩ := tr_c
  rw [← hT] at h1 h2 h3 h4 h5 h6 h7 h8
  clear hc
  skip
  refine ⟨cpA c', cpA_size c', cpA_one c', ⟨trivial, trivial⟩, ?_, f⟩
  rw [h1, h2, h3, h4, h5, h6, h7, h8]
  rfl

theorem exS_d (w : World) (B : Bm) (b : Bk) (hv : B.v = some b) (hM : IsMc w B 16 (M0 (exB 285212675) true)) :
    Calls Tryz.prog 9 #[.agg #[.pointer (some ⟨B.p, 0, none⟩), .pointer (some ⟨B.bt, 0, none⟩), .pointer (some ⟨b.b, 0, none⟩)], .agg #[.int .u32 0, .int .u32 0, .int .u32 0, .int .u32 0, .int .u32 0, .int .u32 0, .int .u32 0, .int .u32 0, .int .u32 0, .int .u32 0, .int .u32 0, .int .u32 0, .int .u32 0, .int .u32 0, .int .u32 0, .int .u32 0, .int .i64 0, .int .u32 0, .int .u32 0, .int .u32 0, .int .u32 0, .int .u32 0, .int .u32 0, .int .u32 0, .int .u32 0], .int .i64 1, .int .i64 3, .int .i64 0] w fun e w' => ∃ A : Array Value, A.size = 25 ∧ A.all (·.oneCell') = true ∧ (True ∧ True) ∧ e = .returned (.tuple #[.agg A, .agg #[.int .i64 5, .int .i64 3, .int .i64 0, .int .i64 0, .int .i64 0, .int .i64 0, .bool false, .int .i64 0]]) ∧ Fr B.s w w' := by
  have h := exStep w B (exB 285212675) true zc _ zcA_eq zc_ok hM
  rw [hv] at h
  refine h.mono ?_
  rintro e w' ⟨c', T, hc, hT, rfl, f, _⟩
  obtain ⟨h1, h2, h3, h4, h5, h6, h7, h8⟩ := tr_d
  rw [← hT] at h1 h2 h3 h4 h5 h6 h7 h8
  clear hc
  skip
  refine ⟨cpA c', cpA_size c', cpA_one c', ⟨trivial, trivial⟩, ?_, f⟩
  rw [h1, h2, h3, h4, h5, h6, h7, h8]
  rfl

set_option maxRecDepth 100000 in
set_option maxHeartbeats 16000000 in
theorem awake_any (w : World) : Calls Tryz.prog 7 #[] w fun e w' => e = .returned (.bool true) ∧ Fr none' w w' := by
  have hz : ∀ w, Sem.run Tryz.prog (zeroValue 30) w = .ok (.agg (cpA zc)) w := zero_cpu
  have f0 := Fr.refl none' w
  go_enter Tryz.func7, Tryz.ntmps7
  go_wp2_with fail
  refine (example_any _ 1 1 0 0 300 false 17826092 enc_a (by decide)).mono ?_
  rintro e xa ⟨sa, qa, rfl, g1, hP, hQ⟩
  replace f0 := f0.trans g1
  have KK : Hid (w.heap.size ≤ xa.heap.size) := f0.size
  have La : Hid (True) := trivial
  clear g1
  go_wp2_with fail
  refine (exmade_f _ _ _ 17826092 hP hQ).mono ?_
  rintro e ya ⟨Oa, va, rfl, g2, hB⟩
  replace f0 := f0.trans g2
  have Ia : Hid (∀ k, (Oa.B.s k ∨ k = Oa.B.p) → xa.heap.size ≤ k ∧ k < ya.heap.size) := hB.in
  have Ja : Hid (xa.heap.size ≤ ya.heap.size) := g2.size
  have Ha := hB.m.keep0 ((Fr.refl none' ya).alloc (.cells #[.pointer (some ⟨Oa.B.p, 0, none⟩), .pointer (some ⟨Oa.B.bt, 0, none⟩), .pointer none, .pointer (some ⟨Oa.pr, 0, none⟩), .pointer (some ⟨Oa.bu, 0, none⟩), .pointer none] 44))
  have ra := row_alloc ya #[.pointer (some ⟨Oa.B.p, 0, none⟩), .pointer (some ⟨Oa.B.bt, 0, none⟩), .pointer none, .pointer (some ⟨Oa.pr, 0, none⟩), .pointer (some ⟨Oa.bu, 0, none⟩), .pointer none] 44
  have g3 := (Fr.refl none' ya).alloc (.cells #[.pointer (some ⟨Oa.B.p, 0, none⟩), .pointer (some ⟨Oa.B.bt, 0, none⟩), .pointer none, .pointer (some ⟨Oa.pr, 0, none⟩), .pointer (some ⟨Oa.bu, 0, none⟩), .pointer none] 44)
  replace f0 := f0.trans g3
  clear g2 hB hP hQ g3
  go_upto_region 2 with fail
  obtain ⟨ua, hu⟩ : ∃ u, u = ya.alloc (.cells #[.pointer (some ⟨Oa.B.p, 0, none⟩), .pointer (some ⟨Oa.B.bt, 0, none⟩), .pointer none, .pointer (some ⟨Oa.pr, 0, none⟩), .pointer (some ⟨Oa.bu, 0, none⟩), .pointer none] 44) := ⟨_, rfl⟩
  rw [← hu] at Ha ra f0 ⊢
  clear hu
  obtain ⟨ga, hg⟩ : ∃ q, q = ya.heap.size := ⟨_, rfl⟩
  rw [← hg] at ra Ia Ja ⊢
  clear hg
  go_wp2_with fail
  refine (example_any _ 7 2 1 0 0 false 119603200 enc_b (by decide)).mono ?_
  rintro e xb ⟨sb, qb, rfl, g1, hP, hQ⟩
  replace Ha := Ha.keep0 g1
  replace ra := ra.keep g1 (fun h => h)
  replace f0 := f0.trans g1
  skip
  have Lb : Hid (ga < xb.heap.size) := ra.lt
  clear g1
  go_wp2_with fail
  refine (exmade_f _ _ _ 119603200 hP hQ).mono ?_
  rintro e yb ⟨Ob, vb, rfl, g2, hB⟩
  replace Ha := Ha.keep0 g2
  replace ra := ra.keep g2 (fun h => h)
  replace f0 := f0.trans g2
  have Ib : Hid (∀ k, (Ob.B.s k ∨ k = Ob.B.p) → xb.heap.size ≤ k ∧ k < yb.heap.size) := hB.in
  have Jb' : Hid (xb.heap.size ≤ yb.heap.size) := g2.size
  have Hb := hB.m.keep0 ((Fr.refl none' yb).alloc (.cells #[.pointer (some ⟨Ob.B.p, 0, none⟩), .pointer (some ⟨Ob.B.bt, 0, none⟩), .pointer none, .pointer (some ⟨Ob.pr, 0, none⟩), .pointer (some ⟨Ob.bu, 0, none⟩), .pointer none] 44))
  have rb := row_alloc yb #[.pointer (some ⟨Ob.B.p, 0, none⟩), .pointer (some ⟨Ob.B.bt, 0, none⟩), .pointer none, .pointer (some ⟨Ob.pr, 0, none⟩), .pointer (some ⟨Ob.bu, 0, none⟩), .pointer none] 44
  have g3 := (Fr.refl none' yb).alloc (.cells #[.pointer (some ⟨Ob.B.p, 0, none⟩), .pointer (some ⟨Ob.B.bt, 0, none⟩), .pointer none, .pointer (some ⟨Ob.pr, 0, none⟩), .pointer (some ⟨Ob.bu, 0, none⟩), .pointer none] 44)
  replace Ha := Ha.keep0 g3
  replace ra := ra.keep g3 (fun h => h)
  replace f0 := f0.trans g3
  clear g2 hB hP hQ g3
  go_upto_region 3 with fail
  obtain ⟨ub, hu⟩ : ∃ u, u = yb.alloc (.cells #[.pointer (some ⟨Ob.B.p, 0, none⟩), .pointer (some ⟨Ob.B.bt, 0, none⟩), .pointer none, .pointer (some ⟨Ob.pr, 0, none⟩), .pointer (some ⟨Ob.bu, 0, none⟩), .pointer none] 44) := ⟨_, rfl⟩
  rw [← hu] at Hb rb f0 Ha ra ⊢
  clear hu
  obtain ⟨gb, hg⟩ : ∃ q, q = yb.heap.size := ⟨_, rfl⟩
  rw [← hg] at rb Ib Jb' ⊢
  clear hg
  go_wp2_with fail
  refine (example_any _ 17 0 0 0 3 false 285212675 enc_c (by decide)).mono ?_
  rintro e xc ⟨sc, qc, rfl, g1, hP, hQ⟩
  replace Ha := Ha.keep0 g1
  replace ra := ra.keep g1 (fun h => h)
  replace Hb := Hb.keep0 g1
  replace rb := rb.keep g1 (fun h => h)
  replace f0 := f0.trans g1
  skip
  have Lc : Hid (gb < xc.heap.size) := rb.lt
  clear g1
  go_wp2_with fail
  refine (exmade_f _ _ _ 285212675 hP hQ).mono ?_
  rintro e yc ⟨Oc, vc, rfl, g2, hB⟩
  replace Ha := Ha.keep0 g2
  replace ra := ra.keep g2 (fun h => h)
  replace Hb := Hb.keep0 g2
  replace rb := rb.keep g2 (fun h => h)
  replace f0 := f0.trans g2
  have Ic : Hid (∀ k, (Oc.B.s k ∨ k = Oc.B.p) → xc.heap.size ≤ k ∧ k < yc.heap.size) := hB.in
  have Jc : Hid (xc.heap.size ≤ yc.heap.size) := g2.size
  have Hc := hB.m.keep0 ((Fr.refl none' yc).alloc (.cells #[.pointer (some ⟨Oc.B.p, 0, none⟩), .pointer (some ⟨Oc.B.bt, 0, none⟩), .pointer none, .pointer (some ⟨Oc.pr, 0, none⟩), .pointer (some ⟨Oc.bu, 0, none⟩), .pointer none] 44))
  have rc := row_alloc yc #[.pointer (some ⟨Oc.B.p, 0, none⟩), .pointer (some ⟨Oc.B.bt, 0, none⟩), .pointer none, .pointer (some ⟨Oc.pr, 0, none⟩), .pointer (some ⟨Oc.bu, 0, none⟩), .pointer none] 44
  have g3 := (Fr.refl none' yc).alloc (.cells #[.pointer (some ⟨Oc.B.p, 0, none⟩), .pointer (some ⟨Oc.B.bt, 0, none⟩), .pointer none, .pointer (some ⟨Oc.pr, 0, none⟩), .pointer (some ⟨Oc.bu, 0, none⟩), .pointer none] 44)
  replace Ha := Ha.keep0 g3
  replace ra := ra.keep g3 (fun h => h)
  replace Hb := Hb.keep0 g3
  replace rb := rb.keep g3 (fun h => h)
  replace f0 := f0.trans g3
  clear g2 hB hP hQ g3
  go_upto_region 4 with fail
  obtain ⟨uc, hu⟩ : ∃ u, u = yc.alloc (.cells #[.pointer (some ⟨Oc.B.p, 0, none⟩), .pointer (some ⟨Oc.B.bt, 0, none⟩), .pointer none, .pointer (some ⟨Oc.pr, 0, none⟩), .pointer (some ⟨Oc.bu, 0, none⟩), .pointer none] 44) := ⟨_, rfl⟩
  rw [← hu] at Hc rc f0 Ha ra Hb rb ⊢
  clear hu
  obtain ⟨gc, hg⟩ : ∃ q, q = yc.heap.size := ⟨_, rfl⟩
  rw [← hg] at rc Ic Jc ⊢
  clear hg
  go_wp2_with fail
  refine (example_any _ 17 0 0 0 3 true 285212675 enc_d (by decide)).mono ?_
  rintro e xd ⟨sd, qd, rfl, g1, hP, hQ⟩
  replace Ha := Ha.keep0 g1
  replace ra := ra.keep g1 (fun h => h)
  replace Hb := Hb.keep0 g1
  replace rb := rb.keep g1 (fun h => h)
  replace Hc := Hc.keep0 g1
  replace rc := rc.keep g1 (fun h => h)
  replace f0 := f0.trans g1
  skip
  have Ld : Hid (gc < xd.heap.size) := rc.lt
  clear g1
  go_wp2_with fail
  refine (exmade_t _ _ _ 285212675 hP hQ).mono ?_
  rintro e yd ⟨Od, bd, vrd, vd, rfl, g2, hB⟩
  replace Ha := Ha.keep0 g2
  replace ra := ra.keep g2 (fun h => h)
  replace Hb := Hb.keep0 g2
  replace rb := rb.keep g2 (fun h => h)
  replace Hc := Hc.keep0 g2
  replace rc := rc.keep g2 (fun h => h)
  replace f0 := f0.trans g2
  have Id : Hid (∀ k, (Od.B.s k ∨ k = Od.B.p) → xd.heap.size ≤ k ∧ k < yd.heap.size) := hB.in
  have Jd : Hid (xd.heap.size ≤ yd.heap.size) := g2.size
  have Hd := hB.m.keep0 ((Fr.refl none' yd).alloc (.cells #[.pointer (some ⟨Od.B.p, 0, none⟩), .pointer (some ⟨Od.B.bt, 0, none⟩), .pointer (some ⟨bd.b, 0, none⟩), .pointer (some ⟨Od.pr, 0, none⟩), .pointer (some ⟨Od.bu, 0, none⟩), .pointer (some ⟨vrd, 0, none⟩)] 44))
  have rd := row_alloc yd #[.pointer (some ⟨Od.B.p, 0, none⟩), .pointer (some ⟨Od.B.bt, 0, none⟩), .pointer (some ⟨bd.b, 0, none⟩), .pointer (some ⟨Od.pr, 0, none⟩), .pointer (some ⟨Od.bu, 0, none⟩), .pointer (some ⟨vrd, 0, none⟩)] 44
  have g3 := (Fr.refl none' yd).alloc (.cells #[.pointer (some ⟨Od.B.p, 0, none⟩), .pointer (some ⟨Od.B.bt, 0, none⟩), .pointer (some ⟨bd.b, 0, none⟩), .pointer (some ⟨Od.pr, 0, none⟩), .pointer (some ⟨Od.bu, 0, none⟩), .pointer (some ⟨vrd, 0, none⟩)] 44)
  replace Ha := Ha.keep0 g3
  replace ra := ra.keep g3 (fun h => h)
  replace Hb := Hb.keep0 g3
  replace rb := rb.keep g3 (fun h => h)
  replace Hc := Hc.keep0 g3
  replace rc := rc.keep g3 (fun h => h)
  replace f0 := f0.trans g3
  clear g2 hB hP hQ g3
  go_upto_region 5 with fail
  obtain ⟨ud, hu⟩ : ∃ u, u = yd.alloc (.cells #[.pointer (some ⟨Od.B.p, 0, none⟩), .pointer (some ⟨Od.B.bt, 0, none⟩), .pointer (some ⟨bd.b, 0, none⟩), .pointer (some ⟨Od.pr, 0, none⟩), .pointer (some ⟨Od.bu, 0, none⟩), .pointer (some ⟨vrd, 0, none⟩)] 44) := ⟨_, rfl⟩
  rw [← hu] at Hd rd f0 Ha ra Hb rb Hc rc ⊢
  clear hu
  obtain ⟨gd, hg⟩ : ∃ q, q = yd.heap.size := ⟨_, rfl⟩
  rw [← hg] at rd Id Jd ⊢
  clear hg
  have LL : Hid (w.heap.size ≤ xa.heap.size ∧ xa.heap.size ≤ ga ∧ ga < xb.heap.size ∧ xb.heap.size ≤ gb ∧ gb < xc.heap.size ∧ xc.heap.size ≤ gc ∧ gc < xd.heap.size ∧ xd.heap.size ≤ gd) := (show _ ∧ _ from ⟨KK.out, Ja.out, Lb.out, Jb'.out, Lc.out, Jc.out, Ld.out, Jd.out⟩)
  obtain ⟨k0, k1, k2, k3, k4, k5⟩ := cells6 ra
  go_wp2_with fail
  refine (exS_a _ Oa.B va Ha).mono ?_
  rintro e wza ⟨Aa, asa, aoa, afa, rfl, g1⟩
  have AFa : Hid (Aa[1]? = some (.int .u32 300) ∧ Aa[16]? = some (.int .i64 4)) := afa
  clear k0 k1 k2 k3 k4 k5 Ha afa
  replace ra := ra.keep g1 (fun e => by have h1 := Ia.out ga (Or.inl e); have h2 := LL.out; omega)
  replace rb := rb.keep g1 (fun e => by have h1 := Ia.out gb (Or.inl e); have h2 := LL.out; omega)
  replace rc := rc.keep g1 (fun e => by have h1 := Ia.out gc (Or.inl e); have h2 := LL.out; omega)
  replace rd := rd.keep g1 (fun e => by have h1 := Ia.out gd (Or.inl e); have h2 := LL.out; omega)
  replace Hb := isMc_far Hb g1 (fun k hk e => by have h1 := Ia.out k (Or.inl e); have h2 := Ib.out k hk; have h3 := LL.out; omega)
  replace Hc := isMc_far Hc g1 (fun k hk e => by have h1 := Ia.out k (Or.inl e); have h2 := Ic.out k hk; have h3 := LL.out; omega)
  replace Hd := isMc_far Hd g1 (fun k hk e => by have h1 := Ia.out k (Or.inl e); have h2 := Id.out k hk; have h3 := LL.out; omega)
  replace f0 : Fr none' w wza := ⟨g1.os.trans f0.os, g1.tape.trans f0.tape, g1.output.trans f0.output, Nat.le_trans f0.size g1.size, fun k hk hn => by
    rw [g1.block k (Nat.lt_of_lt_of_le hk f0.size) (fun e => by have h1 := Ia.out k (Or.inl e); have h2 := LL.out; omega)]; exact f0.block k hk hn⟩
  have pc0 : Row ((wza.alloc (.cells (cpA zc) 30)).alloc (.cells #[.int .i64 0, .int .i64 0, .int .i64 0, .int .i64 0, .int .i64 0, .int .i64 0, .bool false, .int .i64 0] 52)) wza.heap.size (cpA zc) 30 := (row_alloc wza (cpA zc) 30).alloc _
  have pt0 : Row ((wza.alloc (.cells (cpA zc) 30)).alloc (.cells #[.int .i64 0, .int .i64 0, .int .i64 0, .int .i64 0, .int .i64 0, .int .i64 0, .bool false, .int .i64 0] 52)) (wza.heap.size + 1) #[.int .i64 0, .int .i64 0, .int .i64 0, .int .i64 0, .int .i64 0, .int .i64 0, .bool false, .int .i64 0] 52 := row_at (by simp)
  have pt1 := pt0.keep (fr_row _ wza.heap.size Aa) (ne_new' (Nat.lt_succ_self _))
  have ls : (Tryz.prog.info? 30).map (·.size) = some Aa.size := by rw [asa]; exact size_cpu
  have lo : (cpA zc).size = Aa.size := by rw [asa]; exact cpA_size zc
  have lz : gd < wza.heap.size := rd.lt
  have g2 : Fr none' wza ((((wza.alloc (.cells (cpA zc) 30)).alloc (.cells #[.int .i64 0, .int .i64 0, .int .i64 0, .int .i64 0, .int .i64 0, .int .i64 0, .bool false, .int .i64 0] 52)).setRow wza.heap.size Aa).setRow (wza.heap.size + 1) #[.int .i64 0, .int .i64 0, .int .i64 0, .int .i64 0, .int .i64 0, .int .i64 0, .bool false, .int .i64 0]) := (((((Fr.refl none' wza).alloc _).alloc _).newer (fr_row _ wza.heap.size Aa) (Nat.le_refl _))).newer (fr_row _ (wza.heap.size + 1) _) (Nat.le_succ _)
  have pca : Row ((((wza.alloc (.cells (cpA zc) 30)).alloc (.cells #[.int .i64 0, .int .i64 0, .int .i64 0, .int .i64 0, .int .i64 0, .int .i64 0, .bool false, .int .i64 0] 52)).setRow wza.heap.size Aa).setRow (wza.heap.size + 1) #[.int .i64 0, .int .i64 0, .int .i64 0, .int .i64 0, .int .i64 0, .int .i64 0, .bool false, .int .i64 0]) wza.heap.size Aa 30 := (pc0.setRow).keep (fr_row _ (wza.heap.size + 1) _) (ne_new (Nat.lt_succ_self _))
  have pta : Row ((((wza.alloc (.cells (cpA zc) 30)).alloc (.cells #[.int .i64 0, .int .i64 0, .int .i64 0, .int .i64 0, .int .i64 0, .int .i64 0, .bool false, .int .i64 0] 52)).setRow wza.heap.size Aa).setRow (wza.heap.size + 1) #[.int .i64 0, .int .i64 0, .int .i64 0, .int .i64 0, .int .i64 0, .int .i64 0, .bool false, .int .i64 0]) (wza.heap.size + 1) #[.int .i64 0, .int .i64 0, .int .i64 0, .int .i64 0, .int .i64 0, .int .i64 0, .bool false, .int .i64 0] 52 := pt1.setRow
  have GG : Hid (Fr none' wza ((((wza.alloc (.cells (cpA zc) 30)).alloc (.cells #[.int .i64 0, .int .i64 0, .int .i64 0, .int .i64 0, .int .i64 0, .int .i64 0, .bool false, .int .i64 0] 52)).setRow wza.heap.size Aa).setRow (wza.heap.size + 1) #[.int .i64 0, .int .i64 0, .int .i64 0, .int .i64 0, .int .i64 0, .int .i64 0, .bool false, .int .i64 0]) ∧ Row ((((wza.alloc (.cells (cpA zc) 30)).alloc (.cells #[.int .i64 0, .int .i64 0, .int .i64 0, .int .i64 0, .int .i64 0, .int .i64 0, .bool false, .int .i64 0] 52)).setRow wza.heap.size Aa).setRow (wza.heap.size + 1) #[.int .i64 0, .int .i64 0, .int .i64 0, .int .i64 0, .int .i64 0, .int .i64 0, .bool false, .int .i64 0]) wza.heap.size Aa 30 ∧ Row ((((wza.alloc (.cells (cpA zc) 30)).alloc (.cells #[.int .i64 0, .int .i64 0, .int .i64 0, .int .i64 0, .int .i64 0, .int .i64 0, .bool false, .int .i64 0] 52)).setRow wza.heap.size Aa).setRow (wza.heap.size + 1) #[.int .i64 0, .int .i64 0, .int .i64 0, .int .i64 0, .int .i64 0, .int .i64 0, .bool false, .int .i64 0]) (wza.heap.size + 1) #[.int .i64 0, .int .i64 0, .int .i64 0, .int .i64 0, .int .i64 0, .int .i64 0, .bool false, .int .i64 0] 52) := ⟨g2, pca, pta⟩
  clear g1 g2 pca pta pt0
  go_upto_region 8 with (first | refine wpList_store_row rfl 30 _ _ rfl wza.heap.size Aa rfl rfl 30 (cpA zc) pc0 ls lo aoa ?_ | refine wpList_store_row rfl 52 _ _ rfl (wza.heap.size + 1) #[.int .i64 0, .int .i64 0, .int .i64 0, .int .i64 0, .int .i64 0, .int .i64 0, .bool false, .int .i64 0] rfl rfl 52 #[.int .i64 0, .int .i64 0, .int .i64 0, .int .i64 0, .int .i64 0, .int .i64 0, .bool false, .int .i64 0] pt1 size_trap rfl (by simp [Value.oneCell']) ?_)
  clear pc0 pt1 ls lo
  obtain ⟨g2, pca, pta⟩ := GG.out
  clear GG
  replace ra := ra.keep g2 (fun h => h)
  replace rb := rb.keep g2 (fun h => h)
  replace rc := rc.keep g2 (fun h => h)
  replace rd := rd.keep g2 (fun h => h)
  replace Hb := Hb.keep0 g2
  replace Hc := Hc.keep0 g2
  replace Hd := Hd.keep0 g2
  replace f0 := f0.trans g2
  clear g2
  obtain ⟨ta, ht⟩ : ∃ u, u = ((((wza.alloc (.cells (cpA zc) 30)).alloc (.cells #[.int .i64 0, .int .i64 0, .int .i64 0, .int .i64 0, .int .i64 0, .int .i64 0, .bool false, .int .i64 0] 52)).setRow wza.heap.size Aa).setRow (wza.heap.size + 1) #[.int .i64 0, .int .i64 0, .int .i64 0, .int .i64 0, .int .i64 0, .int .i64 0, .bool false, .int .i64 0]) := ⟨_, rfl⟩
  rw [← ht] at f0 pca pta ra rb rc rd  Hb Hc Hd ⊢
  clear ht
  obtain ⟨hca, hh1⟩ : ∃ q, q = wza.heap.size := ⟨_, rfl⟩
  obtain ⟨hta, hh2⟩ : ∃ q, q = wza.heap.size + 1 := ⟨_, rfl⟩
  rw [← hh2] at pta ⊢
  rw [← hh1] at pca lz ⊢
  have Pca : Hid (gd < hca) := lz
  have Pta : Hid (gd < hta) := (show gd < hta by omega)
  clear hh1 hh2 lz
  have lz : gd < ta.heap.size := rd.lt
  have pi0 := row_alloc ta (cpA zc) 30
  have pi1 : Row ((ta.alloc (.cells (cpA zc) 30)).setRow ta.heap.size #[.int .u32 0, .int .u32 0, .int .u32 0, .int .u32 0, .int .u32 0, .int .u32 0, .int .u32 0, .int .u32 0, .int .u32 0, .int .u32 0, .int .u32 0, .int .u32 0, .int .u32 0, .int .u32 0, .int .u32 0, .int .u32 0, .int .i64 0, .int .u32 0, .int .u32 0, .int .u32 0, .int .u32 0, .int .u32 0, .int .u32 0, .int .u32 0, .int .u32 0]) ta.heap.size #[.int .u32 0, .int .u32 0, .int .u32 0, .int .u32 0, .int .u32 0, .int .u32 0, .int .u32 0, .int .u32 0, .int .u32 0, .int .u32 0, .int .u32 0, .int .u32 0, .int .u32 0, .int .u32 0, .int .u32 0, .int .u32 0, .int .i64 0, .int .u32 0, .int .u32 0, .int .u32 0, .int .u32 0, .int .u32 0, .int .u32 0, .int .u32 0, .int .u32 0] 30 := pi0.setRow
  have g2 : Fr none' ta (((ta.alloc (.cells (cpA zc) 30)).setRow ta.heap.size #[.int .u32 0, .int .u32 0, .int .u32 0, .int .u32 0, .int .u32 0, .int .u32 0, .int .u32 0, .int .u32 0, .int .u32 0, .int .u32 0, .int .u32 0, .int .u32 0, .int .u32 0, .int .u32 0, .int .u32 0, .int .u32 0, .int .i64 0, .int .u32 0, .int .u32 0, .int .u32 0, .int .u32 0, .int .u32 0, .int .u32 0, .int .u32 0, .int .u32 0]).setCell ⟨ta.heap.size, 1, none⟩ (.int .u32 64)) := (((Fr.refl none' ta).alloc _).newer (fr_row _ ta.heap.size _) (Nat.le_refl _)).newer (fr_set _ ta.heap.size 1 _ (Fr.refl _ _)) (Nat.le_refl _)
  have pin : Row (((ta.alloc (.cells (cpA zc) 30)).setRow ta.heap.size #[.int .u32 0, .int .u32 0, .int .u32 0, .int .u32 0, .int .u32 0, .int .u32 0, .int .u32 0, .int .u32 0, .int .u32 0, .int .u32 0, .int .u32 0, .int .u32 0, .int .u32 0, .int .u32 0, .int .u32 0, .int .u32 0, .int .i64 0, .int .u32 0, .int .u32 0, .int .u32 0, .int .u32 0, .int .u32 0, .int .u32 0, .int .u32 0, .int .u32 0]).setCell ⟨ta.heap.size, 1, none⟩ (.int .u32 64)) ta.heap.size #[.int .u32 0, .int .u32 64, .int .u32 0, .int .u32 0, .int .u32 0, .int .u32 0, .int .u32 0, .int .u32 0, .int .u32 0, .int .u32 0, .int .u32 0, .int .u32 0, .int .u32 0, .int .u32 0, .int .u32 0, .int .u32 0, .int .i64 0, .int .u32 0, .int .u32 0, .int .u32 0, .int .u32 0, .int .u32 0, .int .u32 0, .int .u32 0, .int .u32 0] 30 := pi1.setCell 1 (.int .u32 64)
  have GG : Hid (Fr none' ta (((ta.alloc (.cells (cpA zc) 30)).setRow ta.heap.size #[.int .u32 0, .int .u32 0, .int .u32 0, .int .u32 0, .int .u32 0, .int .u32 0, .int .u32 0, .int .u32 0, .int .u32 0, .int .u32 0, .int .u32 0, .int .u32 0, .int .u32 0, .int .u32 0, .int .u32 0, .int .u32 0, .int .i64 0, .int .u32 0, .int .u32 0, .int .u32 0, .int .u32 0, .int .u32 0, .int .u32 0, .int .u32 0, .int .u32 0]).setCell ⟨ta.heap.size, 1, none⟩ (.int .u32 64)) ∧ Row (((ta.alloc (.cells (cpA zc) 30)).setRow ta.heap.size #[.int .u32 0, .int .u32 0, .int .u32 0, .int .u32 0, .int .u32 0, .int .u32 0, .int .u32 0, .int .u32 0, .int .u32 0, .int .u32 0, .int .u32 0, .int .u32 0, .int .u32 0, .int .u32 0, .int .u32 0, .int .u32 0, .int .i64 0, .int .u32 0, .int .u32 0, .int .u32 0, .int .u32 0, .int .u32 0, .int .u32 0, .int .u32 0, .int .u32 0]).setCell ⟨ta.heap.size, 1, none⟩ (.int .u32 64)) ta.heap.size #[.int .u32 0, .int .u32 64, .int .u32 0, .int .u32 0, .int .u32 0, .int .u32 0, .int .u32 0, .int .u32 0, .int .u32 0, .int .u32 0, .int .u32 0, .int .u32 0, .int .u32 0, .int .u32 0, .int .u32 0, .int .u32 0, .int .i64 0, .int .u32 0, .int .u32 0, .int .u32 0, .int .u32 0, .int .u32 0, .int .u32 0, .int .u32 0, .int .u32 0] 30) := ⟨g2, pin⟩
  clear g2 pin
  have pj1 : ((ta.alloc (.cells (cpA zc) 30)).setRow ta.heap.size #[.int .u32 0, .int .u32 0, .int .u32 0, .int .u32 0, .int .u32 0, .int .u32 0, .int .u32 0, .int .u32 0, .int .u32 0, .int .u32 0, .int .u32 0, .int .u32 0, .int .u32 0, .int .u32 0, .int .u32 0, .int .u32 0, .int .i64 0, .int .u32 0, .int .u32 0, .int .u32 0, .int .u32 0, .int .u32 0, .int .u32 0, .int .u32 0, .int .u32 0]).cell? ⟨ta.heap.size, 1, none⟩ = some (.int .u32 0) := pi1.cell 1
  have pj2 : ((ta.alloc (.cells (cpA zc) 30)).setRow ta.heap.size #[.int .u32 0, .int .u32 0, .int .u32 0, .int .u32 0, .int .u32 0, .int .u32 0, .int .u32 0, .int .u32 0, .int .u32 0, .int .u32 0, .int .u32 0, .int .u32 0, .int .u32 0, .int .u32 0, .int .u32 0, .int .u32 0, .int .i64 0, .int .u32 0, .int .u32 0, .int .u32 0, .int .u32 0, .int .u32 0, .int .u32 0, .int .u32 0, .int .u32 0]).frozen? ⟨ta.heap.size, 1, none⟩ = false := pi1.frozen 1
  clear pi1
  go_upto_region 10 with (refine wpList_store_row rfl 30 _ _ rfl ta.heap.size #[.int .u32 0, .int .u32 0, .int .u32 0, .int .u32 0, .int .u32 0, .int .u32 0, .int .u32 0, .int .u32 0, .int .u32 0, .int .u32 0, .int .u32 0, .int .u32 0, .int .u32 0, .int .u32 0, .int .u32 0, .int .u32 0, .int .i64 0, .int .u32 0, .int .u32 0, .int .u32 0, .int .u32 0, .int .u32 0, .int .u32 0, .int .u32 0, .int .u32 0] rfl rfl 30 (cpA zc) pi0 size_cpu rfl (by simp [Value.oneCell']) ?_)
  clear pi0 pj1 pj2
  obtain ⟨g2, pin⟩ := GG.out
  clear GG
  replace ra := ra.keep g2 (fun h => h)
  replace rb := rb.keep g2 (fun h => h)
  replace rc := rc.keep g2 (fun h => h)
  replace rd := rd.keep g2 (fun h => h)
  replace pca := pca.keep g2 (fun h => h)
  replace pta := pta.keep g2 (fun h => h)
  replace Hb := Hb.keep0 g2
  replace Hc := Hc.keep0 g2
  replace Hd := Hd.keep0 g2
  replace f0 := f0.trans g2
  clear g2
  obtain ⟨ti, ht⟩ : ∃ u, u = (((ta.alloc (.cells (cpA zc) 30)).setRow ta.heap.size #[.int .u32 0, .int .u32 0, .int .u32 0, .int .u32 0, .int .u32 0, .int .u32 0, .int .u32 0, .int .u32 0, .int .u32 0, .int .u32 0, .int .u32 0, .int .u32 0, .int .u32 0, .int .u32 0, .int .u32 0, .int .u32 0, .int .i64 0, .int .u32 0, .int .u32 0, .int .u32 0, .int .u32 0, .int .u32 0, .int .u32 0, .int .u32 0, .int .u32 0]).setCell ⟨ta.heap.size, 1, none⟩ (.int .u32 64)) := ⟨_, rfl⟩
  rw [← ht] at f0 pin ra rb rc rd pca pta Hb Hc Hd ⊢
  clear ht
  obtain ⟨gin, hh1⟩ : ∃ q, q = ta.heap.size := ⟨_, rfl⟩
  rw [← hh1] at pin lz ⊢
  clear hh1 lz
  have pinc : ∀ j v, (#[.int .u32 0, .int .u32 64, .int .u32 0, .int .u32 0, .int .u32 0, .int .u32 0, .int .u32 0, .int .u32 0, .int .u32 0, .int .u32 0, .int .u32 0, .int .u32 0, .int .u32 0, .int .u32 0, .int .u32 0, .int .u32 0, .int .i64 0, .int .u32 0, .int .u32 0, .int .u32 0, .int .u32 0, .int .u32 0, .int .u32 0, .int .u32 0, .int .u32 0] : Array Value)[j]? = some v → ti.cell? ⟨gin, j, none⟩ = some v := fun j v hv => (pin.cell j).trans hv
  obtain ⟨k0, k1, k2, k3, k4, k5⟩ := cells6 rb
  go_wp2_with (refine wpList_load_part rfl 30 _ rfl gin rfl #[.int .u32 0, .int .u32 64, .int .u32 0, .int .u32 0, .int .u32 0, .int .u32 0, .int .u32 0, .int .u32 0, .int .u32 0, .int .u32 0, .int .u32 0, .int .u32 0, .int .u32 0, .int .u32 0, .int .u32 0, .int .u32 0, .int .i64 0, .int .u32 0, .int .u32 0, .int .u32 0, .int .u32 0, .int .u32 0, .int .u32 0, .int .u32 0, .int .u32 0] _ pinc Tryz.underlying30 rfl size_cpu ?_)
  refine (exS_b _ Ob.B vb Hb).mono ?_
  rintro e wzb ⟨Ab, asb, aob, afb, rfl, g1⟩
  have AFb : Hid (Ab[2]? = some (.int .u32 77) ∧ True) := afb
  clear k0 k1 k2 k3 k4 k5 Hb afb
  replace ra := ra.keep g1 (fun e => by have h1 := Ib.out ga (Or.inl e); have h2 := LL.out; omega)
  replace rb := rb.keep g1 (fun e => by have h1 := Ib.out gb (Or.inl e); have h2 := LL.out; omega)
  replace rc := rc.keep g1 (fun e => by have h1 := Ib.out gc (Or.inl e); have h2 := LL.out; omega)
  replace rd := rd.keep g1 (fun e => by have h1 := Ib.out gd (Or.inl e); have h2 := LL.out; omega)
  replace pca := pca.keep g1 (fun e => by have h1 := Ib.out _ (Or.inl e); have h2 := LL.out; have h3 := Pca.out; omega)
  replace pta := pta.keep g1 (fun e => by have h1 := Ib.out _ (Or.inl e); have h2 := LL.out; have h3 := Pta.out; omega)
  replace Hc := isMc_far Hc g1 (fun k hk e => by have h1 := Ib.out k (Or.inl e); have h2 := Ic.out k hk; have h3 := LL.out; omega)
  replace Hd := isMc_far Hd g1 (fun k hk e => by have h1 := Ib.out k (Or.inl e); have h2 := Id.out k hk; have h3 := LL.out; omega)
  replace f0 : Fr none' w wzb := ⟨g1.os.trans f0.os, g1.tape.trans f0.tape, g1.output.trans f0.output, Nat.le_trans f0.size g1.size, fun k hk hn => by
    rw [g1.block k (Nat.lt_of_lt_of_le hk f0.size) (fun e => by have h1 := Ib.out k (Or.inl e); have h2 := LL.out; omega)]; exact f0.block k hk hn⟩
  have pc0 : Row ((wzb.alloc (.cells (cpA zc) 30)).alloc (.cells #[.int .i64 0, .int .i64 0, .int .i64 0, .int .i64 0, .int .i64 0, .int .i64 0, .bool false, .int .i64 0] 52)) wzb.heap.size (cpA zc) 30 := (row_alloc wzb (cpA zc) 30).alloc _
  have pt0 : Row ((wzb.alloc (.cells (cpA zc) 30)).alloc (.cells #[.int .i64 0, .int .i64 0, .int .i64 0, .int .i64 0, .int .i64 0, .int .i64 0, .bool false, .int .i64 0] 52)) (wzb.heap.size + 1) #[.int .i64 0, .int .i64 0, .int .i64 0, .int .i64 0, .int .i64 0, .int .i64 0, .bool false, .int .i64 0] 52 := row_at (by simp)
  have pt1 := pt0.keep (fr_row _ wzb.heap.size Ab) (ne_new' (Nat.lt_succ_self _))
  have ls : (Tryz.prog.info? 30).map (·.size) = some Ab.size := by rw [asb]; exact size_cpu
  have lo : (cpA zc).size = Ab.size := by rw [asb]; exact cpA_size zc
  have lz : gd < wzb.heap.size := rd.lt
  have g2 : Fr none' wzb ((((wzb.alloc (.cells (cpA zc) 30)).alloc (.cells #[.int .i64 0, .int .i64 0, .int .i64 0, .int .i64 0, .int .i64 0, .int .i64 0, .bool false, .int .i64 0] 52)).setRow wzb.heap.size Ab).setRow (wzb.heap.size + 1) #[.int .i64 0, .int .i64 0, .int .i64 0, .int .i64 0, .int .i64 0, .int .i64 0, .bool false, .int .i64 0]) := (((((Fr.refl none' wzb).alloc _).alloc _).newer (fr_row _ wzb.heap.size Ab) (Nat.le_refl _))).newer (fr_row _ (wzb.heap.size + 1) _) (Nat.le_succ _)
  have pcb : Row ((((wzb.alloc (.cells (cpA zc) 30)).alloc (.cells #[.int .i64 0, .int .i64 0, .int .i64 0, .int .i64 0, .int .i64 0, .int .i64 0, .bool false, .int .i64 0] 52)).setRow wzb.heap.size Ab).setRow (wzb.heap.size + 1) #[.int .i64 0, .int .i64 0, .int .i64 0, .int .i64 0, .int .i64 0, .int .i64 0, .bool false, .int .i64 0]) wzb.heap.size Ab 30 := (pc0.setRow).keep (fr_row _ (wzb.heap.size + 1) _) (ne_new (Nat.lt_succ_self _))
  have ptb : Row ((((wzb.alloc (.cells (cpA zc) 30)).alloc (.cells #[.int .i64 0, .int .i64 0, .int .i64 0, .int .i64 0, .int .i64 0, .int .i64 0, .bool false, .int .i64 0] 52)).setRow wzb.heap.size Ab).setRow (wzb.heap.size + 1) #[.int .i64 0, .int .i64 0, .int .i64 0, .int .i64 0, .int .i64 0, .int .i64 0, .bool false, .int .i64 0]) (wzb.heap.size + 1) #[.int .i64 0, .int .i64 0, .int .i64 0, .int .i64 0, .int .i64 0, .int .i64 0, .bool false, .int .i64 0] 52 := pt1.setRow
  have GG : Hid (Fr none' wzb ((((wzb.alloc (.cells (cpA zc) 30)).alloc (.cells #[.int .i64 0, .int .i64 0, .int .i64 0, .int .i64 0, .int .i64 0, .int .i64 0, .bool false, .int .i64 0] 52)).setRow wzb.heap.size Ab).setRow (wzb.heap.size + 1) #[.int .i64 0, .int .i64 0, .int .i64 0, .int .i64 0, .int .i64 0, .int .i64 0, .bool false, .int .i64 0]) ∧ Row ((((wzb.alloc (.cells (cpA zc) 30)).alloc (.cells #[.int .i64 0, .int .i64 0, .int .i64 0, .int .i64 0, .int .i64 0, .int .i64 0, .bool false, .int .i64 0] 52)).setRow wzb.heap.size Ab).setRow (wzb.heap.size + 1) #[.int .i64 0, .int .i64 0, .int .i64 0, .int .i64 0, .int .i64 0, .int .i64 0, .bool false, .int .i64 0]) wzb.heap.size Ab 30 ∧ Row ((((wzb.alloc (.cells (cpA zc) 30)).alloc (.cells #[.int .i64 0, .int .i64 0, .int .i64 0, .int .i64 0, .int .i64 0, .int .i64 0, .bool false, .int .i64 0] 52)).setRow wzb.heap.size Ab).setRow (wzb.heap.size + 1) #[.int .i64 0, .int .i64 0, .int .i64 0, .int .i64 0, .int .i64 0, .int .i64 0, .bool false, .int .i64 0]) (wzb.heap.size + 1) #[.int .i64 0, .int .i64 0, .int .i64 0, .int .i64 0, .int .i64 0, .int .i64 0, .bool false, .int .i64 0] 52) := ⟨g2, pcb, ptb⟩
  clear g1 g2 pcb ptb pt0
  go_upto_region 11 with (first | refine wpList_store_row rfl 30 _ _ rfl wzb.heap.size Ab rfl rfl 30 (cpA zc) pc0 ls lo aob ?_ | refine wpList_store_row rfl 52 _ _ rfl (wzb.heap.size + 1) #[.int .i64 0, .int .i64 0, .int .i64 0, .int .i64 0, .int .i64 0, .int .i64 0, .bool false, .int .i64 0] rfl rfl 52 #[.int .i64 0, .int .i64 0, .int .i64 0, .int .i64 0, .int .i64 0, .int .i64 0, .bool false, .int .i64 0] pt1 size_trap rfl (by simp [Value.oneCell']) ?_)
  clear pc0 pt1 ls lo
  obtain ⟨g2, pcb, ptb⟩ := GG.out
  clear GG
  replace ra := ra.keep g2 (fun h => h)
  replace rb := rb.keep g2 (fun h => h)
  replace rc := rc.keep g2 (fun h => h)
  replace rd := rd.keep g2 (fun h => h)
  replace pca := pca.keep g2 (fun h => h)
  replace pta := pta.keep g2 (fun h => h)
  replace Hc := Hc.keep0 g2
  replace Hd := Hd.keep0 g2
  replace f0 := f0.trans g2
  clear g2
  obtain ⟨tb, ht⟩ : ∃ u, u = ((((wzb.alloc (.cells (cpA zc) 30)).alloc (.cells #[.int .i64 0, .int .i64 0, .int .i64 0, .int .i64 0, .int .i64 0, .int .i64 0, .bool false, .int .i64 0] 52)).setRow wzb.heap.size Ab).setRow (wzb.heap.size + 1) #[.int .i64 0, .int .i64 0, .int .i64 0, .int .i64 0, .int .i64 0, .int .i64 0, .bool false, .int .i64 0]) := ⟨_, rfl⟩
  rw [← ht] at f0 pcb ptb ra rb rc rd pca pta Hc Hd ⊢
  clear ht
  obtain ⟨hcb, hh1⟩ : ∃ q, q = wzb.heap.size := ⟨_, rfl⟩
  obtain ⟨htb, hh2⟩ : ∃ q, q = wzb.heap.size + 1 := ⟨_, rfl⟩
  rw [← hh2] at ptb ⊢
  rw [← hh1] at pcb lz ⊢
  have Pcb : Hid (gd < hcb) := lz
  have Ptb : Hid (gd < htb) := (show gd < htb by omega)
  clear hh1 hh2 lz
  clear pinc pin
  obtain ⟨k0, k1, k2, k3, k4, k5⟩ := cells6 rc
  go_wp2_with fail
  refine (exS_c _ Oc.B vc Hc).mono ?_
  rintro e wzc ⟨Ac, asc, aoc, afc, rfl, g1⟩
  have AFc : Hid (True ∧ True) := afc
  clear k0 k1 k2 k3 k4 k5 Hc afc
  replace ra := ra.keep g1 (fun e => by have h1 := Ic.out ga (Or.inl e); have h2 := LL.out; omega)
  replace rb := rb.keep g1 (fun e => by have h1 := Ic.out gb (Or.inl e); have h2 := LL.out; omega)
  replace rc := rc.keep g1 (fun e => by have h1 := Ic.out gc (Or.inl e); have h2 := LL.out; omega)
  replace rd := rd.keep g1 (fun e => by have h1 := Ic.out gd (Or.inl e); have h2 := LL.out; omega)
  replace pca := pca.keep g1 (fun e => by have h1 := Ic.out _ (Or.inl e); have h2 := LL.out; have h3 := Pca.out; omega)
  replace pta := pta.keep g1 (fun e => by have h1 := Ic.out _ (Or.inl e); have h2 := LL.out; have h3 := Pta.out; omega)
  replace pcb := pcb.keep g1 (fun e => by have h1 := Ic.out _ (Or.inl e); have h2 := LL.out; have h3 := Pcb.out; omega)
  replace ptb := ptb.keep g1 (fun e => by have h1 := Ic.out _ (Or.inl e); have h2 := LL.out; have h3 := Ptb.out; omega)
  replace Hd := isMc_far Hd g1 (fun k hk e => by have h1 := Ic.out k (Or.inl e); have h2 := Id.out k hk; have h3 := LL.out; omega)
  replace f0 : Fr none' w wzc := ⟨g1.os.trans f0.os, g1.tape.trans f0.tape, g1.output.trans f0.output, Nat.le_trans f0.size g1.size, fun k hk hn => by
    rw [g1.block k (Nat.lt_of_lt_of_le hk f0.size) (fun e => by have h1 := Ic.out k (Or.inl e); have h2 := LL.out; omega)]; exact f0.block k hk hn⟩
  have pc0 : Row ((wzc.alloc (.cells (cpA zc) 30)).alloc (.cells #[.int .i64 0, .int .i64 0, .int .i64 0, .int .i64 0, .int .i64 0, .int .i64 0, .bool false, .int .i64 0] 52)) wzc.heap.size (cpA zc) 30 := (row_alloc wzc (cpA zc) 30).alloc _
  have pt0 : Row ((wzc.alloc (.cells (cpA zc) 30)).alloc (.cells #[.int .i64 0, .int .i64 0, .int .i64 0, .int .i64 0, .int .i64 0, .int .i64 0, .bool false, .int .i64 0] 52)) (wzc.heap.size + 1) #[.int .i64 0, .int .i64 0, .int .i64 0, .int .i64 0, .int .i64 0, .int .i64 0, .bool false, .int .i64 0] 52 := row_at (by simp)
  have pt1 := pt0.keep (fr_row _ wzc.heap.size Ac) (ne_new' (Nat.lt_succ_self _))
  have ls : (Tryz.prog.info? 30).map (·.size) = some Ac.size := by rw [asc]; exact size_cpu
  have lo : (cpA zc).size = Ac.size := by rw [asc]; exact cpA_size zc
  have lz : gd < wzc.heap.size := rd.lt
  have g2 : Fr none' wzc ((((wzc.alloc (.cells (cpA zc) 30)).alloc (.cells #[.int .i64 0, .int .i64 0, .int .i64 0, .int .i64 0, .int .i64 0, .int .i64 0, .bool false, .int .i64 0] 52)).setRow wzc.heap.size Ac).setRow (wzc.heap.size + 1) #[.int .i64 8, .int .i64 285212675, .int .i64 0, .int .i64 0, .int .i64 0, .int .i64 0, .bool false, .int .i64 0]) := (((((Fr.refl none' wzc).alloc _).alloc _).newer (fr_row _ wzc.heap.size Ac) (Nat.le_refl _))).newer (fr_row _ (wzc.heap.size + 1) _) (Nat.le_succ _)
  have pcc : Row ((((wzc.alloc (.cells (cpA zc) 30)).alloc (.cells #[.int .i64 0, .int .i64 0, .int .i64 0, .int .i64 0, .int .i64 0, .int .i64 0, .bool false, .int .i64 0] 52)).setRow wzc.heap.size Ac).setRow (wzc.heap.size + 1) #[.int .i64 8, .int .i64 285212675, .int .i64 0, .int .i64 0, .int .i64 0, .int .i64 0, .bool false, .int .i64 0]) wzc.heap.size Ac 30 := (pc0.setRow).keep (fr_row _ (wzc.heap.size + 1) _) (ne_new (Nat.lt_succ_self _))
  have ptc : Row ((((wzc.alloc (.cells (cpA zc) 30)).alloc (.cells #[.int .i64 0, .int .i64 0, .int .i64 0, .int .i64 0, .int .i64 0, .int .i64 0, .bool false, .int .i64 0] 52)).setRow wzc.heap.size Ac).setRow (wzc.heap.size + 1) #[.int .i64 8, .int .i64 285212675, .int .i64 0, .int .i64 0, .int .i64 0, .int .i64 0, .bool false, .int .i64 0]) (wzc.heap.size + 1) #[.int .i64 8, .int .i64 285212675, .int .i64 0, .int .i64 0, .int .i64 0, .int .i64 0, .bool false, .int .i64 0] 52 := pt1.setRow
  have GG : Hid (Fr none' wzc ((((wzc.alloc (.cells (cpA zc) 30)).alloc (.cells #[.int .i64 0, .int .i64 0, .int .i64 0, .int .i64 0, .int .i64 0, .int .i64 0, .bool false, .int .i64 0] 52)).setRow wzc.heap.size Ac).setRow (wzc.heap.size + 1) #[.int .i64 8, .int .i64 285212675, .int .i64 0, .int .i64 0, .int .i64 0, .int .i64 0, .bool false, .int .i64 0]) ∧ Row ((((wzc.alloc (.cells (cpA zc) 30)).alloc (.cells #[.int .i64 0, .int .i64 0, .int .i64 0, .int .i64 0, .int .i64 0, .int .i64 0, .bool false, .int .i64 0] 52)).setRow wzc.heap.size Ac).setRow (wzc.heap.size + 1) #[.int .i64 8, .int .i64 285212675, .int .i64 0, .int .i64 0, .int .i64 0, .int .i64 0, .bool false, .int .i64 0]) wzc.heap.size Ac 30 ∧ Row ((((wzc.alloc (.cells (cpA zc) 30)).alloc (.cells #[.int .i64 0, .int .i64 0, .int .i64 0, .int .i64 0, .int .i64 0, .int .i64 0, .bool false, .int .i64 0] 52)).setRow wzc.heap.size Ac).setRow (wzc.heap.size + 1) #[.int .i64 8, .int .i64 285212675, .int .i64 0, .int .i64 0, .int .i64 0, .int .i64 0, .bool false, .int .i64 0]) (wzc.heap.size + 1) #[.int .i64 8, .int .i64 285212675, .int .i64 0, .int .i64 0, .int .i64 0, .int .i64 0, .bool false, .int .i64 0] 52) := ⟨g2, pcc, ptc⟩
  clear g1 g2 pcc ptc pt0
  go_upto_region 12 with (first | refine wpList_store_row rfl 30 _ _ rfl wzc.heap.size Ac rfl rfl 30 (cpA zc) pc0 ls lo aoc ?_ | refine wpList_store_row rfl 52 _ _ rfl (wzc.heap.size + 1) #[.int .i64 8, .int .i64 285212675, .int .i64 0, .int .i64 0, .int .i64 0, .int .i64 0, .bool false, .int .i64 0] rfl rfl 52 #[.int .i64 0, .int .i64 0, .int .i64 0, .int .i64 0, .int .i64 0, .int .i64 0, .bool false, .int .i64 0] pt1 size_trap rfl (by simp [Value.oneCell']) ?_)
  clear pc0 pt1 ls lo
  obtain ⟨g2, pcc, ptc⟩ := GG.out
  clear GG
  replace ra := ra.keep g2 (fun h => h)
  replace rb := rb.keep g2 (fun h => h)
  replace rc := rc.keep g2 (fun h => h)
  replace rd := rd.keep g2 (fun h => h)
  replace pca := pca.keep g2 (fun h => h)
  replace pta := pta.keep g2 (fun h => h)
  replace pcb := pcb.keep g2 (fun h => h)
  replace ptb := ptb.keep g2 (fun h => h)
  replace Hd := Hd.keep0 g2
  replace f0 := f0.trans g2
  clear g2
  obtain ⟨tc, ht⟩ : ∃ u, u = ((((wzc.alloc (.cells (cpA zc) 30)).alloc (.cells #[.int .i64 0, .int .i64 0, .int .i64 0, .int .i64 0, .int .i64 0, .int .i64 0, .bool false, .int .i64 0] 52)).setRow wzc.heap.size Ac).setRow (wzc.heap.size + 1) #[.int .i64 8, .int .i64 285212675, .int .i64 0, .int .i64 0, .int .i64 0, .int .i64 0, .bool false, .int .i64 0]) := ⟨_, rfl⟩
  rw [← ht] at f0 pcc ptc ra rb rc rd pca pta pcb ptb Hd ⊢
  clear ht
  obtain ⟨hcc, hh1⟩ : ∃ q, q = wzc.heap.size := ⟨_, rfl⟩
  obtain ⟨htc, hh2⟩ : ∃ q, q = wzc.heap.size + 1 := ⟨_, rfl⟩
  rw [← hh2] at ptc ⊢
  rw [← hh1] at pcc lz ⊢
  have Pcc : Hid (gd < hcc) := lz
  have Ptc : Hid (gd < htc) := (show gd < htc by omega)
  clear hh1 hh2 lz
  obtain ⟨k0, k1, k2, k3, k4, k5⟩ := cells6 rd
  go_wp2_with fail
  refine (exS_d _ Od.B bd vd Hd).mono ?_
  rintro e wzd ⟨Ad, asd, aod, afd, rfl, g1⟩
  have AFd : Hid (True ∧ True) := afd
  clear k0 k1 k2 k3 k4 k5 Hd afd
  replace ra := ra.keep g1 (fun e => by have h1 := Id.out ga (Or.inl e); have h2 := LL.out; omega)
  replace rb := rb.keep g1 (fun e => by have h1 := Id.out gb (Or.inl e); have h2 := LL.out; omega)
  replace rc := rc.keep g1 (fun e => by have h1 := Id.out gc (Or.inl e); have h2 := LL.out; omega)
  replace rd := rd.keep g1 (fun e => by have h1 := Id.out gd (Or.inl e); have h2 := LL.out; omega)
  replace pca := pca.keep g1 (fun e => by have h1 := Id.out _ (Or.inl e); have h2 := LL.out; have h3 := Pca.out; omega)
  replace pta := pta.keep g1 (fun e => by have h1 := Id.out _ (Or.inl e); have h2 := LL.out; have h3 := Pta.out; omega)
  replace pcb := pcb.keep g1 (fun e => by have h1 := Id.out _ (Or.inl e); have h2 := LL.out; have h3 := Pcb.out; omega)
  replace ptb := ptb.keep g1 (fun e => by have h1 := Id.out _ (Or.inl e); have h2 := LL.out; have h3 := Ptb.out; omega)
  replace pcc := pcc.keep g1 (fun e => by have h1 := Id.out _ (Or.inl e); have h2 := LL.out; have h3 := Pcc.out; omega)
  replace ptc := ptc.keep g1 (fun e => by have h1 := Id.out _ (Or.inl e); have h2 := LL.out; have h3 := Ptc.out; omega)
  replace f0 : Fr none' w wzd := ⟨g1.os.trans f0.os, g1.tape.trans f0.tape, g1.output.trans f0.output, Nat.le_trans f0.size g1.size, fun k hk hn => by
    rw [g1.block k (Nat.lt_of_lt_of_le hk f0.size) (fun e => by have h1 := Id.out k (Or.inl e); have h2 := LL.out; omega)]; exact f0.block k hk hn⟩
  have pc0 : Row ((wzd.alloc (.cells (cpA zc) 30)).alloc (.cells #[.int .i64 0, .int .i64 0, .int .i64 0, .int .i64 0, .int .i64 0, .int .i64 0, .bool false, .int .i64 0] 52)) wzd.heap.size (cpA zc) 30 := (row_alloc wzd (cpA zc) 30).alloc _
  have pt0 : Row ((wzd.alloc (.cells (cpA zc) 30)).alloc (.cells #[.int .i64 0, .int .i64 0, .int .i64 0, .int .i64 0, .int .i64 0, .int .i64 0, .bool false, .int .i64 0] 52)) (wzd.heap.size + 1) #[.int .i64 0, .int .i64 0, .int .i64 0, .int .i64 0, .int .i64 0, .int .i64 0, .bool false, .int .i64 0] 52 := row_at (by simp)
  have pt1 := pt0.keep (fr_row _ wzd.heap.size Ad) (ne_new' (Nat.lt_succ_self _))
  have ls : (Tryz.prog.info? 30).map (·.size) = some Ad.size := by rw [asd]; exact size_cpu
  have lo : (cpA zc).size = Ad.size := by rw [asd]; exact cpA_size zc
  have lz : gd < wzd.heap.size := rd.lt
  have g2 : Fr none' wzd ((((wzd.alloc (.cells (cpA zc) 30)).alloc (.cells #[.int .i64 0, .int .i64 0, .int .i64 0, .int .i64 0, .int .i64 0, .int .i64 0, .bool false, .int .i64 0] 52)).setRow wzd.heap.size Ad).setRow (wzd.heap.size + 1) #[.int .i64 5, .int .i64 3, .int .i64 0, .int .i64 0, .int .i64 0, .int .i64 0, .bool false, .int .i64 0]) := (((((Fr.refl none' wzd).alloc _).alloc _).newer (fr_row _ wzd.heap.size Ad) (Nat.le_refl _))).newer (fr_row _ (wzd.heap.size + 1) _) (Nat.le_succ _)
  have pcd : Row ((((wzd.alloc (.cells (cpA zc) 30)).alloc (.cells #[.int .i64 0, .int .i64 0, .int .i64 0, .int .i64 0, .int .i64 0, .int .i64 0, .bool false, .int .i64 0] 52)).setRow wzd.heap.size Ad).setRow (wzd.heap.size + 1) #[.int .i64 5, .int .i64 3, .int .i64 0, .int .i64 0, .int .i64 0, .int .i64 0, .bool false, .int .i64 0]) wzd.heap.size Ad 30 := (pc0.setRow).keep (fr_row _ (wzd.heap.size + 1) _) (ne_new (Nat.lt_succ_self _))
  have ptd : Row ((((wzd.alloc (.cells (cpA zc) 30)).alloc (.cells #[.int .i64 0, .int .i64 0, .int .i64 0, .int .i64 0, .int .i64 0, .int .i64 0, .bool false, .int .i64 0] 52)).setRow wzd.heap.size Ad).setRow (wzd.heap.size + 1) #[.int .i64 5, .int .i64 3, .int .i64 0, .int .i64 0, .int .i64 0, .int .i64 0, .bool false, .int .i64 0]) (wzd.heap.size + 1) #[.int .i64 5, .int .i64 3, .int .i64 0, .int .i64 0, .int .i64 0, .int .i64 0, .bool false, .int .i64 0] 52 := pt1.setRow
  have GG : Hid (Fr none' wzd ((((wzd.alloc (.cells (cpA zc) 30)).alloc (.cells #[.int .i64 0, .int .i64 0, .int .i64 0, .int .i64 0, .int .i64 0, .int .i64 0, .bool false, .int .i64 0] 52)).setRow wzd.heap.size Ad).setRow (wzd.heap.size + 1) #[.int .i64 5, .int .i64 3, .int .i64 0, .int .i64 0, .int .i64 0, .int .i64 0, .bool false, .int .i64 0]) ∧ Row ((((wzd.alloc (.cells (cpA zc) 30)).alloc (.cells #[.int .i64 0, .int .i64 0, .int .i64 0, .int .i64 0, .int .i64 0, .int .i64 0, .bool false, .int .i64 0] 52)).setRow wzd.heap.size Ad).setRow (wzd.heap.size + 1) #[.int .i64 5, .int .i64 3, .int .i64 0, .int .i64 0, .int .i64 0, .int .i64 0, .bool false, .int .i64 0]) wzd.heap.size Ad 30 ∧ Row ((((wzd.alloc (.cells (cpA zc) 30)).alloc (.cells #[.int .i64 0, .int .i64 0, .int .i64 0, .int .i64 0, .int .i64 0, .int .i64 0, .bool false, .int .i64 0] 52)).setRow wzd.heap.size Ad).setRow (wzd.heap.size + 1) #[.int .i64 5, .int .i64 3, .int .i64 0, .int .i64 0, .int .i64 0, .int .i64 0, .bool false, .int .i64 0]) (wzd.heap.size + 1) #[.int .i64 5, .int .i64 3, .int .i64 0, .int .i64 0, .int .i64 0, .int .i64 0, .bool false, .int .i64 0] 52) := ⟨g2, pcd, ptd⟩
  clear g1 g2 pcd ptd pt0
  go_upto_region 13 with (first | refine wpList_store_row rfl 30 _ _ rfl wzd.heap.size Ad rfl rfl 30 (cpA zc) pc0 ls lo aod ?_ | refine wpList_store_row rfl 52 _ _ rfl (wzd.heap.size + 1) #[.int .i64 5, .int .i64 3, .int .i64 0, .int .i64 0, .int .i64 0, .int .i64 0, .bool false, .int .i64 0] rfl rfl 52 #[.int .i64 0, .int .i64 0, .int .i64 0, .int .i64 0, .int .i64 0, .int .i64 0, .bool false, .int .i64 0] pt1 size_trap rfl (by simp [Value.oneCell']) ?_)
  clear pc0 pt1 ls lo
  obtain ⟨g2, pcd, ptd⟩ := GG.out
  clear GG
  replace ra := ra.keep g2 (fun h => h)
  replace rb := rb.keep g2 (fun h => h)
  replace rc := rc.keep g2 (fun h => h)
  replace rd := rd.keep g2 (fun h => h)
  replace pca := pca.keep g2 (fun h => h)
  replace pta := pta.keep g2 (fun h => h)
  replace pcb := pcb.keep g2 (fun h => h)
  replace ptb := ptb.keep g2 (fun h => h)
  replace pcc := pcc.keep g2 (fun h => h)
  replace ptc := ptc.keep g2 (fun h => h)
  replace f0 := f0.trans g2
  clear g2
  obtain ⟨td, ht⟩ : ∃ u, u = ((((wzd.alloc (.cells (cpA zc) 30)).alloc (.cells #[.int .i64 0, .int .i64 0, .int .i64 0, .int .i64 0, .int .i64 0, .int .i64 0, .bool false, .int .i64 0] 52)).setRow wzd.heap.size Ad).setRow (wzd.heap.size + 1) #[.int .i64 5, .int .i64 3, .int .i64 0, .int .i64 0, .int .i64 0, .int .i64 0, .bool false, .int .i64 0]) := ⟨_, rfl⟩
  rw [← ht] at f0 pcd ptd ra rb rc rd pca pta pcb ptb pcc ptc  ⊢
  clear ht
  obtain ⟨hcd, hh1⟩ : ∃ q, q = wzd.heap.size := ⟨_, rfl⟩
  obtain ⟨htd, hh2⟩ : ∃ q, q = wzd.heap.size + 1 := ⟨_, rfl⟩
  rw [← hh2] at ptd ⊢
  rw [← hh1] at pcd lz ⊢
  have Pcd : Hid (gd < hcd) := lz
  have Ptd : Hid (gd < htd) := (show gd < htd by omega)
  clear hh1 hh2 lz
  have w1 := (pca.cell 1).trans AFa.out.1
  have w2 := (pca.cell 16).trans AFa.out.2
  have w3 := (pcb.cell 2).trans AFb.out.1
  clear pca pcb pcc pcd AFa AFb AFc AFd ra rb rc rd
  obtain ⟨ma0, ma1, ma2, ma3, ma4, ma5, ma6, ma7⟩ := cells8 pta
  obtain ⟨mb0, mb1, mb2, mb3, mb4, mb5, mb6, mb7⟩ := cells8 ptb
  obtain ⟨mc0, mc1, mc2, mc3, mc4, mc5, mc6, mc7⟩ := cells8 ptc
  obtain ⟨md0, md1, md2, md3, md4, md5, md6, md7⟩ := cells8 ptd
  go_wp2_with fail
  go_ret
  exact ⟨rfl, f0⟩

end Go.Proofs.YtgnoakidjnilpaaGreat

