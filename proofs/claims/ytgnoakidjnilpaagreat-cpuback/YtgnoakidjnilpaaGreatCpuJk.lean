/-
  Proved: the statement CpuBackSaid: for every word and every place the law CpuBack of the Go text returns true, and each argument reads afterwards as it read before. No condition but the form's own.
-/
import Derived.Test.YtgnoakidjnilpaaGreatCpuJb
import Derived.Test.YtgnoakidjnilpaaGreatTwin
import Derived.Test.YtgnoakidjnilpaaGreatRefMem
import Derived.Test.YtgnoakidjnilpaaGreatRefMore
import Derived.Test.YtgnoakidjnilpaaGreatCpuJc
import Derived.Deep.CutBlock
import Derived.ChangeKeysEq
import Derived.Deep.CutRange
import Derived.Test.YtgnoakidjnilpaaGreatFrame
import Derived.Test.YtgnoakidjnilpaaGreatSame
import Derived.Test.YtgnoakidjnilpaaGreatGrow
import Derived.Test.YtgnoakidjnilpaaGreatCpuJa
import Derived.Test.YtgnoakidjnilpaaGreatRefFrame
import Derived.Test.YtgnoakidjnilpaaGreatEntOpen
/- CpuMade -/
namespace Go.Proofs.YtgnoakidjnilpaaGreat
open Go.RowKit

structure Pu where (t i : Int) (v l : Bool) (r f : Int)
structure Wo where (a : Int) (w : Nat)

structure PuIs (w : World) (b o : Nat) (q : Pu) : Prop where
  c0 : w.cell? ⟨b, o, none⟩ = some (.int .i64 q.t)
  c1 : w.cell? ⟨b, o + 1, none⟩ = some (.int .i64 q.i)
  c2 : w.cell? ⟨b, o + 2, none⟩ = some (.bool q.v)
  c3 : w.cell? ⟨b, o + 3, none⟩ = some (.bool q.l)
  c4 : w.cell? ⟨b, o + 4, none⟩ = some (.int .i64 q.r)
  c5 : w.cell? ⟨b, o + 5, none⟩ = some (.int .i64 q.f)
structure WoIs (w : World) (b o : Nat) (q : Wo) : Prop where
  c0 : w.cell? ⟨b, o, none⟩ = some (.int .i64 q.a)
  c1 : w.cell? ⟨b, o + 1, none⟩ = some (.int .u32 (q.w : Int))
  small : q.a ≤ 9223372036854775807
  word : q.w < 4294967296
theorem PuIs.keep {S : Nat → Prop} {w w' : World} {b o : Nat} {q : Pu} (h : PuIs w b o q) (k : Fr S w w') (hs : ¬ S b) : PuIs w' b o q :=
  ⟨cell_keep k h.c0 hs, cell_keep k h.c1 hs, cell_keep k h.c2 hs, cell_keep k h.c3 hs, cell_keep k h.c4 hs, cell_keep k h.c5 hs⟩
theorem WoIs.keep {S : Nat → Prop} {w w' : World} {b o : Nat} {q : Wo} (h : WoIs w b o q) (k : Fr S w w') (hs : ¬ S b) : WoIs w' b o q :=
  ⟨cell_keep k h.c0 hs, cell_keep k h.c1 hs, h.small, h.word⟩
def Pus (w : World) (a0 : Option Addr) (len : Nat) (P : Nat → Pu) : Prop := ∀ k, k < len → ∃ b o, a0 = some ⟨b, o, none⟩ ∧ PuIs w b (o + k * 6) (P k)
def Wos (w : World) (a0 : Option Addr) (len : Nat) (Q : Nat → Wo) : Prop := ∀ k, k < len → ∃ b o, a0 = some ⟨b, o, none⟩ ∧ WoIs w b (o + k * 2) (Q k)
theorem Pus.keep {w w' : World} {a0 : Option Addr} {len : Nat} {P : Nat → Pu} (h : Pus w a0 len P) (f : Fr none' w w') : Pus w' a0 len P := fun k hk => by
  obtain ⟨b, o, e, q⟩ := h k hk
  exact ⟨b, o, e, q.keep f (fun h => h)⟩
theorem Wos.keep {w w' : World} {a0 : Option Addr} {len : Nat} {P : Nat → Wo} (h : Wos w a0 len P) (f : Fr none' w w') : Wos w' a0 len P := fun k hk => by
  obtain ⟨b, o, e, q⟩ := h k hk
  exact ⟨b, o, e, q.keep f (fun h => h)⟩

/-- The bytes behind so many entries; then behind so many words. -/
def pB (P : Nat → Pu) : Nat → List UInt8
  | 0 => List.replicate (64 * 16) 0
  | n + 1 => putB (pB P n) (P n).t (P n).i 16 (P n).v (P n).l (P n).r (P n).f
def wB (bs : List UInt8) (Q : Nat → Wo) : Nat → List UInt8
  | 0 => bs
  | n + 1 => storeB (wB bs Q n) (Q n).a 4 16 (Q n).w

/-- The program's machine and the document's. -/
structure Bo where
  B : Bm
  pr : Nat
  br : Nat
  bu : Nat
  vr : Option Nat
def M0 (bs : List UInt8) (g : Bool) : Mc := ⟨bs, fun _ => zl, 0, 0, if g = true then some (zeroV 4) else none⟩
theorem M0_few (bs : List UInt8) (g : Bool) : (M0 bs g).few 0 := ⟨Int.le_refl 0, Int.le_refl 0, by show (0 : Int) + 0 ≤ 0; omega, good_zero, uniq_zero⟩
def IsRvO (w : World) : Option Nat → Option Vg → Prop
  | some b, some S => IsRv w b S
  | none, none => True
  | _, _ => False
structure IsBo (w : World) (n : Nat) (O : Bo) (M : Mc) : Prop where
  m : IsMc w O.B 16 M
  r : IsRef w O.pr O.br 16 M.bs
  t : IsTref w O.bu M.T M.fo M.mi
  v : IsRvO w O.vr M.V
  new : ∀ k, (O.B.s k ∨ k = O.B.p) → n ≤ k
  newr : n ≤ O.pr ∧ n ≤ O.br ∧ n ≤ O.bu ∧ ∀ b, O.vr = some b → n ≤ b
  ap : ∀ k, (O.B.s k ∨ k = O.B.p) → k ≠ O.pr ∧ k ≠ O.br ∧ k ≠ O.bu ∧ ∀ b, O.vr = some b → k ≠ b
  apr : O.pr ≠ O.bu ∧ O.br ≠ O.bu ∧ ∀ b, O.vr = some b → b ≠ O.pr ∧ b ≠ O.br ∧ b ≠ O.bu
def Bo.a (O : Bo) : Array Value := #[.pointer (some ⟨O.B.p, 0, none⟩), .pointer (some ⟨O.B.bt, 0, none⟩), ptrV (O.B.v.map Bk.b), .pointer (some ⟨O.pr, 0, none⟩), .pointer (some ⟨O.bu, 0, none⟩), ptrV O.vr]

theorem size_both : (Tryz.prog.info? 44).map (·.size) = some 6 := by kernel_rfl
theorem ret_both {fn : Func} {p q : Tmp} {tmps : Array Value} {g : Nat} {cs : Array Value} {w : World} (h : fn.results = #[.cell p 44, .tmp q]) (hp : tmps.getD p undef = .pointer (some ⟨g, 0, none⟩)) (hr : Row w g cs 44) (hs : cs.size = 6) :
    (results fn tmps).run Tryz.prog w = .ok (.tuple #[.agg cs, tmps.getD q undef]) w := by
  have hl : (loadVar 44 ⟨g, 0, none⟩).run Tryz.prog w = .ok (.agg cs) w := by
    have := run_loadVar_mid (P := Tryz.prog) w g 0 44 cs.toList _ (range_row' hr) Tryz.underlying44 rfl (by rw [Array.length_toList, hs]; exact size_both)
    simpa using this
  have hp' : tmps[p]?.getD undef = .pointer (some ⟨g, 0, none⟩) := by simpa using hp
  simp only [results, h]
  simp [Result.andThen, hp', asAddr, hl]

theorem cells6 {w : World} {g : Nat} {c0 c1 c2 c3 c4 c5 : Value} {t : TypeId} (h : Row w g #[c0, c1, c2, c3, c4, c5] t) : w.cell? ⟨g, 0, none⟩ = some c0 ∧ w.cell? ⟨g, 1, none⟩ = some c1 ∧ w.cell? ⟨g, 2, none⟩ = some c2 ∧ w.cell? ⟨g, 3, none⟩ = some c3 ∧ w.cell? ⟨g, 4, none⟩ = some c4 ∧ w.cell? ⟨g, 5, none⟩ = some c5 := ⟨h.cell 0, h.cell 1, h.cell 2, h.cell 3, h.cell 4, h.cell 5⟩
theorem frozen6 {w : World} {g : Nat} {cs : Array Value} {t : TypeId} (h : Row w g cs t) : w.frozen? ⟨g, 0, none⟩ = false ∧ w.frozen? ⟨g, 1, none⟩ = false ∧ w.frozen? ⟨g, 2, none⟩ = false ∧ w.frozen? ⟨g, 3, none⟩ = false ∧ w.frozen? ⟨g, 4, none⟩ = false ∧ w.frozen? ⟨g, 5, none⟩ = false := ⟨h.frozen 0, h.frozen 1, h.frozen 2, h.frozen 3, h.frozen 4, h.frozen 5⟩
theorem row_set6 {w : World} {g : Nat} {c0 c1 c2 c3 c4 c5 : Value} {t : TypeId} (h : Row w g #[c0, c1, c2, c3, c4, c5] t) (v0 v1 v2 v3 v4 v5 : Value) : Row ((((((w.setCell ⟨g, 0, none⟩ v0).setCell ⟨g, 1, none⟩ v1).setCell ⟨g, 2, none⟩ v2).setCell ⟨g, 3, none⟩ v3).setCell ⟨g, 4, none⟩ v4).setCell ⟨g, 5, none⟩ v5) g #[v0, v1, v2, v3, v4, v5] t := by
  simpa using ((((((h.setCell 0 v0).setCell 1 v1).setCell 2 v2).setCell 3 v3).setCell 4 v4).setCell 5 v5)
theorem fr_own6 (w : World) (g : Nat) (v0 v1 v2 v3 v4 v5 : Value) : Fr (at' g) w ((((((w.setCell ⟨g, 0, none⟩ v0).setCell ⟨g, 1, none⟩ v1).setCell ⟨g, 2, none⟩ v2).setCell ⟨g, 3, none⟩ v3).setCell ⟨g, 4, none⟩ v4).setCell ⟨g, 5, none⟩ v5) := fr_set w g 5 _ (fr_set w g 4 _ (fr_set w g 3 _ (fr_set w g 2 _ (fr_set w g 1 _ (fr_set w g 0 _ (Fr.refl _ w))))))

set_option maxHeartbeats 8000000 in
set_option maxRecDepth 100000 in
theorem made_any (w : World) (a0 a1 : Option Addr) (len cap len1 cap1 : Nat) (g : Bool) (vm se : Int) (P : Nat → Pu) (Q : Nat → Wo) (hl : len ≤ 9223372036854775807) (hl1 : len1 ≤ 9223372036854775807) (hP : Pus w a0 len P) (hQ : Wos w a1 len1 Q) :
    Calls Tryz.prog 8 #[.agg #[.slice a0 len cap, .slice a1 len1 cap1, .bool g, .int .i64 vm, .int .i64 se]] w fun e w' => ∃ O : Bo, e = .returned (.tuple #[.agg O.a, .bool true]) ∧ Fr none' w w' ∧ IsBo w' w.heap.size O (M0 (wB (pB P (min len 100)) Q (min len1 300)) g) := by
  have rx := (row_alloc w #[.slice a0 len cap, .slice a1 len1 cap1, .bool g, .int .i64 vm, .int .i64 se] 25).alloc (.cells #[.pointer none, .pointer none, .pointer none, .pointer none, .pointer none, .pointer none] 44)
  have rr := row_at (W := w.alloc (.cells #[.slice a0 len cap, .slice a1 len1 cap1, .bool g, .int .i64 vm, .int .i64 se] 25)) (n := w.heap.size + 1) (cs := #[.pointer none, .pointer none, .pointer none, .pointer none, .pointer none, .pointer none]) (t := 44) (by simp)
  have f0 := ((Fr.refl none' w).alloc (.cells #[.slice a0 len cap, .slice a1 len1 cap1, .bool g, .int .i64 vm, .int .i64 se] 25)).alloc (.cells #[.pointer none, .pointer none, .pointer none, .pointer none, .pointer none, .pointer none] 44)
  obtain ⟨v0, hv0⟩ : ∃ v0, v0 = (w.alloc (.cells #[.slice a0 len cap, .slice a1 len1 cap1, .bool g, .int .i64 vm, .int .i64 se] 25)).alloc (.cells #[.pointer none, .pointer none, .pointer none, .pointer none, .pointer none, .pointer none] 44) := ⟨_, rfl⟩
  have hsz : Hid (v0.heap.size = w.heap.size + 2) := by show _ = _; rw [hv0]; simp
  rw [← hv0] at rx rr f0
  have HP : Hid (Pus w a0 len P) := hP
  have HQ : Hid (Wos w a1 len1 Q) := hQ
  clear hP hQ
  go_enter Tryz.func8, Tryz.ntmps8
  go_wp2_with fail
  rw [← hv0]
  clear hv0
  obtain ⟨gx, hgx⟩ : ∃ q, q = w.heap.size := ⟨_, rfl⟩
  obtain ⟨gr, hgr⟩ : ∃ q, q = w.heap.size + 1 := ⟨_, rfl⟩
  rw [← hgr] at rr ⊢
  rw [← hgx] at rx ⊢
  have HG : Hid (gx = w.heap.size ∧ gr = w.heap.size + 1) := ⟨hgx, hgr⟩
  clear hgx hgr
  refine (new_any _ _ ⟨by decide, by decide⟩).mono ?_
  rintro e w1 ⟨rfl, f1, r1⟩
  go_wp2_with fail
  refine (rnew_any _ _ ⟨by decide, by decide⟩).mono ?_
  rintro e w2 ⟨rfl, f2, r2⟩
  have TW0 : Twin w2 v0.heap.size (v0.heap.size + 1) v0.heap.size (w1.heap.size + 1) w1.heap.size 16 (List.replicate (64 * 16) 0) := twin_new (Nat.le_refl _) r1 f2 r2
  have HW : Hid (v0.heap.size + 1 < w1.heap.size) := r1.head.lt
  replace f1 := f1.trans f2
  replace f0 := f0.trans f1
  replace rx := rx.keep f1 (fun h => h)
  replace rr := rr.keep f1 (fun h => h)
  clear f1 f2 r1 r2
  obtain ⟨pm, hpm⟩ : ∃ q, q = v0.heap.size + 1 := ⟨_, rfl⟩
  obtain ⟨bm, hbm⟩ : ∃ q, q = v0.heap.size := ⟨_, rfl⟩
  obtain ⟨pr, hpr⟩ : ∃ q, q = w1.heap.size + 1 := ⟨_, rfl⟩
  obtain ⟨br, hbr⟩ : ∃ q, q = w1.heap.size := ⟨_, rfl⟩
  rw [← hpm, ← hpr, ← hbr, ← hbm] at TW0
  rw [← hpm, ← hpr]
  have HA : Hid (w.heap.size + 2 ≤ bm ∧ bm < pm ∧ pm < br ∧ br < pr) := (show _ ∧ _ from ⟨by have := hsz.out; omega, by omega, by have := HW.out; omega, by omega⟩)
  clear hpm hbm hpr hbr HW hsz
  replace TW0 : Twin w2 w.heap.size pm bm pr br 16 (List.replicate (64 * 16) 0) := ⟨TW0.ram, TW0.ref, TW0.d1, TW0.d2, TW0.d3, by have := HA.out; omega⟩
  go_wp2_with fail
  refine (tnew_any _).mono ?_
  rintro e w3 ⟨bt, rfl, hbt, f3, hT⟩
  have HT : Hid (pr < bt) := Nat.lt_of_lt_of_le TW0.ref.head.lt hbt
  replace TW0 := TW0.keep0 f3
  replace f0 := f0.trans f3
  replace rx := rx.keep f3 (fun h => h)
  replace rr := rr.keep f3 (fun h => h)
  clear f3 hbt
  go_upto_block 0 with fail
  go_cut [9] from 36 to 86 (fun s wx => Fr none' w wx ∧ Twin wx w.heap.size pm bm pr br 16 (pB P (min len 100)) ∧ Row wx gx #[.slice a0 len cap, .slice a1 len1 cap1, .bool g, .int .i64 vm, .int .i64 se] 25 ∧ Row wx gr #[.pointer none, .pointer none, .pointer none, .pointer none, .pointer none, .pointer none] 44 ∧ IsTlb wx bt (fun _ => zl) 0 0)
  case first =>
    go_wp2_with fail
    go_loopw [9] (fun i wr => ∃ k : Nat, k ≤ len ∧ k ≤ 100 ∧ i = .int .i64 k ∧ Fr none' w wr ∧ Twin wr w.heap.size pm bm pr br 16 (pB P k) ∧ Row wr gx #[.slice a0 len cap, .slice a1 len1 cap1, .bool g, .int .i64 vm, .int .i64 se] 25 ∧ Row wr gr #[.pointer none, .pointer none, .pointer none, .pointer none, .pointer none, .pointer none] 44 ∧ IsTlb wr bt (fun _ => zl) 0 0) (fun i _ => 100 - (intOf i).toNat)
    case atStart => exact ⟨0, by omega, by omega, rfl, f0, TW0, rx, rr, hT⟩
    case round =>
      clear f0 TW0 rx rr hT
      obtain ⟨k, hk, hk2, rfl, fk, TW, rx, rr, hT⟩ := hrel
      have x0 : wr.cell? ⟨gx, 0, none⟩ = some (.slice a0 len cap) := rx.cell 0
      by_cases hlt : k < len
      · by_cases hlt2 : k < 100
        · obtain ⟨b, o, rfl, pk⟩ := HP.out k hlt
          have hbl := cell_lt pk.c0
          replace hbl : Hid (b < w.heap.size) := hbl
          replace pk := pk.keep fk (fun h => h)
          have i1 : 0 ≤ (k : Int) ∧ (k : Int) < (len : Int) := by omega
          have uk1 : decide ((k : Int) < (len : Int)) = true := decide_eq_true (by omega)
          have uk2 : decide ((k : Int) < 100) = true := decide_eq_true (by omega)
          have nb : b ≠ bm ∧ b ≠ br := by have := hbl.out; have := HA.out; omega
          have ng : gx ≠ bm ∧ gx ≠ br ∧ gr ≠ bm ∧ gr ≠ br := by have := HG.out; have := HA.out; omega
          have nt : bt ≠ bm ∧ bt ≠ br := by have := HT.out; have := HA.out; omega
          have HNN : Hid ((b ≠ bm ∧ b ≠ br) ∧ (gx ≠ bm ∧ gx ≠ br ∧ gr ≠ bm ∧ gr ≠ br) ∧ (bt ≠ bm ∧ bt ≠ br)) := ⟨nb, ng, nt⟩
          clear nb ng nt
          go_wp2_with fail
          clear x0
          have dm := TW.ram.drew
          go_region_held3 (fun w' => w'.cell? ⟨gx, 0, none⟩ = some (.slice (some ⟨b, o, none⟩) len cap) ∧ w'.cell? ⟨b, o + k * 6, none⟩ = some (.int .i64 (P k).t) ∧ w'.cell? ⟨b, o + k * 6 + 1, none⟩ = some (.int .i64 (P k).i) ∧ w'.cell? ⟨b, o + k * 6 + 2, none⟩ = some (.bool (P k).v) ∧ w'.cell? ⟨b, o + k * 6 + 3, none⟩ = some (.bool (P k).l) ∧ w'.cell? ⟨b, o + k * 6 + 4, none⟩ = some (.int .i64 (P k).r) ∧ w'.cell? ⟨b, o + k * 6 + 5, none⟩ = some (.int .i64 (P k).f)) (first | with_reducible exact ⟨rx.cell 0, pk.c0, pk.c1, pk.c2, pk.c3, pk.c4, pk.c5⟩ | exact ⟨rx.cell 0, pk.c0, pk.c1, pk.c2, pk.c3, pk.c4, pk.c5⟩) (first | (go_at_call 32; refine (put_any _ _ _ _ _ _ _ _ _ _ _ dm).mono ?_; rintro e w1' ⟨rfl, f1, q1⟩; replace f1 := rs_drew f1; replace pk := pk.keep f1 HNN.out.1.1; replace rx := rx.keep f1 HNN.out.2.1.1))
          clear dm
          have q0 := TW.ref.keep f1 TW.d2 (fun e => TW.d3 e.symm)
          go_wp2_with fail
          have dr := q0.drew
          go_region_held3 (fun w' => w'.cell? ⟨gx, 0, none⟩ = some (.slice (some ⟨b, o, none⟩) len cap) ∧ w'.cell? ⟨b, o + k * 6, none⟩ = some (.int .i64 (P k).t) ∧ w'.cell? ⟨b, o + k * 6 + 1, none⟩ = some (.int .i64 (P k).i) ∧ w'.cell? ⟨b, o + k * 6 + 2, none⟩ = some (.bool (P k).v) ∧ w'.cell? ⟨b, o + k * 6 + 3, none⟩ = some (.bool (P k).l) ∧ w'.cell? ⟨b, o + k * 6 + 4, none⟩ = some (.int .i64 (P k).r) ∧ w'.cell? ⟨b, o + k * 6 + 5, none⟩ = some (.int .i64 (P k).f)) (first | with_reducible exact ⟨rx.cell 0, pk.c0, pk.c1, pk.c2, pk.c3, pk.c4, pk.c5⟩ | exact ⟨rx.cell 0, pk.c0, pk.c1, pk.c2, pk.c3, pk.c4, pk.c5⟩) (first | (go_at_call 33; refine (rput_any _ _ _ _ _ _ _ _ _ _ _ dr).mono ?_; rintro e w2' ⟨rfl, f2, q2⟩; replace f2 := rs_drew f2; replace pk := pk.keep f2 HNN.out.1.2; replace rx := rx.keep f2 HNN.out.2.1.2.1))
          clear dr
          obtain ⟨TW2, ff⟩ := TW.step f1 q1 f2 q2
          replace fk := fk.own ff TW.lo.2.1 TW.lo.2.2.2
          replace rr := (rr.keep f1 HNN.out.2.1.2.2.1).keep f2 HNN.out.2.1.2.2.2
          replace hT := (hT.keep f1 HNN.out.2.2.1).keep f2 HNN.out.2.2.2
          clear f1 f2 q0 q1 q2 ff TW
          go_wp2_with fail
          go_roundw
          case rel => exact ⟨k + 1, by omega, by omega, by go_num, fk, TW2, rx, rr, hT⟩
          case measure => simp [intOf]; omega
        · obtain rfl : k = 100 := by omega
          have uk1 : decide (((100 : Nat) : Int) < (len : Int)) = true := decide_eq_true (by omega)
          have x0' : wr.cell? ⟨gx, 0, none⟩ = some (.slice a0 len cap) := x0
          go_wp2_with fail
          go_meet
          exact ⟨fk, by rw [Nat.min_eq_right (by omega)]; exact TW, rx, rr, hT⟩
      · obtain rfl : k = len := by omega
        go_wp2_with fail
        go_meet
        exact ⟨fk, by rw [Nat.min_eq_left (by omega)]; exact TW, rx, rr, hT⟩
  case rest =>
  obtain ⟨f0, TW0, rx, rr, hT⟩ := hcut
  obtain ⟨bs0, hbs0⟩ : ∃ q, q = pB P (min len 100) := ⟨_, rfl⟩
  rw [← hbs0] at TW0
  have HBS : Hid (bs0 = pB P (min len 100)) := hbs0
  clear hbs0
  go_upto_block 2 with fail
  go_cut [10] from 87 to 125 (fun s wx => Fr none' w wx ∧ Twin wx w.heap.size pm bm pr br 16 (wB bs0 Q (min len1 300)) ∧ Row wx gx #[.slice a0 len cap, .slice a1 len1 cap1, .bool g, .int .i64 vm, .int .i64 se] 25 ∧ Row wx gr #[.pointer none, .pointer none, .pointer none, .pointer none, .pointer none, .pointer none] 44 ∧ IsTlb wx bt (fun _ => zl) 0 0)
  case first =>
    go_wp2_with fail
    go_loopw [10] (fun i wr => ∃ k : Nat, k ≤ len1 ∧ k ≤ 300 ∧ i = .int .i64 k ∧ Fr none' w wr ∧ Twin wr w.heap.size pm bm pr br 16 (wB bs0 Q k) ∧ Row wr gx #[.slice a0 len cap, .slice a1 len1 cap1, .bool g, .int .i64 vm, .int .i64 se] 25 ∧ Row wr gr #[.pointer none, .pointer none, .pointer none, .pointer none, .pointer none, .pointer none] 44 ∧ IsTlb wr bt (fun _ => zl) 0 0) (fun i _ => 300 - (intOf i).toNat)
    case atStart => exact ⟨0, by omega, by omega, rfl, f0, TW0, rx, rr, hT⟩
    case round =>
      clear f0 TW0 rx rr hT
      obtain ⟨k, hk, hk2, rfl, fk, TW, rx, rr, hT⟩ := hrel
      have x0 : wr.cell? ⟨gx, 1, none⟩ = some (.slice a1 len1 cap1) := rx.cell 1
      by_cases hlt : k < len1
      · by_cases hlt2 : k < 300
        · obtain ⟨b, o, rfl, pk⟩ := HQ.out k hlt
          have hbl := cell_lt pk.c0
          replace hbl : Hid (b < w.heap.size) := hbl
          replace pk := pk.keep fk (fun h => h)
          have i1 : 0 ≤ (k : Int) ∧ (k : Int) < (len1 : Int) := by omega
          have uk1 : decide ((k : Int) < (len1 : Int)) = true := decide_eq_true (by omega)
          have uk2 : decide ((k : Int) < 300) = true := decide_eq_true (by omega)
          have nb : b ≠ bm ∧ b ≠ br := by have := hbl.out; have := HA.out; omega
          have ng : gx ≠ bm ∧ gx ≠ br ∧ gr ≠ bm ∧ gr ≠ br := by have := HG.out; have := HA.out; omega
          have nt : bt ≠ bm ∧ bt ≠ br := by have := HT.out; have := HA.out; omega
          have HNN : Hid ((b ≠ bm ∧ b ≠ br) ∧ (gx ≠ bm ∧ gx ≠ br ∧ gr ≠ bm ∧ gr ≠ br) ∧ (bt ≠ bm ∧ bt ≠ br)) := ⟨nb, ng, nt⟩
          clear nb ng nt
          go_wp2_with fail
          clear x0
          have dm := TW.ram.drew
          go_region_held3 (fun w' => w'.cell? ⟨gx, 1, none⟩ = some (.slice (some ⟨b, o, none⟩) len1 cap1) ∧ w'.cell? ⟨b, o + k * 2, none⟩ = some (.int .i64 (Q k).a) ∧ w'.cell? ⟨b, o + k * 2 + 1, none⟩ = some (.int .u32 ((Q k).w : Int))) (first | with_reducible exact ⟨rx.cell 1, pk.c0, pk.c1⟩ | exact ⟨rx.cell 1, pk.c0, pk.c1⟩) (first | (go_at_call 28; refine (store_any _ _ _ _ _ (Q k).a 4 (Q k).w dm pk.small pk.word).mono ?_; rintro e w1' ⟨rfl, f1, q1⟩; replace f1 := rs_drew f1; replace pk := pk.keep f1 HNN.out.1.1; replace rx := rx.keep f1 HNN.out.2.1.1))
          clear dm
          have q0 := TW.ref.keep f1 TW.d2 (fun e => TW.d3 e.symm)
          go_wp2_with fail
          have dr := q0.drew
          go_region_held3 (fun w' => w'.cell? ⟨gx, 1, none⟩ = some (.slice (some ⟨b, o, none⟩) len1 cap1) ∧ w'.cell? ⟨b, o + k * 2, none⟩ = some (.int .i64 (Q k).a) ∧ w'.cell? ⟨b, o + k * 2 + 1, none⟩ = some (.int .u32 ((Q k).w : Int))) (first | with_reducible exact ⟨rx.cell 1, pk.c0, pk.c1⟩ | exact ⟨rx.cell 1, pk.c0, pk.c1⟩) (first | (go_at_call 34; refine (rstore_any _ _ _ _ _ (Q k).a 4 (Q k).w dr pk.word).mono ?_; rintro e w2' ⟨rfl, f2, q2⟩; replace f2 := rs_drew f2; replace pk := pk.keep f2 HNN.out.1.2; replace rx := rx.keep f2 HNN.out.2.1.2.1))
          clear dr
          obtain ⟨TW2, ff⟩ := TW.step f1 q1 f2 q2
          replace fk := fk.own ff TW.lo.2.1 TW.lo.2.2.2
          replace rr := (rr.keep f1 HNN.out.2.1.2.2.1).keep f2 HNN.out.2.1.2.2.2
          replace hT := (hT.keep f1 HNN.out.2.2.1).keep f2 HNN.out.2.2.2
          clear f1 f2 q0 q1 q2 ff TW
          go_wp2_with fail
          go_roundw
          case rel => exact ⟨k + 1, by omega, by omega, by go_num, fk, TW2, rx, rr, hT⟩
          case measure => simp [intOf]; omega
        · obtain rfl : k = 300 := by omega
          have uk1 : decide (((300 : Nat) : Int) < (len1 : Int)) = true := decide_eq_true (by omega)
          have x0' : wr.cell? ⟨gx, 1, none⟩ = some (.slice a1 len1 cap1) := x0
          go_wp2_with fail
          go_meet
          exact ⟨fk, by rw [Nat.min_eq_right (by omega)]; exact TW, rx, rr, hT⟩
      · obtain rfl : k = len1 := by omega
        go_wp2_with fail
        go_meet
        exact ⟨fk, by rw [Nat.min_eq_left (by omega)]; exact TW, rx, rr, hT⟩
  case rest =>
  obtain ⟨f0, TW0, rx, rr, hT⟩ := hcut
  obtain ⟨bu, hbu⟩ : ∃ q, q = wc.heap.size := ⟨_, rfl⟩
  obtain ⟨gs, hgs⟩ : ∃ q, q = wc.heap.size + 1 := ⟨_, rfl⟩
  have HU : Hid (bt < bu ∧ gs = bu + 1 ∧ gr < bu) := (show _ ∧ _ from ⟨by rw [hbu]; exact hT.lt, by omega, by rw [hbu]; exact rr.lt⟩)
  have q1 := ((Fr.refl none' wc).alloc (.cells #[.int .i64 0, .int .i64 0, .int .i64 0, .int .i64 0, .int .i64 0, .int .i64 0, .int .i64 0, .int .i64 0, .int .i64 0, .int .i64 0, .int .i64 0, .int .i64 0, .int .i64 0, .int .i64 0, .int .i64 0, .int .i64 0, .int .i64 0, .int .i64 0, .int .i64 0, .int .i64 0, .int .i64 0, .int .i64 0, .int .i64 0, .int .i64 0, .int .i64 0, .int .i64 0, .int .i64 0, .int .i64 0, .int .i64 0, .int .i64 0, .int .i64 0, .int .i64 0, .int .i64 0, .int .i64 0, .int .i64 0, .int .i64 0, .int .i64 0, .int .i64 0, .int .i64 0, .int .i64 0, .int .i64 0, .int .i64 0] 104)).alloc (.cells #[.pointer (some ⟨pm, 0, none⟩), .pointer (some ⟨bt, 0, none⟩), .pointer none, .pointer (some ⟨pr, 0, none⟩), .pointer (some ⟨bu, 0, none⟩), .pointer none] 44)
  have hU : IsTref ((wc.alloc (.cells #[.int .i64 0, .int .i64 0, .int .i64 0, .int .i64 0, .int .i64 0, .int .i64 0, .int .i64 0, .int .i64 0, .int .i64 0, .int .i64 0, .int .i64 0, .int .i64 0, .int .i64 0, .int .i64 0, .int .i64 0, .int .i64 0, .int .i64 0, .int .i64 0, .int .i64 0, .int .i64 0, .int .i64 0, .int .i64 0, .int .i64 0, .int .i64 0, .int .i64 0, .int .i64 0, .int .i64 0, .int .i64 0, .int .i64 0, .int .i64 0, .int .i64 0, .int .i64 0, .int .i64 0, .int .i64 0, .int .i64 0, .int .i64 0, .int .i64 0, .int .i64 0, .int .i64 0, .int .i64 0, .int .i64 0, .int .i64 0] 104)).alloc (.cells #[.pointer (some ⟨pm, 0, none⟩), .pointer (some ⟨bt, 0, none⟩), .pointer none, .pointer (some ⟨pr, 0, none⟩), .pointer (some ⟨bu, 0, none⟩), .pointer none] 44)) bu (fun _ => zl) 0 0 := by rw [hbu]; exact (buf_zero _ _).alloc _
  have rs : Row ((wc.alloc (.cells #[.int .i64 0, .int .i64 0, .int .i64 0, .int .i64 0, .int .i64 0, .int .i64 0, .int .i64 0, .int .i64 0, .int .i64 0, .int .i64 0, .int .i64 0, .int .i64 0, .int .i64 0, .int .i64 0, .int .i64 0, .int .i64 0, .int .i64 0, .int .i64 0, .int .i64 0, .int .i64 0, .int .i64 0, .int .i64 0, .int .i64 0, .int .i64 0, .int .i64 0, .int .i64 0, .int .i64 0, .int .i64 0, .int .i64 0, .int .i64 0, .int .i64 0, .int .i64 0, .int .i64 0, .int .i64 0, .int .i64 0, .int .i64 0, .int .i64 0, .int .i64 0, .int .i64 0, .int .i64 0, .int .i64 0, .int .i64 0] 104)).alloc (.cells #[.pointer (some ⟨pm, 0, none⟩), .pointer (some ⟨bt, 0, none⟩), .pointer none, .pointer (some ⟨pr, 0, none⟩), .pointer (some ⟨bu, 0, none⟩), .pointer none] 44)) gs #[.pointer (some ⟨pm, 0, none⟩), .pointer (some ⟨bt, 0, none⟩), .pointer none, .pointer (some ⟨pr, 0, none⟩), .pointer (some ⟨bu, 0, none⟩), .pointer none] 44 := row_at (by rw [hgs]; simp)
  rw [hbu] at q1 hU rs
  go_upto_region 17 with fail
  obtain ⟨v5, hv5⟩ : ∃ v5, v5 = (wc.alloc (.cells #[.int .i64 0, .int .i64 0, .int .i64 0, .int .i64 0, .int .i64 0, .int .i64 0, .int .i64 0, .int .i64 0, .int .i64 0, .int .i64 0, .int .i64 0, .int .i64 0, .int .i64 0, .int .i64 0, .int .i64 0, .int .i64 0, .int .i64 0, .int .i64 0, .int .i64 0, .int .i64 0, .int .i64 0, .int .i64 0, .int .i64 0, .int .i64 0, .int .i64 0, .int .i64 0, .int .i64 0, .int .i64 0, .int .i64 0, .int .i64 0, .int .i64 0, .int .i64 0, .int .i64 0, .int .i64 0, .int .i64 0, .int .i64 0, .int .i64 0, .int .i64 0, .int .i64 0, .int .i64 0, .int .i64 0, .int .i64 0] 104)).alloc (.cells #[.pointer (some ⟨pm, 0, none⟩), .pointer (some ⟨bt, 0, none⟩), .pointer none, .pointer (some ⟨pr, 0, none⟩), .pointer (some ⟨wc.heap.size, 0, none⟩), .pointer none] 44) := ⟨_, rfl⟩
  rw [← hv5] at q1 hU rs ⊢
  rw [← hgs]
  rw [← hbu] at hU rs ⊢
  clear hv5 hbu hgs
  replace f0 := f0.trans q1
  replace TW0 := TW0.keep0 q1
  replace rx := rx.keep q1 (fun h => h)
  replace rr := rr.keep q1 (fun h => h)
  replace hT := hT.keep q1 (fun h => h)
  clear q1
  have c2 : v5.cell? ⟨gx, 2, none⟩ = some (.bool g) := rx.cell 2
  have HAll : Hid (w.heap.size + 2 ≤ bm ∧ bm < pm ∧ pm < br ∧ br < pr ∧ pr < bt ∧ bt < bu ∧ gs = bu + 1 ∧ gr = w.heap.size + 1 ∧ gx = w.heap.size) := (show _ ∧ _ from by have := HA.out; have := HT.out; have := HU.out; have := HG.out; omega)
  clear HA HT HU HG HP HQ
  cases g with
  | false =>
    obtain ⟨s0, s1, s2, s3, s4, s5⟩ := cells6 rs
    obtain ⟨r0, r1, r2, r3, r4, r5⟩ := cells6 rr
    obtain ⟨z0, z1, z2, z3, z4, z5⟩ := frozen6 rr
    go_wp2_with fail
    refine bodyPost_ret (ret_both rfl rfl (row_set6 rr _ _ _ _ _ _) rfl) rfl ?_
    have q := fr_own6 v5 gr (.pointer (some ⟨pm, 0, none⟩)) (.pointer (some ⟨bt, 0, none⟩)) (.pointer none) (.pointer (some ⟨pr, 0, none⟩)) (.pointer (some ⟨bu, 0, none⟩)) (.pointer none)
    have hh := HAll.out
    have TW3 := TW0.keep q (show pm ≠ gr by omega) (show bm ≠ gr by omega) (show pr ≠ gr by omega) (show br ≠ gr by omega)
    rw [HBS.out] at TW3
    refine ⟨⟨⟨pm, bm, bt, none⟩, pr, br, bu, none⟩, rfl, f0.newer q (by omega), ⟨⟨TW3.ram, hT.keep q (show bt ≠ gr by omega), trivial, by show pm ≠ bt; omega, by show bm ≠ bt; omega, by show pm ≠ bm; omega, fun e => e, fun e => e, fun e => e⟩, TW3.ref, hU.keep q (show bu ≠ gr by omega), trivial, fun k hk => ?_, ⟨by show _ ≤ pr; omega, by show _ ≤ br; omega, by show _ ≤ bu; omega, fun _ h => by cases h⟩, fun k hk => ?_, ⟨by show pr ≠ bu; omega, by show br ≠ bu; omega, fun _ h => by cases h⟩⟩⟩
    · have hk' : k = bm ∨ k = bt ∨ k = pm := by rcases hk with (h | h | h) | h; exact Or.inl h; exact Or.inr (Or.inl h); exact h.elim; exact Or.inr (Or.inr h)
      omega
    · have hk' : k = bm ∨ k = bt ∨ k = pm := by rcases hk with (h | h | h) | h; exact Or.inl h; exact Or.inr (Or.inl h); exact h.elim; exact Or.inr (Or.inr h)
      exact ⟨by show k ≠ pr; omega, by show k ≠ br; omega, by show k ≠ bu; omega, fun _ h => by cases h⟩
  | true =>
    go_wp2_with fail
    refine (v_new_ok _ 4 (by decide)).mono ?_
    rintro e v6 ⟨b, rfl, hbn, f6, hV⟩
    have HV1 : Hid (∀ k, b.s k → gs < k ∧ k < v6.heap.size) := fun k hk => ⟨Nat.lt_of_lt_of_le rs.lt (hbn k hk), hV.lt k hk⟩
    replace f0 := f0.trans f6
    replace TW0 := TW0.keep0 f6
    replace rr := rr.keep f6 (fun h => h)
    replace rs := rs.keep f6 (fun h => h)
    replace hT := hT.keep f6 (fun h => h)
    replace hU := hU.keep f6 (fun h => h)
    clear f6 hbn rx c2
    go_wp2_with fail
    refine (v_rnew_ok _ 4 (by decide)).mono ?_
    rintro e v7 ⟨vr, rfl, hvn, f7, hRV⟩
    have HV2 : Hid (∀ k, b.s k → gs < k ∧ k < vr) := fun k hk => ⟨(HV1.out k hk).1, Nat.lt_of_lt_of_le (HV1.out k hk).2 hvn⟩
    have HV3 : Hid (gs < vr) := Nat.lt_of_lt_of_le rs.lt hvn
    replace f0 := f0.trans f7
    replace TW0 := TW0.keep0 f7
    replace rr := rr.keep f7 (fun h => h)
    replace rs := rs.keep f7 (fun h => h)
    replace hT := hT.keep f7 (fun h => h)
    replace hU := hU.keep f7 (fun h => h)
    replace hV := hV.keep0 f7
    clear f7 hvn HV1
    obtain ⟨s0, s1, s2, s3, s4, s5⟩ := cells6 rs
    obtain ⟨y0, y1, y2, y3, y4, y5⟩ := frozen6 rs
    obtain ⟨r0, r1, r2, r3, r4, r5⟩ := cells6 rr
    obtain ⟨z0, z1, z2, z3, z4, z5⟩ := frozen6 rr
    have ngs : gs ≠ gr := by have := HAll.out; omega
    go_wp2_with fail
    have q1 : Fr (at' gs) v7 ((v7.setCell ⟨gs, 2, none⟩ (.pointer (some ⟨b.b, 0, none⟩))).setCell ⟨gs, 5, none⟩ (.pointer (some ⟨vr, 0, none⟩))) := fr_set v7 gs 5 _ (fr_set v7 gs 2 _ (Fr.refl _ v7))
    have rr1 := rr.keep q1 (show gr ≠ gs from Ne.symm ngs)
    obtain ⟨v8, hv8⟩ : ∃ v8, v8 = (v7.setCell ⟨gs, 2, none⟩ (.pointer (some ⟨b.b, 0, none⟩))).setCell ⟨gs, 5, none⟩ (.pointer (some ⟨vr, 0, none⟩)) := ⟨_, rfl⟩
    rw [← hv8] at q1 rr1 ⊢
    clear hv8
    refine bodyPost_ret (ret_both rfl rfl (row_set6 rr1 _ _ _ _ _ _) rfl) rfl ?_
    have q2 := fr_own6 v8 gr (.pointer (some ⟨pm, 0, none⟩)) (.pointer (some ⟨bt, 0, none⟩)) (.pointer (some ⟨b.b, 0, none⟩)) (.pointer (some ⟨pr, 0, none⟩)) (.pointer (some ⟨bu, 0, none⟩)) (.pointer (some ⟨vr, 0, none⟩))
    have hh := HAll.out
    have h3 := HV3.out
    have hs2 := HV2.out
    have TW3 := (TW0.keep q1 (show pm ≠ gs by omega) (show bm ≠ gs by omega) (show pr ≠ gs by omega) (show br ≠ gs by omega)).keep q2 (show pm ≠ gr by omega) (show bm ≠ gr by omega) (show pr ≠ gr by omega) (show br ≠ gr by omega)
    rw [HBS.out] at TW3
    refine ⟨⟨⟨pm, bm, bt, some b⟩, pr, br, bu, some vr⟩, rfl, (f0.newer q1 (by omega)).newer q2 (by omega), ⟨⟨TW3.ram, (hT.keep q1 (show bt ≠ gs by omega)).keep q2 (show bt ≠ gr by omega), ?_, by show pm ≠ bt; omega, by show bm ≠ bt; omega, by show pm ≠ bm; omega, fun e => by have := hs2 pm e; omega, fun e => by have := hs2 bm e; omega, fun e => by have := hs2 bt e; omega⟩, TW3.ref, (hU.keep q1 (show bu ≠ gs by omega)).keep q2 (show bu ≠ gr by omega), ?_, fun k hk => ?_, ⟨by show _ ≤ pr; omega, by show _ ≤ br; omega, by show _ ≤ bu; omega, fun b' h => by cases h; omega⟩, fun k hk => ?_, ⟨by show pr ≠ bu; omega, by show br ≠ bu; omega, fun b' h => by cases h; exact ⟨by show vr ≠ pr; omega, by show vr ≠ br; omega, by show vr ≠ bu; omega⟩⟩⟩⟩
    · exact (hV.keep q1 (fun k hk e => by have e' : k = gs := e; have := hs2 k hk; omega)).keep q2 (fun k hk e => by have e' : k = gr := e; have := hs2 k hk; omega)
    · exact (hRV.keep q1 (show vr ≠ gs by omega)).keep q2 (show vr ≠ gr by omega)
    · have hk' : (k = bm ∨ k = bt ∨ k = pm) ∨ b.s k := by rcases hk with (h | h | h) | h; exact Or.inl (Or.inl h); exact Or.inl (Or.inr (Or.inl h)); exact Or.inr h; exact Or.inl (Or.inr (Or.inr h))
      rcases hk' with hk' | hk'
      · omega
      · have := hs2 k hk'; omega
    · have hk' : (k = bm ∨ k = bt ∨ k = pm) ∨ b.s k := by rcases hk with (h | h | h) | h; exact Or.inl (Or.inl h); exact Or.inl (Or.inr (Or.inl h)); exact Or.inr h; exact Or.inl (Or.inr (Or.inr h))
      rcases hk' with hk' | hk'
      · exact ⟨by show k ≠ pr; omega, by show k ≠ br; omega, by show k ≠ bu; omega, fun b' h => by cases h; omega⟩
      · have := hs2 k hk'
        exact ⟨by show k ≠ pr; omega, by show k ≠ br; omega, by show k ≠ bu; omega, fun b' h => by cases h; omega⟩

end Go.Proofs.YtgnoakidjnilpaaGreat

/- CpuExample -/
namespace Go.Proofs.YtgnoakidjnilpaaGreat
open Go.RowKit

theorem size_world : (Tryz.prog.info? 25).map (·.size) = some 5 := by kernel_rfl
theorem ret_world {fn : Func} {p : Tmp} {tmps : Array Value} {g : Nat} {cs : Array Value} {w : World} (h : fn.results = #[.cell p 25]) (hp : tmps.getD p undef = .pointer (some ⟨g, 0, none⟩)) (hr : Row w g cs 25) (hs : cs.size = 5) :
    (results fn tmps).run Tryz.prog w = .ok (.agg cs) w :=
  results_cell_row h tmps w g _ cs (0, 0) _ hp hr Tryz.underlying25 rfl (by rw [hs]; exact size_world)
theorem size_entry : (Tryz.prog.info? 71).map (·.size) = some 4 := by kernel_rfl
theorem ret_entry {fn : Func} {p : Tmp} {tmps : Array Value} {g : Nat} {cs : Array Value} {w : World} (h : fn.results = #[.cell p 71]) (hp : tmps.getD p undef = .pointer (some ⟨g, 0, none⟩)) (hr : Row w g cs 71) (hs : cs.size = 4) :
    (results fn tmps).run Tryz.prog w = .ok (.agg cs) w :=
  results_cell_row h tmps w g _ cs (0, 0) _ hp hr Tryz.underlying71 rfl (by rw [hs]; exact size_entry)

theorem leaf_any (w : World) (f r : Int) : Calls Tryz.prog 66 #[.int .i64 f, .int .i64 r] w fun e w' => e = .returned (.agg #[.bool true, .bool true, .int .i64 r, .int .i64 f]) ∧ Fr none' w w' := by
  go_enter Tryz.func66, Tryz.ntmps66
  go_wp2_with fail
  refine bodyPost_ret (ret_entry rfl rfl (row_alloc _ _ _) rfl) rfl ?_
  exact ⟨rfl, (Fr.refl _ w).alloc _⟩

def exP : Nat → Pu
  | 0 => ⟨3, 0, true, false, 0, 4⟩
  | 1 => ⟨4, 0, true, true, 5, 1⟩
  | _ => ⟨4, 1, true, true, 3, 2⟩
def exQ (W : Nat) : Nat → Wo
  | 0 => ⟨64, W⟩
  | _ => ⟨128, 77⟩
/-- The example's memory. -/
def exB (W : Nat) : List UInt8 := wB (pB exP 3) (exQ W) 2

set_option maxHeartbeats 4000000 in
set_option maxRecDepth 100000 in
theorem example_any (w : World) (o a b c i : Int) (g : Bool) (W : Nat) (hW : i_encW o a b c i = W) (hWl : W < 4294967296) :
    Calls Tryz.prog 26 #[.agg #[.int .i64 o, .int .i64 a, .int .i64 b, .int .i64 c, .int .i64 i], .bool g] w fun e w' => ∃ a0 a1, e = .returned (.agg #[.slice a0 3 3, .slice a1 2 2, .bool g, .int .i64 1, .int .i64 3]) ∧ Fr none' w w' ∧ Pus w' a0 3 exP ∧ Wos w' a1 2 (exQ W) := by
  have hE := fun w1 => i_enc_any o a b c i w1
  rw [hW] at hE
  have f0 := ((Fr.refl none' w).alloc (.cells #[.int .i64 o, .int .i64 a, .int .i64 b, .int .i64 c, .int .i64 i] 84)).alloc (.cells #[.slice none 0 0, .slice none 0 0, .bool false, .int .i64 0, .int .i64 0] 25)
  have rr := row_at (W := w.alloc (.cells #[.int .i64 o, .int .i64 a, .int .i64 b, .int .i64 c, .int .i64 i] 84)) (n := w.heap.size + 1) (cs := #[.slice none 0 0, .slice none 0 0, .bool false, .int .i64 0, .int .i64 0]) (t := 25) (by simp)
  clear hW
  go_enter Tryz.func26, Tryz.ntmps26
  go_wp2_with fail
  refine (hE _).mono ?_
  rintro e v1 ⟨rfl, g1⟩
  replace f0 := f0.trans g1
  replace rr := rr.keep g1 (fun h => h)
  clear g1 hE
  go_wp2_with fail
  refine (leaf_any _ _ _).mono ?_
  rintro e v2 ⟨rfl, g2⟩
  replace f0 := f0.trans g2
  replace rr := rr.keep g2 (fun h => h)
  clear g2
  go_wp2_with fail
  refine (leaf_any _ _ _).mono ?_
  rintro e v3 ⟨rfl, g3⟩
  replace f0 := f0.trans g3
  replace rr := rr.keep g3 (fun h => h)
  clear g3
  have hlt := rr.lt
  have HG : Hid (w.heap.size + 1 < v3.heap.size) := hlt
  clear hlt
  have f4 := (f0.alloc (.cells #[.int .i64 3, .int .i64 0, .bool true, .bool false, .int .i64 0, .int .i64 4, .int .i64 4, .int .i64 0, .bool true, .bool true, .int .i64 5, .int .i64 1, .int .i64 4, .int .i64 1, .bool true, .bool true, .int .i64 3, .int .i64 2] 96)).alloc (.cells #[.int .i64 64, .int .u32 (W : Int), .int .i64 128, .int .u32 77] 99)
  have rr2 := (rr.alloc (.cells #[.int .i64 3, .int .i64 0, .bool true, .bool false, .int .i64 0, .int .i64 4, .int .i64 4, .int .i64 0, .bool true, .bool true, .int .i64 5, .int .i64 1, .int .i64 4, .int .i64 1, .bool true, .bool true, .int .i64 3, .int .i64 2] 96)).alloc (.cells #[.int .i64 64, .int .u32 (W : Int), .int .i64 128, .int .u32 77] 99)
  have rp := (row_alloc v3 #[.int .i64 3, .int .i64 0, .bool true, .bool false, .int .i64 0, .int .i64 4, .int .i64 4, .int .i64 0, .bool true, .bool true, .int .i64 5, .int .i64 1, .int .i64 4, .int .i64 1, .bool true, .bool true, .int .i64 3, .int .i64 2] 96).alloc (.cells #[.int .i64 64, .int .u32 (W : Int), .int .i64 128, .int .u32 77] 99)
  have rw' := row_at (W := v3.alloc (.cells #[.int .i64 3, .int .i64 0, .bool true, .bool false, .int .i64 0, .int .i64 4, .int .i64 4, .int .i64 0, .bool true, .bool true, .int .i64 5, .int .i64 1, .int .i64 4, .int .i64 1, .bool true, .bool true, .int .i64 3, .int .i64 2] 96)) (n := v3.heap.size + 1) (cs := #[.int .i64 64, .int .u32 (W : Int), .int .i64 128, .int .u32 77]) (t := 99) (by simp)
  obtain ⟨z0, z1, z2, z3, z4⟩ := frozen5 rr2
  obtain ⟨x0, x1, x2, x3, x4⟩ := cells5 rr2
  go_wp2_with fail
  obtain ⟨v4, hv4⟩ : ∃ v4, v4 = (v3.alloc (.cells #[.int .i64 3, .int .i64 0, .bool true, .bool false, .int .i64 0, .int .i64 4, .int .i64 4, .int .i64 0, .bool true, .bool true, .int .i64 5, .int .i64 1, .int .i64 4, .int .i64 1, .bool true, .bool true, .int .i64 3, .int .i64 2] 96)).alloc (.cells #[.int .i64 64, .int .u32 (W : Int), .int .i64 128, .int .u32 77] 99) := ⟨_, rfl⟩
  rw [← hv4] at rr2 rp rw' f4 ⊢
  clear hv4 x0 x1 x2 x3 x4 z0 z1 z2 z3 z4
  refine bodyPost_ret (ret_world rfl rfl (row_set5' rr2 _ _ _ _ _) rfl) rfl ?_
  have q := fr_own5 v4 (w.heap.size + 1) (.slice (some ⟨v3.heap.size, 0, none⟩) 3 3) (.slice (some ⟨v3.heap.size + 1, 0, none⟩) 2 2) (.bool g) (.int .i64 1) (.int .i64 3)
  have hp := rp.keep q (show v3.heap.size ≠ w.heap.size + 1 by have := HG.out; omega)
  have hw := rw'.keep q (show v3.heap.size + 1 ≠ w.heap.size + 1 by have := HG.out; omega)
  refine ⟨_, _, rfl, f4.newer q (by omega), fun k hk => ?_, fun k hk => ?_⟩
  · have hk3 : k = 0 ∨ k = 1 ∨ k = 2 := by omega
    rcases hk3 with rfl | rfl | rfl
    · exact ⟨_, _, rfl, hp.cell 0, hp.cell 1, hp.cell 2, hp.cell 3, hp.cell 4, hp.cell 5⟩
    · exact ⟨_, _, rfl, hp.cell 6, hp.cell 7, hp.cell 8, hp.cell 9, hp.cell 10, hp.cell 11⟩
    · exact ⟨_, _, rfl, hp.cell 12, hp.cell 13, hp.cell 14, hp.cell 15, hp.cell 16, hp.cell 17⟩
  · have hk2 : k = 0 ∨ k = 1 := by omega
    rcases hk2 with rfl | rfl
    · exact ⟨_, _, rfl, hw.cell 0, hw.cell 1, (by decide : (64 : Int) ≤ 9223372036854775807), hWl⟩
    · exact ⟨_, _, rfl, hw.cell 2, hw.cell 3, (by decide : (128 : Int) ≤ 9223372036854775807), (by decide : (77 : Nat) < 4294967296)⟩

/-- The example, made. -/
theorem exmade_any (w : World) (a0 a1 : Option Addr) (g : Bool) (W : Nat) (hP : Pus w a0 3 exP) (hQ : Wos w a1 2 (exQ W)) :
    Calls Tryz.prog 8 #[.agg #[.slice a0 3 3, .slice a1 2 2, .bool g, .int .i64 1, .int .i64 3]] w fun e w' => ∃ O : Bo, e = .returned (.tuple #[.agg O.a, .bool true]) ∧ Fr none' w w' ∧ IsBo w' w.heap.size O (M0 (exB W) g) :=
  made_any w a0 a1 3 3 2 2 g 1 3 exP (exQ W) (by decide) (by decide) hP hQ

end Go.Proofs.YtgnoakidjnilpaaGreat

/- CpuAwake -/
namespace Go.Proofs.YtgnoakidjnilpaaGreat
open Go.RowKit

theorem cpA_eq (c : Cp) : cpA c = #[.int .u32 ((c.r 0 : Nat) : Int), .int .u32 ((c.r 1 : Nat) : Int), .int .u32 ((c.r 2 : Nat) : Int), .int .u32 ((c.r 3 : Nat) : Int), .int .u32 ((c.r 4 : Nat) : Int), .int .u32 ((c.r 5 : Nat) : Int), .int .u32 ((c.r 6 : Nat) : Int), .int .u32 ((c.r 7 : Nat) : Int), .int .u32 ((c.r 8 : Nat) : Int), .int .u32 ((c.r 9 : Nat) : Int), .int .u32 ((c.r 10 : Nat) : Int), .int .u32 ((c.r 11 : Nat) : Int), .int .u32 ((c.r 12 : Nat) : Int), .int .u32 ((c.r 13 : Nat) : Int), .int .u32 ((c.r 14 : Nat) : Int), .int .u32 ((c.r 15 : Nat) : Int), .int .i64 c.pc, .int .u32 ((c.s 0 : Nat) : Int), .int .u32 ((c.s 1 : Nat) : Int), .int .u32 ((c.s 2 : Nat) : Int), .int .u32 ((c.s 3 : Nat) : Int), .int .u32 ((c.s 4 : Nat) : Int), .int .u32 ((c.s 5 : Nat) : Int), .int .u32 ((c.s 6 : Nat) : Int), .int .u32 ((c.s 7 : Nat) : Int)] := rfl
theorem zcA_eq : cpA zc = #[.int .u32 0, .int .u32 0, .int .u32 0, .int .u32 0, .int .u32 0, .int .u32 0, .int .u32 0, .int .u32 0, .int .u32 0, .int .u32 0, .int .u32 0, .int .u32 0, .int .u32 0, .int .u32 0, .int .u32 0, .int .u32 0, .int .i64 0, .int .u32 0, .int .u32 0, .int .u32 0, .int .u32 0, .int .u32 0, .int .u32 0, .int .u32 0, .int .u32 0] := rfl
theorem inA_eq : cpA (zc.setR 1 64) = #[.int .u32 0, .int .u32 64, .int .u32 0, .int .u32 0, .int .u32 0, .int .u32 0, .int .u32 0, .int .u32 0, .int .u32 0, .int .u32 0, .int .u32 0, .int .u32 0, .int .u32 0, .int .u32 0, .int .u32 0, .int .u32 0, .int .i64 0, .int .u32 0, .int .u32 0, .int .u32 0, .int .u32 0, .int .u32 0, .int .u32 0, .int .u32 0, .int .u32 0] := rfl
theorem cells25 {w : World} {g : Nat} {c0 c1 c2 c3 c4 c5 c6 c7 c8 c9 c10 c11 c12 c13 c14 c15 c16 c17 c18 c19 c20 c21 c22 c23 c24 : Value} {t : TypeId} (h : Row w g #[c0, c1, c2, c3, c4, c5, c6, c7, c8, c9, c10, c11, c12, c13, c14, c15, c16, c17, c18, c19, c20, c21, c22, c23, c24] t) : w.cell? ⟨g, 0, none⟩ = some c0 ∧ w.cell? ⟨g, 1, none⟩ = some c1 ∧ w.cell? ⟨g, 2, none⟩ = some c2 ∧ w.cell? ⟨g, 3, none⟩ = some c3 ∧ w.cell? ⟨g, 4, none⟩ = some c4 ∧ w.cell? ⟨g, 5, none⟩ = some c5 ∧ w.cell? ⟨g, 6, none⟩ = some c6 ∧ w.cell? ⟨g, 7, none⟩ = some c7 ∧ w.cell? ⟨g, 8, none⟩ = some c8 ∧ w.cell? ⟨g, 9, none⟩ = some c9 ∧ w.cell? ⟨g, 10, none⟩ = some c10 ∧ w.cell? ⟨g, 11, none⟩ = some c11 ∧ w.cell? ⟨g, 12, none⟩ = some c12 ∧ w.cell? ⟨g, 13, none⟩ = some c13 ∧ w.cell? ⟨g, 14, none⟩ = some c14 ∧ w.cell? ⟨g, 15, none⟩ = some c15 ∧ w.cell? ⟨g, 16, none⟩ = some c16 ∧ w.cell? ⟨g, 17, none⟩ = some c17 ∧ w.cell? ⟨g, 18, none⟩ = some c18 ∧ w.cell? ⟨g, 19, none⟩ = some c19 ∧ w.cell? ⟨g, 20, none⟩ = some c20 ∧ w.cell? ⟨g, 21, none⟩ = some c21 ∧ w.cell? ⟨g, 22, none⟩ = some c22 ∧ w.cell? ⟨g, 23, none⟩ = some c23 ∧ w.cell? ⟨g, 24, none⟩ = some c24 := ⟨h.cell 0, h.cell 1, h.cell 2, h.cell 3, h.cell 4, h.cell 5, h.cell 6, h.cell 7, h.cell 8, h.cell 9, h.cell 10, h.cell 11, h.cell 12, h.cell 13, h.cell 14, h.cell 15, h.cell 16, h.cell 17, h.cell 18, h.cell 19, h.cell 20, h.cell 21, h.cell 22, h.cell 23, h.cell 24⟩

/-- Step of the example's machine, told cell by cell. -/
theorem exStep (w : World) (B : Bm) (bs : List UInt8) (g : Bool) (c : Cp) (A : Array Value) (hA : cpA c = A) (hok : c.Ok) (hM : IsMc w B 16 (M0 bs g)) :
    Calls Tryz.prog 9 #[.agg #[.pointer (some ⟨B.p, 0, none⟩), .pointer (some ⟨B.bt, 0, none⟩), ptrV (B.v.map Bk.b)], .agg A, .int .i64 1, .int .i64 3, .int .i64 0] w fun e w' => ∃ (c' : Cp) (T : Tr), c' = (stepR 16 (M0 bs g) c 1 3 0).2.1 ∧ T = (stepR 16 (M0 bs g) c 1 3 0).2.2 ∧ e = .returned (.tuple #[.agg #[.int .u32 ((c'.r 0 : Nat) : Int), .int .u32 ((c'.r 1 : Nat) : Int), .int .u32 ((c'.r 2 : Nat) : Int), .int .u32 ((c'.r 3 : Nat) : Int), .int .u32 ((c'.r 4 : Nat) : Int), .int .u32 ((c'.r 5 : Nat) : Int), .int .u32 ((c'.r 6 : Nat) : Int), .int .u32 ((c'.r 7 : Nat) : Int), .int .u32 ((c'.r 8 : Nat) : Int), .int .u32 ((c'.r 9 : Nat) : Int), .int .u32 ((c'.r 10 : Nat) : Int), .int .u32 ((c'.r 11 : Nat) : Int), .int .u32 ((c'.r 12 : Nat) : Int), .int .u32 ((c'.r 13 : Nat) : Int), .int .u32 ((c'.r 14 : Nat) : Int), .int .u32 ((c'.r 15 : Nat) : Int), .int .i64 c'.pc, .int .u32 ((c'.s 0 : Nat) : Int), .int .u32 ((c'.s 1 : Nat) : Int), .int .u32 ((c'.s 2 : Nat) : Int), .int .u32 ((c'.s 3 : Nat) : Int), .int .u32 ((c'.s 4 : Nat) : Int), .int .u32 ((c'.s 5 : Nat) : Int), .int .u32 ((c'.s 6 : Nat) : Int), .int .u32 ((c'.s 7 : Nat) : Int)], .agg #[.int .i64 T.ca, .int .i64 T.nu, .int .i64 T.ad, .int .i64 T.f.k, .int .i64 T.f.s, .int .i64 T.f.l, .bool T.f.wk, .int .i64 T.f.p]]) ∧ Fr B.s w w' ∧ IsMc w' B 16 (stepR 16 (M0 bs g) c 1 3 0).1 := by
  subst hA
  exact (Step_any w B 16 (M0 bs g) c hok 1 3 0 hM (M0_few bs g) (by decide)).mono (fun e w' ⟨a, f, m, _⟩ => ⟨_, _, rfl, rfl, a, f, m⟩)

/-- A machine that others leave alone. -/
theorem isMc_far {w w' : World} {B C : Bm} {nf : Nat} {M : Mc} (h : IsMc w B nf M) (f : Fr C.s w w') (h1 : ∀ k, (B.s k ∨ k = B.p) → ¬ C.s k) : IsMc w' B nf M :=
  h.keep f (h1 _ (Or.inr rfl)) (h1 _ (Or.inl (Or.inl rfl))) (h1 _ (Or.inl (Or.inr (Or.inl rfl)))) (fun k hk => h1 k (Or.inl (Or.inr (Or.inr hk))))

theorem enc_a : i_encW 1 1 0 0 300 = ((17826092 : Nat) : Int) := by decide +kernel
theorem tr_a : (stepR 16 (M0 (exB 17826092) false) zc 1 3 0).2.2.ca = 0 ∧ (stepR 16 (M0 (exB 17826092) false) zc 1 3 0).2.2.nu = 0 ∧ (stepR 16 (M0 (exB 17826092) false) zc 1 3 0).2.2.ad = 0 ∧ (stepR 16 (M0 (exB 17826092) false) zc 1 3 0).2.2.f.k = 0 ∧ (stepR 16 (M0 (exB 17826092) false) zc 1 3 0).2.2.f.s = 0 ∧ (stepR 16 (M0 (exB 17826092) false) zc 1 3 0).2.2.f.l = 0 ∧ (stepR 16 (M0 (exB 17826092) false) zc 1 3 0).2.2.f.wk = false ∧ (stepR 16 (M0 (exB 17826092) false) zc 1 3 0).2.2.f.p = 0 := by decide +kernel
theorem re_a : (stepR 16 (M0 (exB 17826092) false) zc 1 3 0).2.1.r 1 = 300 ∧ (stepR 16 (M0 (exB 17826092) false) zc 1 3 0).2.1.pc = 4 := by decide +kernel
theorem enc_b : i_encW 7 2 1 0 0 = ((119603200 : Nat) : Int) := by decide +kernel
theorem tr_b : (stepR 16 (M0 (exB 119603200) false) (zc.setR 1 64) 1 3 0).2.2.ca = 0 ∧ (stepR 16 (M0 (exB 119603200) false) (zc.setR 1 64) 1 3 0).2.2.nu = 0 ∧ (stepR 16 (M0 (exB 119603200) false) (zc.setR 1 64) 1 3 0).2.2.ad = 0 ∧ (stepR 16 (M0 (exB 119603200) false) (zc.setR 1 64) 1 3 0).2.2.f.k = 0 ∧ (stepR 16 (M0 (exB 119603200) false) (zc.setR 1 64) 1 3 0).2.2.f.s = 0 ∧ (stepR 16 (M0 (exB 119603200) false) (zc.setR 1 64) 1 3 0).2.2.f.l = 0 ∧ (stepR 16 (M0 (exB 119603200) false) (zc.setR 1 64) 1 3 0).2.2.f.wk = false ∧ (stepR 16 (M0 (exB 119603200) false) (zc.setR 1 64) 1 3 0).2.2.f.p = 0 := by decide +kernel
theorem re_b : (stepR 16 (M0 (exB 119603200) false) (zc.setR 1 64) 1 3 0).2.1.r 2 = 77 := by decide +kernel
theorem enc_c : i_encW 17 0 0 0 3 = ((285212675 : Nat) : Int) := by decide +kernel
theorem tr_c : (stepR 16 (M0 (exB 285212675) false) zc 1 3 0).2.2.ca = 8 ∧ (stepR 16 (M0 (exB 285212675) false) zc 1 3 0).2.2.nu = 285212675 ∧ (stepR 16 (M0 (exB 285212675) false) zc 1 3 0).2.2.ad = 0 ∧ (stepR 16 (M0 (exB 285212675) false) zc 1 3 0).2.2.f.k = 0 ∧ (stepR 16 (M0 (exB 285212675) false) zc 1 3 0).2.2.f.s = 0 ∧ (stepR 16 (M0 (exB 285212675) false) zc 1 3 0).2.2.f.l = 0 ∧ (stepR 16 (M0 (exB 285212675) false) zc 1 3 0).2.2.f.wk = false ∧ (stepR 16 (M0 (exB 285212675) false) zc 1 3 0).2.2.f.p = 0 := by decide +kernel
theorem enc_d : i_encW 17 0 0 0 3 = ((285212675 : Nat) : Int) := by decide +kernel
theorem tr_d : (stepR 16 (M0 (exB 285212675) true) zc 1 3 0).2.2.ca = 5 ∧ (stepR 16 (M0 (exB 285212675) true) zc 1 3 0).2.2.nu = 3 ∧ (stepR 16 (M0 (exB 285212675) true) zc 1 3 0).2.2.ad = 0 ∧ (stepR 16 (M0 (exB 285212675) true) zc 1 3 0).2.2.f.k = 0 ∧ (stepR 16 (M0 (exB 285212675) true) zc 1 3 0).2.2.f.s = 0 ∧ (stepR 16 (M0 (exB 285212675) true) zc 1 3 0).2.2.f.l = 0 ∧ (stepR 16 (M0 (exB 285212675) true) zc 1 3 0).2.2.f.wk = false ∧ (stepR 16 (M0 (exB 285212675) true) zc 1 3 0).2.2.f.p = 0 := by decide +kernel

theorem exmade_f (w : World) (a0 a1 : Option Addr) (W : Nat) (hP : Pus w a0 3 exP) (hQ : Wos w a1 2 (exQ W)) :
    Calls Tryz.prog 8 #[.agg #[.slice a0 3 3, .slice a1 2 2, .bool false, .int .i64 1, .int .i64 3]] w fun e w' => ∃ O : Bo, O.B.v = none ∧ e = .returned (.tuple #[.agg #[.pointer (some ⟨O.B.p, 0, none⟩), .pointer (some ⟨O.B.bt, 0, none⟩), .pointer none, .pointer (some ⟨O.pr, 0, none⟩), .pointer (some ⟨O.bu, 0, none⟩), .pointer none], .bool true]) ∧ Fr none' w w' ∧ IsBo w' w.heap.size O (M0 (exB W) false) := by
  refine (exmade_any w a0 a1 false W hP hQ).mono ?_
  rintro e w' ⟨O, rfl, f, h⟩
  have h1 := h.m.vg
  have h2 := h.v
  obtain ⟨⟨p, bf, bt, v⟩, pr, br, bu, vr⟩ := O
  cases v with
  | none =>
    cases vr with
    | none => exact ⟨_, rfl, rfl, f, h⟩
    | some b => exact h2.elim
  | some b => exact h1.elim
theorem exmade_t (w : World) (a0 a1 : Option Addr) (W : Nat) (hP : Pus w a0 3 exP) (hQ : Wos w a1 2 (exQ W)) :
    Calls Tryz.prog 8 #[.agg #[.slice a0 3 3, .slice a1 2 2, .bool true, .int .i64 1, .int .i64 3]] w fun e w' => ∃ (O : Bo) (b : Bk) (vr : Nat), O.B.v = some b ∧ e = .returned (.tuple #[.agg #[.pointer (some ⟨O.B.p, 0, none⟩), .pointer (some ⟨O.B.bt, 0, none⟩), .pointer (some ⟨b.b, 0, none⟩), .pointer (some ⟨O.pr, 0, none⟩), .pointer (some ⟨O.bu, 0, none⟩), .pointer (some ⟨vr, 0, none⟩)], .bool true]) ∧ Fr none' w w' ∧ IsBo w' w.heap.size O (M0 (exB W) true) := by
  refine (exmade_any w a0 a1 true W hP hQ).mono ?_
  rintro e w' ⟨O, rfl, f, h⟩
  have h1 := h.m.vg
  have h2 := h.v
  obtain ⟨⟨p, bf, bt, v⟩, pr, br, bu, vr⟩ := O
  cases v with
  | none => exact h1.elim
  | some b =>
    cases vr with
    | none => exact h2.elim
    | some vr => exact ⟨_, b, vr, rfl, rfl, f, h⟩
theorem ne_new' {a b : Nat} (h : a < b) : ¬ at' a b := fun e => by have e' : b = a := e; omega
theorem IsBo.in {w : World} {n : Nat} {O : Bo} {M : Mc} (h : IsBo w n O M) : ∀ k, (O.B.s k ∨ k = O.B.p) → n ≤ k ∧ k < w.heap.size := fun k hk => ⟨h.new k hk, h.m.ltp k hk⟩

theorem exS_a (w : World) (B : Bm) (hv : B.v = none) (hM : IsMc w B 16 (M0 (exB 17826092) false)) :
    Calls Tryz.prog 9 #[.agg #[.pointer (some ⟨B.p, 0, none⟩), .pointer (some ⟨B.bt, 0, none⟩), .pointer none], .agg #[.int .u32 0, .int .u32 0, .int .u32 0, .int .u32 0, .int .u32 0, .int .u32 0, .int .u32 0, .int .u32 0, .int .u32 0, .int .u32 0, .int .u32 0, .int .u32 0, .int .u32 0, .int .u32 0, .int .u32 0, .int .u32 0, .int .i64 0, .int .u32 0, .int .u32 0, .int .u32 0, .int .u32 0, .int .u32 0, .int .u32 0, .int .u32 0, .int .u32 0], .int .i64 1, .int .i64 3, .int .i64 0] w fun e w' => ∃ A : Array Value, A.size = 25 ∧ A.all (·.oneCell') = true ∧ (A[1]? = some (.int .u32 300) ∧ A[16]? = some (.int .i64 4)) ∧ e = .returned (.tuple #[.agg A, .agg #[.int .i64 0, .int .i64 0, .int .i64 0, .int .i64 0, .int .i64 0, .int .i64 0, .bool false, .int .i64 0]]) ∧ Fr B.s w w' := by
  have h := exStep w B (exB 17826092) false zc _ zcA_eq zc_ok hM
  rw [hv] at h
  refine h.mono ?_
  rintro e w' ⟨c', T, hc, hT, rfl, f, _⟩
  obtain ⟨h1, h2, h3, h4, h5, h6, h7, h8⟩ := tr_a
  rw [← hT] at h1 h2 h3 h4 h5 h6 h7 h8
  obtain ⟨r1, r2⟩ := re_a
  rw [← hc] at r1 r2
  refine ⟨cpA c', cpA_size c', cpA_one c', ⟨by rw [cpA_get, cpL_r c' (by decide), r1]; rfl, by rw [cpA_get, cpL_pc, r2]⟩, ?_, f⟩
  rw [h1, h2, h3, h4, h5, h6, h7, h8]
  rfl

theorem exS_b (w : World) (B : Bm) (hv : B.v = none) (hM : IsMc w B 16 (M0 (exB 119603200) false)) :
    Calls Tryz.prog 9 #[.agg #[.pointer (some ⟨B.p, 0, none⟩), .pointer (some ⟨B.bt, 0, none⟩), .pointer none], .agg #[.int .u32 0, .int .u32 64, .int .u32 0, .int .u32 0, .int .u32 0, .int .u32 0, .int .u32 0, .int .u32 0, .int .u32 0, .int .u32 0, .int .u32 0, .int .u32 0, .int .u32 0, .int .u32 0, .int .u32 0, .int .u32 0, .int .i64 0, .int .u32 0, .int .u32 0, .int .u32 0, .int .u32 0, .int .u32 0, .int .u32 0, .int .u32 0, .int .u32 0], .int .i64 1, .int .i64 3, .int .i64 0] w fun e w' => ∃ A : Array Value, A.size = 25 ∧ A.all (·.oneCell') = true ∧ (A[2]? = some (.int .u32 77) ∧ True) ∧ e = .returned (.tuple #[.agg A, .agg #[.int .i64 0, .int .i64 0, .int .i64 0, .int .i64 0, .int .i64 0, .int .i64 0, .bool false, .int .i64 0]]) ∧ Fr B.s w w' := by
  have h := exStep w B (exB 119603200) false (zc.setR 1 64) _ inA_eq (zc_ok.setR 1 (by decide)) hM
  rw [hv] at h
  refine h.mono ?_
  rintro e w' ⟨c', T, hc, hT, rfl, f, _⟩
  obtain ⟨h1, h2, h3, h4, h5, h6, h7, h8⟩ := tr_b
  rw [← hT] at h1 h2 h3 h4 h5 h6 h7 h8
  have r1 := re_b
  rw [← hc] at r1
  refine ⟨cpA c', cpA_size c', cpA_one c', ⟨by rw [cpA_get, cpL_r c' (by decide), r1]; rfl, trivial⟩, ?_, f⟩
  rw [h1, h2, h3, h4, h5, h6, h7, h8]
  rfl

theorem exS_c (w : World) (B : Bm) (hv : B.v = none) (hM : IsMc w B 16 (M0 (exB 285212675) false)) :
    Calls Tryz.prog 9 #[.agg #[.pointer (some ⟨B.p, 0, none⟩), .pointer (some ⟨B.bt, 0, none⟩), .pointer none], .agg #[.int .u32 0, .int .u32 0, .int .u32 0, .int .u32 0, .int .u32 0, .int .u32 0, .int .u32 0, .int .u32 0, .int .u32 0, .int .u32 0, .int .u32 0, .int .u32 0, .int .u32 0, .int .u32 0, .int .u32 0, .int .u32 0, .int .i64 0, .int .u32 0, .int .u32 0, .int .u32 0, .int .u32 0, .int .u32 0, .int .u32 0, .int .u32 0, .int .u32 0], .int .i64 1, .int .i64 3, .int .i64 0] w fun e w' => ∃ A : Array Value, A.size = 25 ∧ A.all (·.oneCell') = true ∧ (True ∧ True) ∧ e = .returned (.tuple #[.agg A, .agg #[.int .i64 8, .int .i64 285212675, .int .i64 0, .int .i64 0, .int .i64 0, .int .i64 0, .bool false, .int .i64 0]]) ∧ Fr B.s w w' := by
  have h := exStep w B (exB 285212675) false zc _ zcA_eq zc_ok hM
  rw [hv] at h
  refine h.mono ?_
  rintro e w' ⟨c', T, hc, hT, rfl, f, _⟩
  obtain ⟨h1, h2, h3, h4, h5, h6, h7, h8⟩ := tr_c
  rw [← hT] at h1 h2 h3 h4 h5 h6 h7 h8
  clear hc
  skip
  refine ⟨cpA c', cpA_size c', cpA_one c', ⟨trivial, trivial⟩, ?_, f⟩
  rw [h1, h2, h3, h4, h5, h6, h7, h8]
  rfl

theorem exS_d (w : World) (B : Bm) (b : Bk) (hv : B.v = some b) (hM : IsMc w B 16 (M0 (exB 285212675) true)) :
    Calls Tryz.prog 9 #[.agg #[.pointer (some ⟨B.p, 0, none⟩), .pointer (some ⟨B.bt, 0, none⟩), .pointer (some ⟨b.b, 0, none⟩)], .agg #[.int .u32 0, .int .u32 0, .int .u32 0, .int .u32 0, .int .u32 0, .int .u32 0, .int .u32 0, .int .u32 0, .int .u32 0, .int .u32 0, .int .u32 0, .int .u32 0, .int .u32 0, .int .u32 0, .int .u32 0, .int .u32 0, .int .i64 0, .int .u32 0, .int .u32 0, .int .u32 0, .int .u32 0, .int .u32 0, .int .u32 0, .int .u32 0, .int .u32 0], .int .i64 1, .int .i64 3, .int .i64 0] w fun e w' => ∃ A : Array Value, A.size = 25 ∧ A.all (·.oneCell') = true ∧ (True ∧ True) ∧ e = .returned (.tuple #[.agg A, .agg #[.int .i64 5, .int .i64 3, .int .i64 0, .int .i64 0, .int .i64 0, .int .i64 0, .bool false, .int .i64 0]]) ∧ Fr B.s w w' := by
  have h := exStep w B (exB 285212675) true zc _ zcA_eq zc_ok hM
  rw [hv] at h
  refine h.mono ?_
  rintro e w' ⟨c', T, hc, hT, rfl, f, _⟩
  obtain ⟨h1, h2, h3, h4, h5, h6, h7, h8⟩ := tr_d
  rw [← hT] at h1 h2 h3 h4 h5 h6 h7 h8
  clear hc
  skip
  refine ⟨cpA c', cpA_size c', cpA_one c', ⟨trivial, trivial⟩, ?_, f⟩
  rw [h1, h2, h3, h4, h5, h6, h7, h8]
  rfl

set_option maxRecDepth 100000 in
set_option maxHeartbeats 16000000 in
theorem awake_any (w : World) : Calls Tryz.prog 7 #[] w fun e w' => e = .returned (.bool true) ∧ Fr none' w w' := by
  have hz : ∀ w, Sem.run Tryz.prog (zeroValue 30) w = .ok (.agg (cpA zc)) w := zero_cpu
  have f0 := Fr.refl none' w
  go_enter Tryz.func7, Tryz.ntmps7
  go_wp2_with fail
  refine (example_any _ 1 1 0 0 300 false 17826092 enc_a (by decide)).mono ?_
  rintro e xa ⟨sa, qa, rfl, g1, hP, hQ⟩
  replace f0 := f0.trans g1
  have KK : Hid (w.heap.size ≤ xa.heap.size) := f0.size
  have La : Hid (True) := trivial
  clear g1
  go_wp2_with fail
  refine (exmade_f _ _ _ 17826092 hP hQ).mono ?_
  rintro e ya ⟨Oa, va, rfl, g2, hB⟩
  replace f0 := f0.trans g2
  have Ia : Hid (∀ k, (Oa.B.s k ∨ k = Oa.B.p) → xa.heap.size ≤ k ∧ k < ya.heap.size) := hB.in
  have Ja : Hid (xa.heap.size ≤ ya.heap.size) := g2.size
  have Ha := hB.m.keep0 ((Fr.refl none' ya).alloc (.cells #[.pointer (some ⟨Oa.B.p, 0, none⟩), .pointer (some ⟨Oa.B.bt, 0, none⟩), .pointer none, .pointer (some ⟨Oa.pr, 0, none⟩), .pointer (some ⟨Oa.bu, 0, none⟩), .pointer none] 44))
  have ra := row_alloc ya #[.pointer (some ⟨Oa.B.p, 0, none⟩), .pointer (some ⟨Oa.B.bt, 0, none⟩), .pointer none, .pointer (some ⟨Oa.pr, 0, none⟩), .pointer (some ⟨Oa.bu, 0, none⟩), .pointer none] 44
  have g3 := (Fr.refl none' ya).alloc (.cells #[.pointer (some ⟨Oa.B.p, 0, none⟩), .pointer (some ⟨Oa.B.bt, 0, none⟩), .pointer none, .pointer (some ⟨Oa.pr, 0, none⟩), .pointer (some ⟨Oa.bu, 0, none⟩), .pointer none] 44)
  replace f0 := f0.trans g3
  clear g2 hB hP hQ g3
  go_upto_region 2 with fail
  obtain ⟨ua, hu⟩ : ∃ u, u = ya.alloc (.cells #[.pointer (some ⟨Oa.B.p, 0, none⟩), .pointer (some ⟨Oa.B.bt, 0, none⟩), .pointer none, .pointer (some ⟨Oa.pr, 0, none⟩), .pointer (some ⟨Oa.bu, 0, none⟩), .pointer none] 44) := ⟨_, rfl⟩
  rw [← hu] at Ha ra f0 ⊢
  clear hu
  obtain ⟨ga, hg⟩ : ∃ q, q = ya.heap.size := ⟨_, rfl⟩
  rw [← hg] at ra Ia Ja ⊢
  clear hg
  go_wp2_with fail
  refine (example_any _ 7 2 1 0 0 false 119603200 enc_b (by decide)).mono ?_
  rintro e xb ⟨sb, qb, rfl, g1, hP, hQ⟩
  replace Ha := Ha.keep0 g1
  replace ra := ra.keep g1 (fun h => h)
  replace f0 := f0.trans g1
  skip
  have Lb : Hid (ga < xb.heap.size) := ra.lt
  clear g1
  go_wp2_with fail
  refine (exmade_f _ _ _ 119603200 hP hQ).mono ?_
  rintro e yb ⟨Ob, vb, rfl, g2, hB⟩
  replace Ha := Ha.keep0 g2
  replace ra := ra.keep g2 (fun h => h)
  replace f0 := f0.trans g2
  have Ib : Hid (∀ k, (Ob.B.s k ∨ k = Ob.B.p) → xb.heap.size ≤ k ∧ k < yb.heap.size) := hB.in
  have Jb' : Hid (xb.heap.size ≤ yb.heap.size) := g2.size
  have Hb := hB.m.keep0 ((Fr.refl none' yb).alloc (.cells #[.pointer (some ⟨Ob.B.p, 0, none⟩), .pointer (some ⟨Ob.B.bt, 0, none⟩), .pointer none, .pointer (some ⟨Ob.pr, 0, none⟩), .pointer (some ⟨Ob.bu, 0, none⟩), .pointer none] 44))
  have rb := row_alloc yb #[.pointer (some ⟨Ob.B.p, 0, none⟩), .pointer (some ⟨Ob.B.bt, 0, none⟩), .pointer none, .pointer (some ⟨Ob.pr, 0, none⟩), .pointer (some ⟨Ob.bu, 0, none⟩), .pointer none] 44
  have g3 := (Fr.refl none' yb).alloc (.cells #[.pointer (some ⟨Ob.B.p, 0, none⟩), .pointer (some ⟨Ob.B.bt, 0, none⟩), .pointer none, .pointer (some ⟨Ob.pr, 0, none⟩), .pointer (some ⟨Ob.bu, 0, none⟩), .pointer none] 44)
  replace Ha := Ha.keep0 g3
  replace ra := ra.keep g3 (fun h => h)
  replace f0 := f0.trans g3
  clear g2 hB hP hQ g3
  go_upto_region 3 with fail
  obtain ⟨ub, hu⟩ : ∃ u, u = yb.alloc (.cells #[.pointer (some ⟨Ob.B.p, 0, none⟩), .pointer (some ⟨Ob.B.bt, 0, none⟩), .pointer none, .pointer (some ⟨Ob.pr, 0, none⟩), .pointer (some ⟨Ob.bu, 0, none⟩), .pointer none] 44) := ⟨_, rfl⟩
  rw [← hu] at Hb rb f0 Ha ra ⊢
  clear hu
  obtain ⟨gb, hg⟩ : ∃ q, q = yb.heap.size := ⟨_, rfl⟩
  rw [← hg] at rb Ib Jb' ⊢
  clear hg
  go_wp2_with fail
  refine (example_any _ 17 0 0 0 3 false 285212675 enc_c (by decide)).mono ?_
  rintro e xc ⟨sc, qc, rfl, g1, hP, hQ⟩
  replace Ha := Ha.keep0 g1
  replace ra := ra.keep g1 (fun h => h)
  replace Hb := Hb.keep0 g1
  replace rb := rb.keep g1 (fun h => h)
  replace f0 := f0.trans g1
  skip
  have Lc : Hid (gb < xc.heap.size) := rb.lt
  clear g1
  go_wp2_with fail
  refine (exmade_f _ _ _ 285212675 hP hQ).mono ?_
  rintro e yc ⟨Oc, vc, rfl, g2, hB⟩
  replace Ha := Ha.keep0 g2
  replace ra := ra.keep g2 (fun h => h)
  replace Hb := Hb.keep0 g2
  replace rb := rb.keep g2 (fun h => h)
  replace f0 := f0.trans g2
  have Ic : Hid (∀ k, (Oc.B.s k ∨ k = Oc.B.p) → xc.heap.size ≤ k ∧ k < yc.heap.size) := hB.in
  have Jc : Hid (xc.heap.size ≤ yc.heap.size) := g2.size
  have Hc := hB.m.keep0 ((Fr.refl none' yc).alloc (.cells #[.pointer (some ⟨Oc.B.p, 0, none⟩), .pointer (some ⟨Oc.B.bt, 0, none⟩), .pointer none, .pointer (some ⟨Oc.pr, 0, none⟩), .pointer (some ⟨Oc.bu, 0, none⟩), .pointer none] 44))
  have rc := row_alloc yc #[.pointer (some ⟨Oc.B.p, 0, none⟩), .pointer (some ⟨Oc.B.bt, 0, none⟩), .pointer none, .pointer (some ⟨Oc.pr, 0, none⟩), .pointer (some ⟨Oc.bu, 0, none⟩), .pointer none] 44
  have g3 := (Fr.refl none' yc).alloc (.cells #[.pointer (some ⟨Oc.B.p, 0, none⟩), .pointer (some ⟨Oc.B.bt, 0, none⟩), .pointer none, .pointer (some ⟨Oc.pr, 0, none⟩), .pointer (some ⟨Oc.bu, 0, none⟩), .pointer none] 44)
  replace Ha := Ha.keep0 g3
  replace ra := ra.keep g3 (fun h => h)
  replace Hb := Hb.keep0 g3
  replace rb := rb.keep g3 (fun h => h)
  replace f0 := f0.trans g3
  clear g2 hB hP hQ g3
  go_upto_region 4 with fail
  obtain ⟨uc, hu⟩ : ∃ u, u = yc.alloc (.cells #[.pointer (some ⟨Oc.B.p, 0, none⟩), .pointer (some ⟨Oc.B.bt, 0, none⟩), .pointer none, .pointer (some ⟨Oc.pr, 0, none⟩), .pointer (some ⟨Oc.bu, 0, none⟩), .pointer none] 44) := ⟨_, rfl⟩
  rw [← hu] at Hc rc f0 Ha ra Hb rb ⊢
  clear hu
  obtain ⟨gc, hg⟩ : ∃ q, q = yc.heap.size := ⟨_, rfl⟩
  rw [← hg] at rc Ic Jc ⊢
  clear hg
  go_wp2_with fail
  refine (example_any _ 17 0 0 0 3 true 285212675 enc_d (by decide)).mono ?_
  rintro e xd ⟨sd, qd, rfl, g1, hP, hQ⟩
  replace Ha := Ha.keep0 g1
  replace ra := ra.keep g1 (fun h => h)
  replace Hb := Hb.keep0 g1
  replace rb := rb.keep g1 (fun h => h)
  replace Hc := Hc.keep0 g1
  replace rc := rc.keep g1 (fun h => h)
  replace f0 := f0.trans g1
  skip
  have Ld : Hid (gc < xd.heap.size) := rc.lt
  clear g1
  go_wp2_with fail
  refine (exmade_t _ _ _ 285212675 hP hQ).mono ?_
  rintro e yd ⟨Od, bd, vrd, vd, rfl, g2, hB⟩
  replace Ha := Ha.keep0 g2
  replace ra := ra.keep g2 (fun h => h)
  replace Hb := Hb.keep0 g2
  replace rb := rb.keep g2 (fun h => h)
  replace Hc := Hc.keep0 g2
  replace rc := rc.keep g2 (fun h => h)
  replace f0 := f0.trans g2
  have Id : Hid (∀ k, (Od.B.s k ∨ k = Od.B.p) → xd.heap.size ≤ k ∧ k < yd.heap.size) := hB.in
  have Jd : Hid (xd.heap.size ≤ yd.heap.size) := g2.size
  have Hd := hB.m.keep0 ((Fr.refl none' yd).alloc (.cells #[.pointer (some ⟨Od.B.p, 0, none⟩), .pointer (some ⟨Od.B.bt, 0, none⟩), .pointer (some ⟨bd.b, 0, none⟩), .pointer (some ⟨Od.pr, 0, none⟩), .pointer (some ⟨Od.bu, 0, none⟩), .pointer (some ⟨vrd, 0, none⟩)] 44))
  have rd := row_alloc yd #[.pointer (some ⟨Od.B.p, 0, none⟩), .pointer (some ⟨Od.B.bt, 0, none⟩), .pointer (some ⟨bd.b, 0, none⟩), .pointer (some ⟨Od.pr, 0, none⟩), .pointer (some ⟨Od.bu, 0, none⟩), .pointer (some ⟨vrd, 0, none⟩)] 44
  have g3 := (Fr.refl none' yd).alloc (.cells #[.pointer (some ⟨Od.B.p, 0, none⟩), .pointer (some ⟨Od.B.bt, 0, none⟩), .pointer (some ⟨bd.b, 0, none⟩), .pointer (some ⟨Od.pr, 0, none⟩), .pointer (some ⟨Od.bu, 0, none⟩), .pointer (some ⟨vrd, 0, none⟩)] 44)
  replace Ha := Ha.keep0 g3
  replace ra := ra.keep g3 (fun h => h)
  replace Hb := Hb.keep0 g3
  replace rb := rb.keep g3 (fun h => h)
  replace Hc := Hc.keep0 g3
  replace rc := rc.keep g3 (fun h => h)
  replace f0 := f0.trans g3
  clear g2 hB hP hQ g3
  go_upto_region 5 with fail
  obtain ⟨ud, hu⟩ : ∃ u, u = yd.alloc (.cells #[.pointer (some ⟨Od.B.p, 0, none⟩), .pointer (some ⟨Od.B.bt, 0, none⟩), .pointer (some ⟨bd.b, 0, none⟩), .pointer (some ⟨Od.pr, 0, none⟩), .pointer (some ⟨Od.bu, 0, none⟩), .pointer (some ⟨vrd, 0, none⟩)] 44) := ⟨_, rfl⟩
  rw [← hu] at Hd rd f0 Ha ra Hb rb Hc rc ⊢
  clear hu
  obtain ⟨gd, hg⟩ : ∃ q, q = yd.heap.size := ⟨_, rfl⟩
  rw [← hg] at rd Id Jd ⊢
  clear hg
  have LL : Hid (w.heap.size ≤ xa.heap.size ∧ xa.heap.size ≤ ga ∧ ga < xb.heap.size ∧ xb.heap.size ≤ gb ∧ gb < xc.heap.size ∧ xc.heap.size ≤ gc ∧ gc < xd.heap.size ∧ xd.heap.size ≤ gd) := (show _ ∧ _ from ⟨KK.out, Ja.out, Lb.out, Jb'.out, Lc.out, Jc.out, Ld.out, Jd.out⟩)
  obtain ⟨k0, k1, k2, k3, k4, k5⟩ := cells6 ra
  go_wp2_with fail
  refine (exS_a _ Oa.B va Ha).mono ?_
  rintro e wza ⟨Aa, asa, aoa, afa, rfl, g1⟩
  have AFa : Hid (Aa[1]? = some (.int .u32 300) ∧ Aa[16]? = some (.int .i64 4)) := afa
  clear k0 k1 k2 k3 k4 k5 Ha afa
  replace ra := ra.keep g1 (fun e => by have h1 := Ia.out ga (Or.inl e); have h2 := LL.out; omega)
  replace rb := rb.keep g1 (fun e => by have h1 := Ia.out gb (Or.inl e); have h2 := LL.out; omega)
  replace rc := rc.keep g1 (fun e => by have h1 := Ia.out gc (Or.inl e); have h2 := LL.out; omega)
  replace rd := rd.keep g1 (fun e => by have h1 := Ia.out gd (Or.inl e); have h2 := LL.out; omega)
  replace Hb := isMc_far Hb g1 (fun k hk e => by have h1 := Ia.out k (Or.inl e); have h2 := Ib.out k hk; have h3 := LL.out; omega)
  replace Hc := isMc_far Hc g1 (fun k hk e => by have h1 := Ia.out k (Or.inl e); have h2 := Ic.out k hk; have h3 := LL.out; omega)
  replace Hd := isMc_far Hd g1 (fun k hk e => by have h1 := Ia.out k (Or.inl e); have h2 := Id.out k hk; have h3 := LL.out; omega)
  replace f0 : Fr none' w wza := ⟨g1.os.trans f0.os, g1.tape.trans f0.tape, g1.output.trans f0.output, Nat.le_trans f0.size g1.size, fun k hk hn => by
    rw [g1.block k (Nat.lt_of_lt_of_le hk f0.size) (fun e => by have h1 := Ia.out k (Or.inl e); have h2 := LL.out; omega)]; exact f0.block k hk hn⟩
  have pc0 : Row ((wza.alloc (.cells (cpA zc) 30)).alloc (.cells #[.int .i64 0, .int .i64 0, .int .i64 0, .int .i64 0, .int .i64 0, .int .i64 0, .bool false, .int .i64 0] 52)) wza.heap.size (cpA zc) 30 := (row_alloc wza (cpA zc) 30).alloc _
  have pt0 : Row ((wza.alloc (.cells (cpA zc) 30)).alloc (.cells #[.int .i64 0, .int .i64 0, .int .i64 0, .int .i64 0, .int .i64 0, .int .i64 0, .bool false, .int .i64 0] 52)) (wza.heap.size + 1) #[.int .i64 0, .int .i64 0, .int .i64 0, .int .i64 0, .int .i64 0, .int .i64 0, .bool false, .int .i64 0] 52 := row_at (by simp)
  have pt1 := pt0.keep (fr_row _ wza.heap.size Aa) (ne_new' (Nat.lt_succ_self _))
  have ls : (Tryz.prog.info? 30).map (·.size) = some Aa.size := by rw [asa]; exact size_cpu
  have lo : (cpA zc).size = Aa.size := by rw [asa]; exact cpA_size zc
  have lz : gd < wza.heap.size := rd.lt
  have g2 : Fr none' wza ((((wza.alloc (.cells (cpA zc) 30)).alloc (.cells #[.int .i64 0, .int .i64 0, .int .i64 0, .int .i64 0, .int .i64 0, .int .i64 0, .bool false, .int .i64 0] 52)).setRow wza.heap.size Aa).setRow (wza.heap.size + 1) #[.int .i64 0, .int .i64 0, .int .i64 0, .int .i64 0, .int .i64 0, .int .i64 0, .bool false, .int .i64 0]) := (((((Fr.refl none' wza).alloc _).alloc _).newer (fr_row _ wza.heap.size Aa) (Nat.le_refl _))).newer (fr_row _ (wza.heap.size + 1) _) (Nat.le_succ _)
  have pca : Row ((((wza.alloc (.cells (cpA zc) 30)).alloc (.cells #[.int .i64 0, .int .i64 0, .int .i64 0, .int .i64 0, .int .i64 0, .int .i64 0, .bool false, .int .i64 0] 52)).setRow wza.heap.size Aa).setRow (wza.heap.size + 1) #[.int .i64 0, .int .i64 0, .int .i64 0, .int .i64 0, .int .i64 0, .int .i64 0, .bool false, .int .i64 0]) wza.heap.size Aa 30 := (pc0.setRow).keep (fr_row _ (wza.heap.size + 1) _) (ne_new (Nat.lt_succ_self _))
  have pta : Row ((((wza.alloc (.cells (cpA zc) 30)).alloc (.cells #[.int .i64 0, .int .i64 0, .int .i64 0, .int .i64 0, .int .i64 0, .int .i64 0, .bool false, .int .i64 0] 52)).setRow wza.heap.size Aa).setRow (wza.heap.size + 1) #[.int .i64 0, .int .i64 0, .int .i64 0, .int .i64 0, .int .i64 0, .int .i64 0, .bool false, .int .i64 0]) (wza.heap.size + 1) #[.int .i64 0, .int .i64 0, .int .i64 0, .int .i64 0, .int .i64 0, .int .i64 0, .bool false, .int .i64 0] 52 := pt1.setRow
  have GG : Hid (Fr none' wza ((((wza.alloc (.cells (cpA zc) 30)).alloc (.cells #[.int .i64 0, .int .i64 0, .int .i64 0, .int .i64 0, .int .i64 0, .int .i64 0, .bool false, .int .i64 0] 52)).setRow wza.heap.size Aa).setRow (wza.heap.size + 1) #[.int .i64 0, .int .i64 0, .int .i64 0, .int .i64 0, .int .i64 0, .int .i64 0, .bool false, .int .i64 0]) ∧ Row ((((wza.alloc (.cells (cpA zc) 30)).alloc (.cells #[.int .i64 0, .int .i64 0, .int .i64 0, .int .i64 0, .int .i64 0, .int .i64 0, .bool false, .int .i64 0] 52)).setRow wza.heap.size Aa).setRow (wza.heap.size + 1) #[.int .i64 0, .int .i64 0, .int .i64 0, .int .i64 0, .int .i64 0, .int .i64 0, .bool false, .int .i64 0]) wza.heap.size Aa 30 ∧ Row ((((wza.alloc (.cells (cpA zc) 30)).alloc (.cells #[.int .i64 0, .int .i64 0, .int .i64 0, .int .i64 0, .int .i64 0, .int .i64 0, .bool false, .int .i64 0] 52)).setRow wza.heap.size Aa).setRow (wza.heap.size + 1) #[.int .i64 0, .int .i64 0, .int .i64 0, .int .i64 0, .int .i64 0, .int .i64 0, .bool false, .int .i64 0]) (wza.heap.size + 1) #[.int .i64 0, .int .i64 0, .int .i64 0, .int .i64 0, .int .i64 0, .int .i64 0, .bool false, .int .i64 0] 52) := ⟨g2, pca, pta⟩
  clear g1 g2 pca pta pt0
  go_upto_region 8 with (first | refine wpList_store_row rfl 30 _ _ rfl wza.heap.size Aa rfl rfl 30 (cpA zc) pc0 ls lo aoa ?_ | refine wpList_store_row rfl 52 _ _ rfl (wza.heap.size + 1) #[.int .i64 0, .int .i64 0, .int .i64 0, .int .i64 0, .int .i64 0, .int .i64 0, .bool false, .int .i64 0] rfl rfl 52 #[.int .i64 0, .int .i64 0, .int .i64 0, .int .i64 0, .int .i64 0, .int .i64 0, .bool false, .int .i64 0] pt1 size_trap rfl (by simp [Value.oneCell']) ?_)
  clear pc0 pt1 ls lo
  obtain ⟨g2, pca, pta⟩ := GG.out
  clear GG
  replace ra := ra.keep g2 (fun h => h)
  replace rb := rb.keep g2 (fun h => h)
  replace rc := rc.keep g2 (fun h => h)
  replace rd := rd.keep g2 (fun h => h)
  replace Hb := Hb.keep0 g2
  replace Hc := Hc.keep0 g2
  replace Hd := Hd.keep0 g2
  replace f0 := f0.trans g2
  clear g2
  obtain ⟨ta, ht⟩ : ∃ u, u = ((((wza.alloc (.cells (cpA zc) 30)).alloc (.cells #[.int .i64 0, .int .i64 0, .int .i64 0, .int .i64 0, .int .i64 0, .int .i64 0, .bool false, .int .i64 0] 52)).setRow wza.heap.size Aa).setRow (wza.heap.size + 1) #[.int .i64 0, .int .i64 0, .int .i64 0, .int .i64 0, .int .i64 0, .int .i64 0, .bool false, .int .i64 0]) := ⟨_, rfl⟩
  rw [← ht] at f0 pca pta ra rb rc rd  Hb Hc Hd ⊢
  clear ht
  obtain ⟨hca, hh1⟩ : ∃ q, q = wza.heap.size := ⟨_, rfl⟩
  obtain ⟨hta, hh2⟩ : ∃ q, q = wza.heap.size + 1 := ⟨_, rfl⟩
  rw [← hh2] at pta ⊢
  rw [← hh1] at pca lz ⊢
  have Pca : Hid (gd < hca) := lz
  have Pta : Hid (gd < hta) := (show gd < hta by omega)
  clear hh1 hh2 lz
  have lz : gd < ta.heap.size := rd.lt
  have pi0 := row_alloc ta (cpA zc) 30
  have pi1 : Row ((ta.alloc (.cells (cpA zc) 30)).setRow ta.heap.size #[.int .u32 0, .int .u32 0, .int .u32 0, .int .u32 0, .int .u32 0, .int .u32 0, .int .u32 0, .int .u32 0, .int .u32 0, .int .u32 0, .int .u32 0, .int .u32 0, .int .u32 0, .int .u32 0, .int .u32 0, .int .u32 0, .int .i64 0, .int .u32 0, .int .u32 0, .int .u32 0, .int .u32 0, .int .u32 0, .int .u32 0, .int .u32 0, .int .u32 0]) ta.heap.size #[.int .u32 0, .int .u32 0, .int .u32 0, .int .u32 0, .int .u32 0, .int .u32 0, .int .u32 0, .int .u32 0, .int .u32 0, .int .u32 0, .int .u32 0, .int .u32 0, .int .u32 0, .int .u32 0, .int .u32 0, .int .u32 0, .int .i64 0, .int .u32 0, .int .u32 0, .int .u32 0, .int .u32 0, .int .u32 0, .int .u32 0, .int .u32 0, .int .u32 0] 30 := pi0.setRow
  have g2 : Fr none' ta (((ta.alloc (.cells (cpA zc) 30)).setRow ta.heap.size #[.int .u32 0, .int .u32 0, .int .u32 0, .int .u32 0, .int .u32 0, .int .u32 0, .int .u32 0, .int .u32 0, .int .u32 0, .int .u32 0, .int .u32 0, .int .u32 0, .int .u32 0, .int .u32 0, .int .u32 0, .int .u32 0, .int .i64 0, .int .u32 0, .int .u32 0, .int .u32 0, .int .u32 0, .int .u32 0, .int .u32 0, .int .u32 0, .int .u32 0]).setCell ⟨ta.heap.size, 1, none⟩ (.int .u32 64)) := (((Fr.refl none' ta).alloc _).newer (fr_row _ ta.heap.size _) (Nat.le_refl _)).newer (fr_set _ ta.heap.size 1 _ (Fr.refl _ _)) (Nat.le_refl _)
  have pin : Row (((ta.alloc (.cells (cpA zc) 30)).setRow ta.heap.size #[.int .u32 0, .int .u32 0, .int .u32 0, .int .u32 0, .int .u32 0, .int .u32 0, .int .u32 0, .int .u32 0, .int .u32 0, .int .u32 0, .int .u32 0, .int .u32 0, .int .u32 0, .int .u32 0, .int .u32 0, .int .u32 0, .int .i64 0, .int .u32 0, .int .u32 0, .int .u32 0, .int .u32 0, .int .u32 0, .int .u32 0, .int .u32 0, .int .u32 0]).setCell ⟨ta.heap.size, 1, none⟩ (.int .u32 64)) ta.heap.size #[.int .u32 0, .int .u32 64, .int .u32 0, .int .u32 0, .int .u32 0, .int .u32 0, .int .u32 0, .int .u32 0, .int .u32 0, .int .u32 0, .int .u32 0, .int .u32 0, .int .u32 0, .int .u32 0, .int .u32 0, .int .u32 0, .int .i64 0, .int .u32 0, .int .u32 0, .int .u32 0, .int .u32 0, .int .u32 0, .int .u32 0, .int .u32 0, .int .u32 0] 30 := pi1.setCell 1 (.int .u32 64)
  have GG : Hid (Fr none' ta (((ta.alloc (.cells (cpA zc) 30)).setRow ta.heap.size #[.int .u32 0, .int .u32 0, .int .u32 0, .int .u32 0, .int .u32 0, .int .u32 0, .int .u32 0, .int .u32 0, .int .u32 0, .int .u32 0, .int .u32 0, .int .u32 0, .int .u32 0, .int .u32 0, .int .u32 0, .int .u32 0, .int .i64 0, .int .u32 0, .int .u32 0, .int .u32 0, .int .u32 0, .int .u32 0, .int .u32 0, .int .u32 0, .int .u32 0]).setCell ⟨ta.heap.size, 1, none⟩ (.int .u32 64)) ∧ Row (((ta.alloc (.cells (cpA zc) 30)).setRow ta.heap.size #[.int .u32 0, .int .u32 0, .int .u32 0, .int .u32 0, .int .u32 0, .int .u32 0, .int .u32 0, .int .u32 0, .int .u32 0, .int .u32 0, .int .u32 0, .int .u32 0, .int .u32 0, .int .u32 0, .int .u32 0, .int .u32 0, .int .i64 0, .int .u32 0, .int .u32 0, .int .u32 0, .int .u32 0, .int .u32 0, .int .u32 0, .int .u32 0, .int .u32 0]).setCell ⟨ta.heap.size, 1, none⟩ (.int .u32 64)) ta.heap.size #[.int .u32 0, .int .u32 64, .int .u32 0, .int .u32 0, .int .u32 0, .int .u32 0, .int .u32 0, .int .u32 0, .int .u32 0, .int .u32 0, .int .u32 0, .int .u32 0, .int .u32 0, .int .u32 0, .int .u32 0, .int .u32 0, .int .i64 0, .int .u32 0, .int .u32 0, .int .u32 0, .int .u32 0, .int .u32 0, .int .u32 0, .int .u32 0, .int .u32 0] 30) := ⟨g2, pin⟩
  clear g2 pin
  have pj1 : ((ta.alloc (.cells (cpA zc) 30)).setRow ta.heap.size #[.int .u32 0, .int .u32 0, .int .u32 0, .int .u32 0, .int .u32 0, .int .u32 0, .int .u32 0, .int .u32 0, .int .u32 0, .int .u32 0, .int .u32 0, .int .u32 0, .int .u32 0, .int .u32 0, .int .u32 0, .int .u32 0, .int .i64 0, .int .u32 0, .int .u32 0, .int .u32 0, .int .u32 0, .int .u32 0, .int .u32 0, .int .u32 0, .int .u32 0]).cell? ⟨ta.heap.size, 1, none⟩ = some (.int .u32 0) := pi1.cell 1
  have pj2 : ((ta.alloc (.cells (cpA zc) 30)).setRow ta.heap.size #[.int .u32 0, .int .u32 0, .int .u32 0, .int .u32 0, .int .u32 0, .int .u32 0, .int .u32 0, .int .u32 0, .int .u32 0, .int .u32 0, .int .u32 0, .int .u32 0, .int .u32 0, .int .u32 0, .int .u32 0, .int .u32 0, .int .i64 0, .int .u32 0, .int .u32 0, .int .u32 0, .int .u32 0, .int .u32 0, .int .u32 0, .int .u32 0, .int .u32 0]).frozen? ⟨ta.heap.size, 1, none⟩ = false := pi1.frozen 1
  clear pi1
  go_upto_region 10 with (refine wpList_store_row rfl 30 _ _ rfl ta.heap.size #[.int .u32 0, .int .u32 0, .int .u32 0, .int .u32 0, .int .u32 0, .int .u32 0, .int .u32 0, .int .u32 0, .int .u32 0, .int .u32 0, .int .u32 0, .int .u32 0, .int .u32 0, .int .u32 0, .int .u32 0, .int .u32 0, .int .i64 0, .int .u32 0, .int .u32 0, .int .u32 0, .int .u32 0, .int .u32 0, .int .u32 0, .int .u32 0, .int .u32 0] rfl rfl 30 (cpA zc) pi0 size_cpu rfl (by simp [Value.oneCell']) ?_)
  clear pi0 pj1 pj2
  obtain ⟨g2, pin⟩ := GG.out
  clear GG
  replace ra := ra.keep g2 (fun h => h)
  replace rb := rb.keep g2 (fun h => h)
  replace rc := rc.keep g2 (fun h => h)
  replace rd := rd.keep g2 (fun h => h)
  replace pca := pca.keep g2 (fun h => h)
  replace pta := pta.keep g2 (fun h => h)
  replace Hb := Hb.keep0 g2
  replace Hc := Hc.keep0 g2
  replace Hd := Hd.keep0 g2
  replace f0 := f0.trans g2
  clear g2
  obtain ⟨ti, ht⟩ : ∃ u, u = (((ta.alloc (.cells (cpA zc) 30)).setRow ta.heap.size #[.int .u32 0, .int .u32 0, .int .u32 0, .int .u32 0, .int .u32 0, .int .u32 0, .int .u32 0, .int .u32 0, .int .u32 0, .int .u32 0, .int .u32 0, .int .u32 0, .int .u32 0, .int .u32 0, .int .u32 0, .int .u32 0, .int .i64 0, .int .u32 0, .int .u32 0, .int .u32 0, .int .u32 0, .int .u32 0, .int .u32 0, .int .u32 0, .int .u32 0]).setCell ⟨ta.heap.size, 1, none⟩ (.int .u32 64)) := ⟨_, rfl⟩
  rw [← ht] at f0 pin ra rb rc rd pca pta Hb Hc Hd ⊢
  clear ht
  obtain ⟨gin, hh1⟩ : ∃ q, q = ta.heap.size := ⟨_, rfl⟩
  rw [← hh1] at pin lz ⊢
  clear hh1 lz
  have pinc : ∀ j v, (#[.int .u32 0, .int .u32 64, .int .u32 0, .int .u32 0, .int .u32 0, .int .u32 0, .int .u32 0, .int .u32 0, .int .u32 0, .int .u32 0, .int .u32 0, .int .u32 0, .int .u32 0, .int .u32 0, .int .u32 0, .int .u32 0, .int .i64 0, .int .u32 0, .int .u32 0, .int .u32 0, .int .u32 0, .int .u32 0, .int .u32 0, .int .u32 0, .int .u32 0] : Array Value)[j]? = some v → ti.cell? ⟨gin, j, none⟩ = some v := fun j v hv => (pin.cell j).trans hv
  obtain ⟨k0, k1, k2, k3, k4, k5⟩ := cells6 rb
  go_wp2_with (refine wpList_load_part rfl 30 _ rfl gin rfl #[.int .u32 0, .int .u32 64, .int .u32 0, .int .u32 0, .int .u32 0, .int .u32 0, .int .u32 0, .int .u32 0, .int .u32 0, .int .u32 0, .int .u32 0, .int .u32 0, .int .u32 0, .int .u32 0, .int .u32 0, .int .u32 0, .int .i64 0, .int .u32 0, .int .u32 0, .int .u32 0, .int .u32 0, .int .u32 0, .int .u32 0, .int .u32 0, .int .u32 0] _ pinc Tryz.underlying30 rfl size_cpu ?_)
  refine (exS_b _ Ob.B vb Hb).mono ?_
  rintro e wzb ⟨Ab, asb, aob, afb, rfl, g1⟩
  have AFb : Hid (Ab[2]? = some (.int .u32 77) ∧ True) := afb
  clear k0 k1 k2 k3 k4 k5 Hb afb
  replace ra := ra.keep g1 (fun e => by have h1 := Ib.out ga (Or.inl e); have h2 := LL.out; omega)
  replace rb := rb.keep g1 (fun e => by have h1 := Ib.out gb (Or.inl e); have h2 := LL.out; omega)
  replace rc := rc.keep g1 (fun e => by have h1 := Ib.out gc (Or.inl e); have h2 := LL.out; omega)
  replace rd := rd.keep g1 (fun e => by have h1 := Ib.out gd (Or.inl e); have h2 := LL.out; omega)
  replace pca := pca.keep g1 (fun e => by have h1 := Ib.out _ (Or.inl e); have h2 := LL.out; have h3 := Pca.out; omega)
  replace pta := pta.keep g1 (fun e => by have h1 := Ib.out _ (Or.inl e); have h2 := LL.out; have h3 := Pta.out; omega)
  replace Hc := isMc_far Hc g1 (fun k hk e => by have h1 := Ib.out k (Or.inl e); have h2 := Ic.out k hk; have h3 := LL.out; omega)
  replace Hd := isMc_far Hd g1 (fun k hk e => by have h1 := Ib.out k (Or.inl e); have h2 := Id.out k hk; have h3 := LL.out; omega)
  replace f0 : Fr none' w wzb := ⟨g1.os.trans f0.os, g1.tape.trans f0.tape, g1.output.trans f0.output, Nat.le_trans f0.size g1.size, fun k hk hn => by
    rw [g1.block k (Nat.lt_of_lt_of_le hk f0.size) (fun e => by have h1 := Ib.out k (Or.inl e); have h2 := LL.out; omega)]; exact f0.block k hk hn⟩
  have pc0 : Row ((wzb.alloc (.cells (cpA zc) 30)).alloc (.cells #[.int .i64 0, .int .i64 0, .int .i64 0, .int .i64 0, .int .i64 0, .int .i64 0, .bool false, .int .i64 0] 52)) wzb.heap.size (cpA zc) 30 := (row_alloc wzb (cpA zc) 30).alloc _
  have pt0 : Row ((wzb.alloc (.cells (cpA zc) 30)).alloc (.cells #[.int .i64 0, .int .i64 0, .int .i64 0, .int .i64 0, .int .i64 0, .int .i64 0, .bool false, .int .i64 0] 52)) (wzb.heap.size + 1) #[.int .i64 0, .int .i64 0, .int .i64 0, .int .i64 0, .int .i64 0, .int .i64 0, .bool false, .int .i64 0] 52 := row_at (by simp)
  have pt1 := pt0.keep (fr_row _ wzb.heap.size Ab) (ne_new' (Nat.lt_succ_self _))
  have ls : (Tryz.prog.info? 30).map (·.size) = some Ab.size := by rw [asb]; exact size_cpu
  have lo : (cpA zc).size = Ab.size := by rw [asb]; exact cpA_size zc
  have lz : gd < wzb.heap.size := rd.lt
  have g2 : Fr none' wzb ((((wzb.alloc (.cells (cpA zc) 30)).alloc (.cells #[.int .i64 0, .int .i64 0, .int .i64 0, .int .i64 0, .int .i64 0, .int .i64 0, .bool false, .int .i64 0] 52)).setRow wzb.heap.size Ab).setRow (wzb.heap.size + 1) #[.int .i64 0, .int .i64 0, .int .i64 0, .int .i64 0, .int .i64 0, .int .i64 0, .bool false, .int .i64 0]) := (((((Fr.refl none' wzb).alloc _).alloc _).newer (fr_row _ wzb.heap.size Ab) (Nat.le_refl _))).newer (fr_row _ (wzb.heap.size + 1) _) (Nat.le_succ _)
  have pcb : Row ((((wzb.alloc (.cells (cpA zc) 30)).alloc (.cells #[.int .i64 0, .int .i64 0, .int .i64 0, .int .i64 0, .int .i64 0, .int .i64 0, .bool false, .int .i64 0] 52)).setRow wzb.heap.size Ab).setRow (wzb.heap.size + 1) #[.int .i64 0, .int .i64 0, .int .i64 0, .int .i64 0, .int .i64 0, .int .i64 0, .bool false, .int .i64 0]) wzb.heap.size Ab 30 := (pc0.setRow).keep (fr_row _ (wzb.heap.size + 1) _) (ne_new (Nat.lt_succ_self _))
  have ptb : Row ((((wzb.alloc (.cells (cpA zc) 30)).alloc (.cells #[.int .i64 0, .int .i64 0, .int .i64 0, .int .i64 0, .int .i64 0, .int .i64 0, .bool false, .int .i64 0] 52)).setRow wzb.heap.size Ab).setRow (wzb.heap.size + 1) #[.int .i64 0, .int .i64 0, .int .i64 0, .int .i64 0, .int .i64 0, .int .i64 0, .bool false, .int .i64 0]) (wzb.heap.size + 1) #[.int .i64 0, .int .i64 0, .int .i64 0, .int .i64 0, .int .i64 0, .int .i64 0, .bool false, .int .i64 0] 52 := pt1.setRow
  have GG : Hid (Fr none' wzb ((((wzb.alloc (.cells (cpA zc) 30)).alloc (.cells #[.int .i64 0, .int .i64 0, .int .i64 0, .int .i64 0, .int .i64 0, .int .i64 0, .bool false, .int .i64 0] 52)).setRow wzb.heap.size Ab).setRow (wzb.heap.size + 1) #[.int .i64 0, .int .i64 0, .int .i64 0, .int .i64 0, .int .i64 0, .int .i64 0, .bool false, .int .i64 0]) ∧ Row ((((wzb.alloc (.cells (cpA zc) 30)).alloc (.cells #[.int .i64 0, .int .i64 0, .int .i64 0, .int .i64 0, .int .i64 0, .int .i64 0, .bool false, .int .i64 0] 52)).setRow wzb.heap.size Ab).setRow (wzb.heap.size + 1) #[.int .i64 0, .int .i64 0, .int .i64 0, .int .i64 0, .int .i64 0, .int .i64 0, .bool false, .int .i64 0]) wzb.heap.size Ab 30 ∧ Row ((((wzb.alloc (.cells (cpA zc) 30)).alloc (.cells #[.int .i64 0, .int .i64 0, .int .i64 0, .int .i64 0, .int .i64 0, .int .i64 0, .bool false, .int .i64 0] 52)).setRow wzb.heap.size Ab).setRow (wzb.heap.size + 1) #[.int .i64 0, .int .i64 0, .int .i64 0, .int .i64 0, .int .i64 0, .int .i64 0, .bool false, .int .i64 0]) (wzb.heap.size + 1) #[.int .i64 0, .int .i64 0, .int .i64 0, .int .i64 0, .int .i64 0, .int .i64 0, .bool false, .int .i64 0] 52) := ⟨g2, pcb, ptb⟩
  clear g1 g2 pcb ptb pt0
  go_upto_region 11 with (first | refine wpList_store_row rfl 30 _ _ rfl wzb.heap.size Ab rfl rfl 30 (cpA zc) pc0 ls lo aob ?_ | refine wpList_store_row rfl 52 _ _ rfl (wzb.heap.size + 1) #[.int .i64 0, .int .i64 0, .int .i64 0, .int .i64 0, .int .i64 0, .int .i64 0, .bool false, .int .i64 0] rfl rfl 52 #[.int .i64 0, .int .i64 0, .int .i64 0, .int .i64 0, .int .i64 0, .int .i64 0, .bool false, .int .i64 0] pt1 size_trap rfl (by simp [Value.oneCell']) ?_)
  clear pc0 pt1 ls lo
  obtain ⟨g2, pcb, ptb⟩ := GG.out
  clear GG
  replace ra := ra.keep g2 (fun h => h)
  replace rb := rb.keep g2 (fun h => h)
  replace rc := rc.keep g2 (fun h => h)
  replace rd := rd.keep g2 (fun h => h)
  replace pca := pca.keep g2 (fun h => h)
  replace pta := pta.keep g2 (fun h => h)
  replace Hc := Hc.keep0 g2
  replace Hd := Hd.keep0 g2
  replace f0 := f0.trans g2
  clear g2
  obtain ⟨tb, ht⟩ : ∃ u, u = ((((wzb.alloc (.cells (cpA zc) 30)).alloc (.cells #[.int .i64 0, .int .i64 0, .int .i64 0, .int .i64 0, .int .i64 0, .int .i64 0, .bool false, .int .i64 0] 52)).setRow wzb.heap.size Ab).setRow (wzb.heap.size + 1) #[.int .i64 0, .int .i64 0, .int .i64 0, .int .i64 0, .int .i64 0, .int .i64 0, .bool false, .int .i64 0]) := ⟨_, rfl⟩
  rw [← ht] at f0 pcb ptb ra rb rc rd pca pta Hc Hd ⊢
  clear ht
  obtain ⟨hcb, hh1⟩ : ∃ q, q = wzb.heap.size := ⟨_, rfl⟩
  obtain ⟨htb, hh2⟩ : ∃ q, q = wzb.heap.size + 1 := ⟨_, rfl⟩
  rw [← hh2] at ptb ⊢
  rw [← hh1] at pcb lz ⊢
  have Pcb : Hid (gd < hcb) := lz
  have Ptb : Hid (gd < htb) := (show gd < htb by omega)
  clear hh1 hh2 lz
  clear pinc pin
  obtain ⟨k0, k1, k2, k3, k4, k5⟩ := cells6 rc
  go_wp2_with fail
  refine (exS_c _ Oc.B vc Hc).mono ?_
  rintro e wzc ⟨Ac, asc, aoc, afc, rfl, g1⟩
  have AFc : Hid (True ∧ True) := afc
  clear k0 k1 k2 k3 k4 k5 Hc afc
  replace ra := ra.keep g1 (fun e => by have h1 := Ic.out ga (Or.inl e); have h2 := LL.out; omega)
  replace rb := rb.keep g1 (fun e => by have h1 := Ic.out gb (Or.inl e); have h2 := LL.out; omega)
  replace rc := rc.keep g1 (fun e => by have h1 := Ic.out gc (Or.inl e); have h2 := LL.out; omega)
  replace rd := rd.keep g1 (fun e => by have h1 := Ic.out gd (Or.inl e); have h2 := LL.out; omega)
  replace pca := pca.keep g1 (fun e => by have h1 := Ic.out _ (Or.inl e); have h2 := LL.out; have h3 := Pca.out; omega)
  replace pta := pta.keep g1 (fun e => by have h1 := Ic.out _ (Or.inl e); have h2 := LL.out; have h3 := Pta.out; omega)
  replace pcb := pcb.keep g1 (fun e => by have h1 := Ic.out _ (Or.inl e); have h2 := LL.out; have h3 := Pcb.out; omega)
  replace ptb := ptb.keep g1 (fun e => by have h1 := Ic.out _ (Or.inl e); have h2 := LL.out; have h3 := Ptb.out; omega)
  replace Hd := isMc_far Hd g1 (fun k hk e => by have h1 := Ic.out k (Or.inl e); have h2 := Id.out k hk; have h3 := LL.out; omega)
  replace f0 : Fr none' w wzc := ⟨g1.os.trans f0.os, g1.tape.trans f0.tape, g1.output.trans f0.output, Nat.le_trans f0.size g1.size, fun k hk hn => by
    rw [g1.block k (Nat.lt_of_lt_of_le hk f0.size) (fun e => by have h1 := Ic.out k (Or.inl e); have h2 := LL.out; omega)]; exact f0.block k hk hn⟩
  have pc0 : Row ((wzc.alloc (.cells (cpA zc) 30)).alloc (.cells #[.int .i64 0, .int .i64 0, .int .i64 0, .int .i64 0, .int .i64 0, .int .i64 0, .bool false, .int .i64 0] 52)) wzc.heap.size (cpA zc) 30 := (row_alloc wzc (cpA zc) 30).alloc _
  have pt0 : Row ((wzc.alloc (.cells (cpA zc) 30)).alloc (.cells #[.int .i64 0, .int .i64 0, .int .i64 0, .int .i64 0, .int .i64 0, .int .i64 0, .bool false, .int .i64 0] 52)) (wzc.heap.size + 1) #[.int .i64 0, .int .i64 0, .int .i64 0, .int .i64 0, .int .i64 0, .int .i64 0, .bool false, .int .i64 0] 52 := row_at (by simp)
  have pt1 := pt0.keep (fr_row _ wzc.heap.size Ac) (ne_new' (Nat.lt_succ_self _))
  have ls : (Tryz.prog.info? 30).map (·.size) = some Ac.size := by rw [asc]; exact size_cpu
  have lo : (cpA zc).size = Ac.size := by rw [asc]; exact cpA_size zc
  have lz : gd < wzc.heap.size := rd.lt
  have g2 : Fr none' wzc ((((wzc.alloc (.cells (cpA zc) 30)).alloc (.cells #[.int .i64 0, .int .i64 0, .int .i64 0, .int .i64 0, .int .i64 0, .int .i64 0, .bool false, .int .i64 0] 52)).setRow wzc.heap.size Ac).setRow (wzc.heap.size + 1) #[.int .i64 8, .int .i64 285212675, .int .i64 0, .int .i64 0, .int .i64 0, .int .i64 0, .bool false, .int .i64 0]) := (((((Fr.refl none' wzc).alloc _).alloc _).newer (fr_row _ wzc.heap.size Ac) (Nat.le_refl _))).newer (fr_row _ (wzc.heap.size + 1) _) (Nat.le_succ _)
  have pcc : Row ((((wzc.alloc (.cells (cpA zc) 30)).alloc (.cells #[.int .i64 0, .int .i64 0, .int .i64 0, .int .i64 0, .int .i64 0, .int .i64 0, .bool false, .int .i64 0] 52)).setRow wzc.heap.size Ac).setRow (wzc.heap.size + 1) #[.int .i64 8, .int .i64 285212675, .int .i64 0, .int .i64 0, .int .i64 0, .int .i64 0, .bool false, .int .i64 0]) wzc.heap.size Ac 30 := (pc0.setRow).keep (fr_row _ (wzc.heap.size + 1) _) (ne_new (Nat.lt_succ_self _))
  have ptc : Row ((((wzc.alloc (.cells (cpA zc) 30)).alloc (.cells #[.int .i64 0, .int .i64 0, .int .i64 0, .int .i64 0, .int .i64 0, .int .i64 0, .bool false, .int .i64 0] 52)).setRow wzc.heap.size Ac).setRow (wzc.heap.size + 1) #[.int .i64 8, .int .i64 285212675, .int .i64 0, .int .i64 0, .int .i64 0, .int .i64 0, .bool false, .int .i64 0]) (wzc.heap.size + 1) #[.int .i64 8, .int .i64 285212675, .int .i64 0, .int .i64 0, .int .i64 0, .int .i64 0, .bool false, .int .i64 0] 52 := pt1.setRow
  have GG : Hid (Fr none' wzc ((((wzc.alloc (.cells (cpA zc) 30)).alloc (.cells #[.int .i64 0, .int .i64 0, .int .i64 0, .int .i64 0, .int .i64 0, .int .i64 0, .bool false, .int .i64 0] 52)).setRow wzc.heap.size Ac).setRow (wzc.heap.size + 1) #[.int .i64 8, .int .i64 285212675, .int .i64 0, .int .i64 0, .int .i64 0, .int .i64 0, .bool false, .int .i64 0]) ∧ Row ((((wzc.alloc (.cells (cpA zc) 30)).alloc (.cells #[.int .i64 0, .int .i64 0, .int .i64 0, .int .i64 0, .int .i64 0, .int .i64 0, .bool false, .int .i64 0] 52)).setRow wzc.heap.size Ac).setRow (wzc.heap.size + 1) #[.int .i64 8, .int .i64 285212675, .int .i64 0, .int .i64 0, .int .i64 0, .int .i64 0, .bool false, .int .i64 0]) wzc.heap.size Ac 30 ∧ Row ((((wzc.alloc (.cells (cpA zc) 30)).alloc (.cells #[.int .i64 0, .int .i64 0, .int .i64 0, .int .i64 0, .int .i64 0, .int .i64 0, .bool false, .int .i64 0] 52)).setRow wzc.heap.size Ac).setRow (wzc.heap.size + 1) #[.int .i64 8, .int .i64 285212675, .int .i64 0, .int .i64 0, .int .i64 0, .int .i64 0, .bool false, .int .i64 0]) (wzc.heap.size + 1) #[.int .i64 8, .int .i64 285212675, .int .i64 0, .int .i64 0, .int .i64 0, .int .i64 0, .bool false, .int .i64 0] 52) := ⟨g2, pcc, ptc⟩
  clear g1 g2 pcc ptc pt0
  go_upto_region 12 with (first | refine wpList_store_row rfl 30 _ _ rfl wzc.heap.size Ac rfl rfl 30 (cpA zc) pc0 ls lo aoc ?_ | refine wpList_store_row rfl 52 _ _ rfl (wzc.heap.size + 1) #[.int .i64 8, .int .i64 285212675, .int .i64 0, .int .i64 0, .int .i64 0, .int .i64 0, .bool false, .int .i64 0] rfl rfl 52 #[.int .i64 0, .int .i64 0, .int .i64 0, .int .i64 0, .int .i64 0, .int .i64 0, .bool false, .int .i64 0] pt1 size_trap rfl (by simp [Value.oneCell']) ?_)
  clear pc0 pt1 ls lo
  obtain ⟨g2, pcc, ptc⟩ := GG.out
  clear GG
  replace ra := ra.keep g2 (fun h => h)
  replace rb := rb.keep g2 (fun h => h)
  replace rc := rc.keep g2 (fun h => h)
  replace rd := rd.keep g2 (fun h => h)
  replace pca := pca.keep g2 (fun h => h)
  replace pta := pta.keep g2 (fun h => h)
  replace pcb := pcb.keep g2 (fun h => h)
  replace ptb := ptb.keep g2 (fun h => h)
  replace Hd := Hd.keep0 g2
  replace f0 := f0.trans g2
  clear g2
  obtain ⟨tc, ht⟩ : ∃ u, u = ((((wzc.alloc (.cells (cpA zc) 30)).alloc (.cells #[.int .i64 0, .int .i64 0, .int .i64 0, .int .i64 0, .int .i64 0, .int .i64 0, .bool false, .int .i64 0] 52)).setRow wzc.heap.size Ac).setRow (wzc.heap.size + 1) #[.int .i64 8, .int .i64 285212675, .int .i64 0, .int .i64 0, .int .i64 0, .int .i64 0, .bool false, .int .i64 0]) := ⟨_, rfl⟩
  rw [← ht] at f0 pcc ptc ra rb rc rd pca pta pcb ptb Hd ⊢
  clear ht
  obtain ⟨hcc, hh1⟩ : ∃ q, q = wzc.heap.size := ⟨_, rfl⟩
  obtain ⟨htc, hh2⟩ : ∃ q, q = wzc.heap.size + 1 := ⟨_, rfl⟩
  rw [← hh2] at ptc ⊢
  rw [← hh1] at pcc lz ⊢
  have Pcc : Hid (gd < hcc) := lz
  have Ptc : Hid (gd < htc) := (show gd < htc by omega)
  clear hh1 hh2 lz
  obtain ⟨k0, k1, k2, k3, k4, k5⟩ := cells6 rd
  go_wp2_with fail
  refine (exS_d _ Od.B bd vd Hd).mono ?_
  rintro e wzd ⟨Ad, asd, aod, afd, rfl, g1⟩
  have AFd : Hid (True ∧ True) := afd
  clear k0 k1 k2 k3 k4 k5 Hd afd
  replace ra := ra.keep g1 (fun e => by have h1 := Id.out ga (Or.inl e); have h2 := LL.out; omega)
  replace rb := rb.keep g1 (fun e => by have h1 := Id.out gb (Or.inl e); have h2 := LL.out; omega)
  replace rc := rc.keep g1 (fun e => by have h1 := Id.out gc (Or.inl e); have h2 := LL.out; omega)
  replace rd := rd.keep g1 (fun e => by have h1 := Id.out gd (Or.inl e); have h2 := LL.out; omega)
  replace pca := pca.keep g1 (fun e => by have h1 := Id.out _ (Or.inl e); have h2 := LL.out; have h3 := Pca.out; omega)
  replace pta := pta.keep g1 (fun e => by have h1 := Id.out _ (Or.inl e); have h2 := LL.out; have h3 := Pta.out; omega)
  replace pcb := pcb.keep g1 (fun e => by have h1 := Id.out _ (Or.inl e); have h2 := LL.out; have h3 := Pcb.out; omega)
  replace ptb := ptb.keep g1 (fun e => by have h1 := Id.out _ (Or.inl e); have h2 := LL.out; have h3 := Ptb.out; omega)
  replace pcc := pcc.keep g1 (fun e => by have h1 := Id.out _ (Or.inl e); have h2 := LL.out; have h3 := Pcc.out; omega)
  replace ptc := ptc.keep g1 (fun e => by have h1 := Id.out _ (Or.inl e); have h2 := LL.out; have h3 := Ptc.out; omega)
  replace f0 : Fr none' w wzd := ⟨g1.os.trans f0.os, g1.tape.trans f0.tape, g1.output.trans f0.output, Nat.le_trans f0.size g1.size, fun k hk hn => by
    rw [g1.block k (Nat.lt_of_lt_of_le hk f0.size) (fun e => by have h1 := Id.out k (Or.inl e); have h2 := LL.out; omega)]; exact f0.block k hk hn⟩
  have pc0 : Row ((wzd.alloc (.cells (cpA zc) 30)).alloc (.cells #[.int .i64 0, .int .i64 0, .int .i64 0, .int .i64 0, .int .i64 0, .int .i64 0, .bool false, .int .i64 0] 52)) wzd.heap.size (cpA zc) 30 := (row_alloc wzd (cpA zc) 30).alloc _
  have pt0 : Row ((wzd.alloc (.cells (cpA zc) 30)).alloc (.cells #[.int .i64 0, .int .i64 0, .int .i64 0, .int .i64 0, .int .i64 0, .int .i64 0, .bool false, .int .i64 0] 52)) (wzd.heap.size + 1) #[.int .i64 0, .int .i64 0, .int .i64 0, .int .i64 0, .int .i64 0, .int .i64 0, .bool false, .int .i64 0] 52 := row_at (by simp)
  have pt1 := pt0.keep (fr_row _ wzd.heap.size Ad) (ne_new' (Nat.lt_succ_self _))
  have ls : (Tryz.prog.info? 30).map (·.size) = some Ad.size := by rw [asd]; exact size_cpu
  have lo : (cpA zc).size = Ad.size := by rw [asd]; exact cpA_size zc
  have lz : gd < wzd.heap.size := rd.lt
  have g2 : Fr none' wzd ((((wzd.alloc (.cells (cpA zc) 30)).alloc (.cells #[.int .i64 0, .int .i64 0, .int .i64 0, .int .i64 0, .int .i64 0, .int .i64 0, .bool false, .int .i64 0] 52)).setRow wzd.heap.size Ad).setRow (wzd.heap.size + 1) #[.int .i64 5, .int .i64 3, .int .i64 0, .int .i64 0, .int .i64 0, .int .i64 0, .bool false, .int .i64 0]) := (((((Fr.refl none' wzd).alloc _).alloc _).newer (fr_row _ wzd.heap.size Ad) (Nat.le_refl _))).newer (fr_row _ (wzd.heap.size + 1) _) (Nat.le_succ _)
  have pcd : Row ((((wzd.alloc (.cells (cpA zc) 30)).alloc (.cells #[.int .i64 0, .int .i64 0, .int .i64 0, .int .i64 0, .int .i64 0, .int .i64 0, .bool false, .int .i64 0] 52)).setRow wzd.heap.size Ad).setRow (wzd.heap.size + 1) #[.int .i64 5, .int .i64 3, .int .i64 0, .int .i64 0, .int .i64 0, .int .i64 0, .bool false, .int .i64 0]) wzd.heap.size Ad 30 := (pc0.setRow).keep (fr_row _ (wzd.heap.size + 1) _) (ne_new (Nat.lt_succ_self _))
  have ptd : Row ((((wzd.alloc (.cells (cpA zc) 30)).alloc (.cells #[.int .i64 0, .int .i64 0, .int .i64 0, .int .i64 0, .int .i64 0, .int .i64 0, .bool false, .int .i64 0] 52)).setRow wzd.heap.size Ad).setRow (wzd.heap.size + 1) #[.int .i64 5, .int .i64 3, .int .i64 0, .int .i64 0, .int .i64 0, .int .i64 0, .bool false, .int .i64 0]) (wzd.heap.size + 1) #[.int .i64 5, .int .i64 3, .int .i64 0, .int .i64 0, .int .i64 0, .int .i64 0, .bool false, .int .i64 0] 52 := pt1.setRow
  have GG : Hid (Fr none' wzd ((((wzd.alloc (.cells (cpA zc) 30)).alloc (.cells #[.int .i64 0, .int .i64 0, .int .i64 0, .int .i64 0, .int .i64 0, .int .i64 0, .bool false, .int .i64 0] 52)).setRow wzd.heap.size Ad).setRow (wzd.heap.size + 1) #[.int .i64 5, .int .i64 3, .int .i64 0, .int .i64 0, .int .i64 0, .int .i64 0, .bool false, .int .i64 0]) ∧ Row ((((wzd.alloc (.cells (cpA zc) 30)).alloc (.cells #[.int .i64 0, .int .i64 0, .int .i64 0, .int .i64 0, .int .i64 0, .int .i64 0, .bool false, .int .i64 0] 52)).setRow wzd.heap.size Ad).setRow (wzd.heap.size + 1) #[.int .i64 5, .int .i64 3, .int .i64 0, .int .i64 0, .int .i64 0, .int .i64 0, .bool false, .int .i64 0]) wzd.heap.size Ad 30 ∧ Row ((((wzd.alloc (.cells (cpA zc) 30)).alloc (.cells #[.int .i64 0, .int .i64 0, .int .i64 0, .int .i64 0, .int .i64 0, .int .i64 0, .bool false, .int .i64 0] 52)).setRow wzd.heap.size Ad).setRow (wzd.heap.size + 1) #[.int .i64 5, .int .i64 3, .int .i64 0, .int .i64 0, .int .i64 0, .int .i64 0, .bool false, .int .i64 0]) (wzd.heap.size + 1) #[.int .i64 5, .int .i64 3, .int .i64 0, .int .i64 0, .int .i64 0, .int .i64 0, .bool false, .int .i64 0] 52) := ⟨g2, pcd, ptd⟩
  clear g1 g2 pcd ptd pt0
  go_upto_region 13 with (first | refine wpList_store_row rfl 30 _ _ rfl wzd.heap.size Ad rfl rfl 30 (cpA zc) pc0 ls lo aod ?_ | refine wpList_store_row rfl 52 _ _ rfl (wzd.heap.size + 1) #[.int .i64 5, .int .i64 3, .int .i64 0, .int .i64 0, .int .i64 0, .int .i64 0, .bool false, .int .i64 0] rfl rfl 52 #[.int .i64 0, .int .i64 0, .int .i64 0, .int .i64 0, .int .i64 0, .int .i64 0, .bool false, .int .i64 0] pt1 size_trap rfl (by simp [Value.oneCell']) ?_)
  clear pc0 pt1 ls lo
  obtain ⟨g2, pcd, ptd⟩ := GG.out
  clear GG
  replace ra := ra.keep g2 (fun h => h)
  replace rb := rb.keep g2 (fun h => h)
  replace rc := rc.keep g2 (fun h => h)
  replace rd := rd.keep g2 (fun h => h)
  replace pca := pca.keep g2 (fun h => h)
  replace pta := pta.keep g2 (fun h => h)
  replace pcb := pcb.keep g2 (fun h => h)
  replace ptb := ptb.keep g2 (fun h => h)
  replace pcc := pcc.keep g2 (fun h => h)
  replace ptc := ptc.keep g2 (fun h => h)
  replace f0 := f0.trans g2
  clear g2
  obtain ⟨td, ht⟩ : ∃ u, u = ((((wzd.alloc (.cells (cpA zc) 30)).alloc (.cells #[.int .i64 0, .int .i64 0, .int .i64 0, .int .i64 0, .int .i64 0, .int .i64 0, .bool false, .int .i64 0] 52)).setRow wzd.heap.size Ad).setRow (wzd.heap.size + 1) #[.int .i64 5, .int .i64 3, .int .i64 0, .int .i64 0, .int .i64 0, .int .i64 0, .bool false, .int .i64 0]) := ⟨_, rfl⟩
  rw [← ht] at f0 pcd ptd ra rb rc rd pca pta pcb ptb pcc ptc  ⊢
  clear ht
  obtain ⟨hcd, hh1⟩ : ∃ q, q = wzd.heap.size := ⟨_, rfl⟩
  obtain ⟨htd, hh2⟩ : ∃ q, q = wzd.heap.size + 1 := ⟨_, rfl⟩
  rw [← hh2] at ptd ⊢
  rw [← hh1] at pcd lz ⊢
  have Pcd : Hid (gd < hcd) := lz
  have Ptd : Hid (gd < htd) := (show gd < htd by omega)
  clear hh1 hh2 lz
  have w1 := (pca.cell 1).trans AFa.out.1
  have w2 := (pca.cell 16).trans AFa.out.2
  have w3 := (pcb.cell 2).trans AFb.out.1
  clear pca pcb pcc pcd AFa AFb AFc AFd ra rb rc rd
  obtain ⟨ma0, ma1, ma2, ma3, ma4, ma5, ma6, ma7⟩ := cells8 pta
  obtain ⟨mb0, mb1, mb2, mb3, mb4, mb5, mb6, mb7⟩ := cells8 ptb
  obtain ⟨mc0, mc1, mc2, mc3, mc4, mc5, mc6, mc7⟩ := cells8 ptc
  obtain ⟨md0, md1, md2, md3, md4, md5, md6, md7⟩ := cells8 ptd
  go_wp2_with fail
  go_ret
  exact ⟨rfl, f0⟩

end Go.Proofs.YtgnoakidjnilpaaGreat

/- CpuExPure -/
namespace Go.Proofs.YtgnoakidjnilpaaGreat
open Go.RowKit

theorem ex_fetch (W : Nat) : nested (exB W) 16 (-1) 3 0 4 = ⟨1, 5, f0⟩ := by kernel_rfl
theorem ex_bytes (W : Nat) : ((exB W).drop 64).take 4 = bytesOf 4 W := by kernel_rfl
theorem ex_word (W : Nat) (hW : W < 4294967296) : loadV (exB W) 64 4 16 = (W : Int) := by
  have h : errOf 64 4 16 = 0 := by decide
  unfold loadV
  rw [if_pos h]
  show ((numOf (((exB W).drop 64).take 4) : Nat) : Int) = _
  rw [ex_bytes, numOf_bytesOf, Nat.mod_eq_of_lt (by simpa using hW)]

theorem ex_idx (page : Int) : idx (fun _ => zl) 1 0 page 8 = -1 := idx_none (fun j _ => by unfold hit; simp [zl, emp, leq])

/-- The machine behind the fetch; the work behind it. -/
def exM (W : Nat) (g : Bool) : Mc := rcM (M0 (exB W) g) 16 1 0 (-1) 3 0 4 0
def exX (W : Nat) (c : Cp) : Wk := ⟨0, 0, none, 1, 0, -1, 3, 0, 0, W, (dOp (W : Int)).toNat, (dA (W : Int)).toNat, (dB (W : Int)).toNat, (dC (W : Int)).toNat, (dI (W : Int)).toNat, c.setP 4⟩

theorem ex_reach (W : Nat) (g : Bool) : rcF (M0 (exB W) g) 16 1 0 (-1) 3 0 4 = f0 ∧ rcP (M0 (exB W) g) 16 1 0 (-1) 3 0 4 = 64 := by
  have hi : hitR (M0 (exB W) g).T 1 0 0 4 = false := by
    show hitR (fun _ => zl) 1 0 0 4 = false
    unfold hitR
    rw [ex_idx]
    rfl
  have hx : reachX (M0 (exB W) g).bs 16 (M0 (exB W) g).T 1 0 (-1) 3 0 4 = f0 := by
    unfold reachX
    rw [if_neg (by rw [hi]; decide)]
    show (nested (exB W) 16 (-1) 3 0 4).ft = f0
    rw [ex_fetch]
  have hf : reachF (M0 (exB W) g).bs 16 (M0 (exB W) g).T 1 0 (-1) 3 0 4 = 1 := by
    unfold reachF
    rw [if_neg (by rw [hi]; decide)]
    show (nested (exB W) 16 (-1) 3 0 4).fr = 1
    rw [ex_fetch]
  have h1 : rcF (M0 (exB W) g) 16 1 0 (-1) 3 0 4 = f0 := by
    unfold rcF
    show (if (reachX (M0 (exB W) g).bs 16 (M0 (exB W) g).T 1 0 (-1) 3 0 4).k ≠ 0 then _ else if ((16 : Nat) : Int) ≤ reachF (M0 (exB W) g).bs 16 (M0 (exB W) g).T 1 0 (-1) 3 0 4 then _ else f0) = f0
    rw [hx, hf]
    rfl
  refine ⟨h1, ?_⟩
  unfold rcP
  rw [h1]
  show (if f0.k ≠ 0 then 0 else reachF (M0 (exB W) g).bs 16 (M0 (exB W) g).T 1 0 (-1) 3 0 4 * 64 + 0 % 64) = 64
  rw [hf]
  rfl

theorem ex_step (W : Nat) (hW : W < 4294967296) (hd : i_decOk (W : Int) = true) (g : Bool) (c : Cp) (hp : c.pc = 0) (hf : spF g c = -1) (ha : spA g c = 0) (hg : isG (exX W c).op = false ∨ g = true) :
    stepR 16 (M0 (exB W) g) c 1 3 0 = ((exec 16 (exM W g) (exX W c)).1, stC c (exec 16 (exM W g) (exX W c)), (exec 16 (exM W g) (exX W c)).2.2) := by
  have hb : ¬ c.bad := by unfold Cp.bad; rw [hp]; decide
  have hv : (M0 (exB W) g).V.isSome = g := by cases g <;> rfl
  have hw : wkP g c 1 3 0 = ⟨0, 0, none, 1, 0, -1, 3, 0, 0, 0, 0, 0, 0, 0, 0, c.setP 4⟩ := by unfold wkP; rw [hf, ha, hp]; rfl
  have hfx : fX 16 (M0 (exB W) g) (wkP g c 1 3 0) = ⟨0, 0, none, 1, 0, -1, 3, 0, 0, W, 0, 0, 0, 0, 0, c.setP 4⟩ := by
    rw [hw]
    unfold fX
    show ({ p := 0, t := 0, v := none, vm := 1, sd := 0, fi := -1, se := 3, ix := 0, pc := 0, wd := (loadV (exB W) (rcP (M0 (exB W) g) 16 1 0 (-1) 3 0 4) 4 16).toNat, op := 0, a := 0, b := 0, c := 0, imm := 0, z := c.setP 4 } : Wk) = _
    rw [(ex_reach W g).2, ex_word W hW, Int.toNat_natCast]
  have hD : doR 16 (M0 (exB W) g) (wkP g c 1 3 0) = exec 16 (exM W g) (exX W c) := by
    unfold doR
    rw [hfx, hw]
    show (if (rcF (M0 (exB W) g) 16 1 0 (-1) 3 0 4).k ≠ 0 then _ else if i_decOk (W : Int) = false then _ else if isG (exX W c).op = true ∧ (M0 (exB W) g).V = none then _ else exec 16 (exM W g) (exX W c)) = _
    rw [(ex_reach W g).1, if_neg (by decide), if_neg (by rw [hd]; decide), if_neg ?_]
    rintro ⟨h1, h2⟩
    rcases hg with hg | hg
    · rw [hg] at h1; exact absurd h1 (by decide)
    · subst hg; exact absurd h2 (by intro h; cases h)
  unfold stepR
  rw [if_neg hb, hv, hD]

/-- States held against each other. -/
def ceq (c d : Cp) : Bool := (List.range 16).all (fun i => ((c.r i : Nat) : Int) == ((d.r i : Nat) : Int)) && (c.pc == d.pc && (List.range 8).all (fun i => ((c.s i : Nat) : Int) == ((d.s i : Nat) : Int)))
theorem ceq_self (c : Cp) : ceq c c = true := by simp [ceq]

theorem part_u32 {xs : Array Value} {i : Nat} {x : Int} (h : xs[i]? = some (.int .u32 x)) (w : World) : (part 26 xs i).run Tryz.prog w = .ok (.int .u32 x) w := by
  simp [part, isAgg, run_underlying Tryz.underlying26, h]

theorem eqItems_u32 (d : Nat) (xs ys : Array Value) (f g : Nat → Int) (w : World) : ∀ is : List Nat, (∀ i ∈ is, xs[i]? = some (.int .u32 (f i)) ∧ ys[i]? = some (.int .u32 (g i))) → (Op.eqItems (d + 1) 26 1 xs ys is).run Tryz.prog w = .ok (is.all (fun i => f i == g i)) w
  | [], _ => by simp [Op.eqItems]
  | i :: is, h => by
    have h1 := h i (by simp)
    have ih := eqItems_u32 d xs ys f g w is (fun j hj => h j (by simp [hj]))
    have p1 := part_u32 (i := i * 1) (by rw [Nat.mul_one]; exact h1.1) w
    have p2 := part_u32 (i := i * 1) (by rw [Nat.mul_one]; exact h1.2) w
    simp only [Op.eqItems, Sem.run_bind, p1, p2, Result.andThen_ok, run_equalIn_int w d 26 .u32 .u32 (f i) (g i) Tryz.underlying26]
    cases hh : (f i == g i) with
    | false => simp [hh]
    | true => simp [hh, ih]

theorem cells_u32 : Tryz.prog.cellsOf 26 = 1 := by kernel_rfl
theorem info_u32 : ∃ i, Tryz.prog.info? 26 = some i := by
  have h : (Tryz.prog.info? 26).isSome = true := by kernel_rfl
  exact Option.isSome_iff_exists.1 h

theorem eq_regs (c d : Cp) (w : World) : (Op.equalIn 9999 27 (.agg #[.int .u32 ((c.r 0 : Nat) : Int), .int .u32 ((c.r 1 : Nat) : Int), .int .u32 ((c.r 2 : Nat) : Int), .int .u32 ((c.r 3 : Nat) : Int), .int .u32 ((c.r 4 : Nat) : Int), .int .u32 ((c.r 5 : Nat) : Int), .int .u32 ((c.r 6 : Nat) : Int), .int .u32 ((c.r 7 : Nat) : Int), .int .u32 ((c.r 8 : Nat) : Int), .int .u32 ((c.r 9 : Nat) : Int), .int .u32 ((c.r 10 : Nat) : Int), .int .u32 ((c.r 11 : Nat) : Int), .int .u32 ((c.r 12 : Nat) : Int), .int .u32 ((c.r 13 : Nat) : Int), .int .u32 ((c.r 14 : Nat) : Int), .int .u32 ((c.r 15 : Nat) : Int)]) (.agg #[.int .u32 ((d.r 0 : Nat) : Int), .int .u32 ((d.r 1 : Nat) : Int), .int .u32 ((d.r 2 : Nat) : Int), .int .u32 ((d.r 3 : Nat) : Int), .int .u32 ((d.r 4 : Nat) : Int), .int .u32 ((d.r 5 : Nat) : Int), .int .u32 ((d.r 6 : Nat) : Int), .int .u32 ((d.r 7 : Nat) : Int), .int .u32 ((d.r 8 : Nat) : Int), .int .u32 ((d.r 9 : Nat) : Int), .int .u32 ((d.r 10 : Nat) : Int), .int .u32 ((d.r 11 : Nat) : Int), .int .u32 ((d.r 12 : Nat) : Int), .int .u32 ((d.r 13 : Nat) : Int), .int .u32 ((d.r 14 : Nat) : Int), .int .u32 ((d.r 15 : Nat) : Int)])).run Tryz.prog w = .ok ((List.range 16).all (fun i => ((c.r i : Nat) : Int) == ((d.r i : Nat) : Int))) w := by
  obtain ⟨i, hi⟩ := info_u32
  rw [show (9999 : Nat) = 9998 + 1 by rfl, run_equalIn_array w 9998 _ _ Tryz.underlying27 hi, cells_u32]
  refine eqItems_u32 9997 _ _ (fun i => ((c.r i : Nat) : Int)) (fun i => ((d.r i : Nat) : Int)) w _ (fun j hj => ?_)
  have hj' : j < 16 := List.mem_range.1 hj
  have : j = 0 ∨ j = 1 ∨ j = 2 ∨ j = 3 ∨ j = 4 ∨ j = 5 ∨ j = 6 ∨ j = 7 ∨ j = 8 ∨ j = 9 ∨ j = 10 ∨ j = 11 ∨ j = 12 ∨ j = 13 ∨ j = 14 ∨ j = 15 := by omega
  rcases this with rfl | rfl | rfl | rfl | rfl | rfl | rfl | rfl | rfl | rfl | rfl | rfl | rfl | rfl | rfl | rfl <;> exact ⟨rfl, rfl⟩
theorem eq_syss (c d : Cp) (w : World) : (Op.equalIn 9999 28 (.agg #[.int .u32 ((c.s 0 : Nat) : Int), .int .u32 ((c.s 1 : Nat) : Int), .int .u32 ((c.s 2 : Nat) : Int), .int .u32 ((c.s 3 : Nat) : Int), .int .u32 ((c.s 4 : Nat) : Int), .int .u32 ((c.s 5 : Nat) : Int), .int .u32 ((c.s 6 : Nat) : Int), .int .u32 ((c.s 7 : Nat) : Int)]) (.agg #[.int .u32 ((d.s 0 : Nat) : Int), .int .u32 ((d.s 1 : Nat) : Int), .int .u32 ((d.s 2 : Nat) : Int), .int .u32 ((d.s 3 : Nat) : Int), .int .u32 ((d.s 4 : Nat) : Int), .int .u32 ((d.s 5 : Nat) : Int), .int .u32 ((d.s 6 : Nat) : Int), .int .u32 ((d.s 7 : Nat) : Int)])).run Tryz.prog w = .ok ((List.range 8).all (fun i => ((c.s i : Nat) : Int) == ((d.s i : Nat) : Int))) w := by
  obtain ⟨i, hi⟩ := info_u32
  rw [show (9999 : Nat) = 9998 + 1 by rfl, run_equalIn_array w 9998 _ _ Tryz.underlying28 hi, cells_u32]
  refine eqItems_u32 9997 _ _ (fun i => ((c.s i : Nat) : Int)) (fun i => ((d.s i : Nat) : Int)) w _ (fun j hj => ?_)
  have hj' : j < 8 := List.mem_range.1 hj
  have : j = 0 ∨ j = 1 ∨ j = 2 ∨ j = 3 ∨ j = 4 ∨ j = 5 ∨ j = 6 ∨ j = 7 := by omega
  rcases this with rfl | rfl | rfl | rfl | rfl | rfl | rfl | rfl <;> exact ⟨rfl, rfl⟩

set_option maxHeartbeats 2000000 in
theorem neq_cpu (c d : Cp) (w : World) : (binOp .neq 30 (.agg (cpA c)) (.agg (cpA d))).run Tryz.prog w = .ok (.bool !(ceq c d)) w := by
  have h1 := eq_regs c d
  have h2 := eq_syss c d
  unfold ceq
  obtain ⟨x, hx⟩ : ∃ x, (List.range 16).all (fun i => ((c.r i : Nat) : Int) == ((d.r i : Nat) : Int)) = x := ⟨_, rfl⟩
  obtain ⟨y, hy⟩ : ∃ y, (List.range 8).all (fun i => ((c.s i : Nat) : Int) == ((d.s i : Nat) : Int)) = y := ⟨_, rfl⟩
  rw [hx] at h1 ⊢
  rw [hy] at h2 ⊢
  rw [cpA_eq, cpA_eq]
  clear hx hy
  cases x <;> cases y <;> cases hp : (c.pc == d.pc) <;> simp [go_sem, h1, h2, hp]
set_option maxHeartbeats 2000000 in
theorem eql_cpu (c d : Cp) (w : World) : (binOp .eql 30 (.agg (cpA c)) (.agg (cpA d))).run Tryz.prog w = .ok (.bool (ceq c d)) w := by
  have h1 := eq_regs c d
  have h2 := eq_syss c d
  unfold ceq
  obtain ⟨x, hx⟩ : ∃ x, (List.range 16).all (fun i => ((c.r i : Nat) : Int) == ((d.r i : Nat) : Int)) = x := ⟨_, rfl⟩
  obtain ⟨y, hy⟩ : ∃ y, (List.range 8).all (fun i => ((c.s i : Nat) : Int) == ((d.s i : Nat) : Int)) = y := ⟨_, rfl⟩
  rw [hx] at h1 ⊢
  rw [hy] at h2 ⊢
  rw [cpA_eq, cpA_eq]
  clear hx hy
  cases x <;> cases y <;> cases hp : (c.pc == d.pc) <;> simp [go_sem, h1, h2, hp]

end Go.Proofs.YtgnoakidjnilpaaGreat

/- CpuSysP -/
namespace Go.Proofs.YtgnoakidjnilpaaGreat
open Go.RowKit

def cin (w : Nat) : Cp := (zc.setR 2 w).setS 6 77
theorem cin_ok {w : Nat} (h : w < 4294967296) : (cin w).Ok := (zc_ok.setR 2 h).setS 6 (by decide)
def W1 (n : Nat) : Nat := 335675392 + n
def W2 (n : Nat) : Nat := 321912832 + n
theorem enc1 {n : Nat} (h : n < 65536) : i_encW 20 0 2 0 (n : Int) = (W1 n : Int) := by
  have hr : rightI 20 0 2 0 (n : Int) = true := by
    simp [rightI, kf, hA, hB, hC, hI, fld]
    omega
  unfold i_encW
  rw [if_pos hr]
  unfold wordI W1
  omega
theorem enc2 {n : Nat} (h : n < 65536) : i_encW 19 3 0 0 (n : Int) = (W2 n : Int) := by
  have hr : rightI 19 3 0 0 (n : Int) = true := by
    simp [rightI, kf, hA, hB, hC, hI, fld]
    omega
  unfold i_encW
  rw [if_pos hr]
  unfold wordI W2
  omega

theorem dec1 {n : Nat} (h : n < 65536) : i_decOk (W1 n : Int) = true ∧ dOp (W1 n : Int) = 20 ∧ dA (W1 n : Int) = 0 ∧ dB (W1 n : Int) = 2 ∧ dC (W1 n : Int) = 0 ∧ dI (W1 n : Int) = n := by
  have hr : rightI 20 0 2 0 (n : Int) = true := by
    simp [rightI, kf, hA, hB, hC, hI, fld]
    omega
  have hw : (W1 n : Int) = wordI 20 0 2 0 (n : Int) := by unfold W1 wordI; omega
  obtain ⟨h1, h2, h3, h4, h5, h6⟩ := i_dec_back hr
  rw [hw]
  refine ⟨?_, h1, h2, h3, h4, h5⟩
  cases hd : i_decOk (wordI 20 0 2 0 (n : Int)) with
  | true => rfl
  | false => unfold dE at h6; rw [if_neg (by rw [hd]; decide)] at h6; exact absurd h6 (by decide)
theorem dec2 {n : Nat} (h : n < 65536) : i_decOk (W2 n : Int) = true ∧ dOp (W2 n : Int) = 19 ∧ dA (W2 n : Int) = 3 ∧ dB (W2 n : Int) = 0 ∧ dC (W2 n : Int) = 0 ∧ dI (W2 n : Int) = n := by
  have hr : rightI 19 3 0 0 (n : Int) = true := by
    simp [rightI, kf, hA, hB, hC, hI, fld]
    omega
  have hw : (W2 n : Int) = wordI 19 3 0 0 (n : Int) := by unfold W2 wordI; omega
  obtain ⟨h1, h2, h3, h4, h5, h6⟩ := i_dec_back hr
  rw [hw]
  refine ⟨?_, h1, h2, h3, h4, h5⟩
  cases hd : i_decOk (wordI 19 3 0 0 (n : Int)) with
  | true => rfl
  | false => unfold dE at h6; rw [if_neg (by rw [hd]; decide)] at h6; exact absurd h6 (by decide)

theorem exX1 {n : Nat} (h : n < 65536) (c : Cp) : exX (W1 n) c = ⟨0, 0, none, 1, 0, -1, 3, 0, 0, W1 n, 20, 0, 2, 0, n, c.setP 4⟩ := by
  obtain ⟨_, h1, h2, h3, h4, h5⟩ := dec1 h
  unfold exX
  rw [h1, h2, h3, h4, h5, Int.toNat_natCast]
  rfl
theorem exX2 {n : Nat} (h : n < 65536) (c : Cp) : exX (W2 n) c = ⟨0, 0, none, 1, 0, -1, 3, 0, 0, W2 n, 19, 3, 0, 0, n, c.setP 4⟩ := by
  obtain ⟨_, h1, h2, h3, h4, h5⟩ := dec2 h
  unfold exX
  rw [h1, h2, h3, h4, h5, Int.toNat_natCast]
  rfl

theorem sp_low {c : Cp} (h : c.s 0 = 0) : spF true c = -1 ∧ spA true c = 0 := by
  unfold spF spA
  rw [h]
  exact ⟨rfl, rfl⟩

theorem sys1_hi {n w : Nat} (h : n < 65536) (hn : 5 < n) : (stepR 16 (M0 (exB (W1 n)) true) (cin w) 1 3 0).2.1 = cin w ∧ (stepR 16 (M0 (exB (W1 n)) true) (cin w) 1 3 0).2.2 = ⟨7, n, 0, f0⟩ := by
  rw [ex_step (W1 n) (by unfold W1; omega) (dec1 h).1 true (cin w) rfl (sp_low rfl).1 (sp_low rfl).2 (Or.inr rfl), exX1 h]
  have e : exec 16 (exM (W1 n) true) ⟨0, 0, none, 1, 0, -1, 3, 0, 0, W1 n, 20, 0, 2, 0, n, (cin w).setP 4⟩ = (wrM (exM (W1 n) true) (exM (W1 n) true).S ⟨0, 0, none, 1, 0, -1, 3, 0, 0, W1 n, 20, 0, 2, 0, n, (cin w).setP 4⟩, wrX ⟨0, 0, none, 1, 0, -1, 3, 0, 0, W1 n, 20, 0, 2, 0, n, (cin w).setP 4⟩, wrT ⟨0, 0, none, 1, 0, -1, 3, 0, 0, W1 n, 20, 0, 2, 0, n, (cin w).setP 4⟩) := rfl
  have ht : wrT ⟨0, 0, none, 1, 0, -1, 3, 0, 0, W1 n, 20, 0, 2, 0, n, (cin w).setP 4⟩ = ⟨7, n, 0, f0⟩ := if_pos (show (5 : Int) < (n : Int) by omega)
  rw [e]
  refine ⟨?_, ht⟩
  show (if (wrT ⟨0, 0, none, 1, 0, -1, 3, 0, 0, W1 n, 20, 0, 2, 0, n, (cin w).setP 4⟩).ca = 0 ∨ (wrT ⟨0, 0, none, 1, 0, -1, 3, 0, 0, W1 n, 20, 0, 2, 0, n, (cin w).setP 4⟩).ca = 10 then _ else cin w) = cin w
  rw [ht]
  rfl
theorem sys1_lo {n w : Nat} (h : n ≤ 5) : (stepR 16 (M0 (exB (W1 n)) true) (cin w) 1 3 0).2.1 = ((cin w).setP 4).setS n w ∧ (stepR 16 (M0 (exB (W1 n)) true) (cin w) 1 3 0).2.2 = t0 := by
  rw [ex_step (W1 n) (by unfold W1; omega) (dec1 (by omega)).1 true (cin w) rfl (sp_low rfl).1 (sp_low rfl).2 (Or.inr rfl), exX1 (by omega)]
  have e : exec 16 (exM (W1 n) true) ⟨0, 0, none, 1, 0, -1, 3, 0, 0, W1 n, 20, 0, 2, 0, n, (cin w).setP 4⟩ = (wrM (exM (W1 n) true) (exM (W1 n) true).S ⟨0, 0, none, 1, 0, -1, 3, 0, 0, W1 n, 20, 0, 2, 0, n, (cin w).setP 4⟩, wrX ⟨0, 0, none, 1, 0, -1, 3, 0, 0, W1 n, 20, 0, 2, 0, n, (cin w).setP 4⟩, wrT ⟨0, 0, none, 1, 0, -1, 3, 0, 0, W1 n, 20, 0, 2, 0, n, (cin w).setP 4⟩) := rfl
  have ht : wrT ⟨0, 0, none, 1, 0, -1, 3, 0, 0, W1 n, 20, 0, 2, 0, n, (cin w).setP 4⟩ = t0 := if_neg (show ¬ (5 : Int) < (n : Int) by omega)
  have hx : wrX ⟨0, 0, none, 1, 0, -1, 3, 0, 0, W1 n, 20, 0, 2, 0, n, (cin w).setP 4⟩ = ⟨0, 0, none, 1, 0, -1, 3, 0, 0, W1 n, 20, 0, 2, 0, n, ((cin w).setP 4).setS n w⟩ := if_neg (show ¬ (5 : Int) < (n : Int) by omega)
  rw [e]
  refine ⟨?_, ht⟩
  show (if (wrT ⟨0, 0, none, 1, 0, -1, 3, 0, 0, W1 n, 20, 0, 2, 0, n, (cin w).setP 4⟩).ca = 0 ∨ (wrT ⟨0, 0, none, 1, 0, -1, 3, 0, 0, W1 n, 20, 0, 2, 0, n, (cin w).setP 4⟩).ca = 10 then (wrX ⟨0, 0, none, 1, 0, -1, 3, 0, 0, W1 n, 20, 0, 2, 0, n, (cin w).setP 4⟩).z else cin w) = _
  rw [ht, hx]
  rfl
theorem sys2_hi {n : Nat} (h : n < 65536) (hn : 6 < n) (c : Cp) (hp : c.pc = 0) (hs : c.s 0 = 0) : (stepR 16 (M0 (exB (W2 n)) true) c 1 3 0).2.1 = c ∧ (stepR 16 (M0 (exB (W2 n)) true) c 1 3 0).2.2 = ⟨7, n, 0, f0⟩ := by
  rw [ex_step (W2 n) (by unfold W2; omega) (dec2 h).1 true c hp (sp_low hs).1 (sp_low hs).2 (Or.inr rfl), exX2 h]
  have e : exec 16 (exM (W2 n) true) ⟨0, 0, none, 1, 0, -1, 3, 0, 0, W2 n, 19, 3, 0, 0, n, c.setP 4⟩ = (exM (W2 n) true, rdX ⟨0, 0, none, 1, 0, -1, 3, 0, 0, W2 n, 19, 3, 0, 0, n, c.setP 4⟩, rdT ⟨0, 0, none, 1, 0, -1, 3, 0, 0, W2 n, 19, 3, 0, 0, n, c.setP 4⟩) := rfl
  have ht : rdT ⟨0, 0, none, 1, 0, -1, 3, 0, 0, W2 n, 19, 3, 0, 0, n, c.setP 4⟩ = ⟨7, n, 0, f0⟩ := if_pos (show (6 : Int) < (n : Int) by omega)
  rw [e]
  refine ⟨?_, ht⟩
  show (if (rdT ⟨0, 0, none, 1, 0, -1, 3, 0, 0, W2 n, 19, 3, 0, 0, n, c.setP 4⟩).ca = 0 ∨ (rdT ⟨0, 0, none, 1, 0, -1, 3, 0, 0, W2 n, 19, 3, 0, 0, n, c.setP 4⟩).ca = 10 then _ else c) = c
  rw [ht]
  rfl
theorem sys2_lo {n : Nat} (h : n ≤ 6) (c : Cp) (hp : c.pc = 0) (hs : c.s 0 = 0) : (stepR 16 (M0 (exB (W2 n)) true) c 1 3 0).2.1 = (c.setP 4).setR 3 (c.s n) ∧ (stepR 16 (M0 (exB (W2 n)) true) c 1 3 0).2.2 = t0 := by
  rw [ex_step (W2 n) (by unfold W2; omega) (dec2 (by omega)).1 true c hp (sp_low hs).1 (sp_low hs).2 (Or.inr rfl), exX2 (by omega)]
  have e : exec 16 (exM (W2 n) true) ⟨0, 0, none, 1, 0, -1, 3, 0, 0, W2 n, 19, 3, 0, 0, n, c.setP 4⟩ = (exM (W2 n) true, rdX ⟨0, 0, none, 1, 0, -1, 3, 0, 0, W2 n, 19, 3, 0, 0, n, c.setP 4⟩, rdT ⟨0, 0, none, 1, 0, -1, 3, 0, 0, W2 n, 19, 3, 0, 0, n, c.setP 4⟩) := rfl
  have ht : rdT ⟨0, 0, none, 1, 0, -1, 3, 0, 0, W2 n, 19, 3, 0, 0, n, c.setP 4⟩ = t0 := if_neg (show ¬ (6 : Int) < (n : Int) by omega)
  have hx : rdX ⟨0, 0, none, 1, 0, -1, 3, 0, 0, W2 n, 19, 3, 0, 0, n, c.setP 4⟩ = ⟨0, 0, none, 1, 0, -1, 3, 0, 0, W2 n, 19, 3, 0, 0, n, (c.setP 4).setR 3 (c.s n)⟩ := if_neg (show ¬ (6 : Int) < (n : Int) by omega)
  rw [e]
  refine ⟨?_, ht⟩
  show (if (rdT ⟨0, 0, none, 1, 0, -1, 3, 0, 0, W2 n, 19, 3, 0, 0, n, c.setP 4⟩).ca = 0 ∨ (rdT ⟨0, 0, none, 1, 0, -1, 3, 0, 0, W2 n, 19, 3, 0, 0, n, c.setP 4⟩).ca = 10 then (rdX ⟨0, 0, none, 1, 0, -1, 3, 0, 0, W2 n, 19, 3, 0, 0, n, c.setP 4⟩).z else c) = _
  rw [ht, hx]
  rfl

end Go.Proofs.YtgnoakidjnilpaaGreat

/- CpuSystemA -/
namespace Go.Proofs.YtgnoakidjnilpaaGreat
open Go.RowKit

/-- Step of a guest's example, what it leaves said outright. -/
theorem exSt (w : World) (B : Bm) (b : Bk) (bs : List UInt8) (c c' : Cp) (t : Tr) (T : Array Value) (hv : B.v = some b) (hok : c.Ok) (hM : IsMc w B 16 (M0 bs true)) (hc : (stepR 16 (M0 bs true) c 1 3 0).2.1 = c' ∧ (stepR 16 (M0 bs true) c 1 3 0).2.2 = t) (hT : trL t = T) :
    Calls Tryz.prog 9 #[.agg #[.pointer (some ⟨B.p, 0, none⟩), .pointer (some ⟨B.bt, 0, none⟩), .pointer (some ⟨b.b, 0, none⟩)], .agg (cpA c), .int .i64 1, .int .i64 3, .int .i64 0] w fun e w' => e = .returned (.tuple #[.agg (cpA c'), .agg T]) ∧ Fr B.s w w' := by
  have h := Step_any w B 16 (M0 bs true) c hok 1 3 0 hM (M0_few bs true) (by decide)
  rw [hv, hc.1, hc.2, hT] at h
  exact h.mono (fun e w' ⟨a, f, _, o⟩ => ⟨a, f⟩)

theorem isMc_at {w w' : World} {B : Bm} {g : Nat} {nf : Nat} {M : Mc} (h : IsMc w B nf M) (f : Fr (at' g) w w') (h1 : ∀ k, (B.s k ∨ k = B.p) → k ≠ g) : IsMc w' B nf M :=
  h.keep f (h1 _ (Or.inr rfl)) (h1 _ (Or.inl (Or.inl rfl))) (h1 _ (Or.inl (Or.inr (Or.inl rfl)))) (fun k hk => h1 k (Or.inl (Or.inr (Or.inr hk))))

theorem load_partG {P : Program} {ops : Array Oper} {rest : List Oper} {o : Oper} {a : Act} {w : World} {Q : Exit → Act → World → Prop} (hgd : Region.wanted o (yielded ops a.tmps) = true) (ty : TypeId) (x : Operand) (ho : o.op = .load ty x)
    (g : Nat) (hx : a.eval x = .pointer (some ⟨g, 0, none⟩)) (cs : Array Value) (d : TypeDesc) (hc : ∀ j v, cs[j]? = some v → w.cell? ⟨g, j, none⟩ = some v)
    (hu : P.underlying ty = some d) (hd : (match d with | .struct _ | .array _ _ => true | _ => false) = true) (hi : (P.info? ty).map (·.size) = some cs.size)
    (h : wpList P ops Q rest (a.put o.dst (.agg cs)) w) : wpList P ops Q (o :: rest) a w := by
  refine BigFrame.wpList_want hgd fun K hK => ?_
  have hl : (loadCells ⟨g, 0, none⟩ cs.toList.length).run P w = .ok cs.toList.toArray w :=
    run_loadCells_list (P := P) w ⟨g, 0, none⟩ cs.toList (fun j v hv => by
      rw [add_lit', Nat.zero_add]
      exact hc j v (by simpa using hv))
  have hv : (loadVar ty ⟨g, 0, none⟩).run P w = .ok (.agg cs) w := by
    cases hq : P.info? ty with
    | none => simp [hq] at hi
    | some i =>
      have hs : i.size = cs.size := by simpa [hq] using hi
      have hagg : (isAgg ty).run P w = .ok true w := by
        unfold isAgg
        rw [Sem.run_bind, run_underlying hu w]
        cases d <;> simp_all
      simp only [Array.length_toList, Array.toArray_toList] at hl
      simp [loadVar, Sem.run_bind, hagg, sizeOf, typeInfo, hq, hs, hl]
  unfold Oper.wp execOp
  simp only [ho, hx, Instr.loadAt, Instr.sureAddr, Sem.run_bind, Sem.run_pure, Result.andThen_ok, hv]
  exact hK _ _ h

theorem cpA_setP (c : Cp) (x : Int) : (cpA c).setIfInBounds 16 (.int .i64 x) = cpA (c.setP x) := rfl
theorem cpA_set0 (c : Cp) : (cpA c).setIfInBounds 17 (.int .u32 0) = cpA (c.setS 0 0) := rfl
theorem cinA (x : Nat) : ((#[.int .u32 0, .int .u32 0, .int .u32 0, .int .u32 0, .int .u32 0, .int .u32 0, .int .u32 0, .int .u32 0, .int .u32 0, .int .u32 0, .int .u32 0, .int .u32 0, .int .u32 0, .int .u32 0, .int .u32 0, .int .u32 0, .int .i64 0, .int .u32 0, .int .u32 0, .int .u32 0, .int .u32 0, .int .u32 0, .int .u32 0, .int .u32 0, .int .u32 0] : Array Value).setIfInBounds 2 (.int .u32 (x : Int))).setIfInBounds 23 (.int .u32 77) = cpA (cin x) := rfl
theorem cp_at {w : World} {g : Nat} {c : Cp} {t : TypeId} (h : Row w g (cpA c) t) : ∀ j v, (cpA c)[j]? = some v → w.cell? ⟨g, j, none⟩ = some v := fun j _ hv => (h.cell j).trans hv

end Go.Proofs.YtgnoakidjnilpaaGreat

/- CpuRunP -/
namespace Go.Proofs.YtgnoakidjnilpaaGreat
open Go.RowKit

theorem exec_zero (nf : Nat) (M : Mc) (X : Wk) (h : (exec nf M X).2.2.ca = 0) : (exec nf M X).2.2 = _root_.Go.Proofs.YtgnoakidjnilpaaGreat.t0 := by
  unfold exec at h ⊢
  split at h
  all_goals first
    | rfl
    | exact dT_zero (by decide) h
    | (exact absurd h (show ¬((5 : Int) = 0) by decide))
    | (exact absurd h (show ¬((6 : Int) = 0) by decide))
    | skip
  · change (rdT X).ca = 0 at h
    show rdT X = _
    unfold rdT at h ⊢
    split at h
    · exact absurd h (show ¬((7 : Int) = 0) by decide)
    · rw [if_neg (by assumption)]
  · change (wrT X).ca = 0 at h
    show wrT X = _
    unfold wrT at h ⊢
    split at h
    · exact absurd h (show ¬((7 : Int) = 0) by decide)
    · rw [if_neg (by assumption)]
  · change (wfT M X).ca = 0 at h
    show wfT M X = _
    unfold wfT at h ⊢
    split at h
    · split at h
      · rw [if_pos (by assumption)]
      · exact absurd h (show ¬((9 : Int) = 0) by decide)
    · exact absurd h (show ¬((9 : Int) = 0) by decide)
  · change (eoT M.S X).ca = 0 at h
    show eoT M.S X = _
    unfold eoT at h ⊢
    split at h
    · exact absurd h (show ¬((10 : Int) = 0) by decide)
    · rw [if_neg (by assumption)]

theorem do_zero (nf : Nat) (M : Mc) (X : Wk) (h : (doR nf M X).2.2.ca = 0) : (doR nf M X).2.2 = _root_.Go.Proofs.YtgnoakidjnilpaaGreat.t0 := by
  unfold doR at h ⊢
  split at h
  · exact absurd h (show ¬((1 : Int) = 0) by decide)
  · rw [if_neg (by assumption)]
    split at h
    · exact absurd h (show ¬((8 : Int) = 0) by decide)
    · rw [if_neg (by assumption)]
      split at h
      · exact absurd h (show ¬((8 : Int) = 0) by decide)
      · rw [if_neg (by assumption)]
        exact exec_zero nf _ _ h

/-- A trap of cause none tells nothing. -/
theorem step_zero (nf : Nat) (M : Mc) (c : Cp) (vm se ix : Int) (h : (stepR nf M c vm se ix).2.2.ca = 0) : (stepR nf M c vm se ix).2.2 = _root_.Go.Proofs.YtgnoakidjnilpaaGreat.t0 := by
  unfold stepR at h ⊢
  split at h
  · exact absurd h (show ¬((4 : Int) = 0) by decide)
  · rw [if_neg (by assumption)]
    exact do_zero nf M _ h

def stepI (nf : Nat) (M : Mc) (c : Cp) (vm se : Int) : Mc × Cp × Tr := stepR nf M c vm se (c.pc / 4 % 8)

theorem step_bad_ix {nf : Nat} {M : Mc} {c : Cp} (h : c.bad) (vm se ix : Int) : stepR nf M c vm se ix = stepI nf M c vm se := by
  unfold stepI stepR
  rw [if_pos h, if_pos h]

/-- So many steps, one behind the other. -/
def seqR (nf : Nat) (M : Mc) (c : Cp) (vm se : Int) : Nat → Mc × Cp
  | 0 => (M, c)
  | k + 1 => ((stepI nf (seqR nf M c vm se k).1 (seqR nf M c vm se k).2 vm se).1, (stepI nf (seqR nf M c vm se k).1 (seqR nf M c vm se k).2 vm se).2.1)

def trapK (nf : Nat) (M : Mc) (c : Cp) (vm se : Int) (k : Nat) : Tr := (stepI nf (seqR nf M c vm se k).1 (seqR nf M c vm se k).2 vm se).2.2

theorem few_seq {nf : Nat} {M : Mc} (h : M.few 0) (c : Cp) (vm se : Int) (k : Nat) : (seqR nf M c vm se k).1.few (2 * k) := by
  induction k with
  | zero => exact h
  | succ k ih => exact few_mono (few_step ih nf _ vm se _) (by omega)

/-- So many were asked for: k went through; then a trap, or the end. -/
def Ran (nf : Nat) (M : Mc) (c : Cp) (vm se : Int) (many k : Nat) (M' : Mc) (c' : Cp) (T : Tr) : Prop :=
  (∀ j, j < k → (trapK nf M c vm se j).ca = 0) ∧ ((k = many ∧ M' = (seqR nf M c vm se k).1 ∧ c' = (seqR nf M c vm se k).2 ∧ T = _root_.Go.Proofs.YtgnoakidjnilpaaGreat.t0) ∨ (k < many ∧ (trapK nf M c vm se k).ca ≠ 0 ∧ M' = (seqR nf M c vm se (k + 1)).1 ∧ c' = (seqR nf M c vm se (k + 1)).2 ∧ T = trapK nf M c vm se k))

theorem Ran.one {nf : Nat} {M : Mc} {c : Cp} {vm se : Int} {many k k' : Nat} {M1 M2 : Mc} {c1 c2 : Cp} {T1 T2 : Tr} (h : Ran nf M c vm se many k M1 c1 T1) (h' : Ran nf M c vm se many k' M2 c2 T2) : k = k' ∧ M1 = M2 ∧ c1 = c2 ∧ T1 = T2 := by
  obtain ⟨a, b⟩ := h
  obtain ⟨a', b'⟩ := h'
  rcases b with ⟨rfl, rfl, rfl, rfl⟩ | ⟨hk, ht, rfl, rfl, rfl⟩ <;> rcases b' with ⟨rfl, rfl, rfl, rfl⟩ | ⟨hk', ht', rfl, rfl, rfl⟩
  · exact ⟨rfl, rfl, rfl, rfl⟩
  · exact absurd (a _ hk') ht'
  · exact absurd (a' _ hk) ht
  · rcases Nat.lt_trichotomy k k' with e | rfl | e
    · exact absurd (a' _ e) ht
    · exact ⟨rfl, rfl, rfl, rfl⟩
    · exact absurd (a _ e) ht'

end Go.Proofs.YtgnoakidjnilpaaGreat

/- CpuRun -/
namespace Go.Proofs.YtgnoakidjnilpaaGreat
open Go.RowKit

theorem ret_ctk {fn : Func} {p q u : Tmp} {tmps : Array Value} {g g' : Nat} {A cs : Array Value} {w : World} (h : fn.results = #[.cell p 30, .cell q 52, .tmp u]) (hp : tmps.getD p undef = .pointer (some ⟨g, 0, none⟩)) (hq : tmps.getD q undef = .pointer (some ⟨g', 0, none⟩)) (hr : Row w g A 30) (hs : A.size = 25) (hr' : Row w g' cs 52) (hs' : cs.size = 8) :
    (results fn tmps).run Tryz.prog w = .ok (.tuple #[.agg A, .agg cs, tmps.getD u undef]) w := by
  have hl : (loadVar 30 ⟨g, 0, none⟩).run Tryz.prog w = .ok (.agg A) w := by
    have := run_loadVar_mid (P := Tryz.prog) w g 0 30 A.toList _ (fun j v hv => by rw [Nat.zero_add, hr.cell]; simpa using hv) Tryz.underlying30 rfl (by rw [Array.length_toList, hs]; exact size_cpu)
    simpa using this
  have hl' := load_trap hr' hs'
  have hp' : tmps[p]?.getD undef = .pointer (some ⟨g, 0, none⟩) := by simpa using hp
  have hq' : tmps[q]?.getD undef = .pointer (some ⟨g', 0, none⟩) := by simpa using hq
  simp only [results, h]
  simp [Result.andThen, hp', hq', asAddr, hl, hl']

theorem wrap_up {k : Nat} (h : k ≤ 1000) : wrap64 ((k : Int) + 1) = ((k + 1 : Nat) : Int) := by unfold wrap64; omega

/-- What a round of Run finds. -/
structure Rn (w wr : World) (B : Bm) (nf N gM gA gZ gT : Nat) (M : Mc) (c : Cp) (vm se : Int) (k : Nat) : Prop where
  f : Fr B.s w wr
  rM : Row wr gM #[.pointer (some ⟨B.p, 0, none⟩), .pointer (some ⟨B.bt, 0, none⟩), ptrV (B.v.map Bk.b)] 37
  rA : Row wr gA (cpA (seqR nf M c vm se k).2) 30
  rZ : Row wr gZ (cpA zc) 30
  rT : Row wr gT #[.int .i64 0, .int .i64 0, .int .i64 0, .int .i64 0, .int .i64 0, .int .i64 0, .bool false, .int .i64 0] 52
  m : IsMc wr B nf (seqR nf M c vm se k).1
  o : Ops wr N
  t : ∀ j, j < k → (trapK nf M c vm se j).ca = 0
  ok : (seqR nf M c vm se k).2.Ok
  sz : N + 30 ≤ wr.heap.size

set_option maxRecDepth 100000 in
set_option maxHeartbeats 4000000 in
theorem Run_any (w : World) (B : Bm) (nf : Nat) (M : Mc) (c : Cp) (hok : c.Ok) (vm se : Int) (many : Nat) (hmy : many ≤ 1000) (hM : IsMc w B nf M) (hm : M.few 0) :
    Calls Tryz.prog 11 #[.agg #[.pointer (some ⟨B.p, 0, none⟩), .pointer (some ⟨B.bt, 0, none⟩), ptrV (B.v.map Bk.b)], .agg (cpA c), .int .i64 vm, .int .i64 se, .int .i64 (many : Int)] w fun e w' => ∃ k M' c' T, e = .returned (.tuple #[.agg (cpA c'), .agg (trL T), .int .i64 (k : Nat)]) ∧ Fr B.s w w' ∧ IsMc w' B nf M' ∧ Ran nf M c vm se many k M' c' T ∧ c'.Ok := by
  have HB : Hid (∀ k, (B.s k ∨ k = B.p) → k < w.heap.size) := hM.ltp
  have hz : ∀ w, Sem.run Tryz.prog (zeroValue 30) w = .ok (.agg (cpA zc)) w := zero_cpu
  obtain ⟨v0, hv0⟩ : ∃ v0, v0 = (((w.alloc (.cells #[.pointer (some ⟨B.p, 0, none⟩), .pointer (some ⟨B.bt, 0, none⟩), ptrV (B.v.map Bk.b)] 37)).alloc (.cells (cpA c) 30)).alloc (.cells (cpA zc) 30)).alloc (.cells #[.int .i64 0, .int .i64 0, .int .i64 0, .int .i64 0, .int .i64 0, .int .i64 0, .bool false, .int .i64 0] 52) := ⟨_, rfl⟩
  have f0 : Fr none' w v0 := by rw [hv0]; exact ((((Fr.refl none' w).alloc _).alloc _).alloc _).alloc _
  have rM : Row v0 w.heap.size #[.pointer (some ⟨B.p, 0, none⟩), .pointer (some ⟨B.bt, 0, none⟩), ptrV (B.v.map Bk.b)] 37 := by rw [hv0]; exact (((row_alloc _ _ _).alloc _).alloc _).alloc _
  have rA : Row v0 (w.heap.size + 1) (cpA c) 30 := by rw [hv0]; exact ((row_at (by simp)).alloc _).alloc _
  have rZ : Row v0 (w.heap.size + 1 + 1) (cpA zc) 30 := by rw [hv0]; exact (row_at (by simp)).alloc _
  have rT : Row v0 (w.heap.size + 1 + 1 + 1) #[.int .i64 0, .int .i64 0, .int .i64 0, .int .i64 0, .int .i64 0, .int .i64 0, .bool false, .int .i64 0] 52 := by rw [hv0]; exact row_at (by simp)
  have hsz : Hid (v0.heap.size = w.heap.size + 4) := by show _ = _; rw [hv0]; simp
  have u1000 : decide ((1000 : Int) < (many : Int)) = false := decide_eq_false (by omega)
  have v1000 : ¬ ((1000 : Int) < (many : Int)) := by omega
  have HMY : Hid (many ≤ 1000) := hmy
  clear hmy
  go_enter Tryz.func11, Tryz.ntmps11
  go_upto_region 1 with fail
  rw [← hv0]
  clear hv0 hz
  obtain ⟨gM, hgM⟩ : ∃ g, g = w.heap.size := ⟨_, rfl⟩
  obtain ⟨gA, hgA⟩ : ∃ g, g = w.heap.size + 1 := ⟨_, rfl⟩
  obtain ⟨gZ, hgZ⟩ : ∃ g, g = w.heap.size + 1 + 1 := ⟨_, rfl⟩
  obtain ⟨gT, hgT⟩ : ∃ g, g = w.heap.size + 1 + 1 + 1 := ⟨_, rfl⟩
  rw [← hgT] at rT ⊢
  rw [← hgZ] at rZ ⊢
  rw [← hgA] at rA ⊢
  rw [← hgM] at rM ⊢
  have HN : Hid (gM = w.heap.size ∧ gA = w.heap.size + 1 ∧ gZ = w.heap.size + 2 ∧ gT = w.heap.size + 3) := by show _ ∧ _; omega
  clear hgA hgZ hgT hgM
  go_wp2_with fail
  refine (ops_any v0 v0.heap.size rfl).mono ?_
  rintro e v1 ⟨rfl, g1, hO⟩
  obtain ⟨N, hN⟩ : ∃ N, N = v0.heap.size := ⟨_, rfl⟩
  rw [← hN] at hO ⊢
  have HNN : Hid (N = w.heap.size + 4) := by show _ = _; rw [hN, hsz.out]
  have hR : Hid (Rn w v1 B nf N gM gA gZ gT M c vm se 0) := by
    have hlt := hO.list.lt
    refine ⟨(f0.trans g1).mono (fun _ _ h => h.elim), rM.keep g1 (fun h => h), rA.keep g1 (fun h => h), rZ.keep g1 (fun h => h), rT.keep g1 (fun h => h), (hM.keep0 f0).keep0 g1, hO, fun j hj => absurd hj (Nat.not_lt_zero j), hok, by omega⟩
  clear hN f0 g1 rM rA rZ rT hO hsz hM hok
  go_wp2_with fail
  go_loopw [14, 15] (fun i p wr => ∃ k : Nat, k ≤ many ∧ i = .int .i64 (k : Int) ∧ Hid (Rn w wr B nf N gM gA gZ gT M c vm se k)) (fun i _ _ => many - (intOf i).toNat)
  case atStart => exact ⟨0, Nat.zero_le _, rfl, hR⟩
  case round =>
    clear hR
    obtain ⟨k, hk, rfl, RR⟩ := hrel
    by_cases hlt : k < many
    · have uk : decide ((k : Int) < (many : Int)) = true := decide_eq_true (by omega)
      obtain ⟨cc0, cc1, cc2⟩ : wr.cell? ⟨gM, 0, none⟩ = some (.pointer (some ⟨B.p, 0, none⟩)) ∧ wr.cell? ⟨gM, 1, none⟩ = some (.pointer (some ⟨B.bt, 0, none⟩)) ∧ wr.cell? ⟨gM, 2, none⟩ = some (ptrV (B.v.map Bk.b)) := ⟨RR.out.rM.cell 0, RR.out.rM.cell 1, RR.out.rM.cell 2⟩
      go_upto_region 5 with fail
      clear cc0 cc1 cc2 uk u1000 v1000
      have rU := row_alloc wr #[.int .i64 0, .int .i64 0, .int .i64 0, .int .i64 0, .int .i64 0, .int .i64 0, .bool false, .int .i64 0] 52
      have fU := (Fr.refl none' wr).alloc (.cells #[.int .i64 0, .int .i64 0, .int .i64 0, .int .i64 0, .int .i64 0, .int .i64 0, .bool false, .int .i64 0] 52)
      obtain ⟨va, hva⟩ : ∃ va, va = wr.alloc (.cells #[.int .i64 0, .int .i64 0, .int .i64 0, .int .i64 0, .int .i64 0, .int .i64 0, .bool false, .int .i64 0] 52) := ⟨_, rfl⟩
      obtain ⟨gU, hgU⟩ : ∃ gU, gU = wr.heap.size := ⟨_, rfl⟩
      rw [← hva] at rU fU ⊢
      rw [← hgU] at rU ⊢
      have HU : Hid (N + 30 ≤ gU) := by show _ ≤ _; rw [hgU]; exact RR.out.sz
      clear hva hgU
      have f1 := RR.out.f.trans (fU.mono (fun _ _ h => h.elim))
      have rM := RR.out.rM.keep fU (fun h => h)
      have rA := RR.out.rA.keep fU (fun h => h)
      have rZ := RR.out.rZ.keep fU (fun h => h)
      have rT := RR.out.rT.keep fU (fun h => h)
      have hM := RR.out.m.keep0 fU
      have hO := RR.out.o.keep fU (fun _ _ _ h => h)
      have HF : Hid ((seqR nf M c vm se k).1.few (2 * k)) := few_seq hm c vm se k
      have HT : Hid (∀ j, j < k → (trapK nf M c vm se j).ca = 0) := RR.out.t
      obtain ⟨R, hR⟩ : ∃ R, stepI nf (seqR nf M c vm se k).1 (seqR nf M c vm se k).2 vm se = R := ⟨_, rfl⟩
      have HQ : Hid (seqR nf M c vm se (k + 1) = (R.1, R.2.1) ∧ trapK nf M c vm se k = R.2.2 ∧ (R.2.2.ca = 0 → R.2.2 = _root_.Go.Proofs.YtgnoakidjnilpaaGreat.t0)) := by
        refine ⟨by rw [← hR]; rfl, by rw [← hR]; rfl, ?_⟩
        rw [← hR]; exact step_zero nf _ _ vm se _
      have hok := RR.out.ok
      have HKM : Hid (k < many) := hlt
      clear RR fU hk hlt
      obtain ⟨S1, hS⟩ : ∃ S1, seqR nf M c vm se k = S1 := ⟨_, rfl⟩
      rw [hS] at rA hM HF hR hok
      obtain ⟨M1, c1⟩ := S1
      replace rA : Row va gA (cpA c1) 30 := rA
      replace hM : IsMc va B nf M1 := hM
      replace HF : Hid (M1.few (2 * k)) := HF
      replace hR : stepI nf M1 c1 vm se = R := hR
      replace hok : c1.Ok := hok
      have SA : ∀ ix, (ix = c1.pc / 4 % 8 ∨ c1.bad) → Calls Tryz.prog 37 #[.slice (some ⟨N + 29, 0, none⟩) 26 26, .agg #[.pointer (some ⟨B.p, 0, none⟩), .pointer (some ⟨B.bt, 0, none⟩), ptrV (B.v.map Bk.b)], .agg (cpA c1), .int .i64 vm, .int .i64 se, .int .i64 ix] va fun e w' => e = .returned (.tuple #[.agg (cpA R.2.1), .agg (trL R.2.2)]) ∧ Fr B.s va w' ∧ IsMc w' B nf R.1 ∧ R.2.1.Ok := by
        intro ix hix
        have h := step_any va N B nf M1 c1 hok vm se ix hO hM HF.out (by have := HKM.out; have := HMY.out; omega) (fun j hj => Or.inl (by have := HB.out j hj; have := HNN.out; omega))
        have e : stepR nf M1 c1 vm se ix = R := by
          rcases hix with rfl | hb
          · exact hR
          · rw [step_bad_ix hb]; exact hR
        rw [e] at h
        exact h
      have cpc := cp_cell rA
      obtain ⟨cc0, cc1, cc2⟩ : va.cell? ⟨gM, 0, none⟩ = some (.pointer (some ⟨B.p, 0, none⟩)) ∧ va.cell? ⟨gM, 1, none⟩ = some (.pointer (some ⟨B.bt, 0, none⟩)) ∧ va.cell? ⟨gM, 2, none⟩ = some (ptrV (B.v.map Bk.b)) := ⟨rM.cell 0, rM.cell 1, rM.cell 2⟩
      clear hR hM hok HF
      obtain ⟨Mx, cx, Tx⟩ := R
      have SB : ∀ ix, Hid (ix = c1.pc / 4 % 8 ∨ c1.bad) → Calls Tryz.prog 37 #[.slice (some ⟨N + 29, 0, none⟩) 26 26, .agg #[.pointer (some ⟨B.p, 0, none⟩), .pointer (some ⟨B.bt, 0, none⟩), ptrV (B.v.map Bk.b)], .agg (cpA c1), .int .i64 vm, .int .i64 se, .int .i64 ix] va fun e w' => e = .returned (.tuple #[.agg (cpA cx), .agg (trL Tx)]) ∧ Fr B.s va w' ∧ IsMc w' B nf Mx ∧ cx.Ok := fun ix h => SA ix h.out
      clear SA
      by_cases hb : c1.bad
      · have HBB : Hid c1.bad := hb
        clear hb
        go_wp2_with (refine wpList_load_part rfl 30 _ rfl gA rfl (cpA c1) _ (cp_at rA) Tryz.underlying30 rfl (size_cpA c1) ?_)
        refine (SB _ (Or.inr HBB.out)).mono ?_
        rintro e v2 ⟨rfl, g2, hM2, hok2⟩
        clear SB cc0 cc1 cc2 cpc
        have ns : ∀ j, w.heap.size ≤ j → ¬ B.s j := fun j hj e => by have := HB.out j (Or.inl e); omega
        replace rM := rM.keep g2 (ns _ (by have := HN.out; omega))
        replace rA := rA.keep g2 (ns _ (by have := HN.out; omega))
        replace rZ := rZ.keep g2 (ns _ (by have := HN.out; omega))
        replace rT := rT.keep g2 (ns _ (by have := HN.out; omega))
        replace rU := rU.keep g2 (ns _ (by have := HU.out; have := HNN.out; omega))
        replace hO := hO.keep g2 (fun j h1 _ => ns j (by have := HNN.out; omega))
        replace f1 := f1.trans g2
        clear g2
        have dA : ∀ j, j ≠ gA → ¬ at' gA j := fun j h e => h e
        have dU : ∀ j, j ≠ gU → ¬ at' gU j := fun j h e => h e
        have rU1 := rU.keep (fr_row v2 gA (cpA cx)) (dA _ (by have := HU.out; have := HN.out; have := HNN.out; omega))
        have rM1 := (rM.keep (fr_row v2 gA (cpA cx)) (dA _ (by have := HN.out; omega))).keep (fr_row _ gU (trL Tx)) (dU _ (by have := HU.out; have := HN.out; have := HNN.out; omega))
        have rA1 : Row ((v2.setRow gA (cpA cx)).setRow gU (trL Tx)) gA (cpA cx) 30 := (rA.setRow).keep (fr_row _ gU (trL Tx)) (dU _ (by have := HU.out; have := HN.out; have := HNN.out; omega))
        have rZ1 := (rZ.keep (fr_row v2 gA (cpA cx)) (dA _ (by have := HN.out; omega))).keep (fr_row _ gU (trL Tx)) (dU _ (by have := HU.out; have := HN.out; have := HNN.out; omega))
        have rT1 := (rT.keep (fr_row v2 gA (cpA cx)) (dA _ (by have := HN.out; omega))).keep (fr_row _ gU (trL Tx)) (dU _ (by have := HU.out; have := HN.out; have := HNN.out; omega))
        have rU2 : Row ((v2.setRow gA (cpA cx)).setRow gU (trL Tx)) gU (trL Tx) 52 := rU1.setRow
        have f2 := fr_rowS (fr_rowS f1 (g := gA) (by have := HN.out; omega) (cpA cx)) (g := gU) (by have := HU.out; have := HNN.out; omega) (trL Tx)
        have m1 := isMc_past hM2 (fr_row v2 gA (cpA cx)) (fun j hj e => by have e' : j = gA := e; have := HB.out j hj; have := HN.out; omega)
        have m2 := isMc_past m1 (fr_row _ gU (trL Tx)) (fun j hj e => by have e' : j = gU := e; have := HB.out j hj; have := HU.out; have := HNN.out; omega)
        have o2 := (hO.keep (fr_row v2 gA (cpA cx)) (fun j h1 _ e => by have e' : j = gA := e; have := HN.out; have := HNN.out; omega)).keep (fr_row _ gU (trL Tx)) (fun j h1 h2 e => by have e' : j = gU := e; have := HU.out; omega)
        have z2 : Hid (N + 30 ≤ ((v2.setRow gA (cpA cx)).setRow gU (trL Tx)).heap.size) := by have := rU2.lt; have := HU.out; show _ ≤ _; omega
        clear rM rZ rT hM2 m1 hO f1
        have lo : (cpA c1).size = (cpA cx).size := by rw [cpA_size, cpA_size]
        have AA : Hid (Row ((v2.setRow gA (cpA cx)).setRow gU (trL Tx)) gM #[.pointer (some ⟨B.p, 0, none⟩), .pointer (some ⟨B.bt, 0, none⟩), ptrV (B.v.map Bk.b)] 37 ∧ Row ((v2.setRow gA (cpA cx)).setRow gU (trL Tx)) gA (cpA cx) 30 ∧ Row ((v2.setRow gA (cpA cx)).setRow gU (trL Tx)) gZ (cpA zc) 30 ∧ Row ((v2.setRow gA (cpA cx)).setRow gU (trL Tx)) gT #[.int .i64 0, .int .i64 0, .int .i64 0, .int .i64 0, .int .i64 0, .int .i64 0, .bool false, .int .i64 0] 52 ∧ Row ((v2.setRow gA (cpA cx)).setRow gU (trL Tx)) gU (trL Tx) 52 ∧ Fr B.s w ((v2.setRow gA (cpA cx)).setRow gU (trL Tx)) ∧ IsMc ((v2.setRow gA (cpA cx)).setRow gU (trL Tx)) B nf Mx ∧ Ops ((v2.setRow gA (cpA cx)).setRow gU (trL Tx)) N) := ⟨rM1, rA1, rZ1, rT1, rU2, f2, m2, o2⟩
        clear rM1 rA1 rZ1 rT1 rU2 f2 m2 o2
        go_upto_region 6 with (first | refine wpList_store_row rfl 30 _ _ rfl gA (cpA cx) rfl rfl 30 (cpA c1) rA (size_cpA cx) lo (cpA_one cx) ?_ | refine wpList_store_row rfl 52 _ _ rfl gU (trL Tx) rfl rfl 52 #[.int .i64 0, .int .i64 0, .int .i64 0, .int .i64 0, .int .i64 0, .int .i64 0, .bool false, .int .i64 0] rU1 size_trap rfl (trL_one Tx) ?_)
        clear rA rU rU1 lo
        obtain ⟨v3, hv3⟩ : ∃ v3, v3 = (v2.setRow gA (cpA cx)).setRow gU (trL Tx) := ⟨_, rfl⟩
        rw [← hv3] at AA z2 ⊢
        clear hv3
        have uc : v3.cell? ⟨gU, 0, none⟩ = some (.int .i64 Tx.ca) := AA.out.2.2.2.2.1.cell 0
        have HOK : Hid cx.Ok := hok2
        clear hok2
        by_cases ht : Tx.ca = 0
        · have ut : (Tx.ca != 0) = false := by simpa using ht
          have HTZ : Hid (Tx.ca = 0) := ht
          have hk9 : k ≤ 1000 := by have := HKM.out; have := HMY.out; omega
          clear ht
          go_wp2_with fail
          go_roundw
          case rel =>
            refine ⟨k + 1, by have := HKM.out; omega, by simp, ?_⟩
            obtain ⟨a1, a2, a3, a4, a5, a6, a7, a8⟩ := AA.out
            obtain ⟨q1, q2, q3⟩ := HQ.out
            refine ⟨a6, a1, ?_, a3, a4, ?_, a8, ?_, ?_, z2.out⟩
            · rw [q1]; exact a2
            · rw [q1]; exact a7
            · intro j hj
              by_cases e : j < k
              · exact HT.out j e
              · obtain rfl : j = k := by omega
                rw [q2]; exact HTZ.out
            · rw [q1]; exact HOK.out
          case measure =>
            have := HKM.out
            simp [intOf]; omega
        · have ut : (Tx.ca != 0) = true := by simpa using ht
          have HTZ : Hid (Tx.ca ≠ 0) := ht
          clear ht
          go_upto_region 7 with fail
          obtain ⟨a1, a2, a3, a4, a5, a6, a7, a8⟩ := AA.out
          clear uc ut AA
          refine wp_region_held (S := fun w' => Row w' gA (cpA cx) 30 ∧ Row w' gU (trL Tx) 52) (by kernel_rfl) ?_
          change wpAnyH _ _ _ _ _ _ _ _ (World.drew _)
          refine wpAnyH_take (i := 0) (v := .agg (cpL cx).toArray) rfl (by kernel_rfl) (by kernel_rfl) (by kernel_rfl) (fun _ _ _ h => h) (yieldsIf_load_mid (by kernel_rfl) 30 _ rfl gA 0 rfl (cpL cx) _ (fun _ h => range_row h.1) Tryz.underlying30 rfl (size_cpL cx)) ⟨a2.drew, a5.drew⟩ ?_
          show wpAnyH _ _ _ _ _ _ _ (Act.put _ (some 37) _) _
          simp only [Act.put, List.setIfInBounds_toArray, List.set_cons_succ, List.set_cons_zero]
          refine wpAnyH_take (i := 1) (v := .agg ([.int .i64 Tx.ca, .int .i64 Tx.nu, .int .i64 Tx.ad, .int .i64 Tx.f.k, .int .i64 Tx.f.s, .int .i64 Tx.f.l, .bool Tx.f.wk, .int .i64 Tx.f.p]).toArray) rfl (by kernel_rfl) (by kernel_rfl) (by kernel_rfl) (fun _ _ _ h => h) (yieldsIf_load_mid (by kernel_rfl) 52 _ rfl gU 0 rfl ([.int .i64 Tx.ca, .int .i64 Tx.nu, .int .i64 Tx.ad, .int .i64 Tx.f.k, .int .i64 Tx.f.s, .int .i64 Tx.f.l, .bool Tx.f.wk, .int .i64 Tx.f.p]) _ (fun _ h => range_row' h.2) Tryz.underlying52 rfl size_trap) ⟨a2.drew, a5.drew⟩ ?_
          show wpAnyH _ _ _ _ _ _ _ (Act.put _ (some 38) _) _
          simp only [Act.put, List.setIfInBounds_toArray, List.set_cons_succ, List.set_cons_zero]
          refine wpAnyH_take (i := 2) (v := ?_) rfl (by kernel_rfl) (by kernel_rfl) (by kernel_rfl) (fun _ _ _ h => h) (Or.inl ⟨by kernel_rfl, fun w hS => ?_⟩) ⟨a2.drew, a5.drew⟩ ?_
          rotate_left
          · go_simp
            try with_reducible rfl
          show wpAnyH _ _ _ _ _ _ _ (Act.put _ (some 39) _) _
          simp only [Act.put, List.setIfInBounds_toArray, List.set_cons_succ, List.set_cons_zero]
          have dZ : ∀ j, j ≠ gZ → ¬ at' gZ j := fun j h e => h e
          have dT : ∀ j, j ≠ gT → ¬ at' gT j := fun j h e => h e
          have b2 := a2.drew.keep (fr_row _ gZ (cpA cx)) (dZ _ (by have := HN.out; omega))
          have b5 := a5.drew.keep (fr_row _ gZ (cpA cx)) (dZ _ (by have := HU.out; have := HN.out; have := HNN.out; omega))
          have b4 := a4.drew.keep (fr_row _ gZ (cpA cx)) (dZ _ (by have := HN.out; omega))
          have e2 := b2.keep (fr_row _ gT (trL Tx)) (dT _ (by have := HN.out; omega))
          have e5 := b5.keep (fr_row _ gT (trL Tx)) (dT _ (by have := HU.out; have := HN.out; have := HNN.out; omega))
          have eZ : Row (((v3.drew).setRow gZ (cpA cx)).setRow gT (trL Tx)) gZ (cpA cx) 30 := (a3.drew.setRow).keep (fr_row _ gT (trL Tx)) (dT _ (by have := HN.out; omega))
          have eT : Row (((v3.drew).setRow gZ (cpA cx)).setRow gT (trL Tx)) gT (trL Tx) 52 := b4.setRow
          have f3 := fr_rowS (fr_rowS a6.drew (g := gZ) (by have := HN.out; omega) (cpA cx)) (g := gT) (by have := HN.out; omega) (trL Tx)
          have m1 := isMc_past (isMc_past (a7.keep0 (Fr.refl none' v3).drew) (fr_row _ gZ (cpA cx)) (fun j hj e => by have e' : j = gZ := e; have := HB.out j hj; have := HN.out; omega)) (fr_row _ gT (trL Tx)) (fun j hj e => by have e' : j = gT := e; have := HB.out j hj; have := HN.out; omega)
          have lo : (cpA zc).size = (cpA cx).size := by rw [cpA_size, cpA_size]
          refine wpAnyH_all (rs := [3]) (by kernel_rfl) (by simp) ?_
          intro i hi
          obtain rfl : i = 3 := by simpa using hi
          clear hi
          refine wpOp_mk rfl (by kernel_rfl) ?_
          refine wp_store_row 30 _ _ rfl gZ (cpA cx) rfl rfl 30 (cpA zc) a3.drew (size_cpA cx) lo (cpA_one cx) ?_
          refine ⟨⟨b2, b5⟩, ?_⟩
          show wpAnyH _ _ _ _ _ _ _ _ _
          refine wpAnyH_all (rs := [4]) (by kernel_rfl) (by simp) ?_
          intro i hi
          obtain rfl : i = 4 := by simpa using hi
          clear hi
          refine wpOp_mk rfl (by kernel_rfl) ?_
          refine wp_store_row 52 _ _ rfl gT (trL Tx) rfl rfl 52 #[.int .i64 0, .int .i64 0, .int .i64 0, .int .i64 0, .int .i64 0, .int .i64 0, .bool false, .int .i64 0] b4 size_trap rfl (trL_one Tx) ?_
          refine ⟨⟨e2, e5⟩, ?_⟩
          show wpAnyH _ _ _ _ _ _ _ _ _
          refine wpAnyH_take (i := 5) (v := ?_) rfl (by kernel_rfl) (by kernel_rfl) (by kernel_rfl) (fun _ _ _ h => h) (Or.inl ⟨by kernel_rfl, fun w hS => ?_⟩) ⟨e2, e5⟩ ?_
          rotate_left
          · go_simp
            try with_reducible rfl
          show wpAnyH _ _ _ _ _ _ _ (Act.put _ (some 12) _) _
          go_simp
          refine wpAnyH_done (by kernel_rfl) ?_ _
          go_wp2_with fail
          refine bodyPost_ret (ret_ctk rfl rfl rfl eZ (cpA_size _) eT rfl) rfl ?_
          refine ⟨k, Mx, cx, Tx, rfl, f3, m1, ⟨HT.out, Or.inr ⟨HKM.out, ?_, ?_, ?_, ?_⟩⟩, HOK.out⟩
          · rw [HQ.out.2.1]; exact HTZ.out
          · rw [HQ.out.1]
          · rw [HQ.out.1]
          · exact HQ.out.2.1.symm
      · have hp : 0 ≤ c1.pc ∧ c1.pc ≤ 65535 := by unfold Cp.bad at hb; omega
        obtain ⟨hp0, hp1⟩ := hp
        clear hb
        go_wp2_with (refine wpList_load_part rfl 30 _ rfl gA rfl (cpA c1) _ (cp_at rA) Tryz.underlying30 rfl (size_cpA c1) ?_)
        refine (SB _ (Or.inl rfl)).mono ?_
        rintro e v2 ⟨rfl, g2, hM2, hok2⟩
        clear SB cc0 cc1 cc2 cpc
        have ns : ∀ j, w.heap.size ≤ j → ¬ B.s j := fun j hj e => by have := HB.out j (Or.inl e); omega
        replace rM := rM.keep g2 (ns _ (by have := HN.out; omega))
        replace rA := rA.keep g2 (ns _ (by have := HN.out; omega))
        replace rZ := rZ.keep g2 (ns _ (by have := HN.out; omega))
        replace rT := rT.keep g2 (ns _ (by have := HN.out; omega))
        replace rU := rU.keep g2 (ns _ (by have := HU.out; have := HNN.out; omega))
        replace hO := hO.keep g2 (fun j h1 _ => ns j (by have := HNN.out; omega))
        replace f1 := f1.trans g2
        clear g2
        have dA : ∀ j, j ≠ gA → ¬ at' gA j := fun j h e => h e
        have dU : ∀ j, j ≠ gU → ¬ at' gU j := fun j h e => h e
        have rU1 := rU.keep (fr_row v2 gA (cpA cx)) (dA _ (by have := HU.out; have := HN.out; have := HNN.out; omega))
        have rM1 := (rM.keep (fr_row v2 gA (cpA cx)) (dA _ (by have := HN.out; omega))).keep (fr_row _ gU (trL Tx)) (dU _ (by have := HU.out; have := HN.out; have := HNN.out; omega))
        have rA1 : Row ((v2.setRow gA (cpA cx)).setRow gU (trL Tx)) gA (cpA cx) 30 := (rA.setRow).keep (fr_row _ gU (trL Tx)) (dU _ (by have := HU.out; have := HN.out; have := HNN.out; omega))
        have rZ1 := (rZ.keep (fr_row v2 gA (cpA cx)) (dA _ (by have := HN.out; omega))).keep (fr_row _ gU (trL Tx)) (dU _ (by have := HU.out; have := HN.out; have := HNN.out; omega))
        have rT1 := (rT.keep (fr_row v2 gA (cpA cx)) (dA _ (by have := HN.out; omega))).keep (fr_row _ gU (trL Tx)) (dU _ (by have := HU.out; have := HN.out; have := HNN.out; omega))
        have rU2 : Row ((v2.setRow gA (cpA cx)).setRow gU (trL Tx)) gU (trL Tx) 52 := rU1.setRow
        have f2 := fr_rowS (fr_rowS f1 (g := gA) (by have := HN.out; omega) (cpA cx)) (g := gU) (by have := HU.out; have := HNN.out; omega) (trL Tx)
        have m1 := isMc_past hM2 (fr_row v2 gA (cpA cx)) (fun j hj e => by have e' : j = gA := e; have := HB.out j hj; have := HN.out; omega)
        have m2 := isMc_past m1 (fr_row _ gU (trL Tx)) (fun j hj e => by have e' : j = gU := e; have := HB.out j hj; have := HU.out; have := HNN.out; omega)
        have o2 := (hO.keep (fr_row v2 gA (cpA cx)) (fun j h1 _ e => by have e' : j = gA := e; have := HN.out; have := HNN.out; omega)).keep (fr_row _ gU (trL Tx)) (fun j h1 h2 e => by have e' : j = gU := e; have := HU.out; omega)
        have z2 : Hid (N + 30 ≤ ((v2.setRow gA (cpA cx)).setRow gU (trL Tx)).heap.size) := by have := rU2.lt; have := HU.out; show _ ≤ _; omega
        clear rM rZ rT hM2 m1 hO f1
        have lo : (cpA c1).size = (cpA cx).size := by rw [cpA_size, cpA_size]
        have AA : Hid (Row ((v2.setRow gA (cpA cx)).setRow gU (trL Tx)) gM #[.pointer (some ⟨B.p, 0, none⟩), .pointer (some ⟨B.bt, 0, none⟩), ptrV (B.v.map Bk.b)] 37 ∧ Row ((v2.setRow gA (cpA cx)).setRow gU (trL Tx)) gA (cpA cx) 30 ∧ Row ((v2.setRow gA (cpA cx)).setRow gU (trL Tx)) gZ (cpA zc) 30 ∧ Row ((v2.setRow gA (cpA cx)).setRow gU (trL Tx)) gT #[.int .i64 0, .int .i64 0, .int .i64 0, .int .i64 0, .int .i64 0, .int .i64 0, .bool false, .int .i64 0] 52 ∧ Row ((v2.setRow gA (cpA cx)).setRow gU (trL Tx)) gU (trL Tx) 52 ∧ Fr B.s w ((v2.setRow gA (cpA cx)).setRow gU (trL Tx)) ∧ IsMc ((v2.setRow gA (cpA cx)).setRow gU (trL Tx)) B nf Mx ∧ Ops ((v2.setRow gA (cpA cx)).setRow gU (trL Tx)) N) := ⟨rM1, rA1, rZ1, rT1, rU2, f2, m2, o2⟩
        clear rM1 rA1 rZ1 rT1 rU2 f2 m2 o2
        go_upto_region 6 with (first | refine wpList_store_row rfl 30 _ _ rfl gA (cpA cx) rfl rfl 30 (cpA c1) rA (size_cpA cx) lo (cpA_one cx) ?_ | refine wpList_store_row rfl 52 _ _ rfl gU (trL Tx) rfl rfl 52 #[.int .i64 0, .int .i64 0, .int .i64 0, .int .i64 0, .int .i64 0, .int .i64 0, .bool false, .int .i64 0] rU1 size_trap rfl (trL_one Tx) ?_)
        clear rA rU rU1 lo
        obtain ⟨v3, hv3⟩ : ∃ v3, v3 = (v2.setRow gA (cpA cx)).setRow gU (trL Tx) := ⟨_, rfl⟩
        rw [← hv3] at AA z2 ⊢
        clear hv3
        have uc : v3.cell? ⟨gU, 0, none⟩ = some (.int .i64 Tx.ca) := AA.out.2.2.2.2.1.cell 0
        have HOK : Hid cx.Ok := hok2
        clear hok2
        by_cases ht : Tx.ca = 0
        · have ut : (Tx.ca != 0) = false := by simpa using ht
          have HTZ : Hid (Tx.ca = 0) := ht
          have hk9 : k ≤ 1000 := by have := HKM.out; have := HMY.out; omega
          clear ht
          go_wp2_with fail
          go_roundw
          case rel =>
            refine ⟨k + 1, by have := HKM.out; omega, by simp, ?_⟩
            obtain ⟨a1, a2, a3, a4, a5, a6, a7, a8⟩ := AA.out
            obtain ⟨q1, q2, q3⟩ := HQ.out
            refine ⟨a6, a1, ?_, a3, a4, ?_, a8, ?_, ?_, z2.out⟩
            · rw [q1]; exact a2
            · rw [q1]; exact a7
            · intro j hj
              by_cases e : j < k
              · exact HT.out j e
              · obtain rfl : j = k := by omega
                rw [q2]; exact HTZ.out
            · rw [q1]; exact HOK.out
          case measure =>
            have := HKM.out
            simp [intOf]; omega
        · have ut : (Tx.ca != 0) = true := by simpa using ht
          have HTZ : Hid (Tx.ca ≠ 0) := ht
          clear ht
          go_upto_region 7 with fail
          obtain ⟨a1, a2, a3, a4, a5, a6, a7, a8⟩ := AA.out
          clear uc ut AA
          refine wp_region_held (S := fun w' => Row w' gA (cpA cx) 30 ∧ Row w' gU (trL Tx) 52) (by kernel_rfl) ?_
          change wpAnyH _ _ _ _ _ _ _ _ (World.drew _)
          refine wpAnyH_take (i := 0) (v := .agg (cpL cx).toArray) rfl (by kernel_rfl) (by kernel_rfl) (by kernel_rfl) (fun _ _ _ h => h) (yieldsIf_load_mid (by kernel_rfl) 30 _ rfl gA 0 rfl (cpL cx) _ (fun _ h => range_row h.1) Tryz.underlying30 rfl (size_cpL cx)) ⟨a2.drew, a5.drew⟩ ?_
          show wpAnyH _ _ _ _ _ _ _ (Act.put _ (some 37) _) _
          simp only [Act.put, List.setIfInBounds_toArray, List.set_cons_succ, List.set_cons_zero]
          refine wpAnyH_take (i := 1) (v := .agg ([.int .i64 Tx.ca, .int .i64 Tx.nu, .int .i64 Tx.ad, .int .i64 Tx.f.k, .int .i64 Tx.f.s, .int .i64 Tx.f.l, .bool Tx.f.wk, .int .i64 Tx.f.p]).toArray) rfl (by kernel_rfl) (by kernel_rfl) (by kernel_rfl) (fun _ _ _ h => h) (yieldsIf_load_mid (by kernel_rfl) 52 _ rfl gU 0 rfl ([.int .i64 Tx.ca, .int .i64 Tx.nu, .int .i64 Tx.ad, .int .i64 Tx.f.k, .int .i64 Tx.f.s, .int .i64 Tx.f.l, .bool Tx.f.wk, .int .i64 Tx.f.p]) _ (fun _ h => range_row' h.2) Tryz.underlying52 rfl size_trap) ⟨a2.drew, a5.drew⟩ ?_
          show wpAnyH _ _ _ _ _ _ _ (Act.put _ (some 38) _) _
          simp only [Act.put, List.setIfInBounds_toArray, List.set_cons_succ, List.set_cons_zero]
          refine wpAnyH_take (i := 2) (v := ?_) rfl (by kernel_rfl) (by kernel_rfl) (by kernel_rfl) (fun _ _ _ h => h) (Or.inl ⟨by kernel_rfl, fun w hS => ?_⟩) ⟨a2.drew, a5.drew⟩ ?_
          rotate_left
          · go_simp
            try with_reducible rfl
          show wpAnyH _ _ _ _ _ _ _ (Act.put _ (some 39) _) _
          simp only [Act.put, List.setIfInBounds_toArray, List.set_cons_succ, List.set_cons_zero]
          have dZ : ∀ j, j ≠ gZ → ¬ at' gZ j := fun j h e => h e
          have dT : ∀ j, j ≠ gT → ¬ at' gT j := fun j h e => h e
          have b2 := a2.drew.keep (fr_row _ gZ (cpA cx)) (dZ _ (by have := HN.out; omega))
          have b5 := a5.drew.keep (fr_row _ gZ (cpA cx)) (dZ _ (by have := HU.out; have := HN.out; have := HNN.out; omega))
          have b4 := a4.drew.keep (fr_row _ gZ (cpA cx)) (dZ _ (by have := HN.out; omega))
          have e2 := b2.keep (fr_row _ gT (trL Tx)) (dT _ (by have := HN.out; omega))
          have e5 := b5.keep (fr_row _ gT (trL Tx)) (dT _ (by have := HU.out; have := HN.out; have := HNN.out; omega))
          have eZ : Row (((v3.drew).setRow gZ (cpA cx)).setRow gT (trL Tx)) gZ (cpA cx) 30 := (a3.drew.setRow).keep (fr_row _ gT (trL Tx)) (dT _ (by have := HN.out; omega))
          have eT : Row (((v3.drew).setRow gZ (cpA cx)).setRow gT (trL Tx)) gT (trL Tx) 52 := b4.setRow
          have f3 := fr_rowS (fr_rowS a6.drew (g := gZ) (by have := HN.out; omega) (cpA cx)) (g := gT) (by have := HN.out; omega) (trL Tx)
          have m1 := isMc_past (isMc_past (a7.keep0 (Fr.refl none' v3).drew) (fr_row _ gZ (cpA cx)) (fun j hj e => by have e' : j = gZ := e; have := HB.out j hj; have := HN.out; omega)) (fr_row _ gT (trL Tx)) (fun j hj e => by have e' : j = gT := e; have := HB.out j hj; have := HN.out; omega)
          have lo : (cpA zc).size = (cpA cx).size := by rw [cpA_size, cpA_size]
          refine wpAnyH_all (rs := [3]) (by kernel_rfl) (by simp) ?_
          intro i hi
          obtain rfl : i = 3 := by simpa using hi
          clear hi
          refine wpOp_mk rfl (by kernel_rfl) ?_
          refine wp_store_row 30 _ _ rfl gZ (cpA cx) rfl rfl 30 (cpA zc) a3.drew (size_cpA cx) lo (cpA_one cx) ?_
          refine ⟨⟨b2, b5⟩, ?_⟩
          show wpAnyH _ _ _ _ _ _ _ _ _
          refine wpAnyH_all (rs := [4]) (by kernel_rfl) (by simp) ?_
          intro i hi
          obtain rfl : i = 4 := by simpa using hi
          clear hi
          refine wpOp_mk rfl (by kernel_rfl) ?_
          refine wp_store_row 52 _ _ rfl gT (trL Tx) rfl rfl 52 #[.int .i64 0, .int .i64 0, .int .i64 0, .int .i64 0, .int .i64 0, .int .i64 0, .bool false, .int .i64 0] b4 size_trap rfl (trL_one Tx) ?_
          refine ⟨⟨e2, e5⟩, ?_⟩
          show wpAnyH _ _ _ _ _ _ _ _ _
          refine wpAnyH_take (i := 5) (v := ?_) rfl (by kernel_rfl) (by kernel_rfl) (by kernel_rfl) (fun _ _ _ h => h) (Or.inl ⟨by kernel_rfl, fun w hS => ?_⟩) ⟨e2, e5⟩ ?_
          rotate_left
          · go_simp
            try with_reducible rfl
          show wpAnyH _ _ _ _ _ _ _ (Act.put _ (some 12) _) _
          go_simp
          refine wpAnyH_done (by kernel_rfl) ?_ _
          go_wp2_with fail
          refine bodyPost_ret (ret_ctk rfl rfl rfl eZ (cpA_size _) eT rfl) rfl ?_
          refine ⟨k, Mx, cx, Tx, rfl, f3, m1, ⟨HT.out, Or.inr ⟨HKM.out, ?_, ?_, ?_, ?_⟩⟩, HOK.out⟩
          · rw [HQ.out.2.1]; exact HTZ.out
          · rw [HQ.out.1]
          · rw [HQ.out.1]
          · exact HQ.out.2.1.symm
    · have hkm : k = many := by omega
      subst hkm
      have uk : decide ((k : Int) < (k : Int)) = false := decide_eq_false (by omega)
      have rA := RR.out.rA
      have rZ := RR.out.rZ
      have rT := RR.out.rT
      have f1 := RR.out.f
      have hM := RR.out.m
      have HT : Hid (∀ j, j < k → (trapK nf M c vm se j).ca = 0) := RR.out.t
      have HOK : Hid ((seqR nf M c vm se k).2.Ok) := RR.out.ok
      have HS : Hid (seqR nf M c vm se k = seqR nf M c vm se k) := rfl
      clear RR hk hlt
      obtain ⟨M1, hM1⟩ : ∃ q, q = (seqR nf M c vm se k).1 := ⟨_, rfl⟩
      obtain ⟨c1, hc1⟩ : ∃ q, q = (seqR nf M c vm se k).2 := ⟨_, rfl⟩
      rw [← hM1] at hM
      rw [← hc1] at rA HOK
      have HE : Hid (M1 = (seqR nf M c vm se k).1 ∧ c1 = (seqR nf M c vm se k).2) := ⟨hM1, hc1⟩
      clear hM1 hc1 HS
      have lo : (cpA zc).size = (cpA c1).size := by rw [cpA_size, cpA_size]
      have dT : ∀ j, j ≠ gT → ¬ at' gT j := fun j h e => h e
      have rT1 := rT.keep (fr_row wr gZ (cpA c1)) (fun e => by have e' : gT = gZ := e; have := HN.out; omega)
      have eZ : Row ((wr.setRow gZ (cpA c1)).setRow gT #[.int .i64 0, .int .i64 0, .int .i64 0, .int .i64 0, .int .i64 0, .int .i64 0, .bool false, .int .i64 0]) gZ (cpA c1) 30 := (rZ.setRow).keep (fr_row _ gT #[.int .i64 0, .int .i64 0, .int .i64 0, .int .i64 0, .int .i64 0, .int .i64 0, .bool false, .int .i64 0]) (dT _ (by have := HN.out; omega))
      have eT : Row ((wr.setRow gZ (cpA c1)).setRow gT #[.int .i64 0, .int .i64 0, .int .i64 0, .int .i64 0, .int .i64 0, .int .i64 0, .bool false, .int .i64 0]) gT #[.int .i64 0, .int .i64 0, .int .i64 0, .int .i64 0, .int .i64 0, .int .i64 0, .bool false, .int .i64 0] 52 := rT1.setRow
      have f3 := fr_rowS (fr_rowS f1 (g := gZ) (by have := HN.out; omega) (cpA c1)) (g := gT) (by have := HN.out; omega) #[.int .i64 0, .int .i64 0, .int .i64 0, .int .i64 0, .int .i64 0, .int .i64 0, .bool false, .int .i64 0]
      have m1 := isMc_past (isMc_past hM (fr_row _ gZ (cpA c1)) (fun j hj e => by have e' : j = gZ := e; have := HB.out j hj; have := HN.out; omega)) (fr_row _ gT #[.int .i64 0, .int .i64 0, .int .i64 0, .int .i64 0, .int .i64 0, .int .i64 0, .bool false, .int .i64 0]) (fun j hj e => by have e' : j = gT := e; have := HB.out j hj; have := HN.out; omega)
      have ZZ : Hid (Row ((wr.setRow gZ (cpA c1)).setRow gT #[.int .i64 0, .int .i64 0, .int .i64 0, .int .i64 0, .int .i64 0, .int .i64 0, .bool false, .int .i64 0]) gZ (cpA c1) 30 ∧ Row ((wr.setRow gZ (cpA c1)).setRow gT #[.int .i64 0, .int .i64 0, .int .i64 0, .int .i64 0, .int .i64 0, .int .i64 0, .bool false, .int .i64 0]) gT #[.int .i64 0, .int .i64 0, .int .i64 0, .int .i64 0, .int .i64 0, .int .i64 0, .bool false, .int .i64 0] 52 ∧ Fr B.s w ((wr.setRow gZ (cpA c1)).setRow gT #[.int .i64 0, .int .i64 0, .int .i64 0, .int .i64 0, .int .i64 0, .int .i64 0, .bool false, .int .i64 0]) ∧ IsMc ((wr.setRow gZ (cpA c1)).setRow gT #[.int .i64 0, .int .i64 0, .int .i64 0, .int .i64 0, .int .i64 0, .int .i64 0, .bool false, .int .i64 0]) B nf M1) := ⟨eZ, eT, f3, m1⟩
      clear eZ eT f3 m1
      go_wp2_with (first | refine wpList_load_part rfl 30 _ rfl gA rfl (cpA c1) _ (cp_at rA) Tryz.underlying30 rfl (size_cpA c1) ?_ | refine wpList_store_row rfl 30 _ _ rfl gZ (cpA c1) rfl rfl 30 (cpA zc) rZ (size_cpA c1) lo (cpA_one c1) ?_ | refine wpList_store_row rfl 52 _ _ rfl gT #[.int .i64 0, .int .i64 0, .int .i64 0, .int .i64 0, .int .i64 0, .int .i64 0, .bool false, .int .i64 0] rfl rfl 52 #[.int .i64 0, .int .i64 0, .int .i64 0, .int .i64 0, .int .i64 0, .int .i64 0, .bool false, .int .i64 0] rT1 size_trap rfl (by simp [Value.oneCell']) ?_)
      obtain ⟨eZ, eT, f3, m1⟩ := ZZ.out
      refine bodyPost_ret (ret_ctk rfl rfl rfl eZ (cpA_size _) eT rfl) rfl ?_
      refine ⟨k, M1, c1, _root_.Go.Proofs.YtgnoakidjnilpaaGreat.t0, rfl, f3, m1, ⟨HT.out, Or.inl ⟨rfl, HE.out.1, HE.out.2, rfl⟩⟩, HOK.out⟩

end Go.Proofs.YtgnoakidjnilpaaGreat

/- CpuRunsA -/
namespace Go.Proofs.YtgnoakidjnilpaaGreat
open Go.RowKit

theorem fr_far {S : Nat → Prop} {w a b : World} (f : Fr none' w a) (g : Fr S a b) (h : ∀ k, S k → w.heap.size ≤ k) : Fr none' w b :=
  ⟨g.os.trans f.os, g.tape.trans f.tape, g.output.trans f.output, Nat.le_trans f.size g.size, fun k hk hn => by
    rw [g.block k (Nat.lt_of_lt_of_le hk f.size) (fun e => by have := h k e; omega)]; exact f.block k hk hn⟩

/-- Two machines apart, beside the world and the state that came in. -/
structure Ro (w wr : World) (gx gc g8 g10 : Nat) (X : Array Value) (c : Cp) (O1 O2 : Bo) (M1 M2 : Mc) : Prop where
  f : Fr none' w wr
  rx : Row wr gx X 25
  rc : Row wr gc (cpA c) 30
  r8 : Row wr g8 O1.a 44
  r10 : Row wr g10 O2.a 44
  m1 : IsMc wr O1.B 16 M1
  m2 : IsMc wr O2.B 16 M2
  s1 : ∀ k, (O1.B.s k ∨ k = O1.B.p) → gc < k ∧ k < g8
  s2 : ∀ k, (O2.B.s k ∨ k = O2.B.p) → g8 < k ∧ k < g10
  g : w.heap.size ≤ gx ∧ gx < gc ∧ gc < g8 ∧ g8 < g10

section
variable {w wr wr' : World} {gx gc g8 g10 : Nat} {X : Array Value} {c : Cp} {O1 O2 : Bo} {M1 M2 M' : Mc}
theorem Ro.keep0 (h : Ro w wr gx gc g8 g10 X c O1 O2 M1 M2) (k : Fr none' wr wr') : Ro w wr' gx gc g8 g10 X c O1 O2 M1 M2 :=
  ⟨h.f.trans k, h.rx.keep k (fun h => h), h.rc.keep k (fun h => h), h.r8.keep k (fun h => h), h.r10.keep k (fun h => h), h.m1.keep0 k, h.m2.keep0 k, h.s1, h.s2, h.g⟩
theorem Ro.at (h : Ro w wr gx gc g8 g10 X c O1 O2 M1 M2) {g : Nat} (k : Fr (at' g) wr wr') (hg : g10 < g) : Ro w wr' gx gc g8 g10 X c O1 O2 M1 M2 := by
  obtain ⟨h1, h2, h3, h4⟩ := h.g
  have n : ∀ j, j ≠ g → ¬ at' g j := fun j h e => h e
  exact ⟨fr_far h.f k (fun j e => by have e' : j = g := e; omega), h.rx.keep k (n _ (by omega)), h.rc.keep k (n _ (by omega)), h.r8.keep k (n _ (by omega)), h.r10.keep k (n _ (by omega)), isMc_past h.m1 k (fun j hj => n j (by have := h.s1 j hj; omega)), isMc_past h.m2 k (fun j hj => n j (by have := h.s2 j hj; omega)), h.s1, h.s2, h.g⟩
theorem Ro.run1 (h : Ro w wr gx gc g8 g10 X c O1 O2 M1 M2) (k : Fr O1.B.s wr wr') (m : IsMc wr' O1.B 16 M') : Ro w wr' gx gc g8 g10 X c O1 O2 M' M2 := by
  obtain ⟨h1, h2, h3, h4⟩ := h.g
  have n : ∀ j, j ≤ gc ∨ g8 ≤ j → ¬ O1.B.s j := fun j hj e => by have := h.s1 j (Or.inl e); omega
  exact ⟨fr_far h.f k (fun j e => by have := h.s1 j (Or.inl e); omega), h.rx.keep k (n _ (by omega)), h.rc.keep k (n _ (by omega)), h.r8.keep k (n _ (by omega)), h.r10.keep k (n _ (by omega)), m,
    h.m2.keep k (n _ (by have := h.s2 _ (Or.inr rfl); omega)) (n _ (by have := h.s2 _ (Or.inl (Or.inl rfl)); omega)) (n _ (by have := h.s2 _ (Or.inl (Or.inr (Or.inl rfl))); omega)) (fun j hj => n j (by have := h.s2 j (Or.inl (Or.inr (Or.inr hj))); omega)), h.s1, h.s2, h.g⟩
theorem Ro.run2 (h : Ro w wr gx gc g8 g10 X c O1 O2 M1 M2) (k : Fr O2.B.s wr wr') (m : IsMc wr' O2.B 16 M') : Ro w wr' gx gc g8 g10 X c O1 O2 M1 M' := by
  obtain ⟨h1, h2, h3, h4⟩ := h.g
  have n : ∀ j, j ≤ g8 ∨ g10 ≤ j → ¬ O2.B.s j := fun j hj e => by have := h.s2 j (Or.inl e); omega
  exact ⟨fr_far h.f k (fun j e => by have := h.s2 j (Or.inl e); omega), h.rx.keep k (n _ (by omega)), h.rc.keep k (n _ (by omega)), h.r8.keep k (n _ (by omega)), h.r10.keep k (n _ (by omega)),
    h.m1.keep k (n _ (by have := h.s1 _ (Or.inr rfl); omega)) (n _ (by have := h.s1 _ (Or.inl (Or.inl rfl)); omega)) (n _ (by have := h.s1 _ (Or.inl (Or.inr (Or.inl rfl))); omega)) (fun j hj => n j (by have := h.s1 j (Or.inl (Or.inr (Or.inr hj))); omega)), m, h.s1, h.s2, h.g⟩
end

/-- Traps held against each other. -/
theorem eq_trap (t : Tr) (w : World) : (binOp .eql 52 (.agg (trL t)) (.agg (trL t))).run Tryz.prog w = .ok (.bool true) w := by
  unfold trL
  simp [go_sem]

theorem tr_at {w : World} {g : Nat} {t : Tr} {ty : TypeId} (h : Row w g (trL t) ty) : ∀ j v, (trL t)[j]? = some v → w.cell? ⟨g, j, none⟩ = some v := fun j _ hv => (h.cell j).trans hv

/-- Where the law's own steps stand. -/
def Stand (M : Mc) (c : Cp) (vm se : Int) (many k : Nat) (M' : Mc) (D : Cp) (T : Tr) : Prop :=
  (∀ j, j < k → (trapK 16 M c vm se j).ca = 0) ∧ ((k ≤ many ∧ T.ca = 0 ∧ M' = (seqR 16 M c vm se k).1 ∧ D = (seqR 16 M c vm se k).2 ∧ T = _root_.Go.Proofs.YtgnoakidjnilpaaGreat.t0) ∨ (k < many ∧ T.ca ≠ 0 ∧ M' = (seqR 16 M c vm se (k + 1)).1 ∧ D = (seqR 16 M c vm se (k + 1)).2 ∧ T = trapK 16 M c vm se k))

theorem Stand.ran {M : Mc} {c : Cp} {vm se : Int} {many k : Nat} {M' : Mc} {D : Cp} {T : Tr} (h : Stand M c vm se many k M' D T) (e : k = many ∨ T.ca ≠ 0) : Ran 16 M c vm se many k M' D T := by
  obtain ⟨h1, h2⟩ := h
  refine ⟨h1, ?_⟩
  rcases h2 with ⟨_, b, c1, c2, c3⟩ | ⟨a, b, c1, c2, c3⟩
  · rcases e with e | e
    · exact Or.inl ⟨e, c1, c2, c3⟩
    · exact absurd b e
  · exact Or.inr ⟨a, by rw [← c3]; exact b, c1, c2, c3⟩

/-- One more step. -/
theorem Stand.step {M : Mc} {c : Cp} {vm se : Int} {many k : Nat} {M' : Mc} {D : Cp} {T : Tr} (h : Stand M c vm se many k M' D T) (hk : k < many) (ht : T.ca = 0) :
    ((stepI 16 M' D vm se).2.2.ca = 0 → Stand M c vm se many (k + 1) (stepI 16 M' D vm se).1 (stepI 16 M' D vm se).2.1 (stepI 16 M' D vm se).2.2) ∧ ((stepI 16 M' D vm se).2.2.ca ≠ 0 → Stand M c vm se many k (stepI 16 M' D vm se).1 (stepI 16 M' D vm se).2.1 (stepI 16 M' D vm se).2.2) := by
  obtain ⟨h1, h2⟩ := h
  rcases h2 with ⟨_, b, rfl, rfl, c3⟩ | ⟨a, b, _⟩
  · refine ⟨fun e => ⟨fun j hj => ?_, Or.inl ⟨by omega, e, rfl, rfl, step_zero 16 _ _ vm se _ e⟩⟩, fun e => ⟨h1, Or.inr ⟨hk, e, rfl, rfl, rfl⟩⟩⟩
    by_cases q : j < k
    · exact h1 j q
    · obtain rfl : j = k := by omega
      exact e
  · exact absurd ht b

theorem Stand.few {M : Mc} {c : Cp} {vm se : Int} {many k : Nat} {M' : Mc} {D : Cp} {T : Tr} (h : Stand M c vm se many k M' D T) (hm : M.few 0) : M'.few (2 * (k + 1)) := by
  rcases h.2 with ⟨_, _, rfl, _⟩ | ⟨_, _, rfl, _⟩
  · exact few_mono (few_seq hm c vm se k) (by omega)
  · exact few_seq hm c vm se (k + 1)

/-- What a round of the law's own steps finds. -/
structure Lp (w wr : World) (gx gc g8 g10 g12 g13 g15 g16 : Nat) (X : Array Value) (c : Cp) (O1 O2 : Bo) (Ma : Mc) (p1 : Cp) (s1 : Tr) (MM : Mc) (vm se : Int) (many k : Nat) (M' : Mc) (D : Cp) (T : Tr) : Prop where
  ro : Ro w wr gx gc g8 g10 X c O1 O2 Ma M'
  r12 : Row wr g12 (cpA p1) 30
  r13 : Row wr g13 (trL s1) 52
  r15 : Row wr g15 (cpA D) 30
  r16 : Row wr g16 (trL T) 52
  st : Stand MM c vm se many k M' D T
  ok : D.Ok

theorem ix_eq {p : Int} (h0 : 0 ≤ p) (h1 : p ≤ 65535) : (wrap64 (p.tdiv 4)).tmod 8 = p / 4 % 8 := by
  have e1 : p.tdiv 4 = p / 4 := Int.tdiv_eq_ediv_of_nonneg h0
  have e2 : wrap64 (p / 4) = p / 4 := by unfold wrap64; omega
  rw [e1, e2, Int.tmod_eq_emod_of_nonneg (by omega)]

/-- Is there a trap in that block? -/
def tm (w : World) (g : Nat) : Nat := match w.cell? ⟨g, 0, none⟩ with
  | some (.int _ x) => if x = 0 then 1 else 0
  | _ => 0
theorem tm_row {w : World} {g : Nat} {T : Tr} {t : TypeId} (h : Row w g (trL T) t) : tm w g = if T.ca = 0 then 1 else 0 := by
  have e : w.cell? ⟨g, 0, none⟩ = some (.int .i64 T.ca) := h.cell 0
  unfold tm
  rw [e]

end Go.Proofs.YtgnoakidjnilpaaGreat

/- WalkPure -/
namespace Go.Proofs.YtgnoakidjnilpaaGreat
open Go.RowKit

theorem nested_cases (bs : List UInt8) (nf : Nat) (first second page want : Int) :
    ((isP page = false ∨ isR want = false) ∧ nested bs nf first second page want = miss 3 0 0 false 0) ∨
    (isP page = true ∧ isR want = true ∧ first < 0 ∧ nested bs nf first second page want = granted bs nf second page want) ∨
    (isP page = true ∧ isR want = true ∧ (nested bs nf first second page want).ft.k ≠ 0 ∧ (nested bs nf first second page want).fr = 0 ∧ (nested bs nf first second page want).ri = 0) ∨
    (isP page = true ∧ isR want = true ∧ ¬ first < 0 ∧ (nested bs nf first second page want).ft.k = 0 ∧ ∃ y : Res, (0 ≤ y.fr ∧ y.fr ≤ 1023) ∧ (0 ≤ y.ri ∧ y.ri ≤ 7) ∧ bits .and .i64 y.ri want ≠ 0 ∧
      (granted bs nf second y.fr want).ft.k = 0 ∧ (nested bs nf first second page want).fr = (granted bs nf second y.fr want).fr ∧ (nested bs nf first second page want).ri = bits .and .i64 (granted bs nf second y.fr want).ri y.ri ∧ (nested bs nf first second page want).ft = f0) := by
  by_cases h0 : isP page = false ∨ isR want = false
  · left; refine ⟨h0, ?_⟩; unfold nested; rw [if_pos h0]
  have hp : isP page = true := by cases h : isP page with | true => rfl | false => exact absurd (Or.inl h) h0
  have hw : isR want = true := by cases h : isR want with | true => rfl | false => exact absurd (Or.inr h) h0
  right
  by_cases hf : first < 0
  · left; refine ⟨hp, hw, hf, ?_⟩; unfold nested; rw [if_neg h0, if_pos hf]
  right
  by_cases h1 : (guest bs nf second first page 0).ft.k = 0
  · by_cases h2 : (guest bs nf second (guest bs nf second first page 0).fr page 1).ft.k = 0
    · by_cases h3 : bits .and .i64 (guest bs nf second (guest bs nf second first page 0).fr page 1).ri want = 0
      · left
        have e : nested bs nf first second page want = miss 2 1 1 false page := by
          unfold nested
          rw [if_neg h0, if_neg hf, if_neg (by simpa using h1), if_neg (by simpa using h2), if_pos h3]
        rw [e]
        exact ⟨hp, hw, (by decide : (2 : Int) ≠ 0), rfl, rfl⟩
      · have e : nested bs nf first second page want = ⟨(granted bs nf second (guest bs nf second (guest bs nf second first page 0).fr page 1).fr want).fr,
            bits .and .i64 (granted bs nf second (guest bs nf second (guest bs nf second first page 0).fr page 1).fr want).ri (guest bs nf second (guest bs nf second first page 0).fr page 1).ri,
            (granted bs nf second (guest bs nf second (guest bs nf second first page 0).fr page 1).fr want).ft⟩ := by
          unfold nested
          rw [if_neg h0, if_neg hf, if_neg (by simpa using h1), if_neg (by simpa using h2), if_neg h3]
        have hr := guest_range h2
        by_cases h4 : (granted bs nf second (guest bs nf second (guest bs nf second first page 0).fr page 1).fr want).ft.k = 0
        · right
          rw [e]
          exact ⟨hp, hw, hf, h4, guest bs nf second (guest bs nf second first page 0).fr page 1, hr.1, hr.2, h3, h4, rfl, rfl, granted_f0 h4⟩
        · left
          rw [e]
          have z := granted_zero _ _ _ _ _ h4
          refine ⟨hp, hw, h4, z.1, ?_⟩
          show bits .and .i64 (granted bs nf second (guest bs nf second (guest bs nf second first page 0).fr page 1).fr want).ri (guest bs nf second (guest bs nf second first page 0).fr page 1).ri = 0
          rw [z.2]
          have a := and_range 0 (guest bs nf second (guest bs nf second first page 0).fr page 1).ri (by omega) (by omega)
          omega
    · left
      have e : nested bs nf first second page want = guest bs nf second (guest bs nf second first page 0).fr page 1 := by
        unfold nested
        rw [if_neg h0, if_neg hf, if_neg (by simpa using h1), if_pos h2]
      rw [e]
      exact ⟨hp, hw, h2, (guest_zero _ _ _ _ _ _ h2).1, (guest_zero _ _ _ _ _ _ h2).2⟩
  · left
    have e : nested bs nf first second page want = guest bs nf second first page 0 := by
      unfold nested
      rw [if_neg h0, if_neg hf, if_pos h1]
    rw [e]
    exact ⟨hp, hw, h1, (guest_zero _ _ _ _ _ _ h1).1, (guest_zero _ _ _ _ _ _ h1).2⟩

/-- With a fault nothing is found. -/
theorem nested_zero (bs : List UInt8) (nf : Nat) (first second page want : Int) (h : (nested bs nf first second page want).ft.k ≠ 0) : (nested bs nf first second page want).fr = 0 ∧ (nested bs nf first second page want).ri = 0 := by
  rcases nested_cases bs nf first second page want with ⟨_, e⟩ | ⟨_, _, _, e⟩ | ⟨_, _, _, e⟩ | ⟨_, _, _, e, _⟩
  · rw [e]; exact ⟨rfl, rfl⟩
  · rw [e] at h ⊢; exact granted_zero _ _ _ _ _ h
  · exact e
  · exact absurd e h

theorem and_self (r : Int) (h0 : 0 ≤ r) (h7 : r ≤ 7) : bits .andNot .i64 r r = 0 := by
  have hr : r = 0 ∨ r = 1 ∨ r = 2 ∨ r = 3 ∨ r = 4 ∨ r = 5 ∨ r = 6 ∨ r = 7 := by omega
  rcases hr with rfl | rfl | rfl | rfl | rfl | rfl | rfl | rfl <;> decide

/-- What is found lies in what the other table says of some page, with that right there. -/
theorem confined (bs : List UInt8) (nf : Nat) (first second page want : Int) (h : (nested bs nf first second page want).ft.k = 0) : bits .and .i64 (nested bs nf first second page want).ri want ≠ 0 ∧
    ∃ g : Nat, g < 1024 ∧ (single bs nf second (g : Int)).ft.k = 0 ∧ (single bs nf second (g : Int)).fr = (nested bs nf first second page want).fr ∧ bits .and .i64 (single bs nf second (g : Int)).ri want ≠ 0 ∧ bits .andNot .i64 (nested bs nf first second page want).ri (single bs nf second (g : Int)).ri = 0 := by
  rcases nested_cases bs nf first second page want with ⟨_, e⟩ | ⟨hp, _, _, e⟩ | ⟨_, _, e, _⟩ | ⟨_, hw, _, _, y, hy1, hy2, hy3, hg, e1, e2, _⟩
  · rw [e] at h; exact absurd (show (3 : Int) = 0 from h) (by decide)
  · rw [e] at h ⊢
    obtain ⟨e', h1, h2⟩ := granted_ok h
    rw [e']
    have hq := isP_iff.1 hp
    obtain ⟨g, rfl⟩ := Int.eq_ofNat_of_zero_le hq.1
    have hr := (single_range bs nf second (g : Int)).2.1
    exact ⟨h2, g, by omega, h1, rfl, h2, and_self _ hr.1 hr.2⟩
  · exact absurd h e
  · obtain ⟨e', h1, h2⟩ := granted_ok hg
    rw [e1, e2, e']
    obtain ⟨g, hgq⟩ := Int.eq_ofNat_of_zero_le hy1.1
    rw [hgq] at h1 h2 ⊢
    have hr := (single_range bs nf second (g : Int)).2.1
    exact ⟨and_both _ _ _ hr.1 hr.2 hy2.1 hy2.2 (isR_iff.1 hw) h2 hy3, g, by omega, h1, rfl, h2, and_sub _ _ hr.1 hr.2⟩

/-- A walk that is through has gone by two entries that can be used. -/
theorem single_through {bs : List UInt8} {nf : Nat} {root page : Int} (h : (single bs nf root page).ft.k = 0) : isP page = true ∧ entK bs nf root page 0 = 0 ∧ entK bs nf (df (ew bs root page 0)) page 1 = 0 ∧
    single bs nf root page = ⟨df (ew bs (df (ew bs root page 0)) page 1), dr (ew bs (df (ew bs root page 0)) page 1), f0⟩ := by
  rcases single_cases bs nf root page with ⟨_, e⟩ | ⟨_, h1, e⟩ | ⟨_, _, h2, e⟩ | h'
  · rw [e] at h; exact absurd (show (3 : Int) = 0 from h) (by decide)
  · rw [e] at h; exact absurd h h1
  · rw [e] at h; exact absurd h h2
  · exact h'

theorem entK_ok {bs : List UInt8} {nf : Nat} {t page lvl : Int} (h : entK bs nf t page lvl = 0) : ¬ (t < 0 ∨ (nf : Int) ≤ t) ∧ usable (ew bs t page lvl) lvl = true := by
  rcases entK_cases bs nf t page lvl with ⟨e, _⟩ | ⟨_, a, b⟩ | ⟨e, _⟩
  · rw [e] at h; exact absurd h (by decide)
  · exact ⟨a, b⟩
  · rw [e] at h; exact absurd h (by decide)

theorem entK_mk {bs : List UInt8} {nf : Nat} {t page lvl : Int} (h1 : ¬ (t < 0 ∨ (nf : Int) ≤ t)) (h2 : usable (ew bs t page lvl) lvl = true) : entK bs nf t page lvl = 0 := by
  unfold entK; rw [if_neg h1, if_pos h2]

/-- An entry of the last level that has a right less lets nothing be found that was not, nor elsewhere. -/
theorem single_less {bs bs' : List UInt8} {nf : Nat} {root page : Int} {T i : Nat} {r' : Int}
    (hv : dv ((half bs T i : Nat) : Int) = true) (hl : dl ((half bs T i : Nat) : Int) = true)
    (hl' : dl ((half bs' T i : Nat) : Int) = true) (hf : df ((half bs' T i : Nat) : Int) = df ((half bs T i : Nat) : Int)) (hr : dr ((half bs' T i : Nat) : Int) = bits .and .i64 (dr ((half bs T i : Nat) : Int)) r')
    (ho : ∀ k j : Nat, j < 32 → ¬ (k = T ∧ j = i) → half bs' k j = half bs k j) (h : (single bs' nf root page).ft.k = 0) :
    (single bs nf root page).ft.k = 0 ∧ (single bs nf root page).fr = (single bs' nf root page).fr ∧ ((single bs' nf root page).ri = (single bs nf root page).ri ∨ (single bs' nf root page).ri = bits .and .i64 (single bs nf root page).ri r') := by
  obtain ⟨hp, h1, h2, e⟩ := single_through h
  have hq := isP_iff.1 hp
  have i0 : idxOf page 0 = page / 32 := by unfold idxOf; rw [if_neg (by omega), if_pos rfl]
  have i1 : idxOf page 1 = page % 32 := by unfold idxOf; rw [if_neg (by omega), if_neg (by omega), if_pos rfl]
  obtain ⟨a1, u1⟩ := entK_ok h1
  obtain ⟨a2, u2⟩ := entK_ok h2
  have eq0 : ew bs root page 0 = ew bs' root page 0 := by
    unfold ew
    by_cases hc : root.toNat = T ∧ (idxOf page 0).toNat = i
    · exfalso
      have : ew bs' root page 0 = ((half bs' T i : Nat) : Int) := by unfold ew; rw [hc.1, hc.2]
      rw [this] at u1
      simp [usable, hl'] at u1
    · rw [ho _ _ (by rw [i0]; omega) hc]
  have k1 : entK bs nf root page 0 = 0 := entK_mk a1 (by rw [eq0]; exact u1)
  by_cases hc : (df (ew bs' root page 0)).toNat = T ∧ (idxOf page 1).toNat = i
  · have x' : ew bs' (df (ew bs' root page 0)) page 1 = ((half bs' T i : Nat) : Int) := by
      have : ∀ z : Int, z = df (ew bs' root page 0) → ew bs' z page 1 = ((half bs' T i : Nat) : Int) := fun z hz => by unfold ew; rw [hz, hc.1, hc.2]
      exact this _ rfl
    have x : ew bs (df (ew bs' root page 0)) page 1 = ((half bs T i : Nat) : Int) := by
      have : ∀ z : Int, z = df (ew bs' root page 0) → ew bs z page 1 = ((half bs T i : Nat) : Int) := fun z hz => by unfold ew; rw [hz, hc.1, hc.2]
      exact this _ rfl
    have k2 : entK bs nf (df (ew bs root page 0)) page 1 = 0 := by
      rw [eq0]
      exact entK_mk a2 (by rw [x]; simp [usable, hv, hl])
    have es : single bs nf root page = ⟨df (ew bs (df (ew bs root page 0)) page 1), dr (ew bs (df (ew bs root page 0)) page 1), f0⟩ := by
      unfold single; rw [if_neg (by simp [hp]), if_neg (by simpa using k1), if_neg (by simpa using k2)]
    rw [es, e, eq0, x, x']
    exact ⟨rfl, hf.symm, Or.inr hr⟩
  · have x : ew bs (df (ew bs' root page 0)) page 1 = ew bs' (df (ew bs' root page 0)) page 1 := by
      have : ∀ z : Int, z = df (ew bs' root page 0) → ew bs z page 1 = ew bs' z page 1 := fun z hz => by unfold ew; rw [ho _ _ (by rw [i1]; omega) (by rw [hz]; exact hc)]
      exact this _ rfl
    have k2 : entK bs nf (df (ew bs root page 0)) page 1 = 0 := by
      rw [eq0]
      exact entK_mk a2 (by rw [x]; exact u2)
    have es : single bs nf root page = ⟨df (ew bs (df (ew bs root page 0)) page 1), dr (ew bs (df (ew bs root page 0)) page 1), f0⟩ := by
      unfold single; rw [if_neg (by simp [hp]), if_neg (by simpa using k1), if_neg (by simpa using k2)]
    rw [es, e, eq0, x]
    exact ⟨rfl, rfl, Or.inl rfl⟩

theorem granted_mk {bs : List UInt8} {nf : Nat} {root page want : Int} (h1 : (single bs nf root page).ft.k = 0) (h2 : bits .and .i64 (single bs nf root page).ri want ≠ 0) : granted bs nf root page want = single bs nf root page := by
  unfold granted; rw [if_neg (by simpa using h1), if_neg h2]

/-- The same of a guest without tables of its own. -/
theorem nested_less {bs bs' : List UInt8} {nf : Nat} {first second page want : Int} {T i : Nat} {r' : Int} (hfirst : first < 0)
    (hv : dv ((half bs T i : Nat) : Int) = true) (hl : dl ((half bs T i : Nat) : Int) = true)
    (hl' : dl ((half bs' T i : Nat) : Int) = true) (hf : df ((half bs' T i : Nat) : Int) = df ((half bs T i : Nat) : Int)) (hr : dr ((half bs' T i : Nat) : Int) = bits .and .i64 (dr ((half bs T i : Nat) : Int)) r')
    (ho : ∀ k j : Nat, j < 32 → ¬ (k = T ∧ j = i) → half bs' k j = half bs k j) (h : (nested bs' nf first second page want).ft.k = 0) :
    (nested bs nf first second page want).ft.k = 0 ∧ (nested bs nf first second page want).fr = (nested bs' nf first second page want).fr ∧ bits .andNot .i64 (nested bs' nf first second page want).ri (nested bs nf first second page want).ri = 0 := by
  have plain : ∀ c : List UInt8, ¬ (isP page = false ∨ isR want = false) → nested c nf first second page want = granted c nf second page want := fun c h0 => by
    unfold nested; rw [if_neg h0, if_pos hfirst]
  by_cases h0 : isP page = false ∨ isR want = false
  · have : nested bs' nf first second page want = miss 3 0 0 false 0 := by unfold nested; rw [if_pos h0]
    rw [this] at h; exact absurd (show (3 : Int) = 0 from h) (by decide)
  · rw [plain bs h0, plain bs' h0] at *
    obtain ⟨e', h1, h2⟩ := granted_ok h
    obtain ⟨s1, s2, s3⟩ := single_less hv hl hl' hf hr ho h1
    have hq := (single_range bs nf second page).2.1
    have hb : bits .and .i64 (single bs nf second page).ri want ≠ 0 := by
      rcases s3 with s3 | s3
      · rw [← s3]; exact h2
      · rw [s3] at h2; exact and_more _ _ _ hq.1 hq.2 h2
    rw [granted_mk s1 hb, e']
    refine ⟨s1, s2, ?_⟩
    rcases s3 with s3 | s3
    · rw [s3]; exact and_self _ hq.1 hq.2
    · rw [s3]; exact and_sub _ _ hq.1 hq.2

end Go.Proofs.YtgnoakidjnilpaaGreat

/- WalkBuf -/
namespace Go.Proofs.YtgnoakidjnilpaaGreat
open Go.RowKit

theorem nested_same {bs : List UInt8} {nf : Nat} {first second page w0 want : Int} (h : (nested bs nf first second page w0).ft.k = 0) (hw : isR want = true) (hb : bits .and .i64 (nested bs nf first second page w0).ri want ≠ 0) :
    (nested bs nf first second page want).ft = f0 ∧ (nested bs nf first second page want).fr = (nested bs nf first second page w0).fr := by
  by_cases h0 : isP page = false ∨ isR w0 = false
  · have : nested bs nf first second page w0 = miss 3 0 0 false 0 := by unfold nested; rw [if_pos h0]
    rw [this] at h; exact absurd (show (3 : Int) = 0 from h) (by decide)
  have hp : isP page = true := by cases h' : isP page with | true => rfl | false => exact absurd (Or.inl h') h0
  have h0' : ¬ (isP page = false ∨ isR want = false) := by simp [hp, hw]
  by_cases hf : first < 0
  · have e : ∀ c : Int, ¬ (isP page = false ∨ isR c = false) → nested bs nf first second page c = granted bs nf second page c := fun c hc => by unfold nested; rw [if_neg hc, if_pos hf]
    rw [e w0 h0] at h hb ⊢
    rw [e want h0']
    obtain ⟨e', h1, _⟩ := granted_ok h
    rw [e'] at hb ⊢
    rw [granted_mk h1 hb]
    exact ⟨((single_range bs nf second page).2.2 h1).1, rfl⟩
  · by_cases h1 : (guest bs nf second first page 0).ft.k = 0
    · by_cases h2 : (guest bs nf second (guest bs nf second first page 0).fr page 1).ft.k = 0
      · have e : ∀ c : Int, ¬ (isP page = false ∨ isR c = false) → bits .and .i64 (guest bs nf second (guest bs nf second first page 0).fr page 1).ri c ≠ 0 → nested bs nf first second page c = ⟨(granted bs nf second (guest bs nf second (guest bs nf second first page 0).fr page 1).fr c).fr,
            bits .and .i64 (granted bs nf second (guest bs nf second (guest bs nf second first page 0).fr page 1).fr c).ri (guest bs nf second (guest bs nf second first page 0).fr page 1).ri, (granted bs nf second (guest bs nf second (guest bs nf second first page 0).fr page 1).fr c).ft⟩ := fun c hc h3 => by
          unfold nested; rw [if_neg hc, if_neg hf, if_neg (by simpa using h1), if_neg (by simpa using h2), if_neg h3]
        by_cases h3 : bits .and .i64 (guest bs nf second (guest bs nf second first page 0).fr page 1).ri w0 = 0
        · have : nested bs nf first second page w0 = miss 2 1 1 false page := by
            unfold nested; rw [if_neg h0, if_neg hf, if_neg (by simpa using h1), if_neg (by simpa using h2), if_pos h3]
          rw [this] at h; exact absurd (show (2 : Int) = 0 from h) (by decide)
        · rw [e w0 h0 h3] at h hb ⊢
          obtain ⟨e', g1, _⟩ := granted_ok h
          simp only [e'] at hb ⊢
          have rg := (guest_range h2).2
          have rs := (single_range bs nf second (guest bs nf second (guest bs nf second first page 0).fr page 1).fr).2.1
          have b1 := and_more _ _ _ rs.1 rs.2 hb
          rw [and_comm' _ _ rs.1 rs.2 rg.1 rg.2] at hb
          have b2 := and_more _ _ _ rg.1 rg.2 hb
          rw [e want h0' b2, granted_mk g1 b1]
          exact ⟨((single_range bs nf second _).2.2 g1).1, rfl⟩
      · have : nested bs nf first second page w0 = guest bs nf second (guest bs nf second first page 0).fr page 1 := by
          unfold nested; rw [if_neg h0, if_neg hf, if_neg (by simpa using h1), if_pos h2]
        rw [this] at h; exact absurd h h2
    · have : nested bs nf first second page w0 = guest bs nf second first page 0 := by
        unfold nested; rw [if_neg h0, if_neg hf, if_pos h1]
      rw [this] at h; exact absurd h h1

/-- A space: its two numbers, the page of its own table, the frame of the other one. -/
structure Spc where (v a f s : Int)

/-- Each line that is remembered is of one of three spaces, and was found so by both tables. -/
def BufOk (bs : List UInt8) (Q : Nat → Spc) (T : Nat → Ln) : Prop :=
  ∀ j, j < 8 → emp (T j) = false → ∃ k : Nat, (T j).v = 1 + (k : Int) ∧ (T j).a = (Q k).a ∧ ∃ w0 : Int, (nested bs 16 (Q k).f (Q k).s (T j).p w0).ft.k = 0 ∧ (nested bs 16 (Q k).f (Q k).s (T j).p w0).fr = (T j).f ∧ (nested bs 16 (Q k).f (Q k).s (T j).p w0).ri = (T j).r

theorem buf_zero' (bs : List UInt8) (Q : Nat → Spc) : BufOk bs Q (fun _ => zl) := fun _ _ h => absurd (show emp zl = false from h) (by decide)

theorem buf_upd {bs : List UInt8} {Q : Nat → Spc} {T : Nat → Ln} (h : BufOk bs Q T) (i : Nat) (l : Ln)
    (hl : emp l = false → ∃ k : Nat, l.v = 1 + (k : Int) ∧ l.a = (Q k).a ∧ ∃ w0 : Int, (nested bs 16 (Q k).f (Q k).s l.p w0).ft.k = 0 ∧ (nested bs 16 (Q k).f (Q k).s l.p w0).fr = l.f ∧ (nested bs 16 (Q k).f (Q k).s l.p w0).ri = l.r) : BufOk bs Q (upd T i l) := fun j hj he => by
  by_cases hi : j = i
  · subst hi; rw [upd_same] at he ⊢; exact hl he
  · rw [upd_other T l hi] at he ⊢; exact h j hj he

theorem buf_wipe {bs : List UInt8} {Q : Nat → Spc} {T : Nat → Ln} (h : BufOk bs Q T) (g : Ln → Bool) : BufOk bs Q (wipe g T) := fun j hj he => by
  rcases wipe_cases g T j with ⟨e, _⟩ | ⟨e, _⟩
  · rw [e] at he; exact absurd he (by decide)
  · rw [e] at he ⊢; exact h j hj he

theorem buf_ev {bs : List UInt8} {Q : Nat → Spc} {T : Nat → Ln} (h : BufOk bs Q T) (i : Int) : BufOk bs Q (evT T i) := by
  unfold evT
  cases inB i 0 7
  · exact h
  · exact buf_upd h _ _ (fun he => absurd he (by decide))

/-- Behind a question the buffer still remembers only what was found. -/
theorem buf_reach {bs : List UInt8} {Q : Nat → Spc} {T : Nat → Ln} (h : BufOk bs Q T) (k : Nat) (page want ix : Int) : BufOk bs Q (reachT bs 16 T (1 + (k : Int)) (Q k).a (Q k).f (Q k).s page want ix) := by
  unfold reachT
  split
  · exact h
  · split
    · rename_i hk
      unfold fillT
      cases inB ix 0 7 && rightL ⟨1 + (k : Int), (Q k).a, page, (nested bs 16 (Q k).f (Q k).s page want).fr, (nested bs 16 (Q k).f (Q k).s page want).ri⟩
      · exact h
      · exact buf_upd (buf_wipe h _) _ _ (fun _ => ⟨k, rfl, rfl, want, hk, rfl, rfl⟩)
    · exact h

/-- The buffer is not seen. -/
theorem reach_same {bs : List UInt8} {Q : Nat → Spc} {T : Nat → Ln} (h : BufOk bs Q T) (k : Nat) (page want : Int) :
    reachF bs 16 T (1 + (k : Int)) (Q k).a (Q k).f (Q k).s page want = (nested bs 16 (Q k).f (Q k).s page want).fr ∧ reachX bs 16 T (1 + (k : Int)) (Q k).a (Q k).f (Q k).s page want = (nested bs 16 (Q k).f (Q k).s page want).ft := by
  cases hh : hitR T (1 + (k : Int)) (Q k).a page want with
  | false => unfold reachF reachX; rw [if_neg (by simp [hh]), if_neg (by simp [hh])]; exact ⟨rfl, rfl⟩
  | true =>
    have e1 : reachF bs 16 T (1 + (k : Int)) (Q k).a (Q k).f (Q k).s page want = ansF T (idx T (1 + (k : Int)) (Q k).a page 8) := by unfold reachF; rw [if_pos hh]
    have e2 : reachX bs 16 T (1 + (k : Int)) (Q k).a (Q k).f (Q k).s page want = f0 := by unfold reachX; rw [if_pos hh]
    rw [e1, e2]
    have hs : ansB (idx T (1 + (k : Int)) (Q k).a page 8) = true ∧ isR want = true ∧ bits .and .i64 (ansR T (idx T (1 + (k : Int)) (Q k).a page 8)) want ≠ 0 := by
      simpa [hitR] using hh
    obtain ⟨a1, a2, a3⟩ := hs
    rcases idx_cases T (1 + (k : Int)) (Q k).a page 8 with ⟨e, _⟩ | ⟨j, hj, e, ht, _⟩
    · rw [e] at a1; exact absurd a1 (by decide)
    · have n0 : ¬ (j : Int) < 0 := by omega
      rw [e] at a3 ⊢
      simp only [ansR, ansF, decide_eq_false n0, cond_false, Int.toNat_natCast] at a3 ⊢
      have hem : emp (T j) = false := by
        unfold hit at ht
        cases hx : emp (T j) <;> simp_all
      have hkey : key (T j) ⟨1 + (k : Int), (Q k).a, page, 0, 0⟩ = true := by
        unfold hit at ht
        simp [hem] at ht
        exact ht
      obtain ⟨k1, _, k3⟩ := key_iff.1 hkey
      obtain ⟨k', v1, _, w0, g1, g2, g3⟩ := h j hj hem
      have hkk : k' = k := by
        have : (T j).v = 1 + (k : Int) := k1
        omega
      subst hkk
      have hpg : (T j).p = page := k3
      rw [hpg] at g1 g2 g3
      rw [← g3] at a3
      obtain ⟨r1, r2⟩ := nested_same g1 a2 a3
      rw [r1, r2, g2]
      exact ⟨rfl, rfl⟩

end Go.Proofs.YtgnoakidjnilpaaGreat

/- CpuTrapP -/
namespace Go.Proofs.YtgnoakidjnilpaaGreat
open Go.RowKit

/-- The lines of one space are what both tables tell. -/
def Sok (bs : List UInt8) (vm sd fi se : Int) (T : Nat → Ln) : Prop :=
  ∀ j, j < 8 → emp (T j) = false → (T j).v = vm → (T j).a = sd → ∃ w0 : Int, (nested bs 16 fi se (T j).p w0).ft.k = 0 ∧ (nested bs 16 fi se (T j).p w0).fr = (T j).f ∧ (nested bs 16 fi se (T j).p w0).ri = (T j).r

theorem sok_zero (bs : List UInt8) (vm sd fi se : Int) : Sok bs vm sd fi se (fun _ => zl) := fun _ _ h => absurd (show emp zl = false from h) (by decide)

theorem sok_reach {bs : List UInt8} {vm sd fi se : Int} {T : Nat → Ln} (h : Sok bs vm sd fi se T) (page want ix : Int) : Sok bs vm sd fi se (reachT bs 16 T vm sd fi se page want ix) := by
  unfold reachT
  split
  · exact h
  · split
    · rename_i hk
      unfold fillT
      cases inB ix 0 7 && rightL ⟨vm, sd, page, (nested bs 16 fi se page want).fr, (nested bs 16 fi se page want).ri⟩
      · exact h
      · intro j hj he hv ha
        by_cases hi : j = ix.toNat
        · subst hi
          have e : ∀ (U : Nat → Ln) (l : Ln), upd U ix.toNat l ix.toNat = l := fun U l => upd_same U _ l
          simp only [cond_true, filled] at he hv ha ⊢
          rw [e] at he hv ha ⊢
          exact ⟨want, hk, rfl, rfl⟩
        · simp only [cond_true, filled] at he hv ha ⊢
          rw [upd_other _ _ hi] at he hv ha ⊢
          rcases wipe_cases (fun x => key x ⟨vm, sd, page, (nested bs 16 fi se page want).fr, (nested bs 16 fi se page want).ri⟩) T j with ⟨e, _⟩ | ⟨e, _⟩
          · rw [e] at he; exact absurd he (by decide)
          · rw [e] at he hv ha ⊢; exact h j hj he hv ha
    · exact h

theorem sok_same {bs : List UInt8} {vm sd fi se : Int} {T : Nat → Ln} (h : Sok bs vm sd fi se T) (page want : Int) :
    reachF bs 16 T vm sd fi se page want = (nested bs 16 fi se page want).fr ∧ reachX bs 16 T vm sd fi se page want = (nested bs 16 fi se page want).ft := by
  cases hh : hitR T vm sd page want with
  | false => unfold reachF reachX; rw [if_neg (by simp [hh]), if_neg (by simp [hh])]; exact ⟨rfl, rfl⟩
  | true =>
    have e1 : reachF bs 16 T vm sd fi se page want = ansF T (idx T vm sd page 8) := by unfold reachF; rw [if_pos hh]
    have e2 : reachX bs 16 T vm sd fi se page want = f0 := by unfold reachX; rw [if_pos hh]
    rw [e1, e2]
    have hs : ansB (idx T vm sd page 8) = true ∧ isR want = true ∧ bits .and .i64 (ansR T (idx T vm sd page 8)) want ≠ 0 := by
      simpa [hitR] using hh
    obtain ⟨a1, a2, a3⟩ := hs
    rcases idx_cases T vm sd page 8 with ⟨e, _⟩ | ⟨j, hj, e, ht, _⟩
    · rw [e] at a1; exact absurd a1 (by decide)
    · have n0 : ¬ (j : Int) < 0 := by omega
      rw [e] at a3 ⊢
      simp only [ansR, ansF, decide_eq_false n0, cond_false, Int.toNat_natCast] at a3 ⊢
      have hem : emp (T j) = false := by
        unfold hit at ht
        cases hx : emp (T j) <;> simp_all
      have hkey : key (T j) ⟨vm, sd, page, 0, 0⟩ = true := by
        unfold hit at ht
        simp [hem] at ht
        exact ht
      obtain ⟨k1, k2, k3⟩ := key_iff.1 hkey
      obtain ⟨w0, g1, g2, g3⟩ := h j hj hem k1 k2
      have hpg : (T j).p = page := k3
      rw [hpg] at g1 g2 g3
      rw [← g3] at a3
      obtain ⟨r1, r2⟩ := nested_same g1 a2 a3
      rw [r1, r2, g2]
      exact ⟨rfl, rfl⟩

/-- What a machine tells of an address, whatever its buffer remembers. -/
theorem rc_same {M M' : Mc} {vm sd fi se : Int} (hb : M.bs = M'.bs) (s : Sok M.bs vm sd fi se M.T) (s' : Sok M'.bs vm sd fi se M'.T) (ad want : Int) :
    rcF M 16 vm sd fi se ad want = rcF M' 16 vm sd fi se ad want ∧ rcP M 16 vm sd fi se ad want = rcP M' 16 vm sd fi se ad want := by
  obtain ⟨a1, a2⟩ := sok_same s (ad / 64) want
  obtain ⟨b1, b2⟩ := sok_same s' (ad / 64) want
  have e : rcF M 16 vm sd fi se ad want = rcF M' 16 vm sd fi se ad want := by
    unfold rcF; rw [a1, a2, b1, b2, hb]
  refine ⟨e, ?_⟩
  unfold rcP
  rw [e, a1, b1, hb]

theorem rc_keep {M : Mc} {vm sd fi se : Int} (s : Sok M.bs vm sd fi se M.T) (ad want ix : Int) : Sok (rcM M 16 vm sd fi se ad want ix).bs vm sd fi se (rcM M 16 vm sd fi se ad want ix).T ∧ (rcM M 16 vm sd fi se ad want ix).bs = M.bs ∧ (rcM M 16 vm sd fi se ad want ix).V = M.V :=
  ⟨sok_reach s (ad / 64) want ix, rfl, rfl⟩

theorem dT_same {M M' : Mc} {X : Wk} (hb : M.bs = M'.bs) (s : Sok M.bs X.vm X.sd X.fi X.se M.T) (s' : Sok M'.bs X.vm X.sd X.fi X.se M'.T) (size want cause : Int) : dT M 16 X size want cause = dT M' 16 X size want cause := by
  unfold dT
  rw [(rc_same hb s s' X.ad want).1]

theorem dM_keep {M : Mc} {X : Wk} (s : Sok M.bs X.vm X.sd X.fi X.se M.T) (size want : Int) : Sok (dM M 16 X size want).bs X.vm X.sd X.fi X.se (dM M 16 X size want).T ∧ (dM M 16 X size want).bs = M.bs ∧ (dM M 16 X size want).V = M.V := by
  unfold dM
  split
  · exact ⟨s, rfl, rfl⟩
  · exact rc_keep s _ _ _

theorem exec_same {M M' : Mc} {X : Wk} (hb : M.bs = M'.bs) (hv : M.V = M'.V) (s : Sok M.bs X.vm X.sd X.fi X.se M.T) (s' : Sok M'.bs X.vm X.sd X.fi X.se M'.T) : (exec 16 M X).2.2 = (exec 16 M' X).2.2 := by
  have d := dT_same hb s s'
  have w : wfT M X = wfT M' X := by unfold wfT; rw [hv]
  have q : M.S = M'.S := by unfold Mc.S; rw [hv]
  by_cases hk : X.op ≤ 24
  · have : X.op = 0 ∨ X.op = 1 ∨ X.op = 2 ∨ X.op = 3 ∨ X.op = 4 ∨ X.op = 5 ∨ X.op = 6 ∨ X.op = 7 ∨ X.op = 8 ∨ X.op = 9 ∨ X.op = 10 ∨ X.op = 11 ∨ X.op = 12 ∨ X.op = 13 ∨ X.op = 14 ∨ X.op = 15 ∨ X.op = 16 ∨ X.op = 17 ∨ X.op = 18 ∨ X.op = 19 ∨ X.op = 20 ∨ X.op = 21 ∨ X.op = 22 ∨ X.op = 23 ∨ X.op = 24 := by omega
    rcases this with ho | ho | ho | ho | ho | ho | ho | ho | ho | ho | ho | ho | ho | ho | ho | ho | ho | ho | ho | ho | ho | ho | ho | ho | ho
    all_goals
      unfold exec
      rw [ho]
      first
        | exact d _ _ _
        | exact w
        | exact congrArg (fun S => eoT S X) q
        | rfl
  · obtain ⟨j, ho⟩ : ∃ j, X.op = j + 25 := ⟨X.op - 25, by omega⟩
    unfold exec
    rw [ho]
    rfl

/-- A step that traps, but that of maintenance, leaves bytes and virtual interrupts as they were. -/
theorem exec_keep {M : Mc} {X : Wk} (s : Sok M.bs X.vm X.sd X.fi X.se M.T) (h : (exec 16 M X).2.2.ca ≠ 0) (h' : (exec 16 M X).2.2.ca ≠ 10) :
    Sok (exec 16 M X).1.bs X.vm X.sd X.fi X.se (exec 16 M X).1.T ∧ (exec 16 M X).1.bs = M.bs ∧ (exec 16 M X).1.V = M.V := by
  by_cases hk : X.op ≤ 24
  · have : X.op = 0 ∨ X.op = 1 ∨ X.op = 2 ∨ X.op = 3 ∨ X.op = 4 ∨ X.op = 5 ∨ X.op = 6 ∨ X.op = 7 ∨ X.op = 8 ∨ X.op = 9 ∨ X.op = 10 ∨ X.op = 11 ∨ X.op = 12 ∨ X.op = 13 ∨ X.op = 14 ∨ X.op = 15 ∨ X.op = 16 ∨ X.op = 17 ∨ X.op = 18 ∨ X.op = 19 ∨ X.op = 20 ∨ X.op = 21 ∨ X.op = 22 ∨ X.op = 23 ∨ X.op = 24 := by omega
    rcases this with ho | ho | ho | ho | ho | ho | ho | ho | ho | ho | ho | ho | ho | ho | ho | ho | ho | ho | ho | ho | ho | ho | ho | ho | ho
    all_goals
      unfold exec at h h' ⊢
      rw [ho] at h h' ⊢
      try first
        | exact absurd rfl h
        | exact dM_keep s _ _
        | exact ⟨s, rfl, rfl⟩
    · show Sok (stM M 16 X 4).bs X.vm X.sd X.fi X.se (stM M 16 X 4).T ∧ (stM M 16 X 4).bs = M.bs ∧ (stM M 16 X 4).V = M.V
      have h2 : (dT M 16 X 4 2 3).ca ≠ 0 := h
      unfold stM
      rw [if_pos h2]
      exact dM_keep s _ _
    · show Sok (stM M 16 X 1).bs X.vm X.sd X.fi X.se (stM M 16 X 1).T ∧ (stM M 16 X 1).bs = M.bs ∧ (stM M 16 X 1).V = M.V
      have h2 : (dT M 16 X 1 2 3).ca ≠ 0 := h
      unfold stM
      rw [if_pos h2]
      exact dM_keep s _ _
    · show Sok (wrM M M.S X).bs X.vm X.sd X.fi X.se (wrM M M.S X).T ∧ (wrM M M.S X).bs = M.bs ∧ (wrM M M.S X).V = M.V
      have hx : (5 : Int) < (X.imm : Int) := by
        have h2 : (wrT X).ca ≠ 0 := h
        unfold wrT at h2
        split at h2
        · assumption
        · exact absurd rfl h2
      unfold wrM
      rw [if_pos hx]
      exact ⟨s, rfl, rfl⟩
    · exfalso
      have h2 : (eoT M.S X).ca ≠ 0 := h
      have h3 : (eoT M.S X).ca ≠ 10 := h'
      unfold eoT at h2 h3
      split at h2
      · rename_i q; rw [if_pos q] at h3; exact absurd rfl h3
      · exact absurd rfl h2
  · obtain ⟨j, ho⟩ : ∃ j, X.op = j + 25 := ⟨X.op - 25, by omega⟩
    unfold exec at h
    rw [ho] at h
    exact absurd rfl h

theorem fX_same {M M' : Mc} {X : Wk} (hb : M.bs = M'.bs) (s : Sok M.bs X.vm X.sd X.fi X.se M.T) (s' : Sok M'.bs X.vm X.sd X.fi X.se M'.T) : fX 16 M X = fX 16 M' X := by
  unfold fX
  rw [(rc_same hb s s' X.pc 4).2, hb]

theorem do_same {M M' : Mc} {X : Wk} (hb : M.bs = M'.bs) (hv : M.V = M'.V) (s : Sok M.bs X.vm X.sd X.fi X.se M.T) (s' : Sok M'.bs X.vm X.sd X.fi X.se M'.T) : (doR 16 M X).2.2 = (doR 16 M' X).2.2 := by
  have e1 := (rc_same hb s s' X.pc 4).1
  have e2 := fX_same hb s s'
  have k1 := rc_keep s X.pc 4 X.ix
  have k2 := rc_keep s' X.pc 4 X.ix
  unfold doR
  rw [e1, e2, hv]
  split
  · rfl
  · split
    · rfl
    · split
      · rfl
      · exact exec_same (M := doM 16 M X) (M' := doM 16 M' X) (X := dX (fX 16 M' X)) (by show M.bs = M'.bs; exact hb) (by show M.V = M'.V; exact hv) k1.1 k2.1

theorem do_keep {M : Mc} {X : Wk} (s : Sok M.bs X.vm X.sd X.fi X.se M.T) (h : (doR 16 M X).2.2.ca ≠ 0) (h' : (doR 16 M X).2.2.ca ≠ 10) :
    Sok (doR 16 M X).1.bs X.vm X.sd X.fi X.se (doR 16 M X).1.T ∧ (doR 16 M X).1.bs = M.bs ∧ (doR 16 M X).1.V = M.V := by
  have k1 := rc_keep s X.pc 4 X.ix
  unfold doR at h h' ⊢
  split at h
  · rw [if_pos (by assumption)]; exact k1
  · rename_i c1
    rw [if_neg c1] at h' ⊢
    split at h
    · rw [if_pos (by assumption)]; exact k1
    · rename_i c2
      rw [if_neg c2] at h' ⊢
      split at h
      · rw [if_pos (by assumption)]; exact k1
      · rename_i c3
        rw [if_neg c3] at h' ⊢
        exact exec_keep (M := doM 16 M X) (X := dX (fX 16 M X)) k1.1 h h'

/-- Nobody has a virtual interrupt in a machine that is new: no end tells anything. -/
theorem do_new (bs : List UInt8) (g : Bool) (X : Wk) : (doR 16 (M0 bs g) X).2.2.ca ≠ 10 := by
  unfold doR
  split
  · exact (show ¬((1 : Int) = 10) by decide)
  · split
    · exact (show ¬((8 : Int) = 10) by decide)
    · split
      · exact (show ¬((8 : Int) = 10) by decide)
      · rename_i c3
        unfold exec
        split
        all_goals first
          | exact (show ¬((0 : Int) = 10) by decide)
          | exact (show ¬((5 : Int) = 10) by decide)
          | exact (show ¬((6 : Int) = 10) by decide)
          | (show ¬((dT _ _ _ _ _ _).ca = 10); unfold dT; split; exact (show ¬((4 : Int) = 10) by decide); split; exact (show ¬((2 : Int) = 10) by decide); exact (show ¬((0 : Int) = 10) by decide))
          | (show ¬((dT _ _ _ _ _ _).ca = 10); unfold dT; split; exact (show ¬((4 : Int) = 10) by decide); split; exact (show ¬((3 : Int) = 10) by decide); exact (show ¬((0 : Int) = 10) by decide))
          | (show ¬((rdT _).ca = 10); unfold rdT; split; exact (show ¬((7 : Int) = 10) by decide); exact (show ¬((0 : Int) = 10) by decide))
          | (show ¬((wrT _).ca = 10); unfold wrT; split; exact (show ¬((7 : Int) = 10) by decide); exact (show ¬((0 : Int) = 10) by decide))
          | skip
        · show ¬((wfT _ _).ca = 10)
          unfold wfT
          split
          · split
            · exact (show ¬((0 : Int) = 10) by decide)
            · exact (show ¬((9 : Int) = 10) by decide)
          · exact (show ¬((9 : Int) = 10) by decide)
        · show ¬((eoT (doM 16 (M0 bs g) X).S _).ca = 10)
          have e : (doM 16 (M0 bs g) X).S = zeroV 4 ∨ (doM 16 (M0 bs g) X).S = zeroV 1 := by
            cases g
            · exact Or.inr rfl
            · exact Or.inl rfl
          have z : ∀ n, endF (doM 16 (M0 bs g) X).S n = false := by
            intro n
            rcases e with e | e <;> rw [e] <;> unfold endF <;> cases isI n <;> rfl
          unfold eoT
          rw [if_neg (by rw [z]; decide)]
          exact (show ¬((0 : Int) = 10) by decide)

theorem do_again {M : Mc} {X : Wk} (s : Sok M.bs X.vm X.sd X.fi X.se M.T) (h : (doR 16 M X).2.2.ca ≠ 0) (h' : (doR 16 M X).2.2.ca ≠ 10) : (doR 16 (doR 16 M X).1 X).2.2 = (doR 16 M X).2.2 := by
  obtain ⟨s1, b1, v1⟩ := do_keep s h h'
  exact do_same b1 v1 s1 s

theorem st_same {c : Cp} {R : Mc × Wk × Tr} (a : R.2.2.ca ≠ 0) (b : R.2.2.ca ≠ 10) : stC c R = c := by
  unfold stC; rw [if_neg (by rintro (q | q); exact a q; exact b q)]

/-- What traps did nothing, and traps again. -/
theorem trap_again (bs : List UInt8) (g : Bool) (c : Cp) (vm se ix : Int) (h : (stepR 16 (M0 bs g) c vm se ix).2.2.ca ≠ 0) :
    (stepR 16 (M0 bs g) c vm se ix).2.2.ca ≠ 10 ∧ (stepR 16 (M0 bs g) c vm se ix).1.bs = bs ∧ (stepR 16 (M0 bs g) c vm se ix).2.1 = c ∧ (stepR 16 (stepR 16 (M0 bs g) c vm se ix).1 c vm se ix).2.1 = c ∧ (stepR 16 (stepR 16 (M0 bs g) c vm se ix).1 c vm se ix).2.2 = (stepR 16 (M0 bs g) c vm se ix).2.2 := by
  by_cases hb : c.bad
  · have e : ∀ M : Mc, stepR 16 M c vm se ix = (M, c, ⟨4, 0, c.pc, f0⟩) := fun M => if_pos hb
    rw [e (M0 bs g)]
    refine ⟨(show ¬((4 : Int) = 10) by decide), rfl, rfl, ?_, ?_⟩
    · show (stepR 16 (M0 bs g) c vm se ix).2.1 = c
      rw [e (M0 bs g)]
    · show (stepR 16 (M0 bs g) c vm se ix).2.2 = _
      rw [e (M0 bs g)]
  · have e : ∀ M : Mc, stepR 16 M c vm se ix = ((doR 16 M (wkP M.V.isSome c vm se ix)).1, stC c (doR 16 M (wkP M.V.isSome c vm se ix)), (doR 16 M (wkP M.V.isSome c vm se ix)).2.2) := fun M => if_neg hb
    have h10 := do_new bs g (wkP (M0 bs g).V.isSome c vm se ix)
    have s0 : Sok (M0 bs g).bs (wkP (M0 bs g).V.isSome c vm se ix).vm (wkP (M0 bs g).V.isSome c vm se ix).sd (wkP (M0 bs g).V.isSome c vm se ix).fi (wkP (M0 bs g).V.isSome c vm se ix).se (M0 bs g).T := sok_zero _ _ _ _ _
    have b0 : (M0 bs g).bs = bs := rfl
    have eM := e (M0 bs g)
    generalize M0 bs g = M at *
    rw [eM] at h ⊢
    clear eM
    replace h : (doR 16 M (wkP M.V.isSome c vm se ix)).2.2.ca ≠ 0 := h
    obtain ⟨_, b1, v1⟩ := do_keep s0 h h10
    have a1 := do_again s0 h h10
    refine ⟨h10, b1.trans b0, st_same h h10, ?_, ?_⟩
    · show (stepR 16 (doR 16 M (wkP M.V.isSome c vm se ix)).1 c vm se ix).2.1 = c
      rw [e, v1]
      exact st_same (by rw [a1]; exact h) (by rw [a1]; exact h10)
    · show (stepR 16 (doR 16 M (wkP M.V.isSome c vm se ix)).1 c vm se ix).2.2 = (doR 16 M (wkP M.V.isSome c vm se ix)).2.2
      rw [e, v1]
      exact a1

end Go.Proofs.YtgnoakidjnilpaaGreat

/- CpuTrapsA -/
namespace Go.Proofs.YtgnoakidjnilpaaGreat
open Go.RowKit

/-- One machine, beside the world and the state that came in. -/
structure Rt (w wr : World) (gx gc g8 : Nat) (X : Array Value) (c : Cp) (O1 : Bo) (M1 : Mc) : Prop where
  f : Fr none' w wr
  rx : Row wr gx X 25
  rc : Row wr gc (cpA c) 30
  r8 : Row wr g8 O1.a 44
  m1 : IsMc wr O1.B 16 M1
  s1 : ∀ k, (O1.B.s k ∨ k = O1.B.p) → gc < k ∧ k < g8
  g : w.heap.size ≤ gx ∧ gx < gc ∧ gc < g8

section
variable {w wr wr' : World} {gx gc g8 : Nat} {X : Array Value} {c : Cp} {O1 : Bo} {M1 M' : Mc}
theorem Rt.far (h : Rt w wr gx gc g8 X c O1 M1) {S : Nat → Prop} (k : Fr S wr wr') (hS : ∀ j, S j → g8 < j) : Rt w wr' gx gc g8 X c O1 M1 := by
  obtain ⟨h1, h2, h3⟩ := h.g
  have n : ∀ j, j ≤ g8 → ¬ S j := fun j hj e => by have := hS j e; omega
  exact ⟨fr_far h.f k (fun j e => by have := hS j e; omega), h.rx.keep k (n _ (by omega)), h.rc.keep k (n _ (by omega)), h.r8.keep k (n _ (by omega)),
    h.m1.keep k (n _ (by have := h.s1 _ (Or.inr rfl); omega)) (n _ (by have := h.s1 _ (Or.inl (Or.inl rfl)); omega)) (n _ (by have := h.s1 _ (Or.inl (Or.inr (Or.inl rfl))); omega)) (fun j hj => n j (by have := h.s1 j (Or.inl (Or.inr (Or.inr hj))); omega)), h.s1, h.g⟩
theorem Rt.keep0 (h : Rt w wr gx gc g8 X c O1 M1) (k : Fr none' wr wr') : Rt w wr' gx gc g8 X c O1 M1 := h.far k (fun _ e => e.elim)
theorem Rt.run (h : Rt w wr gx gc g8 X c O1 M1) (k : Fr O1.B.s wr wr') (m : IsMc wr' O1.B 16 M') : Rt w wr' gx gc g8 X c O1 M' := by
  obtain ⟨h1, h2, h3⟩ := h.g
  have n : ∀ j, j ≤ gc ∨ g8 ≤ j → ¬ O1.B.s j := fun j hj e => by have := h.s1 j (Or.inl e); omega
  exact ⟨fr_far h.f k (fun j e => by have := h.s1 j (Or.inl e); omega), h.rx.keep k (n _ (by omega)), h.rc.keep k (n _ (by omega)), h.r8.keep k (n _ (by omega)), m, h.s1, h.g⟩
end

/-- Bytes of the law's own. -/
def Ob (base : Nat) (w : World) (v : Value) (L : List UInt8) : Prop := base ≤ w.heap.size ∧ w.ownsRow base 5 1 v L.length (L.map U8)

theorem ob_none {base : Nat} {w : World} (h : base ≤ w.heap.size) : Ob base w (.slice none 0 0) [] := ⟨h, by simp, Or.inl ⟨rfl, rfl⟩⟩

theorem ob_keep {S : Nat → Prop} {base : Nat} {w w' : World} {v : Value} {L : List UInt8} (h : Ob base w v L) (f : Fr S w w') (hs : ∀ k, S k → k < base) : Ob base w' v L := by
  obtain ⟨h0, hl, h | ⟨g, cap, cur, hv, hb, hg, hc, hm, hz, ht⟩⟩ := h
  · exact ⟨Nat.le_trans h0 f.size, hl, Or.inl h⟩
  · exact ⟨Nat.le_trans h0 f.size, hl, Or.inr ⟨g, cap, cur, hv, hb, (f.block g (Row.lt (show Row w g cur 5 from hg)) (fun e => by have := hs g e; omega)).trans hg, hc, hm, hz, ht⟩⟩

theorem ob_block {base : Nat} {w : World} {v : Value} {L : List UInt8} (h : Ob base w v L) (k : Nat) (hk : some k = v.ownBlock) : base ≤ k := by
  obtain ⟨_, _, h | ⟨g, cap, cur, hv, hb, _⟩⟩ := h
  · rw [h.1] at hk; simp [Value.ownBlock] at hk
  · rw [hv] at hk; simp [Value.ownBlock] at hk; omega

theorem ob_out {base : Nat} {w : World} {v : Value} {L : List UInt8} (h : Ob base w v L) (hL : L.length = 1024) : ∃ g cap, v = .slice (some ⟨g, 0, none⟩) 1024 cap ∧ base ≤ g ∧ Begins w g L cap := by
  have hv : v ≠ .slice none 0 0 := by
    obtain ⟨_, _, h | ⟨g, cap, cur, hv, _⟩⟩ := h
    · have : L.length = 0 := h.2
      omega
    · rw [hv]; intro e; cases e
  obtain ⟨g, cap, e, hb, hB, _⟩ := own_begins h.2 hv
  rw [hL] at e
  exact ⟨g, cap, e, hb, hB⟩

theorem take_more (bs : List UInt8) (k : Nat) : bs.take (64 * k) ++ frameOf bs k = bs.take (64 * (k + 1)) := by
  unfold frameOf
  rw [Nat.mul_comm k 64, show 64 * (k + 1) = 64 * k + 64 by omega, List.take_add]

end Go.Proofs.YtgnoakidjnilpaaGreat

/- WalkFar -/
namespace Go.Proofs.YtgnoakidjnilpaaGreat
open Go.RowKit

theorem half_far (bs : List UInt8) (a v t i : Nat) (h : a + 1 ≤ bs.length) (hi : i < 32) (hn : a / 64 ≠ t) : half (putAt bs a (bytesOf 1 v)) t i = half bs t i := by
  unfold half
  congr 1
  apply List.ext_getElem?
  intro j
  rw [List.getElem?_take, List.getElem?_take]
  by_cases hj : j < 2
  · rw [if_pos hj, if_pos hj, List.getElem?_drop, List.getElem?_drop, putAt_get? _ _ _ (by rw [length_bytesOf]; exact h), length_bytesOf, if_neg (by omega)]
  · rw [if_neg hj, if_neg hj]

theorem single_blind {bs bs' : List UInt8} {nf : Nat} {root page : Int} (h0 : ∀ i : Nat, i < 32 → half bs' root.toNat i = half bs root.toNat i)
    (h1 : isP page = true → entK bs nf root page 0 = 0 → ∀ i : Nat, i < 32 → half bs' (df (ew bs root page 0)).toNat i = half bs (df (ew bs root page 0)).toNat i) : single bs' nf root page = single bs nf root page := by
  cases hp : isP page with
  | false => unfold single; rw [if_pos hp, if_pos hp]
  | true =>
    have hq := isP_iff.1 hp
    have i0 : idxOf page 0 = page / 32 := by unfold idxOf; rw [if_neg (by omega), if_pos rfl]
    have i1 : idxOf page 1 = page % 32 := by unfold idxOf; rw [if_neg (by omega), if_neg (by omega), if_pos rfl]
    have e0 : ew bs' root page 0 = ew bs root page 0 := by unfold ew; rw [h0 _ (by rw [i0]; omega)]
    have k0 : entK bs' nf root page 0 = entK bs nf root page 0 := by unfold entK; rw [e0]
    by_cases hk : entK bs nf root page 0 = 0
    · have e1 : ew bs' (df (ew bs root page 0)) page 1 = ew bs (df (ew bs root page 0)) page 1 := by
        have := h1 hp hk (idxOf page 1).toNat (by rw [i1]; omega)
        have g : ∀ z : Int, half bs' z.toNat (idxOf page 1).toNat = half bs z.toNat (idxOf page 1).toNat → ew bs' z page 1 = ew bs z page 1 := fun z hz => by unfold ew; rw [hz]
        exact g _ this
      have k1 : entK bs' nf (df (ew bs root page 0)) page 1 = entK bs nf (df (ew bs root page 0)) page 1 := by unfold entK; rw [e1]
      unfold single
      rw [e0, k0, k1, e1]
    · unfold single
      rw [k0, if_neg (by simp [hp]), if_pos hk, if_neg (by simp [hp]), if_pos hk]

/-- A byte laid into a frame that is none of a walk's tables is not seen by it. -/
theorem store_blind {bs : List UInt8} {root page addr : Int} {v : Nat} (hl : bs.length = 64 * 16) (ha : 0 ≤ addr) (hr : addr / 64 ≠ root)
    (hd : isP page = true → entK bs 16 root page 0 = 0 → addr / 64 ≠ df (ew bs root page 0)) : single (storeB bs addr 1 16 v) 16 root page = single bs 16 root page := by
  unfold storeB
  by_cases he : errOf addr 1 16 = 0
  · rw [if_pos he]
    obtain ⟨_, _, h0, h1⟩ := err_zero he
    have hlen : addr.toNat + 1 ≤ bs.length := by omega
    by_cases hroot : 0 ≤ root
    · refine single_blind (fun i hi => half_far bs addr.toNat v root.toNat i hlen hi (by omega)) (fun hp hk i hi => ?_)
      have hx := ew_range bs root page 0
      have hf := df_range hx.1 hx.2
      have := hd hp hk
      exact half_far bs addr.toNat v _ i hlen hi (by omega)
    · have out : ∀ c : List UInt8, entK c 16 root page 0 = 3 := fun c => by unfold entK; rw [if_pos (Or.inl (by omega))]
      unfold single
      rw [out, out]
      simp
  · rw [if_neg he]

end Go.Proofs.YtgnoakidjnilpaaGreat

/- CpuBackP -/
namespace Go.Proofs.YtgnoakidjnilpaaGreat
open Go.RowKit

theorem half_put (bs l : List UInt8) (a t i : Nat) (h : a + l.length ≤ bs.length) (hi : i < 32) (hn : a + l.length ≤ t * 64 ∨ (t + 1) * 64 ≤ a) : half (putAt bs a l) t i = half bs t i := by
  unfold half
  congr 1
  apply List.ext_getElem?
  intro j
  rw [List.getElem?_take, List.getElem?_take]
  by_cases hj : j < 2
  · rw [if_pos hj, if_pos hj, List.getElem?_drop, List.getElem?_drop, putAt_get? _ _ _ h, if_neg (by omega)]
  · rw [if_neg hj, if_neg hj]

/-- A memory whose tables are the example's. -/
def Tab (bs : List UInt8) : Prop := bs.length = 1024 ∧ ∀ i, i < 32 → half bs 3 i = half (pB exP 3) 3 i ∧ half bs 4 i = half (pB exP 3) 4 i

theorem tab_base : Tab (pB exP 3) := ⟨by decide +kernel, fun _ _ => ⟨rfl, rfl⟩⟩

theorem tab_put {bs : List UInt8} (h : Tab bs) {a : Nat} {l : List UInt8} (ha : a + l.length ≤ 192) : Tab (putAt bs a l) := by
  obtain ⟨h1, h2⟩ := h
  refine ⟨by rw [length_putAt, h1], fun i hi => ?_⟩
  rw [half_put bs l a 3 i (by omega) hi (Or.inl (by omega)), half_put bs l a 4 i (by omega) hi (Or.inl (by omega))]
  exact h2 i hi

theorem tab_store {bs : List UInt8} (h : Tab bs) {a : Nat} (ha : a + 4 ≤ 192) (v : Nat) : Tab (storeB bs (a : Int) 4 16 v) := by
  unfold storeB
  split
  · exact tab_put h (by rw [length_bytesOf]; simpa using ha)
  · exact h

theorem tab_ex (W : Nat) : Tab (exB W) := tab_store (tab_store tab_base (a := 64) (by decide) W) (a := 128) (by decide) 77

theorem base_0 : single (pB exP 3) 16 3 0 = ⟨1, 5, f0⟩ := by kernel_rfl
theorem base_1 : single (pB exP 3) 16 3 1 = ⟨2, 3, f0⟩ := by kernel_rfl
theorem base_df0 : df (ew (pB exP 3) 3 0 0) = 4 := by kernel_rfl
theorem base_df1 : df (ew (pB exP 3) 3 1 0) = 4 := by kernel_rfl

theorem tab_single {bs : List UInt8} (h : Tab bs) : single bs 16 3 0 = ⟨1, 5, f0⟩ ∧ single bs 16 3 1 = ⟨2, 3, f0⟩ := by
  refine ⟨?_, ?_⟩
  · rw [← base_0]
    refine single_blind (fun i hi => (h.2 i hi).1) (fun _ _ i hi => ?_)
    rw [base_df0]
    exact (h.2 i hi).2
  · rw [← base_1]
    refine single_blind (fun i hi => (h.2 i hi).1) (fun _ _ i hi => ?_)
    rw [base_df1]
    exact (h.2 i hi).2

theorem tab_nested {bs : List UInt8} (h : Tab bs) : nested bs 16 (-1) 3 0 4 = ⟨1, 5, f0⟩ ∧ nested bs 16 (-1) 3 1 1 = ⟨2, 3, f0⟩ ∧ nested bs 16 (-1) 3 1 2 = ⟨2, 3, f0⟩ := by
  obtain ⟨s0, s1⟩ := tab_single h
  have e : ∀ page want : Int, isP page = true → isR want = true → nested bs 16 (-1) 3 page want = granted bs 16 3 page want := fun p q a b => by
    unfold nested; rw [if_neg (by simp [a, b]), if_pos (by decide)]
  refine ⟨?_, ?_, ?_⟩
  · rw [e 0 4 (by decide) (by decide), granted_mk (by rw [s0]; rfl) (by rw [s0]; decide), s0]
  · rw [e 1 1 (by decide) (by decide), granted_mk (by rw [s1]; rfl) (by rw [s1]; decide), s1]
  · rw [e 1 2 (by decide) (by decide), granted_mk (by rw [s1]; rfl) (by rw [s1]; decide), s1]

/-- The lines of the example's space are its two pages'. -/
def Sp (T : Nat → Ln) : Prop := ∀ j, j < 8 → emp (T j) = false → (T j).v = 1 → (T j).a = 0 → ((T j).p = 0 ∧ (T j).f = 1 ∧ (T j).r = 5) ∨ ((T j).p = 1 ∧ (T j).f = 2 ∧ (T j).r = 3)

theorem sp_zero : Sp (fun _ => zl) := fun _ _ h => absurd (show emp zl = false from h) (by decide)

theorem sp_sok {bs : List UInt8} {T : Nat → Ln} (h : Tab bs) (s : Sp T) : Sok bs 1 0 (-1) 3 T := fun j hj he hv ha => by
  obtain ⟨n0, n1, _⟩ := tab_nested h
  rcases s j hj he hv ha with ⟨a, b, c⟩ | ⟨a, b, c⟩
  · exact ⟨4, by rw [a, n0]; rfl, by rw [a, n0, b], by rw [a, n0, c]⟩
  · exact ⟨1, by rw [a, n1]; rfl, by rw [a, n1, b], by rw [a, n1, c]⟩

theorem sp_reach {bs : List UInt8} {T : Nat → Ln} (h : Tab bs) (s : Sp T) (page want ix : Int) (hq : (page = 0 ∧ want = 4) ∨ (page = 1 ∧ (want = 1 ∨ want = 2))) : Sp (reachT bs 16 T 1 0 (-1) 3 page want ix) := by
  obtain ⟨n0, n1, n2⟩ := tab_nested h
  have key' : nested bs 16 (-1) 3 page want = ⟨1, 5, f0⟩ ∧ page = 0 ∨ nested bs 16 (-1) 3 page want = ⟨2, 3, f0⟩ ∧ page = 1 := by
    rcases hq with ⟨rfl, rfl⟩ | ⟨rfl, rfl | rfl⟩
    · exact Or.inl ⟨n0, rfl⟩
    · exact Or.inr ⟨n1, rfl⟩
    · exact Or.inr ⟨n2, rfl⟩
  unfold reachT
  split
  · exact s
  · split
    · unfold fillT
      cases inB ix 0 7 && rightL ⟨1, 0, page, (nested bs 16 (-1) 3 page want).fr, (nested bs 16 (-1) 3 page want).ri⟩
      · exact s
      · intro j hj he hv ha
        by_cases hi : j = ix.toNat
        · subst hi
          have e : ∀ (U : Nat → Ln) (l : Ln), upd U ix.toNat l ix.toNat = l := fun U l => upd_same U _ l
          simp only [cond_true, filled] at he hv ha ⊢
          rw [e] at he hv ha ⊢
          rcases key' with ⟨a, b⟩ | ⟨a, b⟩
          · exact Or.inl ⟨b, by rw [a], by rw [a]⟩
          · exact Or.inr ⟨b, by rw [a], by rw [a]⟩
        · simp only [cond_true, filled] at he hv ha ⊢
          rw [upd_other _ _ hi] at he hv ha ⊢
          rcases wipe_cases (fun x => key x ⟨1, 0, page, (nested bs 16 (-1) 3 page want).fr, (nested bs 16 (-1) 3 page want).ri⟩) T j with ⟨e, _⟩ | ⟨e, _⟩
          · rw [e] at he; exact absurd he (by decide)
          · rw [e] at he hv ha ⊢; exact s j hj he hv ha
    · exact s

/-- Where the two pages of the example's space lie, whatever its buffer remembers. -/
theorem sp_rc {M : Mc} (h : Tab M.bs) (s : Sp M.T) : rcF M 16 1 0 (-1) 3 0 4 = f0 ∧ rcP M 16 1 0 (-1) 3 0 4 = 64 ∧
    ∀ ad want : Int, 64 ≤ ad → ad < 128 → (want = 1 ∨ want = 2) → rcF M 16 1 0 (-1) 3 ad want = f0 ∧ rcP M 16 1 0 (-1) 3 ad want = ad + 64 := by
  obtain ⟨n0, n1, n2⟩ := tab_nested h
  have k := sp_sok h s
  obtain ⟨a1, a2⟩ := sok_same k 0 4
  have e0 : rcF M 16 1 0 (-1) 3 0 4 = f0 := by
    unfold rcF
    rw [show (0 : Int) / 64 = 0 by decide, a1, a2, n0]
    rfl
  refine ⟨e0, ?_, fun ad want h1 h2 hw => ?_⟩
  · unfold rcP
    rw [e0, show (0 : Int) / 64 = 0 by decide, a1, n0]
    rfl
  · have ep : ad / 64 = 1 := by omega
    have nn : nested M.bs 16 (-1) 3 1 want = ⟨2, 3, f0⟩ := by rcases hw with rfl | rfl; exact n1; exact n2
    obtain ⟨b1, b2⟩ := sok_same k 1 want
    have e1 : rcF M 16 1 0 (-1) 3 ad want = f0 := by
      unfold rcF
      rw [ep, b1, b2, nn]
      rfl
    refine ⟨e1, ?_⟩
    unfold rcP
    rw [e1, ep, b1, nn, if_neg (by decide)]
    show (2 : Int) * 64 + ad % 64 = ad + 64
    omega

end Go.Proofs.YtgnoakidjnilpaaGreat

/- CpuReckP -/
namespace Go.Proofs.YtgnoakidjnilpaaGreat
open Go.RowKit

/-- What is reckoned. -/
def rk (o i x y : Nat) : Nat := if o = 1 then i else if o = 2 then gAdd x y else if o = 3 then gSub x y else if o = 4 then gAnd x y else if o = 5 then gXor x y else gShl x y
def WR (o a b c i : Nat) : Nat := ((o * 16 + a) * 16 + b) * 65536 + c + i

theorem right1 {a i : Nat} (ha : a < 16) (hi : i < 65536) : rightI (1 : Nat) (a : Int) (0 : Nat) (0 : Nat) (i : Int) = true := by
  simp [rightI, kf, hA, hB, hC, hI, fld]
  omega
theorem right2 {o a b c : Nat} (h1 : 2 ≤ o) (h2 : o ≤ 6) (ha : a < 16) (hb : b < 16) (hc : c < 16) : rightI (o : Int) (a : Int) (b : Int) (c : Int) (0 : Nat) = true := by
  have hk : kf (o : Int) = 2 := by
    unfold kf
    rw [if_neg (by omega), if_pos (by omega)]
  unfold rightI
  rw [hk]
  simp [hA, hB, hC, hI, fld]
  omega

theorem wr_word (o a b c i : Nat) : ((WR o a b c i : Nat) : Int) = wordI o a b c i := by unfold WR wordI; omega
theorem encR {o a b c i : Nat} (h : rightI (o : Int) a b c i = true) : i_encW o a b c i = (WR o a b c i : Int) := by
  unfold i_encW
  rw [if_pos h, wr_word]
theorem decR {o a b c i : Nat} (h : rightI (o : Int) a b c i = true) : i_decOk (WR o a b c i : Int) = true := by
  obtain ⟨h1, h2, h3, h4, h5, h6⟩ := i_dec_back h
  rw [wr_word]
  cases hd : i_decOk (wordI o a b c i) with
  | true => rfl
  | false => unfold dE at h6; rw [if_neg (by rw [hd]; decide)] at h6; exact absurd h6 (by decide)
theorem exXR {o a b c i : Nat} (h : rightI (o : Int) a b c i = true) (z : Cp) : exX (WR o a b c i) z = ⟨0, 0, none, 1, 0, -1, 3, 0, 0, WR o a b c i, o, a, b, c, i, z.setP 4⟩ := by
  obtain ⟨h1, h2, h3, h4, h5, h6⟩ := i_dec_back h
  unfold exX
  rw [wr_word, h1, h2, h3, h4, h5]
  simp only [Int.toNat_natCast]

theorem exec_1 {nf : Nat} {M : Mc} {X : Wk} (h : X.op = 1) : exec nf M X = (M, X.setZ (X.z.setR X.a X.imm), t0) := by
  unfold exec
  rw [h]
  rfl
theorem rk_1 (i x y : Nat) : rk 1 i x y = i := by unfold rk; rw [if_pos rfl]
theorem exec_2 {nf : Nat} {M : Mc} {X : Wk} (h : X.op = 2) : exec nf M X = (M, X.setZ (X.z.setR X.a (gAdd (X.z.r X.b) (X.z.r X.c))), t0) := by
  unfold exec
  rw [h]
  rfl
theorem rk_2 (i x y : Nat) : rk 2 i x y = gAdd x y := by unfold rk; rw [if_neg (by decide), if_pos rfl]
theorem exec_3 {nf : Nat} {M : Mc} {X : Wk} (h : X.op = 3) : exec nf M X = (M, X.setZ (X.z.setR X.a (gSub (X.z.r X.b) (X.z.r X.c))), t0) := by
  unfold exec
  rw [h]
  rfl
theorem rk_3 (i x y : Nat) : rk 3 i x y = gSub x y := by unfold rk; rw [if_neg (by decide), if_neg (by decide), if_pos rfl]
theorem exec_4 {nf : Nat} {M : Mc} {X : Wk} (h : X.op = 4) : exec nf M X = (M, X.setZ (X.z.setR X.a (gAnd (X.z.r X.b) (X.z.r X.c))), t0) := by
  unfold exec
  rw [h]
  rfl
theorem rk_4 (i x y : Nat) : rk 4 i x y = gAnd x y := by unfold rk; rw [if_neg (by decide), if_neg (by decide), if_neg (by decide), if_pos rfl]
theorem exec_5 {nf : Nat} {M : Mc} {X : Wk} (h : X.op = 5) : exec nf M X = (M, X.setZ (X.z.setR X.a (gXor (X.z.r X.b) (X.z.r X.c))), t0) := by
  unfold exec
  rw [h]
  rfl
theorem rk_5 (i x y : Nat) : rk 5 i x y = gXor x y := by unfold rk; rw [if_neg (by decide), if_neg (by decide), if_neg (by decide), if_neg (by decide), if_pos rfl]
theorem exec_6 {nf : Nat} {M : Mc} {X : Wk} (h : X.op = 6) : exec nf M X = (M, X.setZ (X.z.setR X.a (gShl (X.z.r X.b) (X.z.r X.c))), t0) := by
  unfold exec
  rw [h]
  rfl
theorem rk_6 (i x y : Nat) : rk 6 i x y = gShl x y := by unfold rk; rw [if_neg (by decide), if_neg (by decide), if_neg (by decide), if_neg (by decide), if_neg (by decide)]
theorem exec_rk {nf : Nat} {M : Mc} {X : Wk} (h1 : 1 ≤ X.op) (h6 : X.op ≤ 6) : exec nf M X = (M, X.setZ (X.z.setR X.a (rk X.op X.imm (X.z.r X.b) (X.z.r X.c))), t0) := by
  have h : X.op = 1 ∨ X.op = 2 ∨ X.op = 3 ∨ X.op = 4 ∨ X.op = 5 ∨ X.op = 6 := by omega
  rcases h with h | h | h | h | h | h
  · rw [exec_1 h, h, rk_1]
  · rw [exec_2 h, h, rk_2]
  · rw [exec_3 h, h, rk_3]
  · rw [exec_4 h, h, rk_4]
  · rw [exec_5 h, h, rk_5]
  · rw [exec_6 h, h, rk_6]

theorem reck_step {o a b c i : Nat} (h : rightI (o : Int) a b c i = true) (h1 : 1 ≤ o) (h6 : o ≤ 6) (hW : WR o a b c i < 4294967296) (z : Cp) (hp : z.pc = 0) :
    (stepR 16 (M0 (exB (WR o a b c i)) false) z 1 3 0).2.1 = (z.setP 4).setR a (rk o i (z.r b) (z.r c)) ∧ (stepR 16 (M0 (exB (WR o a b c i)) false) z 1 3 0).2.2 = t0 := by
  have e := exXR h z
  have eo : (exX (WR o a b c i) z).op = o := by rw [e]
  have ea : (exX (WR o a b c i) z).a = a := by rw [e]
  have eb : (exX (WR o a b c i) z).b = b := by rw [e]
  have ec : (exX (WR o a b c i) z).c = c := by rw [e]
  have ei : (exX (WR o a b c i) z).imm = i := by rw [e]
  have ez : (exX (WR o a b c i) z).z = z.setP 4 := by rw [e]
  have hg : isG (exX (WR o a b c i) z).op = false := by
    rw [eo]
    unfold isG
    simp
    omega
  have hs := ex_step (WR o a b c i) hW (decR h) false z hp (by unfold spF; rw [if_neg (by simp)]) (by unfold spA; rw [if_neg (by simp)]) (Or.inl hg)
  have hx := exec_rk (nf := 16) (M := exM (WR o a b c i) false) (X := exX (WR o a b c i) z) (by rw [eo]; exact h1) (by rw [eo]; exact h6)
  rw [eo, ea, eb, ec, ei, ez] at hx
  rw [hs, hx]
  refine ⟨?_, rfl⟩
  show stC z (exM (WR o a b c i) false, (exX (WR o a b c i) z).setZ ((z.setP 4).setR a (rk o i ((z.setP 4).r b) ((z.setP 4).r c))), t0) = _
  unfold stC
  refine (if_pos (Or.inl ?_)).trans ?_
  · rfl
  · rfl

end Go.Proofs.YtgnoakidjnilpaaGreat

/- CpuBackQ -/
namespace Go.Proofs.YtgnoakidjnilpaaGreat
open Go.RowKit

theorem put_same (bs l : List UInt8) (a : Nat) (h : a + l.length ≤ bs.length) : ((putAt bs a l).drop a).take l.length = l := by
  apply List.ext_getElem?
  intro j
  rw [List.getElem?_take]
  by_cases hj : j < l.length
  · rw [if_pos hj, List.getElem?_drop, putAt_get? _ _ _ h, if_pos (by omega), show a + j - a = j by omega]
  · rw [if_neg hj, List.getElem?_eq_none (by omega)]

theorem put_far (bs l : List UInt8) (a b n : Nat) (h : a + l.length ≤ bs.length) (hn : b + n ≤ a ∨ a + l.length ≤ b) : ((putAt bs a l).drop b).take n = (bs.drop b).take n := by
  apply List.ext_getElem?
  intro j
  rw [List.getElem?_take, List.getElem?_take]
  by_cases hj : j < n
  · rw [if_pos hj, if_pos hj, List.getElem?_drop, List.getElem?_drop, putAt_get? _ _ _ h, if_neg (by omega)]
  · rw [if_neg hj, if_neg hj]

theorem store_eq (bs : List UInt8) (a v : Nat) (h4 : a % 4 = 0) (ha : a + 4 ≤ 1024) : storeB bs (a : Int) 4 16 v = putAt bs a (bytesOf 4 v) := by
  have he : errOf (a : Int) 4 16 = 0 := by
    unfold errOf
    rw [if_neg (by omega), if_neg (by rw [Int.tmod_eq_emod_of_nonneg (by omega)]; omega), if_neg (by omega)]
  unfold storeB
  rw [if_pos he]
  rfl

theorem load_eq (bs : List UInt8) (a : Nat) (h4 : a % 4 = 0) (ha : a + 4 ≤ 1024) : loadV bs (a : Int) 4 16 = ((numOf ((bs.drop a).take 4) : Nat) : Int) := by
  have he : errOf (a : Int) 4 16 = 0 := by
    unfold errOf
    rw [if_neg (by omega), if_neg (by rw [Int.tmod_eq_emod_of_nonneg (by omega)]; omega), if_neg (by omega)]
  unfold loadV
  rw [if_pos he]
  rfl

theorem load_eq1 (bs : List UInt8) (a : Nat) (ha : a + 1 ≤ 1024) : loadV bs (a : Int) 1 16 = ((numOf ((bs.drop a).take 1) : Nat) : Int) := by
  have he : errOf (a : Int) 1 16 = 0 := by
    unfold errOf
    rw [if_neg (by omega), if_neg (by rw [Int.tmod_eq_emod_of_nonneg (by omega)]; omega), if_neg (by omega)]
  unfold loadV
  rw [if_pos he]
  rfl

/-- A memory of the example's tables that holds the word w at its place, and the word V at the begin of its code. -/
structure Hw (bs : List UInt8) (p w V : Nat) : Prop where
  tab : Tab bs
  data : (bs.drop (128 + 4 * p)).take 4 = bytesOf 4 w
  code : loadV bs 64 4 16 = (V : Int)

theorem hw_code {bs : List UInt8} {p w : Nat} (ht : Tab bs) (hd : (bs.drop (128 + 4 * p)).take 4 = bytesOf 4 w) (V : Nat) (hV : V < 4294967296) : Hw (storeB bs 64 4 16 V) p w V := by
  have e := store_eq bs 64 V (by decide) (by decide)
  have hl : (bytesOf 4 V).length = 4 := length_bytesOf 4 V
  refine ⟨tab_store ht (a := 64) (by decide) V, ?_, ?_⟩
  · rw [show (64 : Int) = ((64 : Nat) : Int) by rfl, e, put_far _ _ _ _ _ (by rw [hl, ht.1]; decide) (Or.inr (by rw [hl]; omega))]
    exact hd
  · rw [show (64 : Int) = ((64 : Nat) : Int) by rfl, e, load_eq _ _ (by decide) (by decide)]
    have := put_same bs (bytesOf 4 V) 64 (by rw [hl, ht.1]; decide)
    rw [hl] at this
    rw [this, numOf_bytesOf, Nat.mod_eq_of_lt (by simpa using hV)]

/-- The state that the law begins from. -/
def bin0 (w : Nat) : Cp := (zc.setR 1 64).setR 2 w

theorem back_step {M : Mc} (hT : Tab M.bs) (hS : Sp M.T) (hV : M.V = none) {o a b c i : Nat} (hr : rightI (o : Int) a b c i = true) (hW : loadV M.bs 64 4 16 = ((WR o a b c i : Nat) : Int)) (hg : isG o = false) (z : Cp) (hp : z.pc = 0) :
    stepR 16 M z 1 3 0 = ((exec 16 (rcM M 16 1 0 (-1) 3 0 4 0) (exX (WR o a b c i) z)).1, stC z (exec 16 (rcM M 16 1 0 (-1) 3 0 4 0) (exX (WR o a b c i) z)), (exec 16 (rcM M 16 1 0 (-1) 3 0 4 0) (exX (WR o a b c i) z)).2.2) := by
  obtain ⟨r0, r1, _⟩ := sp_rc hT hS
  have hb : ¬ z.bad := by unfold Cp.bad; rw [hp]; decide
  have hw : wkP M.V.isSome z 1 3 0 = ⟨0, 0, none, 1, 0, -1, 3, 0, 0, 0, 0, 0, 0, 0, 0, z.setP 4⟩ := by
    rw [hV]; unfold wkP spF spA; rw [if_neg (by simp), if_neg (by simp), hp]; rfl
  have hfx : fX 16 M (wkP M.V.isSome z 1 3 0) = ⟨0, 0, none, 1, 0, -1, 3, 0, 0, WR o a b c i, 0, 0, 0, 0, 0, z.setP 4⟩ := by
    rw [hw]
    unfold fX
    show ({ p := 0, t := 0, v := none, vm := 1, sd := 0, fi := -1, se := 3, ix := 0, pc := 0, wd := (loadV M.bs (rcP M 16 1 0 (-1) 3 0 4) 4 16).toNat, op := 0, a := 0, b := 0, c := 0, imm := 0, z := z.setP 4 } : Wk) = _
    rw [r1, hW, Int.toNat_natCast]
  have hD : doR 16 M (wkP M.V.isSome z 1 3 0) = exec 16 (rcM M 16 1 0 (-1) 3 0 4 0) (exX (WR o a b c i) z) := by
    unfold doR
    rw [hfx, hw]
    show (if (rcF M 16 1 0 (-1) 3 0 4).k ≠ 0 then _ else if i_decOk ((WR o a b c i : Nat) : Int) = false then _ else if isG (exX (WR o a b c i) z).op = true ∧ M.V = none then _ else exec 16 (rcM M 16 1 0 (-1) 3 0 4 0) (exX (WR o a b c i) z)) = _
    rw [r0, if_neg (by decide), if_neg (by rw [decR hr]; decide), if_neg ?_]
    rintro ⟨h1, _⟩
    rw [exXR hr] at h1
    rw [hg] at h1
    exact absurd h1 (by decide)
  unfold stepR
  rw [if_neg hb, hD]

theorem sp_after {M : Mc} (hT : Tab M.bs) (hS : Sp M.T) : Tab (rcM M 16 1 0 (-1) 3 0 4 0).bs ∧ Sp (rcM M 16 1 0 (-1) 3 0 4 0).T ∧ (rcM M 16 1 0 (-1) 3 0 4 0).bs = M.bs ∧ (rcM M 16 1 0 (-1) 3 0 4 0).V = M.V := by
  refine ⟨hT, ?_, rfl, rfl⟩
  show Sp (reachT M.bs 16 M.T 1 0 (-1) 3 (0 / 64) 4 0)
  exact sp_reach hT hS _ _ _ (Or.inl ⟨by decide, rfl⟩)

theorem right_b {o a b i : Nat} (ho : o = 7 ∨ o = 8 ∨ o = 9) (ha : a < 16) (hb : b < 16) (hi : i < 65536) : rightI (o : Int) (a : Int) (b : Int) ((0 : Nat) : Int) (i : Int) = true := by
  rcases ho with rfl | rfl | rfl
  all_goals
    simp [rightI, kf, hA, hB, hC, hI, fld]
    omega

theorem exec_7 {M : Mc} {X : Wk} (h : X.op = 7) : exec 16 M X = (dM M 16 X 4 1, ldX M 16 X 4, dT M 16 X 4 1 2) := by unfold exec; rw [h]; rfl
theorem exec_8 {M : Mc} {X : Wk} (h : X.op = 8) : exec 16 M X = (stM M 16 X 4, X, dT M 16 X 4 2 3) := by unfold exec; rw [h]; rfl
theorem exec_9 {M : Mc} {X : Wk} (h : X.op = 9) : exec 16 M X = (dM M 16 X 1 1, ldX M 16 X 1, dT M 16 X 1 1 2) := by unfold exec; rw [h]; rfl

/-- An access of the example's data, whatever its buffer remembers. -/
theorem data_ok {M : Mc} (hT : Tab M.bs) (hS : Sp M.T) {X : Wk} (hv : X.vm = 1) (hs : X.sd = 0) (hf : X.fi = -1) (he : X.se = 3) {size want cause : Int} {q : Nat} (ha : X.ad = (q : Int)) (h1 : 64 ≤ q) (h2 : q < 128) (hm : (q : Int) % size = 0) (hw : want = 1 ∨ want = 2) :
    dT M 16 X size want cause = _root_.Go.Proofs.YtgnoakidjnilpaaGreat.t0 ∧ dP M 16 X size want = ((q + 64 : Nat) : Int) ∧ (dM M 16 X size want).bs = M.bs ∧ (dM M 16 X size want).V = M.V ∧ Sp (dM M 16 X size want).T := by
  obtain ⟨_, _, r2⟩ := sp_rc hT hS
  obtain ⟨f1, p1⟩ := r2 (q : Int) want (by omega) (by omega) hw
  refine ⟨?_, ?_, ?_, ?_, ?_⟩
  · unfold dT; rw [ha, hv, hs, hf, he, if_neg (by simpa using hm), f1]; rfl
  · unfold dP; rw [ha, hv, hs, hf, he, if_neg (by simpa using hm), p1]; omega
  · unfold dM; split <;> rfl
  · unfold dM; split <;> rfl
  · unfold dM
    rw [ha, hv, hs, hf, he, if_neg (by simpa using hm)]
    show Sp (reachT M.bs 16 M.T 1 0 (-1) 3 ((q : Int) / 64) want X.ix)
    exact sp_reach hT hS _ _ _ (Or.inr ⟨by omega, hw⟩)

theorem bin0_b (w : Nat) : ((bin0 w).setP 4).r 1 = 64 := rfl
theorem bin0_a (w : Nat) : ((bin0 w).setP 4).r 2 = w := rfl

theorem back_str {M : Mc} (hT : Tab M.bs) (hS : Sp M.T) (hV : M.V = none) {p w : Nat} (hp : p ≤ 15) (hW : loadV M.bs 64 4 16 = ((WR 8 2 1 0 (4 * p) : Nat) : Int)) :
    (stepR 16 M (bin0 w) 1 3 0).2.2 = _root_.Go.Proofs.YtgnoakidjnilpaaGreat.t0 ∧ (stepR 16 M (bin0 w) 1 3 0).1.V = none ∧ Sp (stepR 16 M (bin0 w) 1 3 0).1.T ∧ Tab (stepR 16 M (bin0 w) 1 3 0).1.bs ∧ ((stepR 16 M (bin0 w) 1 3 0).1.bs.drop (128 + 4 * p)).take 4 = bytesOf 4 w := by
  have hr := right_b (o := 8) (a := 2) (b := 1) (i := 4 * p) (Or.inr (Or.inl rfl)) (by decide) (by decide) (by omega)
  have e := back_step hT hS hV hr hW (by decide) (bin0 w) rfl
  obtain ⟨t1, s1, b1, v1⟩ := sp_after hT hS
  have hx := exXR hr (bin0 w)
  have ho : (exX (WR 8 2 1 0 (4 * p)) (bin0 w)).op = 8 := by rw [hx]
  have ha : (exX (WR 8 2 1 0 (4 * p)) (bin0 w)).ad = ((64 + 4 * p : Nat) : Int) := by
    rw [hx]; unfold Wk.ad; dsimp only; rw [bin0_b]; omega
  obtain ⟨d1, d2, d3, d4, d5⟩ := data_ok t1 s1 (X := exX (WR 8 2 1 0 (4 * p)) (bin0 w)) (by rw [hx]) (by rw [hx]) (by rw [hx]) (by rw [hx]) (size := 4) (want := 2) (cause := 3) ha (by omega) (by omega) (by omega) (Or.inr rfl)
  have hq : (exX (WR 8 2 1 0 (4 * p)) (bin0 w)).z.r (exX (WR 8 2 1 0 (4 * p)) (bin0 w)).a = w := by rw [hx]; exact bin0_a w
  have hs : stM (rcM M 16 1 0 (-1) 3 0 4 0) 16 (exX (WR 8 2 1 0 (4 * p)) (bin0 w)) 4 = { dM (rcM M 16 1 0 (-1) 3 0 4 0) 16 (exX (WR 8 2 1 0 (4 * p)) (bin0 w)) 4 2 with bs := putAt M.bs (128 + 4 * p) (bytesOf 4 w) } := by
    unfold stM
    rw [d1, if_neg (by decide), d2, hq, b1, show 64 + 4 * p + 64 = 128 + 4 * p by omega, store_eq _ _ _ (by omega) (by omega)]
  rw [e, exec_8 ho, hs]
  have hl : (bytesOf 4 w).length = 4 := length_bytesOf 4 w
  refine ⟨d1, ?_, d5, ?_, ?_⟩
  · show (dM (rcM M 16 1 0 (-1) 3 0 4 0) 16 (exX (WR 8 2 1 0 (4 * p)) (bin0 w)) 4 2).V = none
    rw [d4, v1, hV]
  · exact tab_put hT (by rw [hl]; omega)
  · have := put_same M.bs (bytesOf 4 w) (128 + 4 * p) (by rw [hl, hT.1]; omega)
    rw [hl] at this
    exact this

theorem back_load {M : Mc} (hS : Sp M.T) (hV : M.V = none) {o p w i V : Nat} {size : Int} (hp : p ≤ 15) (hi : i < 4) (ho : o = 7 ∧ size = 4 ∧ i = 0 ∨ o = 9 ∧ size = 1) (hH : Hw M.bs p w (WR o 3 1 0 (4 * p + i)))
    (hv : loadV M.bs ((128 + 4 * p + i : Nat) : Int) size 16 = (V : Int)) :
    (stepR 16 M (bin0 w) 1 3 0).2.2 = _root_.Go.Proofs.YtgnoakidjnilpaaGreat.t0 ∧ (stepR 16 M (bin0 w) 1 3 0).1.V = none ∧ Sp (stepR 16 M (bin0 w) 1 3 0).1.T ∧ (stepR 16 M (bin0 w) 1 3 0).1.bs = M.bs ∧ (stepR 16 M (bin0 w) 1 3 0).2.1.r 3 = V := by
  have hr := right_b (o := o) (a := 3) (b := 1) (i := 4 * p + i) (by omega) (by decide) (by decide) (by omega)
  have hg : isG o = false := by rcases ho with ⟨rfl, _⟩ | ⟨rfl, _⟩ <;> decide
  have e := back_step hH.tab hS hV hr hH.code hg (bin0 w) rfl
  obtain ⟨t1, s1, b1, v1⟩ := sp_after hH.tab hS
  have hx := exXR hr (bin0 w)
  have ha : (exX (WR o 3 1 0 (4 * p + i)) (bin0 w)).ad = ((64 + 4 * p + i : Nat) : Int) := by
    rw [hx]; unfold Wk.ad; dsimp only; rw [bin0_b]; omega
  have hm : ((64 + 4 * p + i : Nat) : Int) % size = 0 := by rcases ho with ⟨_, rfl, rfl⟩ | ⟨_, rfl⟩ <;> omega
  obtain ⟨d1, d2, d3, d4, d5⟩ := data_ok t1 s1 (X := exX (WR o 3 1 0 (4 * p + i)) (bin0 w)) (by rw [hx]) (by rw [hx]) (by rw [hx]) (by rw [hx]) (size := size) (want := 1) (cause := 2) ha (by omega) (by omega) hm (Or.inl rfl)
  have hl : ldX (rcM M 16 1 0 (-1) 3 0 4 0) 16 (exX (WR o 3 1 0 (4 * p + i)) (bin0 w)) size = { exX (WR o 3 1 0 (4 * p + i)) (bin0 w) with z := (exX (WR o 3 1 0 (4 * p + i)) (bin0 w)).z.setR 3 V } := by
    unfold ldX
    rw [d1, if_neg (by decide), d2, b1, show 64 + 4 * p + i + 64 = 128 + 4 * p + i by omega, hv, Int.toNat_natCast]
    rw [hx]
  have hE : exec 16 (rcM M 16 1 0 (-1) 3 0 4 0) (exX (WR o 3 1 0 (4 * p + i)) (bin0 w)) = (dM (rcM M 16 1 0 (-1) 3 0 4 0) 16 (exX (WR o 3 1 0 (4 * p + i)) (bin0 w)) size 1, ldX (rcM M 16 1 0 (-1) 3 0 4 0) 16 (exX (WR o 3 1 0 (4 * p + i)) (bin0 w)) size, dT (rcM M 16 1 0 (-1) 3 0 4 0) 16 (exX (WR o 3 1 0 (4 * p + i)) (bin0 w)) size 1 2) := by
    rcases ho with ⟨rfl, rfl, _⟩ | ⟨rfl, rfl⟩
    · exact exec_7 (by rw [hx])
    · exact exec_9 (by rw [hx])
  rw [e, hE, hl]
  refine ⟨d1, d4.trans (v1.trans hV), d5, d3.trans b1, ?_⟩
  unfold stC
  dsimp only
  rw [d1, if_pos (show _root_.Go.Proofs.YtgnoakidjnilpaaGreat.t0.ca = 0 ∨ _root_.Go.Proofs.YtgnoakidjnilpaaGreat.t0.ca = 10 from Or.inl rfl)]
  rfl

theorem word_load {bs : List UInt8} {p w V : Nat} (h : Hw bs p w V) (hp : p ≤ 15) (hw : w < 4294967296) : loadV bs ((128 + 4 * p + 0 : Nat) : Int) 4 16 = (w : Int) := by
  rw [Nat.add_zero, load_eq _ _ (by omega) (by omega), h.data, numOf_bytesOf, Nat.mod_eq_of_lt (by simpa using hw)]

theorem bytesOf_at : ∀ (i w : Nat), i < 4 → ((bytesOf 4 w).drop i).take 1 = [UInt8.ofNat (w / 256 ^ i)] := by
  intro i w hi
  have : i = 0 ∨ i = 1 ∨ i = 2 ∨ i = 3 := by omega
  rcases this with rfl | rfl | rfl | rfl <;> simp [bytesOf, Nat.div_div_eq_div_mul]

theorem byte_load {bs : List UInt8} {p w V i : Nat} (h : Hw bs p w V) (hp : p ≤ 15) (hi : i < 4) : loadV bs ((128 + 4 * p + i : Nat) : Int) 1 16 = ((w / 256 ^ i % 256 : Nat) : Int) := by
  rw [load_eq1 _ _ (by omega)]
  have e : (bs.drop (128 + 4 * p + i)).take 1 = [UInt8.ofNat (w / 256 ^ i)] := by
    rw [← bytesOf_at i w hi, ← h.data, List.drop_take, List.drop_drop, List.take_take, Nat.min_eq_left (by omega)]
  rw [e]
  simp [numOf]

end Go.Proofs.YtgnoakidjnilpaaGreat

/- CpuReckA -/
namespace Go.Proofs.YtgnoakidjnilpaaGreat
open Go.RowKit

/-- Sixteen registers, as cells. -/
def rgA (r : Nat → Nat) : Array Value := ((List.range 16).map (fun i => Value.int .u32 ((r i : Nat) : Int))).toArray

/-- The registers alone. -/
def rcp (r : Nat → Nat) : Cp := ⟨r, 0, fun _ => 0⟩
theorem rcp_ok {r : Nat → Nat} (h : ∀ k, r k < 4294967296) : (rcp r).Ok := ⟨h, fun _ => (by decide : (0 : Nat) < 4294967296)⟩
theorem build_regs (r : Nat → Nat) (w : World) : Sem.run Tryz.prog (Instr.build 30 #[(0, .agg (rgA r))]) w = .ok (.agg (cpA (rcp r))) w := by kernel_rfl
theorem wpList_regs {ops : Array Oper} {rest : List Oper} {o : Oper} {a : Act} {w : World} {Q : Exit → Act → World → Prop} {r : Nat → Nat} (hgd : o.guard = none) (x : Operand) (ho : o.op = .build 30 #[(0, x)]) (hx : a.eval x = .agg (rgA r))
    (h : wpList Tryz.prog ops Q rest (a.put o.dst (.agg (cpA (rcp r)))) w) : wpList Tryz.prog ops Q (o :: rest) a w := by
  refine wpList_plain hgd fun K hK => ?_
  have hb := build_regs r w
  unfold Oper.wp
  simp [execOp, ho, hx, hb, Result.andThen]
  exact hK _ _ h
theorem exSf (w : World) (B : Bm) (bs : List UInt8) (c c' : Cp) (t : Tr) (T : Array Value) (hv : B.v = none) (hok : c.Ok) (hM : IsMc w B 16 (M0 bs false)) (hc : (stepR 16 (M0 bs false) c 1 3 0).2.1 = c' ∧ (stepR 16 (M0 bs false) c 1 3 0).2.2 = t) (hT : trL t = T) :
    Calls Tryz.prog 9 #[.agg #[.pointer (some ⟨B.p, 0, none⟩), .pointer (some ⟨B.bt, 0, none⟩), .pointer none], .agg (cpA c), .int .i64 1, .int .i64 3, .int .i64 0] w fun e w' => e = .returned (.tuple #[.agg (cpA c'), .agg T]) ∧ Fr B.s w w' := by
  have h := Step_any w B 16 (M0 bs false) c hok 1 3 0 hM (M0_few bs false) (by decide)
  rw [hv, hc.1, hc.2, hT] at h
  exact h.mono (fun e w' ⟨a, f, _, o⟩ => ⟨a, f⟩)

theorem size_regs {r : Nat → Nat} : (Tryz.prog.info? 27).map (·.size) = some (rgA r).size := by
  have h : (rgA r).size = 16 := by simp [rgA]
  have e : (Tryz.prog.info? 27).map (·.size) = some 16 := by kernel_rfl
  rw [h, e]

theorem cpA_setR (c : Cp) {a : Nat} (h : a < 16) (v : Nat) : (cpA c).setIfInBounds a (.int .u32 (v : Int)) = cpA (c.setR a v) :=
  match a, h with
  | 0, _ | 1, _ | 2, _ | 3, _ | 4, _ | 5, _ | 6, _ | 7, _ | 8, _ | 9, _ | 10, _ | 11, _ | 12, _ | 13, _ | 14, _ | 15, _ => rfl
  | k + 16, h => absurd h (by omega)
theorem rgA_at (r : Nat → Nat) {k : Nat} (h : k < 16) : (rgA r)[k]? = some (.int .u32 ((r k : Nat) : Int)) := by simp [rgA, h]

end Go.Proofs.YtgnoakidjnilpaaGreat

/- CpuBackA -/
namespace Go.Proofs.YtgnoakidjnilpaaGreat
open Go.RowKit

def bothN (O : Bo) : Array Value := #[.pointer (some ⟨O.B.p, 0, none⟩), .pointer (some ⟨O.B.bt, 0, none⟩), .pointer none, .pointer (some ⟨O.pr, 0, none⟩), .pointer (some ⟨O.bu, 0, none⟩), .pointer none]

structure Rb (w wr : World) (g6 g7 : Nat) (c : Cp) (O : Bo) (M : Mc) : Prop where
  f : Fr none' w wr
  r6 : Row wr g6 (cpA c) 30
  r7 : Row wr g7 (bothN O) 44
  m : IsMc wr O.B 16 M
  s : ∀ k, (O.B.s k ∨ k = O.B.p) → g6 < k ∧ k < g7
  g : w.heap.size ≤ g6 ∧ g6 < g7
  v : O.B.v = none

section
variable {w wr wr' : World} {g6 g7 : Nat} {c : Cp} {O : Bo} {M M' : Mc}
theorem Rb.keep0 (h : Rb w wr g6 g7 c O M) (k : Fr none' wr wr') : Rb w wr' g6 g7 c O M :=
  ⟨h.f.trans k, h.r6.keep k (fun h => h), h.r7.keep k (fun h => h), h.m.keep0 k, h.s, h.g, h.v⟩
theorem Rb.run (h : Rb w wr g6 g7 c O M) (k : Fr O.B.s wr wr') (m : IsMc wr' O.B 16 M') : Rb w wr' g6 g7 c O M' := by
  obtain ⟨h1, h2⟩ := h.g
  have n : ∀ j, j ≤ g6 ∨ g7 ≤ j → ¬ O.B.s j := fun j hj e => by have := h.s j (Or.inl e); omega
  exact ⟨fr_far h.f k (fun j e => by have := h.s j (Or.inl e); omega), h.r6.keep k (n _ (by omega)), h.r7.keep k (n _ (by omega)), m, h.s, h.g, h.v⟩
theorem Rb.mem (h : Rb w wr g6 g7 c O M) (k : Fr (at' O.B.bf) wr wr') {bs : List UInt8} (m : IsRam wr' O.B.p O.B.bf 16 bs) : Rb w wr' g6 g7 c O { M with bs := bs } := by
  have hm : IsMc wr' O.B 16 { M with bs := bs } := ⟨m, h.m.tlb.keep k (fun e => h.m.d2 (Eq.symm e)), h.m.vg.keep k (fun b hb j hj e => h.m.e2 (by have e' : j = O.B.bf := e; rw [← e']; simp only [Bm.g, hb]; exact hj)), h.m.d1, h.m.d2, h.m.d3, h.m.e1, h.m.e2, h.m.e3⟩
  exact h.run (k.mono (fun j _ e => Or.inl e)) hm
end

/-- What a step answers on the machine that the law holds. -/
theorem step_b {w wr : World} {g6 g7 : Nat} {c : Cp} {O : Bo} {M : Mc} (h : Rb w wr g6 g7 c O M) (hok : c.Ok) {n : Nat} (hm : M.few n) (hn : n + 1 < 999990) :
    Calls Tryz.prog 9 #[.agg #[.pointer (some ⟨O.B.p, 0, none⟩), .pointer (some ⟨O.B.bt, 0, none⟩), .pointer none], .agg (cpA c), .int .i64 1, .int .i64 3, .int .i64 0] wr fun e w' => e = .returned (.tuple #[.agg (cpA (stepR 16 M c 1 3 0).2.1), .agg (trL (stepR 16 M c 1 3 0).2.2)]) ∧ Rb w w' g6 g7 c O (stepR 16 M c 1 3 0).1 ∧ Fr O.B.s wr w' := by
  have s := Step_any wr O.B 16 M c hok 1 3 0 h.m hm hn
  rw [h.v] at s
  exact s.mono fun e w' ⟨a, f, m, _⟩ => ⟨a, h.run f m, f⟩

theorem bin0_ok {x : Nat} (h : x < 4294967296) : (bin0 x).Ok := (zc_ok.setR 1 (by decide)).setR 2 h
theorem bin0_A (x : Nat) : ((cpA zc).setIfInBounds 1 (.int .u32 64)).setIfInBounds 2 (.int .u32 (x : Int)) = cpA (bin0 x) := by
  have e1 := cpA_setR zc (a := 1) (by decide) 64
  have e2 := cpA_setR (zc.setR 1 64) (a := 2) (by decide) x
  rw [show (.int .u32 64 : Value) = .int .u32 ((64 : Nat) : Int) by rfl, e1, e2]
  rfl

theorem word_b {o p i : Nat} (ho : o = 7 ∨ o = 8 ∨ o = 9) (a : Nat) (ha : a < 16) (hp : p ≤ 15) (hi : i < 4) : i_encW (o : Int) (a : Int) 1 0 ((4 * p + i : Nat) : Int) = ((WR o a 1 0 (4 * p + i) : Nat) : Int) ∧ WR o a 1 0 (4 * p + i) < 4294967296 ∧ i_encE (o : Int) (a : Int) 1 0 ((4 * p + i : Nat) : Int) = 0 := by
  have hr := right_b (o := o) (a := a) (b := 1) (i := 4 * p + i) ho ha (by decide) (by omega)
  refine ⟨encR hr, ?_, ?_⟩
  · unfold WR; omega
  · unfold i_encE; exact if_pos hr

end Go.Proofs.YtgnoakidjnilpaaGreat

/- CpuBackWalk -/
namespace Go.Proofs.YtgnoakidjnilpaaGreat
open Go.RowKit

theorem and255_b (x : Nat) (h : x < 4294967296) : bits .and .u32 (x : Int) 255 = (x : Int) % 256 := by
  have e : bits .and .u32 (x : Int) 255 = ((x &&& 255 : Nat) : Int) := u32_and_nat x 255 h (by decide)
  rw [e, show x &&& 255 = x % 2 ^ 8 from Nat.and_two_pow_sub_one_eq_mod x 8]
  omega

set_option maxRecDepth 100000 in
set_option maxHeartbeats 8000000 in
theorem back_walk (w : World) (x p : Nat) (hx : x < 4294967296) (hp : p ≤ 15) :
    Calls Tryz.prog 6 #[.int .u32 (x : Int), .int .i64 (p : Int)] w fun e w' => e = .returned (.bool true) ∧ Fr none' w w' := by
  have hz : ∀ w, Sem.run Tryz.prog (zeroValue 30) w = .ok (.agg (cpA zc)) w := zero_cpu
  have u0 : decide ((p : Int) < 0) = false := decide_eq_false (by omega)
  have u15 : decide (15 < (p : Int)) = false := decide_eq_false (by omega)
  have HX : Hid (x < 4294967296 ∧ p ≤ 15) := ⟨hx, hp⟩
  have f0 := Fr.refl none' w
  clear hx
  go_enter Tryz.func6, Tryz.ntmps6
  go_wp2_with fail
  refine (awake_any _).mono ?_
  rintro e w1 ⟨rfl, g1⟩
  replace f0 := f0.trans g1
  clear g1
  have q6 := row_alloc w1 (cpA zc) 30
  have GG : Hid (Fr none' w1 ((w1.alloc (.cells (cpA zc) 30)).setRow w1.heap.size (cpA zc)) ∧ Row ((w1.alloc (.cells (cpA zc) 30)).setRow w1.heap.size (cpA zc)) w1.heap.size (cpA zc) 30) := ⟨((Fr.refl none' w1).alloc _).newer (fr_row _ w1.heap.size (cpA zc)) (Nat.le_refl _), q6.setRow⟩
  go_upto_region 5 with (refine wpList_store_row rfl 30 _ _ rfl w1.heap.size (cpA zc) rfl rfl 30 (cpA zc) q6 (size_cpA zc) rfl (cpA_one zc) ?_)
  clear q6 u0 u15
  obtain ⟨g3, r6⟩ := GG.out
  clear GG
  obtain ⟨w2, hw2⟩ : ∃ q, q = (w1.alloc (.cells (cpA zc) 30)).setRow w1.heap.size (cpA zc) := ⟨_, rfl⟩
  rw [← hw2] at g3 r6 ⊢
  clear hw2
  obtain ⟨g6, hg6⟩ : ∃ q, q = w1.heap.size := ⟨_, rfl⟩
  rw [← hg6] at r6 ⊢
  have H6 : Hid (w.heap.size ≤ g6) := by have := f0.size; show _ ≤ _; omega
  clear hg6
  replace f0 := f0.trans g3
  clear g3
  have c1 : w2.cell? ⟨g6, 1, none⟩ = some (.int .u32 0) := r6.cell 1
  have c2 : w2.cell? ⟨g6, 2, none⟩ = some (.int .u32 0) := r6.cell 2
  have k1 := r6.frozen 1
  have k2 := r6.frozen 2
  go_upto_region 7 with fail
  clear c1 c2 k1 k2
  have r6' : Row ((w2.setCell ⟨g6, 1, none⟩ (.int .u32 64)).setCell ⟨g6, 2, none⟩ (.int .u32 (x : Int))) g6 (cpA (bin0 x)) 30 := by
    have := (r6.setCell 1 (.int .u32 64)).setCell 2 (.int .u32 (x : Int))
    rw [bin0_A] at this
    exact this
  have f1 : Fr none' w ((w2.setCell ⟨g6, 1, none⟩ (.int .u32 64)).setCell ⟨g6, 2, none⟩ (.int .u32 (x : Int))) := (f0.setCell (p := ⟨g6, 1, none⟩) (Or.inl H6.out) _).setCell (p := ⟨g6, 2, none⟩) (Or.inl H6.out) _
  obtain ⟨w3, hw3⟩ : ∃ q, q = (w2.setCell ⟨g6, 1, none⟩ (.int .u32 64)).setCell ⟨g6, 2, none⟩ (.int .u32 (x : Int)) := ⟨_, rfl⟩
  rw [← hw3] at r6' f1 ⊢
  clear hw3 r6 f0
  have HW : Hid (i_encW 8 2 1 0 (4 * (p : Int)) = ((WR 8 2 1 0 (4 * p) : Nat) : Int) ∧ WR 8 2 1 0 (4 * p) < 4294967296) := by
    have h := word_b (o := 8) (p := p) (i := 0) (Or.inr (Or.inl rfl)) 2 (by decide) hp (by decide)
    rw [show ((4 * p + 0 : Nat) : Int) = 4 * (p : Int) by omega] at h
    exact ⟨h.1, h.2.1⟩
  go_wp2_with fail
  refine (example_any _ 8 2 1 0 (4 * (p : Int)) false _ HW.out.1 HW.out.2).mono ?_
  rintro e w4 ⟨s0, s1, rfl, g2, hP, hQ⟩
  replace f1 := f1.trans g2
  replace r6' := r6'.keep g2 (fun h => h)
  clear g2
  go_wp2_with fail
  refine (exmade_f _ _ _ (WR 8 2 1 0 (4 * p)) hP hQ).mono ?_
  rintro e w5 ⟨O, hv, rfl, g2, hB⟩
  obtain ⟨W8, hW8⟩ : ∃ q, q = WR 8 2 1 0 (4 * p) := ⟨_, rfl⟩
  have HW8 : Hid (W8 = WR 8 2 1 0 (4 * p) ∧ W8 < 4294967296) := ⟨hW8, by rw [hW8]; exact HW.out.2⟩
  rw [← hW8] at hB
  clear hW8 HW hP hQ
  have gA := (Fr.refl none' w5).alloc (.cells (bothN O) 44)
  have RB0 : Hid (Rb w (w5.alloc (.cells (bothN O) 44)) g6 w5.heap.size (bin0 x) O (M0 (exB W8) false)) := by
    refine ⟨(f1.trans g2).trans gA, (r6'.keep g2 (fun h => h)).keep gA (fun h => h), row_alloc _ _ _, hB.m.keep0 gA, ?_, ?_, hv⟩
    · intro k hk
      have h1 := hB.in k hk
      have h2 := r6'.lt
      omega
    · have h1 := H6.out
      have h2 := r6'.lt
      have h3 := g2.size
      omega
  clear f1 r6' g2 gA hB hv H6
  go_upto_region 10 with fail
  unfold bothN at RB0
  obtain ⟨w6, hw6⟩ : ∃ q, q = w5.alloc (.cells #[.pointer (some ⟨O.B.p, 0, none⟩), .pointer (some ⟨O.B.bt, 0, none⟩), .pointer none, .pointer (some ⟨O.pr, 0, none⟩), .pointer (some ⟨O.bu, 0, none⟩), .pointer none] 44) := ⟨_, rfl⟩
  rw [← hw6] at RB0 ⊢
  clear hw6
  obtain ⟨g7, hg7⟩ : ∃ q, q = w5.heap.size := ⟨_, rfl⟩
  rw [← hg7] at RB0 ⊢
  clear hg7
  obtain ⟨y0, y1, y2⟩ : w6.cell? ⟨g7, 0, none⟩ = some (.pointer (some ⟨O.B.p, 0, none⟩)) ∧ w6.cell? ⟨g7, 1, none⟩ = some (.pointer (some ⟨O.B.bt, 0, none⟩)) ∧ w6.cell? ⟨g7, 2, none⟩ = some (.pointer none) := ⟨RB0.out.r7.cell 0, RB0.out.r7.cell 1, RB0.out.r7.cell 2⟩
  have r66 := RB0.out.r6
  go_wp2_with (refine wpList_load_part rfl 30 _ rfl g6 rfl (cpA (bin0 x)) _ (cp_at r66) Tryz.underlying30 rfl (size_cpA (bin0 x)) ?_)
  refine (step_b RB0.out (bin0_ok HX.out.1) (M0_few _ _) (by decide)).mono ?_
  rintro e w7 ⟨rfl, RB1, _⟩
  clear y0 y1 y2 r66 RB0
  have BS := back_str (M := M0 (exB W8) false) (tab_ex W8) sp_zero rfl (p := p) (w := x) HX.out.2 (by show loadV (exB W8) 64 4 16 = _; rw [ex_word W8 HW8.out.2, HW8.out.1])
  have BF := few_step (M0_few (exB W8) false) 16 (bin0 x) 1 3 0
  obtain ⟨R, hR⟩ : ∃ R, stepR 16 (M0 (exB W8) false) (bin0 x) 1 3 0 = R := ⟨_, rfl⟩
  rw [hR] at BS BF RB1 ⊢
  clear hR
  obtain ⟨M1, c1, T1⟩ := R
  obtain ⟨rfl, v1, sp1, tb1, da1⟩ := (show T1 = _root_.Go.Proofs.YtgnoakidjnilpaaGreat.t0 ∧ M1.V = none ∧ Sp M1.T ∧ Tab M1.bs ∧ (M1.bs.drop (128 + 4 * p)).take 4 = bytesOf 4 x from BS)
  have HM1 : Hid (M1.V = none ∧ Sp M1.T ∧ Tab M1.bs ∧ (M1.bs.drop (128 + 4 * p)).take 4 = bytesOf 4 x ∧ M1.few 2) := ⟨v1, sp1, tb1, da1, BF⟩
  have HR1 : Hid (Rb w w7 g6 g7 (bin0 x) O (M1)) := RB1
  clear BS BF v1 sp1 tb1 da1 RB1
  have q12 : Row ((w7.alloc (.cells (cpA zc) 30)).alloc (.cells #[.int .i64 0, .int .i64 0, .int .i64 0, .int .i64 0, .int .i64 0, .int .i64 0, .bool false, .int .i64 0] 52)) w7.heap.size (cpA zc) 30 := (row_alloc w7 (cpA zc) 30).alloc _
  have q13 : Row ((w7.alloc (.cells (cpA zc) 30)).alloc (.cells #[.int .i64 0, .int .i64 0, .int .i64 0, .int .i64 0, .int .i64 0, .int .i64 0, .bool false, .int .i64 0] 52)) (w7.heap.size + 1) #[.int .i64 0, .int .i64 0, .int .i64 0, .int .i64 0, .int .i64 0, .int .i64 0, .bool false, .int .i64 0] 52 := row_at (by simp)
  have q13' := q13.keep (fr_row _ w7.heap.size (cpA c1)) (fun e => by have e' : w7.heap.size + 1 = w7.heap.size := e; omega)
  have lp : (cpA zc).size = (cpA c1).size := by rw [cpA_size, cpA_size]
  have GG : Hid (Fr none' w7 ((((w7.alloc (.cells (cpA zc) 30)).alloc (.cells #[.int .i64 0, .int .i64 0, .int .i64 0, .int .i64 0, .int .i64 0, .int .i64 0, .bool false, .int .i64 0] 52)).setRow w7.heap.size (cpA c1)).setRow (w7.heap.size + 1) (trL _root_.Go.Proofs.YtgnoakidjnilpaaGreat.t0)) ∧ Row ((((w7.alloc (.cells (cpA zc) 30)).alloc (.cells #[.int .i64 0, .int .i64 0, .int .i64 0, .int .i64 0, .int .i64 0, .int .i64 0, .bool false, .int .i64 0] 52)).setRow w7.heap.size (cpA c1)).setRow (w7.heap.size + 1) (trL _root_.Go.Proofs.YtgnoakidjnilpaaGreat.t0)) w7.heap.size (cpA c1) 30 ∧ Row ((((w7.alloc (.cells (cpA zc) 30)).alloc (.cells #[.int .i64 0, .int .i64 0, .int .i64 0, .int .i64 0, .int .i64 0, .int .i64 0, .bool false, .int .i64 0] 52)).setRow w7.heap.size (cpA c1)).setRow (w7.heap.size + 1) (trL _root_.Go.Proofs.YtgnoakidjnilpaaGreat.t0)) (w7.heap.size + 1) (trL _root_.Go.Proofs.YtgnoakidjnilpaaGreat.t0) 52) :=
    ⟨((((Fr.refl none' w7).alloc _).alloc _).newer (fr_row _ w7.heap.size (cpA c1)) (Nat.le_refl _)).newer (fr_row _ (w7.heap.size + 1) (trL _root_.Go.Proofs.YtgnoakidjnilpaaGreat.t0)) (Nat.le_succ _), (q12.setRow).keep (fr_row _ (w7.heap.size + 1) _) (fun e => by have e' : w7.heap.size = w7.heap.size + 1 := e; omega), q13'.setRow⟩
  clear q13
  go_upto_region 11 with (first | refine wpList_store_row rfl 30 _ _ rfl w7.heap.size (cpA c1) rfl rfl 30 (cpA zc) q12 (size_cpA c1) lp (cpA_one c1) ?_ | refine wpList_store_row rfl 52 _ _ rfl (w7.heap.size + 1) (trL _root_.Go.Proofs.YtgnoakidjnilpaaGreat.t0) rfl rfl 52 #[.int .i64 0, .int .i64 0, .int .i64 0, .int .i64 0, .int .i64 0, .int .i64 0, .bool false, .int .i64 0] q13' size_trap rfl (trL_one _root_.Go.Proofs.YtgnoakidjnilpaaGreat.t0) ?_)
  clear q12 q13' lp
  obtain ⟨g3, r9, r10⟩ := GG.out
  clear GG
  obtain ⟨w8, hw6⟩ : ∃ q, q = (((w7.alloc (.cells (cpA zc) 30)).alloc (.cells #[.int .i64 0, .int .i64 0, .int .i64 0, .int .i64 0, .int .i64 0, .int .i64 0, .bool false, .int .i64 0] 52)).setRow w7.heap.size (cpA c1)).setRow (w7.heap.size + 1) (trL _root_.Go.Proofs.YtgnoakidjnilpaaGreat.t0) := ⟨_, rfl⟩
  rw [← hw6] at g3 r9 r10 ⊢
  clear hw6
  obtain ⟨g9, hgd⟩ : ∃ q, q = w7.heap.size := ⟨_, rfl⟩
  obtain ⟨g10, hgt⟩ : ∃ q, q = w7.heap.size + 1 := ⟨_, rfl⟩
  have HG10 : Hid (g7 < g10) := by have := HR1.out.r7.lt; show _ < _; omega
  rw [← hgt] at r10 ⊢
  rw [← hgd] at r9 ⊢
  clear hgd hgt
  replace HR1 : Hid (Rb w w8 g6 g7 (bin0 x) O (M1)) := HR1.out.keep0 g3
  clear g3 r9
  have E7 := fun w => i_enc_any 7 3 1 0 (4 * (p : Int)) w
  obtain ⟨W7, hW7⟩ : ∃ q, q = WR 7 3 1 0 (4 * p) := ⟨_, rfl⟩
  have HW7 : Hid (W7 = WR 7 3 1 0 (4 * p) ∧ W7 < 4294967296) := by
    have h := word_b (o := 7) (p := p) (i := 0) (Or.inl rfl) 3 (by decide) hp (by decide)
    rw [hW7]; exact ⟨rfl, h.2.1⟩
  have hE7 : i_encW 7 3 1 0 (4 * (p : Int)) = (W7 : Int) ∧ i_encE 7 3 1 0 (4 * (p : Int)) = 0 := by
    have h := word_b (o := 7) (p := p) (i := 0) (Or.inl rfl) 3 (by decide) hp (by decide)
    rw [show ((4 * p + 0 : Nat) : Int) = 4 * (p : Int) by omega] at h
    rw [hW7]; exact ⟨h.1, h.2.2⟩
  rw [hE7.1, hE7.2] at E7
  clear hE7 hW7
  go_wp2_with fail
  refine (E7 _).mono ?_
  rintro e w9 ⟨rfl, g2⟩
  replace HR1 : Hid (Rb w w9 g6 g7 (bin0 x) O (M1)) := HR1.out.keep0 g2
  replace r10 := r10.keep g2 (fun h => h)
  clear g2 E7
  have y0 : w9.cell? ⟨g7, 0, none⟩ = some (.pointer (some ⟨O.B.p, 0, none⟩)) := HR1.out.r7.cell 0
  go_wp2_with fail
  refine (store_any w9 O.B.p O.B.bf 16 M1.bs 64 4 W7 HR1.out.m.ram (by decide) HW7.out.2).mono ?_
  rintro e wA ⟨rfl, g2, hM⟩
  rw [show errOf 64 4 16 = 0 by decide]
  have HR2 : Hid (Rb w wA g6 g7 (bin0 x) O ({ M1 with bs := storeB M1.bs 64 4 16 W7 })) := HR1.out.mem g2 hM
  replace r10 := r10.keep g2 (fun e => by have e' : g10 = O.B.bf := e; have h1 := HR1.out.s O.B.bf (Or.inl (Or.inl rfl)); have h2 := HG10.out; omega)
  clear g2 hM y0 HR1
  obtain ⟨M2, hM2⟩ : ∃ q : Mc, q = { M1 with bs := storeB M1.bs 64 4 16 W7 } := ⟨_, rfl⟩
  have HM2 : Hid (M2.V = none ∧ Sp M2.T ∧ Hw M2.bs p x (WR 7 3 1 0 (4 * p + 0)) ∧ M2.few 2) := by
    rw [hM2]
    obtain ⟨a1, a2, a3, a4, a5⟩ := HM1.out
    have hh := hw_code a3 a4 W7 HW7.out.2
    rw [HW7.out.1] at hh ⊢
    exact ⟨a1, a2, hh, few_bs a5 _⟩
  rw [← hM2] at HR2
  clear hM2 HM1
  obtain ⟨y0, y1, y2⟩ : wA.cell? ⟨g7, 0, none⟩ = some (.pointer (some ⟨O.B.p, 0, none⟩)) ∧ wA.cell? ⟨g7, 1, none⟩ = some (.pointer (some ⟨O.B.bt, 0, none⟩)) ∧ wA.cell? ⟨g7, 2, none⟩ = some (.pointer none) := ⟨HR2.out.r7.cell 0, HR2.out.r7.cell 1, HR2.out.r7.cell 2⟩
  have r66 := HR2.out.r6
  go_wp2_with (refine wpList_load_part rfl 30 _ rfl g6 rfl (cpA (bin0 x)) _ (cp_at r66) Tryz.underlying30 rfl (size_cpA (bin0 x)) ?_)
  refine (step_b HR2.out (bin0_ok HX.out.1) HM2.out.2.2.2 (by decide)).mono ?_
  rintro e wB ⟨rfl, RB1, g2⟩
  replace r10 := r10.keep g2 (fun e => by have h1 := HR2.out.s g10 (Or.inl e); have h2 := HG10.out; omega)
  clear y0 y1 y2 r66 HR2 g2
  have BS := back_load (M := M2) HM2.out.2.1 HM2.out.1 (o := 7) (p := p) (w := x) (i := 0) (size := 4) HX.out.2 (by decide) (Or.inl ⟨rfl, rfl, rfl⟩) HM2.out.2.2.1 (word_load HM2.out.2.2.1 HX.out.2 HX.out.1)
  have BF := few_step HM2.out.2.2.2 16 (bin0 x) 1 3 0
  obtain ⟨R, hR⟩ : ∃ R, stepR 16 M2 (bin0 x) 1 3 0 = R := ⟨_, rfl⟩
  rw [hR] at BS BF RB1 ⊢
  clear hR
  obtain ⟨M3, c3, T3⟩ := R
  obtain ⟨rfl, v3, sp3, bs3, rg3⟩ := (show T3 = _root_.Go.Proofs.YtgnoakidjnilpaaGreat.t0 ∧ M3.V = none ∧ Sp M3.T ∧ M3.bs = M2.bs ∧ c3.r 3 = x from BS)
  have HM3 : Hid (M3.V = none ∧ Sp M3.T ∧ Tab M3.bs ∧ (M3.bs.drop (128 + 4 * p)).take 4 = bytesOf 4 x ∧ M3.few 4) := ⟨v3, sp3, by rw [bs3]; exact HM2.out.2.2.1.tab, by rw [bs3]; exact HM2.out.2.2.1.data, BF⟩
  have HR3 : Hid (Rb w wB g6 g7 (bin0 x) O (M3)) := RB1
  clear BS BF v3 sp3 bs3 RB1 HM2
  have q12 : Row ((wB.alloc (.cells (cpA zc) 30)).alloc (.cells #[.int .i64 0, .int .i64 0, .int .i64 0, .int .i64 0, .int .i64 0, .int .i64 0, .bool false, .int .i64 0] 52)) wB.heap.size (cpA zc) 30 := (row_alloc wB (cpA zc) 30).alloc _
  have q13 : Row ((wB.alloc (.cells (cpA zc) 30)).alloc (.cells #[.int .i64 0, .int .i64 0, .int .i64 0, .int .i64 0, .int .i64 0, .int .i64 0, .bool false, .int .i64 0] 52)) (wB.heap.size + 1) #[.int .i64 0, .int .i64 0, .int .i64 0, .int .i64 0, .int .i64 0, .int .i64 0, .bool false, .int .i64 0] 52 := row_at (by simp)
  have q13' := q13.keep (fr_row _ wB.heap.size (cpA c3)) (fun e => by have e' : wB.heap.size + 1 = wB.heap.size := e; omega)
  have lp : (cpA zc).size = (cpA c3).size := by rw [cpA_size, cpA_size]
  have GG : Hid (Fr none' wB ((((wB.alloc (.cells (cpA zc) 30)).alloc (.cells #[.int .i64 0, .int .i64 0, .int .i64 0, .int .i64 0, .int .i64 0, .int .i64 0, .bool false, .int .i64 0] 52)).setRow wB.heap.size (cpA c3)).setRow (wB.heap.size + 1) (trL _root_.Go.Proofs.YtgnoakidjnilpaaGreat.t0)) ∧ Row ((((wB.alloc (.cells (cpA zc) 30)).alloc (.cells #[.int .i64 0, .int .i64 0, .int .i64 0, .int .i64 0, .int .i64 0, .int .i64 0, .bool false, .int .i64 0] 52)).setRow wB.heap.size (cpA c3)).setRow (wB.heap.size + 1) (trL _root_.Go.Proofs.YtgnoakidjnilpaaGreat.t0)) wB.heap.size (cpA c3) 30 ∧ Row ((((wB.alloc (.cells (cpA zc) 30)).alloc (.cells #[.int .i64 0, .int .i64 0, .int .i64 0, .int .i64 0, .int .i64 0, .int .i64 0, .bool false, .int .i64 0] 52)).setRow wB.heap.size (cpA c3)).setRow (wB.heap.size + 1) (trL _root_.Go.Proofs.YtgnoakidjnilpaaGreat.t0)) (wB.heap.size + 1) (trL _root_.Go.Proofs.YtgnoakidjnilpaaGreat.t0) 52) :=
    ⟨((((Fr.refl none' wB).alloc _).alloc _).newer (fr_row _ wB.heap.size (cpA c3)) (Nat.le_refl _)).newer (fr_row _ (wB.heap.size + 1) (trL _root_.Go.Proofs.YtgnoakidjnilpaaGreat.t0)) (Nat.le_succ _), (q12.setRow).keep (fr_row _ (wB.heap.size + 1) _) (fun e => by have e' : wB.heap.size = wB.heap.size + 1 := e; omega), q13'.setRow⟩
  clear q13
  go_upto_region 14 with (first | refine wpList_store_row rfl 30 _ _ rfl wB.heap.size (cpA c3) rfl rfl 30 (cpA zc) q12 (size_cpA c3) lp (cpA_one c3) ?_ | refine wpList_store_row rfl 52 _ _ rfl (wB.heap.size + 1) (trL _root_.Go.Proofs.YtgnoakidjnilpaaGreat.t0) rfl rfl 52 #[.int .i64 0, .int .i64 0, .int .i64 0, .int .i64 0, .int .i64 0, .int .i64 0, .bool false, .int .i64 0] q13' size_trap rfl (trL_one _root_.Go.Proofs.YtgnoakidjnilpaaGreat.t0) ?_)
  clear q12 q13' lp
  obtain ⟨g3, r14, r15⟩ := GG.out
  clear GG
  obtain ⟨wC, hw6⟩ : ∃ q, q = (((wB.alloc (.cells (cpA zc) 30)).alloc (.cells #[.int .i64 0, .int .i64 0, .int .i64 0, .int .i64 0, .int .i64 0, .int .i64 0, .bool false, .int .i64 0] 52)).setRow wB.heap.size (cpA c3)).setRow (wB.heap.size + 1) (trL _root_.Go.Proofs.YtgnoakidjnilpaaGreat.t0) := ⟨_, rfl⟩
  rw [← hw6] at g3 r14 r15 ⊢
  clear hw6
  obtain ⟨g14, hgd⟩ : ∃ q, q = wB.heap.size := ⟨_, rfl⟩
  obtain ⟨g15, hgt⟩ : ∃ q, q = wB.heap.size + 1 := ⟨_, rfl⟩
  rw [← hgt] at r15 ⊢
  rw [← hgd] at r14 ⊢
  clear hgd hgt
  replace HR3 : Hid (Rb w wC g6 g7 (bin0 x) O (M3)) := HR3.out.keep0 g3
  replace r10 := r10.keep g3 (fun h => h)
  clear g3
  have z10 : wC.cell? ⟨g10, 0, none⟩ = some (.int .i64 0) := r10.cell 0
  have z15 : wC.cell? ⟨g15, 0, none⟩ = some (.int .i64 0) := r15.cell 0
  have z14 : wC.cell? ⟨g14, 3, none⟩ = some (.int .u32 (x : Int)) := by rw [r14.cell, cpA_get, cpL_r _ (by decide), rg3]
  have ux : ((x : Int) != (x : Int)) = false := by simp
  clear r10 r14 r15 rg3
  go_wp2_with fail
  go_loopw [16, 17, 18, 19, 20, 21] (fun i a b d e f wr => ∃ (k : Nat) (M : Mc), k ≤ 4 ∧ i = .int .i64 (k : Int) ∧ Hid (Rb w wr g6 g7 (bin0 x) O (M) ∧ M.V = none ∧ Sp M.T ∧ Tab M.bs ∧ (M.bs.drop (128 + 4 * p)).take 4 = bytesOf 4 x ∧ M.few (4 + 2 * k))) (fun i _ _ _ _ _ _ => 4 - (intOf i).toNat)
  case atStart => exact ⟨0, M3, by omega, rfl, ⟨HR3.out, HM3.out⟩⟩
  case round =>
    clear HR3 HM3 z10 z15 z14
    obtain ⟨k, M, hk, rfl, HH⟩ := hrel
    by_cases hlt : k < 4
    · have HK : Hid (k < 4) := hlt
      have E9 := fun w => i_enc_any 9 3 1 0 (4 * (p : Int) + (k : Int)) w
      obtain ⟨W9, hW9⟩ : ∃ q, q = WR 9 3 1 0 (4 * p + k) := ⟨_, rfl⟩
      have hwb := word_b (o := 9) (p := p) (i := k) (Or.inr (Or.inr rfl)) 3 (by decide) hp hlt
      have HW9 : Hid (W9 = WR 9 3 1 0 (4 * p + k) ∧ W9 < 4294967296) := by rw [hW9]; exact ⟨rfl, hwb.2.1⟩
      rw [show ((4 * p + k : Nat) : Int) = 4 * (p : Int) + (k : Int) by omega, ← hW9] at hwb
      have h1 : i_encW 9 3 1 0 (4 * (p : Int) + (k : Int)) = (W9 : Int) := hwb.1
      have h2 : i_encE 9 3 1 0 (4 * (p : Int) + (k : Int)) = 0 := hwb.2.2
      rw [h1, h2] at E9
      clear h1 h2 hwb hW9
      go_wp2_with fail
      refine (E9 _).mono ?_
      rintro e x9 ⟨rfl, g2⟩
      have HR1 : Hid (Rb w x9 g6 g7 (bin0 x) O (M)) := HH.out.1.keep0 g2
      have HM1 : Hid (M.V = none ∧ Sp M.T ∧ Tab M.bs ∧ (M.bs.drop (128 + 4 * p)).take 4 = bytesOf 4 x ∧ M.few (4 + 2 * k)) := HH.out.2
      clear g2 E9 HH
      have y0 : x9.cell? ⟨g7, 0, none⟩ = some (.pointer (some ⟨O.B.p, 0, none⟩)) := HR1.out.r7.cell 0
      go_wp2_with fail
      refine (store_any x9 O.B.p O.B.bf 16 M.bs 64 4 W9 HR1.out.m.ram (by decide) HW9.out.2).mono ?_
      rintro e xA ⟨rfl, g2, hM⟩
      rw [show errOf 64 4 16 = 0 by decide]
      have HR2 : Hid (Rb w xA g6 g7 (bin0 x) O ({ M with bs := storeB M.bs 64 4 16 W9 })) := HR1.out.mem g2 hM
      clear g2 hM y0 HR1
      obtain ⟨M2, hM2⟩ : ∃ q : Mc, q = { M with bs := storeB M.bs 64 4 16 W9 } := ⟨_, rfl⟩
      have HM2 : Hid (M2.V = none ∧ Sp M2.T ∧ Hw M2.bs p x (WR 9 3 1 0 (4 * p + k)) ∧ M2.few (4 + 2 * k)) := by
        rw [hM2]
        obtain ⟨a1, a2, a3, a4, a5⟩ := HM1.out
        have hh := hw_code a3 a4 W9 HW9.out.2
        rw [HW9.out.1] at hh ⊢
        exact ⟨a1, a2, hh, few_bs a5 _⟩
      rw [← hM2] at HR2
      clear hM2 HM1
      obtain ⟨y0, y1, y2⟩ : xA.cell? ⟨g7, 0, none⟩ = some (.pointer (some ⟨O.B.p, 0, none⟩)) ∧ xA.cell? ⟨g7, 1, none⟩ = some (.pointer (some ⟨O.B.bt, 0, none⟩)) ∧ xA.cell? ⟨g7, 2, none⟩ = some (.pointer none) := ⟨HR2.out.r7.cell 0, HR2.out.r7.cell 1, HR2.out.r7.cell 2⟩
      have r66 := HR2.out.r6
      go_wp2_with (refine wpList_load_part rfl 30 _ rfl g6 rfl (cpA (bin0 x)) _ (cp_at r66) Tryz.underlying30 rfl (size_cpA (bin0 x)) ?_)
      refine (step_b HR2.out (bin0_ok HX.out.1) HM2.out.2.2.2 (by have := HK.out; omega)).mono ?_
      rintro e xB ⟨rfl, RB1, _⟩
      clear y0 y1 y2 r66 HR2
      have BS := back_load (M := M2) HM2.out.2.1 HM2.out.1 (o := 9) (p := p) (w := x) (i := k) (size := 1) HX.out.2 HK.out (Or.inr ⟨rfl, rfl⟩) HM2.out.2.2.1 (byte_load HM2.out.2.2.1 HX.out.2 HK.out)
      have BF := few_step HM2.out.2.2.2 16 (bin0 x) 1 3 0
      obtain ⟨R, hR⟩ : ∃ R, stepR 16 M2 (bin0 x) 1 3 0 = R := ⟨_, rfl⟩
      rw [hR] at BS BF RB1 ⊢
      clear hR
      obtain ⟨M4, c4, T4⟩ := R
      obtain ⟨rfl, v3, sp3, bs3, rg3⟩ := (show T4 = _root_.Go.Proofs.YtgnoakidjnilpaaGreat.t0 ∧ M4.V = none ∧ Sp M4.T ∧ M4.bs = M2.bs ∧ c4.r 3 = x / 256 ^ k % 256 from BS)
      have HM3 : Hid (M4.V = none ∧ Sp M4.T ∧ Tab M4.bs ∧ (M4.bs.drop (128 + 4 * p)).take 4 = bytesOf 4 x ∧ M4.few (4 + 2 * (k + 1))) := ⟨v3, sp3, by rw [bs3]; exact HM2.out.2.2.1.tab, by rw [bs3]; exact HM2.out.2.2.1.data, BF⟩
      have HR3 : Hid (Rb w xB g6 g7 (bin0 x) O (M4)) := RB1
      clear BS BF v3 sp3 bs3 RB1 HM2
      have q12 : Row ((xB.alloc (.cells (cpA zc) 30)).alloc (.cells #[.int .i64 0, .int .i64 0, .int .i64 0, .int .i64 0, .int .i64 0, .int .i64 0, .bool false, .int .i64 0] 52)) xB.heap.size (cpA zc) 30 := (row_alloc xB (cpA zc) 30).alloc _
      have q13 : Row ((xB.alloc (.cells (cpA zc) 30)).alloc (.cells #[.int .i64 0, .int .i64 0, .int .i64 0, .int .i64 0, .int .i64 0, .int .i64 0, .bool false, .int .i64 0] 52)) (xB.heap.size + 1) #[.int .i64 0, .int .i64 0, .int .i64 0, .int .i64 0, .int .i64 0, .int .i64 0, .bool false, .int .i64 0] 52 := row_at (by simp)
      have q13' := q13.keep (fr_row _ xB.heap.size (cpA c4)) (fun e => by have e' : xB.heap.size + 1 = xB.heap.size := e; omega)
      have lp : (cpA zc).size = (cpA c4).size := by rw [cpA_size, cpA_size]
      have GG : Hid (Fr none' xB ((((xB.alloc (.cells (cpA zc) 30)).alloc (.cells #[.int .i64 0, .int .i64 0, .int .i64 0, .int .i64 0, .int .i64 0, .int .i64 0, .bool false, .int .i64 0] 52)).setRow xB.heap.size (cpA c4)).setRow (xB.heap.size + 1) (trL _root_.Go.Proofs.YtgnoakidjnilpaaGreat.t0)) ∧ Row ((((xB.alloc (.cells (cpA zc) 30)).alloc (.cells #[.int .i64 0, .int .i64 0, .int .i64 0, .int .i64 0, .int .i64 0, .int .i64 0, .bool false, .int .i64 0] 52)).setRow xB.heap.size (cpA c4)).setRow (xB.heap.size + 1) (trL _root_.Go.Proofs.YtgnoakidjnilpaaGreat.t0)) xB.heap.size (cpA c4) 30 ∧ Row ((((xB.alloc (.cells (cpA zc) 30)).alloc (.cells #[.int .i64 0, .int .i64 0, .int .i64 0, .int .i64 0, .int .i64 0, .int .i64 0, .bool false, .int .i64 0] 52)).setRow xB.heap.size (cpA c4)).setRow (xB.heap.size + 1) (trL _root_.Go.Proofs.YtgnoakidjnilpaaGreat.t0)) (xB.heap.size + 1) (trL _root_.Go.Proofs.YtgnoakidjnilpaaGreat.t0) 52) :=
        ⟨((((Fr.refl none' xB).alloc _).alloc _).newer (fr_row _ xB.heap.size (cpA c4)) (Nat.le_refl _)).newer (fr_row _ (xB.heap.size + 1) (trL _root_.Go.Proofs.YtgnoakidjnilpaaGreat.t0)) (Nat.le_succ _), (q12.setRow).keep (fr_row _ (xB.heap.size + 1) _) (fun e => by have e' : xB.heap.size = xB.heap.size + 1 := e; omega), q13'.setRow⟩
      clear q13
      go_upto_region 22 with (first | refine wpList_store_row rfl 30 _ _ rfl xB.heap.size (cpA c4) rfl rfl 30 (cpA zc) q12 (size_cpA c4) lp (cpA_one c4) ?_ | refine wpList_store_row rfl 52 _ _ rfl (xB.heap.size + 1) (trL _root_.Go.Proofs.YtgnoakidjnilpaaGreat.t0) rfl rfl 52 #[.int .i64 0, .int .i64 0, .int .i64 0, .int .i64 0, .int .i64 0, .int .i64 0, .bool false, .int .i64 0] q13' size_trap rfl (trL_one _root_.Go.Proofs.YtgnoakidjnilpaaGreat.t0) ?_)
      clear q12 q13' lp
      obtain ⟨g3, r20, r21⟩ := GG.out
      clear GG
      obtain ⟨xC, hw6⟩ : ∃ q, q = (((xB.alloc (.cells (cpA zc) 30)).alloc (.cells #[.int .i64 0, .int .i64 0, .int .i64 0, .int .i64 0, .int .i64 0, .int .i64 0, .bool false, .int .i64 0] 52)).setRow xB.heap.size (cpA c4)).setRow (xB.heap.size + 1) (trL _root_.Go.Proofs.YtgnoakidjnilpaaGreat.t0) := ⟨_, rfl⟩
      rw [← hw6] at g3 r20 r21 ⊢
      clear hw6
      obtain ⟨g20, hgd⟩ : ∃ q, q = xB.heap.size := ⟨_, rfl⟩
      obtain ⟨g21, hgt⟩ : ∃ q, q = xB.heap.size + 1 := ⟨_, rfl⟩
      rw [← hgt] at r21 ⊢
      rw [← hgd] at r20 ⊢
      clear hgd hgt
      replace HR3 : Hid (Rb w xC g6 g7 (bin0 x) O (M4)) := HR3.out.keep0 g3
      clear g3
      have z21 : xC.cell? ⟨g21, 0, none⟩ = some (.int .i64 0) := r21.cell 0
      have z20 : xC.cell? ⟨g20, 3, none⟩ = some (.int .u32 ((x / 256 ^ k % 256 : Nat) : Int)) := by rw [r20.cell, cpA_get, cpL_r _ (by decide), rg3]
      clear r20 r21 rg3
      have hc : k = 0 ∨ k = 1 ∨ k = 2 ∨ k = 3 := by omega
      clear hk hlt HW9
      have q0 : IntKind.i64.wrap 0 = 0 := by decide
      have q8 : IntKind.i64.wrap 8 = 8 := by decide
      have q16 : IntKind.i64.wrap 16 = 16 := by decide
      have q24 : IntKind.i64.wrap 24 = 24 := by decide
      have hx0 : (0 : Int) ≤ (x : Int) := by omega
      have hx1 : (x : Int) ≤ 4294967295 := by have := HX.out.1; omega
      rcases hc with rfl | rfl | rfl | rfl
      · have bk : ((x : Int) % 256 != bits .and .u32 (x : Int) 255) = false := by
          have h := and255_b (x / 1) (by have := HX.out.1; omega)
          rw [show ((x / 1 : Nat) : Int) = (x : Int) by omega] at h
          rw [h]; simp
        go_quiet (fail)
        go_wp2_with fail
        go_roundw
        case rel => exact ⟨1, M4, by omega, rfl, ⟨HR3.out.keep0 (fr_drewN _ _), HM3.out⟩⟩
        case measure => simp [intOf]
      · have bk : (((x : Int) / 256) % 256 != bits .and .u32 ((x : Int) / 256) 255) = false := by
          have h := and255_b (x / 256) (by have := HX.out.1; omega)
          rw [show ((x / 256 : Nat) : Int) = ((x : Int) / 256) by omega] at h
          rw [h]; simp
        go_quiet (fail)
        go_wp2_with fail
        go_roundw
        case rel => exact ⟨2, M4, by omega, rfl, ⟨HR3.out.keep0 (fr_drewN _ _), HM3.out⟩⟩
        case measure => simp [intOf]
      · have bk : (((x : Int) / 65536) % 256 != bits .and .u32 ((x : Int) / 65536) 255) = false := by
          have h := and255_b (x / 65536) (by have := HX.out.1; omega)
          rw [show ((x / 65536 : Nat) : Int) = ((x : Int) / 65536) by omega] at h
          rw [h]; simp
        go_quiet (fail)
        go_wp2_with fail
        go_roundw
        case rel => exact ⟨3, M4, by omega, rfl, ⟨HR3.out.keep0 (fr_drewN _ _), HM3.out⟩⟩
        case measure => simp [intOf]
      · have bk : (((x : Int) / 16777216) % 256 != bits .and .u32 ((x : Int) / 16777216) 255) = false := by
          have h := and255_b (x / 16777216) (by have := HX.out.1; omega)
          rw [show ((x / 16777216 : Nat) : Int) = ((x : Int) / 16777216) by omega] at h
          rw [h]; simp
        go_quiet (fail)
        go_wp2_with fail
        go_roundw
        case rel => exact ⟨4, M4, by omega, rfl, ⟨HR3.out.keep0 (fr_drewN _ _), HM3.out⟩⟩
        case measure => simp [intOf]
    · obtain rfl : k = 4 := by omega
      clear hlt hk
      go_wp2_with fail
      go_ret
      exact ⟨rfl, HH.out.1.f⟩

end Go.Proofs.YtgnoakidjnilpaaGreat

/- CpuBackOut -/
namespace Go.Proofs.YtgnoakidjnilpaaGreat
open Go.RowKit

set_option maxRecDepth 100000 in
set_option maxHeartbeats 2000000 in
theorem back_low (w : World) (x p : Int) (hp : p < 0) : Calls Tryz.prog 6 #[.int .u32 x, .int .i64 p] w fun e w' => e = .returned (.bool true) ∧ Fr none' w w' := by
  have u0 : decide (p < 0) = true := decide_eq_true hp
  go_enter Tryz.func6, Tryz.ntmps6
  go_wp2_with fail
  refine (awake_any _).mono ?_
  rintro e w1 ⟨rfl, g1⟩
  go_wp2_with fail
  go_ret
  exact ⟨rfl, g1⟩

set_option maxRecDepth 100000 in
set_option maxHeartbeats 2000000 in
theorem back_high (w : World) (x p : Int) (hp : 15 < p) : Calls Tryz.prog 6 #[.int .u32 x, .int .i64 p] w fun e w' => e = .returned (.bool true) ∧ Fr none' w w' := by
  have u0 : decide (p < 0) = false := decide_eq_false (by omega)
  have u1 : decide (15 < p) = true := decide_eq_true hp
  go_enter Tryz.func6, Tryz.ntmps6
  go_wp2_with fail
  refine (awake_any _).mono ?_
  rintro e w1 ⟨rfl, g1⟩
  go_wp2_with fail
  go_ret
  exact ⟨rfl, g1⟩

theorem back_any (x : Nat) (p : Int) (w : World) (hx : x < 4294967296) : Calls Tryz.prog 6 #[.int .u32 (x : Int), .int .i64 p] w fun e w' => e = .returned (.bool true) ∧ Below w.heap.size w w' := by
  have h : Calls Tryz.prog 6 #[.int .u32 (x : Int), .int .i64 p] w fun e w' => e = .returned (.bool true) ∧ Fr none' w w' := by
    by_cases h0 : p < 0
    · exact back_low w x p h0
    · by_cases h1 : 15 < p
      · exact back_high w x p h1
      · obtain ⟨m, rfl⟩ : ∃ m : Nat, p = (m : Int) := ⟨p.toNat, by omega⟩
        exact back_walk w x m hx (by omega)
  exact h.mono fun _ _ ⟨he, hf⟩ => ⟨he, hf.below (Nat.le_refl _) (fun _ h => h.elim)⟩

end Go.Proofs.YtgnoakidjnilpaaGreat

/- CpuBackProof -/
namespace Go.Proofs.YtgnoakidjnilpaaGreat
open Go.ChangeShapes Go.WideShapes Go.ChangeAt Go.RowKit Go.Deep

theorem nat_u32 {x : Int} (h : (Lit.int .u32 x).wf = true) : ∃ n : Nat, x = (n : Int) ∧ n < 4294967296 := by
  have h1 : IntKind.u32.min = 0 := rfl
  have h2 : IntKind.u32.max = 4294967295 := rfl
  simp only [Lit.wf, h1, h2, Bool.and_eq_true, decide_eq_true_eq] at h
  exact ⟨x.toNat, by omega, by omega⟩

set_option maxRecDepth 100000 in
theorem back_lifted (os : Os) (started : os.Started) (H : Type) (enc : TypeId × Value → H) :
    ReturnsInHanded {} Tryz.checked os 6 .any (Rows.cpuBackSpec.pre6 enc Tryz.prog Tryz.f6 Rows.cpuBackRow.domain false) (Rows.cpuBackSpec.post enc Tryz.prog Tryz.f6 false true false false) := by
  refine returnsInHanded_of_change (C := Tryz.checked) own_knob started (by kernel_rfl) Tryz.func6
    (ChangeSpec.witness6 (enc := enc) (C := Tryz.checked) false ⟨#[], #[.int .u32 0, .int .i64 0], []⟩ 8 (by kernel_rfl) (by kernel_rfl) (by kernel_rfl) (by kernel_rfl)) ?_
  intro W base args ds gs before hval0 hW hcnd _
  have hval : ∀ (j : Nat) t v, Tryz.f6.params[j]? = some t → args[j]? = some v → Value.okWide Tryz.prog W .any base t v := hval0
  have hW' := hW
  obtain ⟨p, q, hA0, hV, rfl, hfz, hnd⟩ := hW
  have hA : DataW.TrodAll enc Tryz.prog W 0 (fun _ => true) true Tryz.f6.params.toList args.toList ds p := hA0
  rw [Tryz.params6] at hA hval
  obtain ⟨v0, vs0, d0, ds0, p0, q0, hargs, rfl, rfl, h0, r0⟩ := trodAll_cons hA
  obtain ⟨v1, vs1, d1, ds1, p1, q1, rfl, rfl, rfl, h1, r1⟩ := trodAll_cons r0
  obtain ⟨rfl, rfl, rfl⟩ := trodAll_nil r1
  obtain rfl : args = #[v0, v1] := by cases args; simp_all
  obtain ⟨rfl, rfl⟩ := trodVars_none hV
  obtain ⟨a0, rfl, rfl, rfl, w0⟩ := open_int Tryz.underlying26 (hval 0 26 v0 rfl rfl) h0
  obtain ⟨m0, rfl, u0⟩ := nat_u32 w0
  obtain ⟨a1, rfl, rfl, rfl, w1⟩ := open_int Tryz.underlying3 (hval 1 3 v1 rfl rfl) h1
  clear hA0 hval0
  refine (back_any m0 a1 W u0).mono fun e W' ⟨he, bel⟩ => ?_
  subst he
  exact ⟨_, rfl, _, _, _, [], _, [], hW', trodAll_mk1 (shut_bool Tryz.underlying4 _), (trodAll_cons_mk (shut_int Tryz.underlying26 w0) (trodAll_cons_mk (shut_int Tryz.underlying3 w1) trodAll_mk0)), rfl, bel.frame _, fun h => by cases h⟩

theorem cpuBack_holds : Rows.CpuBackSaid :=
  OpenClaim.holds_of_wide 6 Tryz.f6 rfl rfl rfl rfl rfl rfl rfl ⟨rfl, rfl, rfl, rfl, rfl⟩ rfl rfl rfl rfl rfl (by kernel_rfl) Tryz.func6 (by kernel_rfl)
    (of_decide_eq_true (by kernel_rfl)) (by unfold Func.isWrapper; first | (rw [if_pos (by decide +kernel)]; kernel_rfl) | (rw [if_neg (by decide +kernel)]; exact ⟨rfl, rfl⟩))
    (fun os started H enc _ => back_lifted os started H enc)
#print axioms cpuBack_holds

end Go.Proofs.YtgnoakidjnilpaaGreat

