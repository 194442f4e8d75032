/-
  Proved: the statement CpuRunsSaid: for every world, every state and every number the law CpuRuns of the Go text returns true, and each argument reads afterwards as it read before. No condition but the form's own.
-/
import Derived.Test.YtcpjlpgphfhonaaGreatCpuJb
import Derived.Test.YtcpjlpgphfhonaaGreatTwin
import Derived.Test.YtcpjlpgphfhonaaGreatRefMem
import Derived.Test.YtcpjlpgphfhonaaGreatRefMore
import Derived.Test.YtcpjlpgphfhonaaGreatCpuJc
import Derived.Deep.CutBlock
import Derived.ChangeKeysEq
import Derived.Deep.CutRange
import Derived.Test.YtcpjlpgphfhonaaGreatFrame
import Derived.Test.YtcpjlpgphfhonaaGreatSame
import Derived.Test.YtcpjlpgphfhonaaGreatGrow
import Derived.Test.YtcpjlpgphfhonaaGreatEntOpen
/- CpuMade -/
namespace Go.Proofs.YtcpjlpgphfhonaaGreat
open Go.RowKit

structure Pu where (t i : Int) (v l : Bool) (r f : Int)
structure Wo where (a : Int) (w : Nat)

structure PuIs (w : World) (b o : Nat) (q : Pu) : Prop where
  c0 : w.cell? ⟨b, o, none⟩ = some (.int .i64 q.t)
  c1 : w.cell? ⟨b, o + 1, none⟩ = some (.int .i64 q.i)
  c2 : w.cell? ⟨b, o + 2, none⟩ = some (.bool q.v)
  c3 : w.cell? ⟨b, o + 3, none⟩ = some (.bool q.l)
  c4 : w.cell? ⟨b, o + 4, none⟩ = some (.int .i64 q.r)
  c5 : w.cell? ⟨b, o + 5, none⟩ = some (.int .i64 q.f)
structure WoIs (w : World) (b o : Nat) (q : Wo) : Prop where
  c0 : w.cell? ⟨b, o, none⟩ = some (.int .i64 q.a)
  c1 : w.cell? ⟨b, o + 1, none⟩ = some (.int .u32 (q.w : Int))
  small : q.a ≤ 9223372036854775807
  word : q.w < 4294967296
theorem PuIs.keep {S : Nat → Prop} {w w' : World} {b o : Nat} {q : Pu} (h : PuIs w b o q) (k : Fr S w w') (hs : ¬ S b) : PuIs w' b o q :=
  ⟨cell_keep k h.c0 hs, cell_keep k h.c1 hs, cell_keep k h.c2 hs, cell_keep k h.c3 hs, cell_keep k h.c4 hs, cell_keep k h.c5 hs⟩
theorem WoIs.keep {S : Nat → Prop} {w w' : World} {b o : Nat} {q : Wo} (h : WoIs w b o q) (k : Fr S w w') (hs : ¬ S b) : WoIs w' b o q :=
  ⟨cell_keep k h.c0 hs, cell_keep k h.c1 hs, h.small, h.word⟩
def Pus (w : World) (a0 : Option Addr) (len : Nat) (P : Nat → Pu) : Prop := ∀ k, k < len → ∃ b o, a0 = some ⟨b, o, none⟩ ∧ PuIs w b (o + k * 6) (P k)
def Wos (w : World) (a0 : Option Addr) (len : Nat) (Q : Nat → Wo) : Prop := ∀ k, k < len → ∃ b o, a0 = some ⟨b, o, none⟩ ∧ WoIs w b (o + k * 2) (Q k)
theorem Pus.keep {w w' : World} {a0 : Option Addr} {len : Nat} {P : Nat → Pu} (h : Pus w a0 len P) (f : Fr none' w w') : Pus w' a0 len P := fun k hk => by
  obtain ⟨b, o, e, q⟩ := h k hk
  exact ⟨b, o, e, q.keep f (fun h => h)⟩
theorem Wos.keep {w w' : World} {a0 : Option Addr} {len : Nat} {P : Nat → Wo} (h : Wos w a0 len P) (f : Fr none' w w') : Wos w' a0 len P := fun k hk => by
  obtain ⟨b, o, e, q⟩ := h k hk
  exact ⟨b, o, e, q.keep f (fun h => h)⟩

/-- The bytes behind so many entries; then behind so many words. -/
def pB (P : Nat → Pu) : Nat → List UInt8
  | 0 => List.replicate (64 * 16) 0
  | n + 1 => putB (pB P n) (P n).t (P n).i 16 (P n).v (P n).l (P n).r (P n).f
def wB (bs : List UInt8) (Q : Nat → Wo) : Nat → List UInt8
  | 0 => bs
  | n + 1 => storeB (wB bs Q n) (Q n).a 4 16 (Q n).w

/-- The program's machine and the document's. -/
structure Bo where
  B : Bm
  pr : Nat
  br : Nat
  bu : Nat
  vr : Option Nat
def M0 (bs : List UInt8) (g : Bool) : Mc := ⟨bs, fun _ => zl, 0, 0, if g = true then some (zeroV 4) else none⟩
theorem M0_few (bs : List UInt8) (g : Bool) : (M0 bs g).few 0 := ⟨Int.le_refl 0, Int.le_refl 0, by show (0 : Int) + 0 ≤ 0; omega, good_zero, uniq_zero⟩
def IsRvO (w : World) : Option Nat → Option Vg → Prop
  | some b, some S => IsRv w b S
  | none, none => True
  | _, _ => False
structure IsBo (w : World) (n : Nat) (O : Bo) (M : Mc) : Prop where
  m : IsMc w O.B 16 M
  r : IsRef w O.pr O.br 16 M.bs
  t : IsTref w O.bu M.T M.fo M.mi
  v : IsRvO w O.vr M.V
  new : ∀ k, (O.B.s k ∨ k = O.B.p) → n ≤ k
  newr : n ≤ O.pr ∧ n ≤ O.br ∧ n ≤ O.bu ∧ ∀ b, O.vr = some b → n ≤ b
  ap : ∀ k, (O.B.s k ∨ k = O.B.p) → k ≠ O.pr ∧ k ≠ O.br ∧ k ≠ O.bu ∧ ∀ b, O.vr = some b → k ≠ b
  apr : O.pr ≠ O.bu ∧ O.br ≠ O.bu ∧ ∀ b, O.vr = some b → b ≠ O.pr ∧ b ≠ O.br ∧ b ≠ O.bu
def Bo.a (O : Bo) : Array Value := #[.pointer (some ⟨O.B.p, 0, none⟩), .pointer (some ⟨O.B.bt, 0, none⟩), ptrV (O.B.v.map Bk.b), .pointer (some ⟨O.pr, 0, none⟩), .pointer (some ⟨O.bu, 0, none⟩), ptrV O.vr]

theorem size_both : (Tryz.prog.info? 44).map (·.size) = some 6 := by kernel_rfl
theorem ret_both {fn : Func} {p q : Tmp} {tmps : Array Value} {g : Nat} {cs : Array Value} {w : World} (h : fn.results = #[.cell p 44, .tmp q]) (hp : tmps.getD p undef = .pointer (some ⟨g, 0, none⟩)) (hr : Row w g cs 44) (hs : cs.size = 6) :
    (results fn tmps).run Tryz.prog w = .ok (.tuple #[.agg cs, tmps.getD q undef]) w := by
  have hl : (loadVar 44 ⟨g, 0, none⟩).run Tryz.prog w = .ok (.agg cs) w := by
    have := run_loadVar_mid (P := Tryz.prog) w g 0 44 cs.toList _ (range_row' hr) Tryz.underlying44 rfl (by rw [Array.length_toList, hs]; exact size_both)
    simpa using this
  have hp' : tmps[p]?.getD undef = .pointer (some ⟨g, 0, none⟩) := by simpa using hp
  simp only [results, h]
  simp [Result.andThen, hp', asAddr, hl]

theorem cells6 {w : World} {g : Nat} {c0 c1 c2 c3 c4 c5 : Value} {t : TypeId} (h : Row w g #[c0, c1, c2, c3, c4, c5] t) : w.cell? ⟨g, 0, none⟩ = some c0 ∧ w.cell? ⟨g, 1, none⟩ = some c1 ∧ w.cell? ⟨g, 2, none⟩ = some c2 ∧ w.cell? ⟨g, 3, none⟩ = some c3 ∧ w.cell? ⟨g, 4, none⟩ = some c4 ∧ w.cell? ⟨g, 5, none⟩ = some c5 := ⟨h.cell 0, h.cell 1, h.cell 2, h.cell 3, h.cell 4, h.cell 5⟩
theorem frozen6 {w : World} {g : Nat} {cs : Array Value} {t : TypeId} (h : Row w g cs t) : w.frozen? ⟨g, 0, none⟩ = false ∧ w.frozen? ⟨g, 1, none⟩ = false ∧ w.frozen? ⟨g, 2, none⟩ = false ∧ w.frozen? ⟨g, 3, none⟩ = false ∧ w.frozen? ⟨g, 4, none⟩ = false ∧ w.frozen? ⟨g, 5, none⟩ = false := ⟨h.frozen 0, h.frozen 1, h.frozen 2, h.frozen 3, h.frozen 4, h.frozen 5⟩
theorem row_set6 {w : World} {g : Nat} {c0 c1 c2 c3 c4 c5 : Value} {t : TypeId} (h : Row w g #[c0, c1, c2, c3, c4, c5] t) (v0 v1 v2 v3 v4 v5 : Value) : Row ((((((w.setCell ⟨g, 0, none⟩ v0).setCell ⟨g, 1, none⟩ v1).setCell ⟨g, 2, none⟩ v2).setCell ⟨g, 3, none⟩ v3).setCell ⟨g, 4, none⟩ v4).setCell ⟨g, 5, none⟩ v5) g #[v0, v1, v2, v3, v4, v5] t := by
  simpa using ((((((h.setCell 0 v0).setCell 1 v1).setCell 2 v2).setCell 3 v3).setCell 4 v4).setCell 5 v5)
theorem fr_own6 (w : World) (g : Nat) (v0 v1 v2 v3 v4 v5 : Value) : Fr (at' g) w ((((((w.setCell ⟨g, 0, none⟩ v0).setCell ⟨g, 1, none⟩ v1).setCell ⟨g, 2, none⟩ v2).setCell ⟨g, 3, none⟩ v3).setCell ⟨g, 4, none⟩ v4).setCell ⟨g, 5, none⟩ v5) := fr_set w g 5 _ (fr_set w g 4 _ (fr_set w g 3 _ (fr_set w g 2 _ (fr_set w g 1 _ (fr_set w g 0 _ (Fr.refl _ w))))))

set_option maxHeartbeats 8000000 in
set_option maxRecDepth 100000 in
theorem made_any (w : World) (a0 a1 : Option Addr) (len cap len1 cap1 : Nat) (g : Bool) (vm se : Int) (P : Nat → Pu) (Q : Nat → Wo) (hl : len ≤ 9223372036854775807) (hl1 : len1 ≤ 9223372036854775807) (hP : Pus w a0 len P) (hQ : Wos w a1 len1 Q) :
    Calls Tryz.prog 10 #[.agg #[.slice a0 len cap, .slice a1 len1 cap1, .bool g, .int .i64 vm, .int .i64 se]] w fun e w' => ∃ O : Bo, e = .returned (.tuple #[.agg O.a, .bool true]) ∧ Fr none' w w' ∧ IsBo w' w.heap.size O (M0 (wB (pB P (min len 100)) Q (min len1 300)) g) := by
  have rx := (row_alloc w #[.slice a0 len cap, .slice a1 len1 cap1, .bool g, .int .i64 vm, .int .i64 se] 25).alloc (.cells #[.pointer none, .pointer none, .pointer none, .pointer none, .pointer none, .pointer none] 44)
  have rr := row_at (W := w.alloc (.cells #[.slice a0 len cap, .slice a1 len1 cap1, .bool g, .int .i64 vm, .int .i64 se] 25)) (n := w.heap.size + 1) (cs := #[.pointer none, .pointer none, .pointer none, .pointer none, .pointer none, .pointer none]) (t := 44) (by simp)
  have f0 := ((Fr.refl none' w).alloc (.cells #[.slice a0 len cap, .slice a1 len1 cap1, .bool g, .int .i64 vm, .int .i64 se] 25)).alloc (.cells #[.pointer none, .pointer none, .pointer none, .pointer none, .pointer none, .pointer none] 44)
  obtain ⟨v0, hv0⟩ : ∃ v0, v0 = (w.alloc (.cells #[.slice a0 len cap, .slice a1 len1 cap1, .bool g, .int .i64 vm, .int .i64 se] 25)).alloc (.cells #[.pointer none, .pointer none, .pointer none, .pointer none, .pointer none, .pointer none] 44) := ⟨_, rfl⟩
  have hsz : Hid (v0.heap.size = w.heap.size + 2) := by show _ = _; rw [hv0]; simp
  rw [← hv0] at rx rr f0
  have HP : Hid (Pus w a0 len P) := hP
  have HQ : Hid (Wos w a1 len1 Q) := hQ
  clear hP hQ
  go_enter Tryz.func10, Tryz.ntmps10
  go_wp2_with fail
  rw [← hv0]
  clear hv0
  obtain ⟨gx, hgx⟩ : ∃ q, q = w.heap.size := ⟨_, rfl⟩
  obtain ⟨gr, hgr⟩ : ∃ q, q = w.heap.size + 1 := ⟨_, rfl⟩
  rw [← hgr] at rr ⊢
  rw [← hgx] at rx ⊢
  have HG : Hid (gx = w.heap.size ∧ gr = w.heap.size + 1) := ⟨hgx, hgr⟩
  clear hgx hgr
  refine (new_any _ _ ⟨by decide, by decide⟩).mono ?_
  rintro e w1 ⟨rfl, f1, r1⟩
  go_wp2_with fail
  refine (rnew_any _ _ ⟨by decide, by decide⟩).mono ?_
  rintro e w2 ⟨rfl, f2, r2⟩
  have TW0 : Twin w2 v0.heap.size (v0.heap.size + 1) v0.heap.size (w1.heap.size + 1) w1.heap.size 16 (List.replicate (64 * 16) 0) := twin_new (Nat.le_refl _) r1 f2 r2
  have HW : Hid (v0.heap.size + 1 < w1.heap.size) := r1.head.lt
  replace f1 := f1.trans f2
  replace f0 := f0.trans f1
  replace rx := rx.keep f1 (fun h => h)
  replace rr := rr.keep f1 (fun h => h)
  clear f1 f2 r1 r2
  obtain ⟨pm, hpm⟩ : ∃ q, q = v0.heap.size + 1 := ⟨_, rfl⟩
  obtain ⟨bm, hbm⟩ : ∃ q, q = v0.heap.size := ⟨_, rfl⟩
  obtain ⟨pr, hpr⟩ : ∃ q, q = w1.heap.size + 1 := ⟨_, rfl⟩
  obtain ⟨br, hbr⟩ : ∃ q, q = w1.heap.size := ⟨_, rfl⟩
  rw [← hpm, ← hpr, ← hbr, ← hbm] at TW0
  rw [← hpm, ← hpr]
  have HA : Hid (w.heap.size + 2 ≤ bm ∧ bm < pm ∧ pm < br ∧ br < pr) := (show _ ∧ _ from ⟨by have := hsz.out; omega, by omega, by have := HW.out; omega, by omega⟩)
  clear hpm hbm hpr hbr HW hsz
  replace TW0 : Twin w2 w.heap.size pm bm pr br 16 (List.replicate (64 * 16) 0) := ⟨TW0.ram, TW0.ref, TW0.d1, TW0.d2, TW0.d3, by have := HA.out; omega⟩
  go_wp2_with fail
  refine (tnew_any _).mono ?_
  rintro e w3 ⟨bt, rfl, hbt, f3, hT⟩
  have HT : Hid (pr < bt) := Nat.lt_of_lt_of_le TW0.ref.head.lt hbt
  replace TW0 := TW0.keep0 f3
  replace f0 := f0.trans f3
  replace rx := rx.keep f3 (fun h => h)
  replace rr := rr.keep f3 (fun h => h)
  clear f3 hbt
  go_upto_block 0 with fail
  go_cut [9] from 36 to 86 (fun s wx => Fr none' w wx ∧ Twin wx w.heap.size pm bm pr br 16 (pB P (min len 100)) ∧ Row wx gx #[.slice a0 len cap, .slice a1 len1 cap1, .bool g, .int .i64 vm, .int .i64 se] 25 ∧ Row wx gr #[.pointer none, .pointer none, .pointer none, .pointer none, .pointer none, .pointer none] 44 ∧ IsTlb wx bt (fun _ => zl) 0 0)
  case first =>
    go_wp2_with fail
    go_loopw [9] (fun i wr => ∃ k : Nat, k ≤ len ∧ k ≤ 100 ∧ i = .int .i64 k ∧ Fr none' w wr ∧ Twin wr w.heap.size pm bm pr br 16 (pB P k) ∧ Row wr gx #[.slice a0 len cap, .slice a1 len1 cap1, .bool g, .int .i64 vm, .int .i64 se] 25 ∧ Row wr gr #[.pointer none, .pointer none, .pointer none, .pointer none, .pointer none, .pointer none] 44 ∧ IsTlb wr bt (fun _ => zl) 0 0) (fun i _ => 100 - (intOf i).toNat)
    case atStart => exact ⟨0, by omega, by omega, rfl, f0, TW0, rx, rr, hT⟩
    case round =>
      clear f0 TW0 rx rr hT
      obtain ⟨k, hk, hk2, rfl, fk, TW, rx, rr, hT⟩ := hrel
      have x0 : wr.cell? ⟨gx, 0, none⟩ = some (.slice a0 len cap) := rx.cell 0
      by_cases hlt : k < len
      · by_cases hlt2 : k < 100
        · obtain ⟨b, o, rfl, pk⟩ := HP.out k hlt
          have hbl := cell_lt pk.c0
          replace hbl : Hid (b < w.heap.size) := hbl
          replace pk := pk.keep fk (fun h => h)
          have i1 : 0 ≤ (k : Int) ∧ (k : Int) < (len : Int) := by omega
          have uk1 : decide ((k : Int) < (len : Int)) = true := decide_eq_true (by omega)
          have uk2 : decide ((k : Int) < 100) = true := decide_eq_true (by omega)
          have nb : b ≠ bm ∧ b ≠ br := by have := hbl.out; have := HA.out; omega
          have ng : gx ≠ bm ∧ gx ≠ br ∧ gr ≠ bm ∧ gr ≠ br := by have := HG.out; have := HA.out; omega
          have nt : bt ≠ bm ∧ bt ≠ br := by have := HT.out; have := HA.out; omega
          have HNN : Hid ((b ≠ bm ∧ b ≠ br) ∧ (gx ≠ bm ∧ gx ≠ br ∧ gr ≠ bm ∧ gr ≠ br) ∧ (bt ≠ bm ∧ bt ≠ br)) := ⟨nb, ng, nt⟩
          clear nb ng nt
          go_wp2_with fail
          clear x0
          have dm := TW.ram.drew
          go_region_held3 (fun w' => w'.cell? ⟨gx, 0, none⟩ = some (.slice (some ⟨b, o, none⟩) len cap) ∧ w'.cell? ⟨b, o + k * 6, none⟩ = some (.int .i64 (P k).t) ∧ w'.cell? ⟨b, o + k * 6 + 1, none⟩ = some (.int .i64 (P k).i) ∧ w'.cell? ⟨b, o + k * 6 + 2, none⟩ = some (.bool (P k).v) ∧ w'.cell? ⟨b, o + k * 6 + 3, none⟩ = some (.bool (P k).l) ∧ w'.cell? ⟨b, o + k * 6 + 4, none⟩ = some (.int .i64 (P k).r) ∧ w'.cell? ⟨b, o + k * 6 + 5, none⟩ = some (.int .i64 (P k).f)) (first | with_reducible exact ⟨rx.cell 0, pk.c0, pk.c1, pk.c2, pk.c3, pk.c4, pk.c5⟩ | exact ⟨rx.cell 0, pk.c0, pk.c1, pk.c2, pk.c3, pk.c4, pk.c5⟩) (first | (go_at_call 34; refine (put_any _ _ _ _ _ _ _ _ _ _ _ dm).mono ?_; rintro e w1' ⟨rfl, f1, q1⟩; replace f1 := rs_drew f1; replace pk := pk.keep f1 HNN.out.1.1; replace rx := rx.keep f1 HNN.out.2.1.1))
          clear dm
          have q0 := TW.ref.keep f1 TW.d2 (fun e => TW.d3 e.symm)
          go_wp2_with fail
          have dr := q0.drew
          go_region_held3 (fun w' => w'.cell? ⟨gx, 0, none⟩ = some (.slice (some ⟨b, o, none⟩) len cap) ∧ w'.cell? ⟨b, o + k * 6, none⟩ = some (.int .i64 (P k).t) ∧ w'.cell? ⟨b, o + k * 6 + 1, none⟩ = some (.int .i64 (P k).i) ∧ w'.cell? ⟨b, o + k * 6 + 2, none⟩ = some (.bool (P k).v) ∧ w'.cell? ⟨b, o + k * 6 + 3, none⟩ = some (.bool (P k).l) ∧ w'.cell? ⟨b, o + k * 6 + 4, none⟩ = some (.int .i64 (P k).r) ∧ w'.cell? ⟨b, o + k * 6 + 5, none⟩ = some (.int .i64 (P k).f)) (first | with_reducible exact ⟨rx.cell 0, pk.c0, pk.c1, pk.c2, pk.c3, pk.c4, pk.c5⟩ | exact ⟨rx.cell 0, pk.c0, pk.c1, pk.c2, pk.c3, pk.c4, pk.c5⟩) (first | (go_at_call 35; refine (rput_any _ _ _ _ _ _ _ _ _ _ _ dr).mono ?_; rintro e w2' ⟨rfl, f2, q2⟩; replace f2 := rs_drew f2; replace pk := pk.keep f2 HNN.out.1.2; replace rx := rx.keep f2 HNN.out.2.1.2.1))
          clear dr
          obtain ⟨TW2, ff⟩ := TW.step f1 q1 f2 q2
          replace fk := fk.own ff TW.lo.2.1 TW.lo.2.2.2
          replace rr := (rr.keep f1 HNN.out.2.1.2.2.1).keep f2 HNN.out.2.1.2.2.2
          replace hT := (hT.keep f1 HNN.out.2.2.1).keep f2 HNN.out.2.2.2
          clear f1 f2 q0 q1 q2 ff TW
          go_wp2_with fail
          go_roundw
          case rel => exact ⟨k + 1, by omega, by omega, by go_num, fk, TW2, rx, rr, hT⟩
          case measure => simp [intOf]; omega
        · obtain rfl : k = 100 := by omega
          have uk1 : decide (((100 : Nat) : Int) < (len : Int)) = true := decide_eq_true (by omega)
          have x0' : wr.cell? ⟨gx, 0, none⟩ = some (.slice a0 len cap) := x0
          go_wp2_with fail
          go_meet
          exact ⟨fk, by rw [Nat.min_eq_right (by omega)]; exact TW, rx, rr, hT⟩
      · obtain rfl : k = len := by omega
        go_wp2_with fail
        go_meet
        exact ⟨fk, by rw [Nat.min_eq_left (by omega)]; exact TW, rx, rr, hT⟩
  case rest =>
  obtain ⟨f0, TW0, rx, rr, hT⟩ := hcut
  obtain ⟨bs0, hbs0⟩ : ∃ q, q = pB P (min len 100) := ⟨_, rfl⟩
  rw [← hbs0] at TW0
  have HBS : Hid (bs0 = pB P (min len 100)) := hbs0
  clear hbs0
  go_upto_block 2 with fail
  go_cut [10] from 87 to 125 (fun s wx => Fr none' w wx ∧ Twin wx w.heap.size pm bm pr br 16 (wB bs0 Q (min len1 300)) ∧ Row wx gx #[.slice a0 len cap, .slice a1 len1 cap1, .bool g, .int .i64 vm, .int .i64 se] 25 ∧ Row wx gr #[.pointer none, .pointer none, .pointer none, .pointer none, .pointer none, .pointer none] 44 ∧ IsTlb wx bt (fun _ => zl) 0 0)
  case first =>
    go_wp2_with fail
    go_loopw [10] (fun i wr => ∃ k : Nat, k ≤ len1 ∧ k ≤ 300 ∧ i = .int .i64 k ∧ Fr none' w wr ∧ Twin wr w.heap.size pm bm pr br 16 (wB bs0 Q k) ∧ Row wr gx #[.slice a0 len cap, .slice a1 len1 cap1, .bool g, .int .i64 vm, .int .i64 se] 25 ∧ Row wr gr #[.pointer none, .pointer none, .pointer none, .pointer none, .pointer none, .pointer none] 44 ∧ IsTlb wr bt (fun _ => zl) 0 0) (fun i _ => 300 - (intOf i).toNat)
    case atStart => exact ⟨0, by omega, by omega, rfl, f0, TW0, rx, rr, hT⟩
    case round =>
      clear f0 TW0 rx rr hT
      obtain ⟨k, hk, hk2, rfl, fk, TW, rx, rr, hT⟩ := hrel
      have x0 : wr.cell? ⟨gx, 1, none⟩ = some (.slice a1 len1 cap1) := rx.cell 1
      by_cases hlt : k < len1
      · by_cases hlt2 : k < 300
        · obtain ⟨b, o, rfl, pk⟩ := HQ.out k hlt
          have hbl := cell_lt pk.c0
          replace hbl : Hid (b < w.heap.size) := hbl
          replace pk := pk.keep fk (fun h => h)
          have i1 : 0 ≤ (k : Int) ∧ (k : Int) < (len1 : Int) := by omega
          have uk1 : decide ((k : Int) < (len1 : Int)) = true := decide_eq_true (by omega)
          have uk2 : decide ((k : Int) < 300) = true := decide_eq_true (by omega)
          have nb : b ≠ bm ∧ b ≠ br := by have := hbl.out; have := HA.out; omega
          have ng : gx ≠ bm ∧ gx ≠ br ∧ gr ≠ bm ∧ gr ≠ br := by have := HG.out; have := HA.out; omega
          have nt : bt ≠ bm ∧ bt ≠ br := by have := HT.out; have := HA.out; omega
          have HNN : Hid ((b ≠ bm ∧ b ≠ br) ∧ (gx ≠ bm ∧ gx ≠ br ∧ gr ≠ bm ∧ gr ≠ br) ∧ (bt ≠ bm ∧ bt ≠ br)) := ⟨nb, ng, nt⟩
          clear nb ng nt
          go_wp2_with fail
          clear x0
          have dm := TW.ram.drew
          go_region_held3 (fun w' => w'.cell? ⟨gx, 1, none⟩ = some (.slice (some ⟨b, o, none⟩) len1 cap1) ∧ w'.cell? ⟨b, o + k * 2, none⟩ = some (.int .i64 (Q k).a) ∧ w'.cell? ⟨b, o + k * 2 + 1, none⟩ = some (.int .u32 ((Q k).w : Int))) (first | with_reducible exact ⟨rx.cell 1, pk.c0, pk.c1⟩ | exact ⟨rx.cell 1, pk.c0, pk.c1⟩) (first | (go_at_call 30; refine (store_any _ _ _ _ _ (Q k).a 4 (Q k).w dm pk.small pk.word).mono ?_; rintro e w1' ⟨rfl, f1, q1⟩; replace f1 := rs_drew f1; replace pk := pk.keep f1 HNN.out.1.1; replace rx := rx.keep f1 HNN.out.2.1.1))
          clear dm
          have q0 := TW.ref.keep f1 TW.d2 (fun e => TW.d3 e.symm)
          go_wp2_with fail
          have dr := q0.drew
          go_region_held3 (fun w' => w'.cell? ⟨gx, 1, none⟩ = some (.slice (some ⟨b, o, none⟩) len1 cap1) ∧ w'.cell? ⟨b, o + k * 2, none⟩ = some (.int .i64 (Q k).a) ∧ w'.cell? ⟨b, o + k * 2 + 1, none⟩ = some (.int .u32 ((Q k).w : Int))) (first | with_reducible exact ⟨rx.cell 1, pk.c0, pk.c1⟩ | exact ⟨rx.cell 1, pk.c0, pk.c1⟩) (first | (go_at_call 36; refine (rstore_any _ _ _ _ _ (Q k).a 4 (Q k).w dr pk.word).mono ?_; rintro e w2' ⟨rfl, f2, q2⟩; replace f2 := rs_drew f2; replace pk := pk.keep f2 HNN.out.1.2; replace rx := rx.keep f2 HNN.out.2.1.2.1))
          clear dr
          obtain ⟨TW2, ff⟩ := TW.step f1 q1 f2 q2
          replace fk := fk.own ff TW.lo.2.1 TW.lo.2.2.2
          replace rr := (rr.keep f1 HNN.out.2.1.2.2.1).keep f2 HNN.out.2.1.2.2.2
          replace hT := (hT.keep f1 HNN.out.2.2.1).keep f2 HNN.out.2.2.2
          clear f1 f2 q0 q1 q2 ff TW
          go_wp2_with fail
          go_roundw
          case rel => exact ⟨k + 1, by omega, by omega, by go_num, fk, TW2, rx, rr, hT⟩
          case measure => simp [intOf]; omega
        · obtain rfl : k = 300 := by omega
          have uk1 : decide (((300 : Nat) : Int) < (len1 : Int)) = true := decide_eq_true (by omega)
          have x0' : wr.cell? ⟨gx, 1, none⟩ = some (.slice a1 len1 cap1) := x0
          go_wp2_with fail
          go_meet
          exact ⟨fk, by rw [Nat.min_eq_right (by omega)]; exact TW, rx, rr, hT⟩
      · obtain rfl : k = len1 := by omega
        go_wp2_with fail
        go_meet
        exact ⟨fk, by rw [Nat.min_eq_left (by omega)]; exact TW, rx, rr, hT⟩
  case rest =>
  obtain ⟨f0, TW0, rx, rr, hT⟩ := hcut
  obtain ⟨bu, hbu⟩ : ∃ q, q = wc.heap.size := ⟨_, rfl⟩
  obtain ⟨gs, hgs⟩ : ∃ q, q = wc.heap.size + 1 := ⟨_, rfl⟩
  have HU : Hid (bt < bu ∧ gs = bu + 1 ∧ gr < bu) := (show _ ∧ _ from ⟨by rw [hbu]; exact hT.lt, by omega, by rw [hbu]; exact rr.lt⟩)
  have q1 := ((Fr.refl none' wc).alloc (.cells #[.int .i64 0, .int .i64 0, .int .i64 0, .int .i64 0, .int .i64 0, .int .i64 0, .int .i64 0, .int .i64 0, .int .i64 0, .int .i64 0, .int .i64 0, .int .i64 0, .int .i64 0, .int .i64 0, .int .i64 0, .int .i64 0, .int .i64 0, .int .i64 0, .int .i64 0, .int .i64 0, .int .i64 0, .int .i64 0, .int .i64 0, .int .i64 0, .int .i64 0, .int .i64 0, .int .i64 0, .int .i64 0, .int .i64 0, .int .i64 0, .int .i64 0, .int .i64 0, .int .i64 0, .int .i64 0, .int .i64 0, .int .i64 0, .int .i64 0, .int .i64 0, .int .i64 0, .int .i64 0, .int .i64 0, .int .i64 0] 104)).alloc (.cells #[.pointer (some ⟨pm, 0, none⟩), .pointer (some ⟨bt, 0, none⟩), .pointer none, .pointer (some ⟨pr, 0, none⟩), .pointer (some ⟨bu, 0, none⟩), .pointer none] 44)
  have hU : IsTref ((wc.alloc (.cells #[.int .i64 0, .int .i64 0, .int .i64 0, .int .i64 0, .int .i64 0, .int .i64 0, .int .i64 0, .int .i64 0, .int .i64 0, .int .i64 0, .int .i64 0, .int .i64 0, .int .i64 0, .int .i64 0, .int .i64 0, .int .i64 0, .int .i64 0, .int .i64 0, .int .i64 0, .int .i64 0, .int .i64 0, .int .i64 0, .int .i64 0, .int .i64 0, .int .i64 0, .int .i64 0, .int .i64 0, .int .i64 0, .int .i64 0, .int .i64 0, .int .i64 0, .int .i64 0, .int .i64 0, .int .i64 0, .int .i64 0, .int .i64 0, .int .i64 0, .int .i64 0, .int .i64 0, .int .i64 0, .int .i64 0, .int .i64 0] 104)).alloc (.cells #[.pointer (some ⟨pm, 0, none⟩), .pointer (some ⟨bt, 0, none⟩), .pointer none, .pointer (some ⟨pr, 0, none⟩), .pointer (some ⟨bu, 0, none⟩), .pointer none] 44)) bu (fun _ => zl) 0 0 := by rw [hbu]; exact (buf_zero _ _).alloc _
  have rs : Row ((wc.alloc (.cells #[.int .i64 0, .int .i64 0, .int .i64 0, .int .i64 0, .int .i64 0, .int .i64 0, .int .i64 0, .int .i64 0, .int .i64 0, .int .i64 0, .int .i64 0, .int .i64 0, .int .i64 0, .int .i64 0, .int .i64 0, .int .i64 0, .int .i64 0, .int .i64 0, .int .i64 0, .int .i64 0, .int .i64 0, .int .i64 0, .int .i64 0, .int .i64 0, .int .i64 0, .int .i64 0, .int .i64 0, .int .i64 0, .int .i64 0, .int .i64 0, .int .i64 0, .int .i64 0, .int .i64 0, .int .i64 0, .int .i64 0, .int .i64 0, .int .i64 0, .int .i64 0, .int .i64 0, .int .i64 0, .int .i64 0, .int .i64 0] 104)).alloc (.cells #[.pointer (some ⟨pm, 0, none⟩), .pointer (some ⟨bt, 0, none⟩), .pointer none, .pointer (some ⟨pr, 0, none⟩), .pointer (some ⟨bu, 0, none⟩), .pointer none] 44)) gs #[.pointer (some ⟨pm, 0, none⟩), .pointer (some ⟨bt, 0, none⟩), .pointer none, .pointer (some ⟨pr, 0, none⟩), .pointer (some ⟨bu, 0, none⟩), .pointer none] 44 := row_at (by rw [hgs]; simp)
  rw [hbu] at q1 hU rs
  go_upto_region 17 with fail
  obtain ⟨v5, hv5⟩ : ∃ v5, v5 = (wc.alloc (.cells #[.int .i64 0, .int .i64 0, .int .i64 0, .int .i64 0, .int .i64 0, .int .i64 0, .int .i64 0, .int .i64 0, .int .i64 0, .int .i64 0, .int .i64 0, .int .i64 0, .int .i64 0, .int .i64 0, .int .i64 0, .int .i64 0, .int .i64 0, .int .i64 0, .int .i64 0, .int .i64 0, .int .i64 0, .int .i64 0, .int .i64 0, .int .i64 0, .int .i64 0, .int .i64 0, .int .i64 0, .int .i64 0, .int .i64 0, .int .i64 0, .int .i64 0, .int .i64 0, .int .i64 0, .int .i64 0, .int .i64 0, .int .i64 0, .int .i64 0, .int .i64 0, .int .i64 0, .int .i64 0, .int .i64 0, .int .i64 0] 104)).alloc (.cells #[.pointer (some ⟨pm, 0, none⟩), .pointer (some ⟨bt, 0, none⟩), .pointer none, .pointer (some ⟨pr, 0, none⟩), .pointer (some ⟨wc.heap.size, 0, none⟩), .pointer none] 44) := ⟨_, rfl⟩
  rw [← hv5] at q1 hU rs ⊢
  rw [← hgs]
  rw [← hbu] at hU rs ⊢
  clear hv5 hbu hgs
  replace f0 := f0.trans q1
  replace TW0 := TW0.keep0 q1
  replace rx := rx.keep q1 (fun h => h)
  replace rr := rr.keep q1 (fun h => h)
  replace hT := hT.keep q1 (fun h => h)
  clear q1
  have c2 : v5.cell? ⟨gx, 2, none⟩ = some (.bool g) := rx.cell 2
  have HAll : Hid (w.heap.size + 2 ≤ bm ∧ bm < pm ∧ pm < br ∧ br < pr ∧ pr < bt ∧ bt < bu ∧ gs = bu + 1 ∧ gr = w.heap.size + 1 ∧ gx = w.heap.size) := (show _ ∧ _ from by have := HA.out; have := HT.out; have := HU.out; have := HG.out; omega)
  clear HA HT HU HG HP HQ
  cases g with
  | false =>
    obtain ⟨s0, s1, s2, s3, s4, s5⟩ := cells6 rs
    obtain ⟨r0, r1, r2, r3, r4, r5⟩ := cells6 rr
    obtain ⟨z0, z1, z2, z3, z4, z5⟩ := frozen6 rr
    go_wp2_with fail
    refine bodyPost_ret (ret_both rfl rfl (row_set6 rr _ _ _ _ _ _) rfl) rfl ?_
    have q := fr_own6 v5 gr (.pointer (some ⟨pm, 0, none⟩)) (.pointer (some ⟨bt, 0, none⟩)) (.pointer none) (.pointer (some ⟨pr, 0, none⟩)) (.pointer (some ⟨bu, 0, none⟩)) (.pointer none)
    have hh := HAll.out
    have TW3 := TW0.keep q (show pm ≠ gr by omega) (show bm ≠ gr by omega) (show pr ≠ gr by omega) (show br ≠ gr by omega)
    rw [HBS.out] at TW3
    refine ⟨⟨⟨pm, bm, bt, none⟩, pr, br, bu, none⟩, rfl, f0.newer q (by omega), ⟨⟨TW3.ram, hT.keep q (show bt ≠ gr by omega), trivial, by show pm ≠ bt; omega, by show bm ≠ bt; omega, by show pm ≠ bm; omega, fun e => e, fun e => e, fun e => e⟩, TW3.ref, hU.keep q (show bu ≠ gr by omega), trivial, fun k hk => ?_, ⟨by show _ ≤ pr; omega, by show _ ≤ br; omega, by show _ ≤ bu; omega, fun _ h => by cases h⟩, fun k hk => ?_, ⟨by show pr ≠ bu; omega, by show br ≠ bu; omega, fun _ h => by cases h⟩⟩⟩
    · have hk' : k = bm ∨ k = bt ∨ k = pm := by rcases hk with (h | h | h) | h; exact Or.inl h; exact Or.inr (Or.inl h); exact h.elim; exact Or.inr (Or.inr h)
      omega
    · have hk' : k = bm ∨ k = bt ∨ k = pm := by rcases hk with (h | h | h) | h; exact Or.inl h; exact Or.inr (Or.inl h); exact h.elim; exact Or.inr (Or.inr h)
      exact ⟨by show k ≠ pr; omega, by show k ≠ br; omega, by show k ≠ bu; omega, fun _ h => by cases h⟩
  | true =>
    go_wp2_with fail
    refine (v_new_ok _ 4 (by decide)).mono ?_
    rintro e v6 ⟨b, rfl, hbn, f6, hV⟩
    have HV1 : Hid (∀ k, b.s k → gs < k ∧ k < v6.heap.size) := fun k hk => ⟨Nat.lt_of_lt_of_le rs.lt (hbn k hk), hV.lt k hk⟩
    replace f0 := f0.trans f6
    replace TW0 := TW0.keep0 f6
    replace rr := rr.keep f6 (fun h => h)
    replace rs := rs.keep f6 (fun h => h)
    replace hT := hT.keep f6 (fun h => h)
    replace hU := hU.keep f6 (fun h => h)
    clear f6 hbn rx c2
    go_wp2_with fail
    refine (v_rnew_ok _ 4 (by decide)).mono ?_
    rintro e v7 ⟨vr, rfl, hvn, f7, hRV⟩
    have HV2 : Hid (∀ k, b.s k → gs < k ∧ k < vr) := fun k hk => ⟨(HV1.out k hk).1, Nat.lt_of_lt_of_le (HV1.out k hk).2 hvn⟩
    have HV3 : Hid (gs < vr) := Nat.lt_of_lt_of_le rs.lt hvn
    replace f0 := f0.trans f7
    replace TW0 := TW0.keep0 f7
    replace rr := rr.keep f7 (fun h => h)
    replace rs := rs.keep f7 (fun h => h)
    replace hT := hT.keep f7 (fun h => h)
    replace hU := hU.keep f7 (fun h => h)
    replace hV := hV.keep0 f7
    clear f7 hvn HV1
    obtain ⟨s0, s1, s2, s3, s4, s5⟩ := cells6 rs
    obtain ⟨y0, y1, y2, y3, y4, y5⟩ := frozen6 rs
    obtain ⟨r0, r1, r2, r3, r4, r5⟩ := cells6 rr
    obtain ⟨z0, z1, z2, z3, z4, z5⟩ := frozen6 rr
    have ngs : gs ≠ gr := by have := HAll.out; omega
    go_wp2_with fail
    have q1 : Fr (at' gs) v7 ((v7.setCell ⟨gs, 2, none⟩ (.pointer (some ⟨b.b, 0, none⟩))).setCell ⟨gs, 5, none⟩ (.pointer (some ⟨vr, 0, none⟩))) := fr_set v7 gs 5 _ (fr_set v7 gs 2 _ (Fr.refl _ v7))
    have rr1 := rr.keep q1 (show gr ≠ gs from Ne.symm ngs)
    obtain ⟨v8, hv8⟩ : ∃ v8, v8 = (v7.setCell ⟨gs, 2, none⟩ (.pointer (some ⟨b.b, 0, none⟩))).setCell ⟨gs, 5, none⟩ (.pointer (some ⟨vr, 0, none⟩)) := ⟨_, rfl⟩
    rw [← hv8] at q1 rr1 ⊢
    clear hv8
    refine bodyPost_ret (ret_both rfl rfl (row_set6 rr1 _ _ _ _ _ _) rfl) rfl ?_
    have q2 := fr_own6 v8 gr (.pointer (some ⟨pm, 0, none⟩)) (.pointer (some ⟨bt, 0, none⟩)) (.pointer (some ⟨b.b, 0, none⟩)) (.pointer (some ⟨pr, 0, none⟩)) (.pointer (some ⟨bu, 0, none⟩)) (.pointer (some ⟨vr, 0, none⟩))
    have hh := HAll.out
    have h3 := HV3.out
    have hs2 := HV2.out
    have TW3 := (TW0.keep q1 (show pm ≠ gs by omega) (show bm ≠ gs by omega) (show pr ≠ gs by omega) (show br ≠ gs by omega)).keep q2 (show pm ≠ gr by omega) (show bm ≠ gr by omega) (show pr ≠ gr by omega) (show br ≠ gr by omega)
    rw [HBS.out] at TW3
    refine ⟨⟨⟨pm, bm, bt, some b⟩, pr, br, bu, some vr⟩, rfl, (f0.newer q1 (by omega)).newer q2 (by omega), ⟨⟨TW3.ram, (hT.keep q1 (show bt ≠ gs by omega)).keep q2 (show bt ≠ gr by omega), ?_, by show pm ≠ bt; omega, by show bm ≠ bt; omega, by show pm ≠ bm; omega, fun e => by have := hs2 pm e; omega, fun e => by have := hs2 bm e; omega, fun e => by have := hs2 bt e; omega⟩, TW3.ref, (hU.keep q1 (show bu ≠ gs by omega)).keep q2 (show bu ≠ gr by omega), ?_, fun k hk => ?_, ⟨by show _ ≤ pr; omega, by show _ ≤ br; omega, by show _ ≤ bu; omega, fun b' h => by cases h; omega⟩, fun k hk => ?_, ⟨by show pr ≠ bu; omega, by show br ≠ bu; omega, fun b' h => by cases h; exact ⟨by show vr ≠ pr; omega, by show vr ≠ br; omega, by show vr ≠ bu; omega⟩⟩⟩⟩
    · exact (hV.keep q1 (fun k hk e => by have e' : k = gs := e; have := hs2 k hk; omega)).keep q2 (fun k hk e => by have e' : k = gr := e; have := hs2 k hk; omega)
    · exact (hRV.keep q1 (show vr ≠ gs by omega)).keep q2 (show vr ≠ gr by omega)
    · have hk' : (k = bm ∨ k = bt ∨ k = pm) ∨ b.s k := by rcases hk with (h | h | h) | h; exact Or.inl (Or.inl h); exact Or.inl (Or.inr (Or.inl h)); exact Or.inr h; exact Or.inl (Or.inr (Or.inr h))
      rcases hk' with hk' | hk'
      · omega
      · have := hs2 k hk'; omega
    · have hk' : (k = bm ∨ k = bt ∨ k = pm) ∨ b.s k := by rcases hk with (h | h | h) | h; exact Or.inl (Or.inl h); exact Or.inl (Or.inr (Or.inl h)); exact Or.inr h; exact Or.inl (Or.inr (Or.inr h))
      rcases hk' with hk' | hk'
      · exact ⟨by show k ≠ pr; omega, by show k ≠ br; omega, by show k ≠ bu; omega, fun b' h => by cases h; omega⟩
      · have := hs2 k hk'
        exact ⟨by show k ≠ pr; omega, by show k ≠ br; omega, by show k ≠ bu; omega, fun b' h => by cases h; omega⟩

end Go.Proofs.YtcpjlpgphfhonaaGreat

/- CpuExample -/
namespace Go.Proofs.YtcpjlpgphfhonaaGreat
open Go.RowKit

theorem size_world : (Tryz.prog.info? 25).map (·.size) = some 5 := by kernel_rfl
theorem ret_world {fn : Func} {p : Tmp} {tmps : Array Value} {g : Nat} {cs : Array Value} {w : World} (h : fn.results = #[.cell p 25]) (hp : tmps.getD p undef = .pointer (some ⟨g, 0, none⟩)) (hr : Row w g cs 25) (hs : cs.size = 5) :
    (results fn tmps).run Tryz.prog w = .ok (.agg cs) w :=
  results_cell_row h tmps w g _ cs (0, 0) _ hp hr Tryz.underlying25 rfl (by rw [hs]; exact size_world)
theorem size_entry : (Tryz.prog.info? 76).map (·.size) = some 4 := by kernel_rfl
theorem ret_entry {fn : Func} {p : Tmp} {tmps : Array Value} {g : Nat} {cs : Array Value} {w : World} (h : fn.results = #[.cell p 76]) (hp : tmps.getD p undef = .pointer (some ⟨g, 0, none⟩)) (hr : Row w g cs 76) (hs : cs.size = 4) :
    (results fn tmps).run Tryz.prog w = .ok (.agg cs) w :=
  results_cell_row h tmps w g _ cs (0, 0) _ hp hr Tryz.underlying76 rfl (by rw [hs]; exact size_entry)

theorem leaf_any (w : World) (f r : Int) : Calls Tryz.prog 68 #[.int .i64 f, .int .i64 r] w fun e w' => e = .returned (.agg #[.bool true, .bool true, .int .i64 r, .int .i64 f]) ∧ Fr none' w w' := by
  go_enter Tryz.func68, Tryz.ntmps68
  go_wp2_with fail
  refine bodyPost_ret (ret_entry rfl rfl (row_alloc _ _ _) rfl) rfl ?_
  exact ⟨rfl, (Fr.refl _ w).alloc _⟩

def exP : Nat → Pu
  | 0 => ⟨3, 0, true, false, 0, 4⟩
  | 1 => ⟨4, 0, true, true, 5, 1⟩
  | _ => ⟨4, 1, true, true, 3, 2⟩
def exQ (W : Nat) : Nat → Wo
  | 0 => ⟨64, W⟩
  | _ => ⟨128, 77⟩
/-- The example's memory. -/
def exB (W : Nat) : List UInt8 := wB (pB exP 3) (exQ W) 2

set_option maxHeartbeats 4000000 in
set_option maxRecDepth 100000 in
theorem example_any (w : World) (o a b c i : Int) (g : Bool) (W : Nat) (hW : i_encW o a b c i = W) (hWl : W < 4294967296) :
    Calls Tryz.prog 28 #[.agg #[.int .i64 o, .int .i64 a, .int .i64 b, .int .i64 c, .int .i64 i], .bool g] w fun e w' => ∃ a0 a1, e = .returned (.agg #[.slice a0 3 3, .slice a1 2 2, .bool g, .int .i64 1, .int .i64 3]) ∧ Fr none' w w' ∧ Pus w' a0 3 exP ∧ Wos w' a1 2 (exQ W) := by
  have hE := fun w1 => i_enc_any o a b c i w1
  rw [hW] at hE
  have f0 := ((Fr.refl none' w).alloc (.cells #[.int .i64 o, .int .i64 a, .int .i64 b, .int .i64 c, .int .i64 i] 84)).alloc (.cells #[.slice none 0 0, .slice none 0 0, .bool false, .int .i64 0, .int .i64 0] 25)
  have rr := row_at (W := w.alloc (.cells #[.int .i64 o, .int .i64 a, .int .i64 b, .int .i64 c, .int .i64 i] 84)) (n := w.heap.size + 1) (cs := #[.slice none 0 0, .slice none 0 0, .bool false, .int .i64 0, .int .i64 0]) (t := 25) (by simp)
  clear hW
  go_enter Tryz.func28, Tryz.ntmps28
  go_wp2_with fail
  refine (hE _).mono ?_
  rintro e v1 ⟨rfl, g1⟩
  replace f0 := f0.trans g1
  replace rr := rr.keep g1 (fun h => h)
  clear g1 hE
  go_wp2_with fail
  refine (leaf_any _ _ _).mono ?_
  rintro e v2 ⟨rfl, g2⟩
  replace f0 := f0.trans g2
  replace rr := rr.keep g2 (fun h => h)
  clear g2
  go_wp2_with fail
  refine (leaf_any _ _ _).mono ?_
  rintro e v3 ⟨rfl, g3⟩
  replace f0 := f0.trans g3
  replace rr := rr.keep g3 (fun h => h)
  clear g3
  have hlt := rr.lt
  have HG : Hid (w.heap.size + 1 < v3.heap.size) := hlt
  clear hlt
  have f4 := (f0.alloc (.cells #[.int .i64 3, .int .i64 0, .bool true, .bool false, .int .i64 0, .int .i64 4, .int .i64 4, .int .i64 0, .bool true, .bool true, .int .i64 5, .int .i64 1, .int .i64 4, .int .i64 1, .bool true, .bool true, .int .i64 3, .int .i64 2] 96)).alloc (.cells #[.int .i64 64, .int .u32 (W : Int), .int .i64 128, .int .u32 77] 99)
  have rr2 := (rr.alloc (.cells #[.int .i64 3, .int .i64 0, .bool true, .bool false, .int .i64 0, .int .i64 4, .int .i64 4, .int .i64 0, .bool true, .bool true, .int .i64 5, .int .i64 1, .int .i64 4, .int .i64 1, .bool true, .bool true, .int .i64 3, .int .i64 2] 96)).alloc (.cells #[.int .i64 64, .int .u32 (W : Int), .int .i64 128, .int .u32 77] 99)
  have rp := (row_alloc v3 #[.int .i64 3, .int .i64 0, .bool true, .bool false, .int .i64 0, .int .i64 4, .int .i64 4, .int .i64 0, .bool true, .bool true, .int .i64 5, .int .i64 1, .int .i64 4, .int .i64 1, .bool true, .bool true, .int .i64 3, .int .i64 2] 96).alloc (.cells #[.int .i64 64, .int .u32 (W : Int), .int .i64 128, .int .u32 77] 99)
  have rw' := row_at (W := v3.alloc (.cells #[.int .i64 3, .int .i64 0, .bool true, .bool false, .int .i64 0, .int .i64 4, .int .i64 4, .int .i64 0, .bool true, .bool true, .int .i64 5, .int .i64 1, .int .i64 4, .int .i64 1, .bool true, .bool true, .int .i64 3, .int .i64 2] 96)) (n := v3.heap.size + 1) (cs := #[.int .i64 64, .int .u32 (W : Int), .int .i64 128, .int .u32 77]) (t := 99) (by simp)
  obtain ⟨z0, z1, z2, z3, z4⟩ := frozen5 rr2
  obtain ⟨x0, x1, x2, x3, x4⟩ := cells5 rr2
  go_wp2_with fail
  obtain ⟨v4, hv4⟩ : ∃ v4, v4 = (v3.alloc (.cells #[.int .i64 3, .int .i64 0, .bool true, .bool false, .int .i64 0, .int .i64 4, .int .i64 4, .int .i64 0, .bool true, .bool true, .int .i64 5, .int .i64 1, .int .i64 4, .int .i64 1, .bool true, .bool true, .int .i64 3, .int .i64 2] 96)).alloc (.cells #[.int .i64 64, .int .u32 (W : Int), .int .i64 128, .int .u32 77] 99) := ⟨_, rfl⟩
  rw [← hv4] at rr2 rp rw' f4 ⊢
  clear hv4 x0 x1 x2 x3 x4 z0 z1 z2 z3 z4
  refine bodyPost_ret (ret_world rfl rfl (row_set5' rr2 _ _ _ _ _) rfl) rfl ?_
  have q := fr_own5 v4 (w.heap.size + 1) (.slice (some ⟨v3.heap.size, 0, none⟩) 3 3) (.slice (some ⟨v3.heap.size + 1, 0, none⟩) 2 2) (.bool g) (.int .i64 1) (.int .i64 3)
  have hp := rp.keep q (show v3.heap.size ≠ w.heap.size + 1 by have := HG.out; omega)
  have hw := rw'.keep q (show v3.heap.size + 1 ≠ w.heap.size + 1 by have := HG.out; omega)
  refine ⟨_, _, rfl, f4.newer q (by omega), fun k hk => ?_, fun k hk => ?_⟩
  · have hk3 : k = 0 ∨ k = 1 ∨ k = 2 := by omega
    rcases hk3 with rfl | rfl | rfl
    · exact ⟨_, _, rfl, hp.cell 0, hp.cell 1, hp.cell 2, hp.cell 3, hp.cell 4, hp.cell 5⟩
    · exact ⟨_, _, rfl, hp.cell 6, hp.cell 7, hp.cell 8, hp.cell 9, hp.cell 10, hp.cell 11⟩
    · exact ⟨_, _, rfl, hp.cell 12, hp.cell 13, hp.cell 14, hp.cell 15, hp.cell 16, hp.cell 17⟩
  · have hk2 : k = 0 ∨ k = 1 := by omega
    rcases hk2 with rfl | rfl
    · exact ⟨_, _, rfl, hw.cell 0, hw.cell 1, (by decide : (64 : Int) ≤ 9223372036854775807), hWl⟩
    · exact ⟨_, _, rfl, hw.cell 2, hw.cell 3, (by decide : (128 : Int) ≤ 9223372036854775807), (by decide : (77 : Nat) < 4294967296)⟩

/-- The example, made. -/
theorem exmade_any (w : World) (a0 a1 : Option Addr) (g : Bool) (W : Nat) (hP : Pus w a0 3 exP) (hQ : Wos w a1 2 (exQ W)) :
    Calls Tryz.prog 10 #[.agg #[.slice a0 3 3, .slice a1 2 2, .bool g, .int .i64 1, .int .i64 3]] w fun e w' => ∃ O : Bo, e = .returned (.tuple #[.agg O.a, .bool true]) ∧ Fr none' w w' ∧ IsBo w' w.heap.size O (M0 (exB W) g) :=
  made_any w a0 a1 3 3 2 2 g 1 3 exP (exQ W) (by decide) (by decide) hP hQ

end Go.Proofs.YtcpjlpgphfhonaaGreat

/- CpuAwake -/
namespace Go.Proofs.YtcpjlpgphfhonaaGreat
open Go.RowKit

theorem cpA_eq (c : Cp) : cpA c = #[.int .u32 ((c.r 0 : Nat) : Int), .int .u32 ((c.r 1 : Nat) : Int), .int .u32 ((c.r 2 : Nat) : Int), .int .u32 ((c.r 3 : Nat) : Int), .int .u32 ((c.r 4 : Nat) : Int), .int .u32 ((c.r 5 : Nat) : Int), .int .u32 ((c.r 6 : Nat) : Int), .int .u32 ((c.r 7 : Nat) : Int), .int .u32 ((c.r 8 : Nat) : Int), .int .u32 ((c.r 9 : Nat) : Int), .int .u32 ((c.r 10 : Nat) : Int), .int .u32 ((c.r 11 : Nat) : Int), .int .u32 ((c.r 12 : Nat) : Int), .int .u32 ((c.r 13 : Nat) : Int), .int .u32 ((c.r 14 : Nat) : Int), .int .u32 ((c.r 15 : Nat) : Int), .int .i64 c.pc, .int .u32 ((c.s 0 : Nat) : Int), .int .u32 ((c.s 1 : Nat) : Int), .int .u32 ((c.s 2 : Nat) : Int), .int .u32 ((c.s 3 : Nat) : Int), .int .u32 ((c.s 4 : Nat) : Int), .int .u32 ((c.s 5 : Nat) : Int), .int .u32 ((c.s 6 : Nat) : Int), .int .u32 ((c.s 7 : Nat) : Int)] := rfl
theorem zcA_eq : cpA zc = #[.int .u32 0, .int .u32 0, .int .u32 0, .int .u32 0, .int .u32 0, .int .u32 0, .int .u32 0, .int .u32 0, .int .u32 0, .int .u32 0, .int .u32 0, .int .u32 0, .int .u32 0, .int .u32 0, .int .u32 0, .int .u32 0, .int .i64 0, .int .u32 0, .int .u32 0, .int .u32 0, .int .u32 0, .int .u32 0, .int .u32 0, .int .u32 0, .int .u32 0] := rfl
theorem inA_eq : cpA (zc.setR 1 64) = #[.int .u32 0, .int .u32 64, .int .u32 0, .int .u32 0, .int .u32 0, .int .u32 0, .int .u32 0, .int .u32 0, .int .u32 0, .int .u32 0, .int .u32 0, .int .u32 0, .int .u32 0, .int .u32 0, .int .u32 0, .int .u32 0, .int .i64 0, .int .u32 0, .int .u32 0, .int .u32 0, .int .u32 0, .int .u32 0, .int .u32 0, .int .u32 0, .int .u32 0] := rfl
theorem cells25 {w : World} {g : Nat} {c0 c1 c2 c3 c4 c5 c6 c7 c8 c9 c10 c11 c12 c13 c14 c15 c16 c17 c18 c19 c20 c21 c22 c23 c24 : Value} {t : TypeId} (h : Row w g #[c0, c1, c2, c3, c4, c5, c6, c7, c8, c9, c10, c11, c12, c13, c14, c15, c16, c17, c18, c19, c20, c21, c22, c23, c24] t) : w.cell? ⟨g, 0, none⟩ = some c0 ∧ w.cell? ⟨g, 1, none⟩ = some c1 ∧ w.cell? ⟨g, 2, none⟩ = some c2 ∧ w.cell? ⟨g, 3, none⟩ = some c3 ∧ w.cell? ⟨g, 4, none⟩ = some c4 ∧ w.cell? ⟨g, 5, none⟩ = some c5 ∧ w.cell? ⟨g, 6, none⟩ = some c6 ∧ w.cell? ⟨g, 7, none⟩ = some c7 ∧ w.cell? ⟨g, 8, none⟩ = some c8 ∧ w.cell? ⟨g, 9, none⟩ = some c9 ∧ w.cell? ⟨g, 10, none⟩ = some c10 ∧ w.cell? ⟨g, 11, none⟩ = some c11 ∧ w.cell? ⟨g, 12, none⟩ = some c12 ∧ w.cell? ⟨g, 13, none⟩ = some c13 ∧ w.cell? ⟨g, 14, none⟩ = some c14 ∧ w.cell? ⟨g, 15, none⟩ = some c15 ∧ w.cell? ⟨g, 16, none⟩ = some c16 ∧ w.cell? ⟨g, 17, none⟩ = some c17 ∧ w.cell? ⟨g, 18, none⟩ = some c18 ∧ w.cell? ⟨g, 19, none⟩ = some c19 ∧ w.cell? ⟨g, 20, none⟩ = some c20 ∧ w.cell? ⟨g, 21, none⟩ = some c21 ∧ w.cell? ⟨g, 22, none⟩ = some c22 ∧ w.cell? ⟨g, 23, none⟩ = some c23 ∧ w.cell? ⟨g, 24, none⟩ = some c24 := ⟨h.cell 0, h.cell 1, h.cell 2, h.cell 3, h.cell 4, h.cell 5, h.cell 6, h.cell 7, h.cell 8, h.cell 9, h.cell 10, h.cell 11, h.cell 12, h.cell 13, h.cell 14, h.cell 15, h.cell 16, h.cell 17, h.cell 18, h.cell 19, h.cell 20, h.cell 21, h.cell 22, h.cell 23, h.cell 24⟩

/-- Step of the example's machine, told cell by cell. -/
theorem exStep (w : World) (B : Bm) (bs : List UInt8) (g : Bool) (c : Cp) (A : Array Value) (hA : cpA c = A) (hok : c.Ok) (hM : IsMc w B 16 (M0 bs g)) :
    Calls Tryz.prog 11 #[.agg #[.pointer (some ⟨B.p, 0, none⟩), .pointer (some ⟨B.bt, 0, none⟩), ptrV (B.v.map Bk.b)], .agg A, .int .i64 1, .int .i64 3, .int .i64 0] w fun e w' => ∃ (c' : Cp) (T : Tr), c' = (stepR 16 (M0 bs g) c 1 3 0).2.1 ∧ T = (stepR 16 (M0 bs g) c 1 3 0).2.2 ∧ e = .returned (.tuple #[.agg #[.int .u32 ((c'.r 0 : Nat) : Int), .int .u32 ((c'.r 1 : Nat) : Int), .int .u32 ((c'.r 2 : Nat) : Int), .int .u32 ((c'.r 3 : Nat) : Int), .int .u32 ((c'.r 4 : Nat) : Int), .int .u32 ((c'.r 5 : Nat) : Int), .int .u32 ((c'.r 6 : Nat) : Int), .int .u32 ((c'.r 7 : Nat) : Int), .int .u32 ((c'.r 8 : Nat) : Int), .int .u32 ((c'.r 9 : Nat) : Int), .int .u32 ((c'.r 10 : Nat) : Int), .int .u32 ((c'.r 11 : Nat) : Int), .int .u32 ((c'.r 12 : Nat) : Int), .int .u32 ((c'.r 13 : Nat) : Int), .int .u32 ((c'.r 14 : Nat) : Int), .int .u32 ((c'.r 15 : Nat) : Int), .int .i64 c'.pc, .int .u32 ((c'.s 0 : Nat) : Int), .int .u32 ((c'.s 1 : Nat) : Int), .int .u32 ((c'.s 2 : Nat) : Int), .int .u32 ((c'.s 3 : Nat) : Int), .int .u32 ((c'.s 4 : Nat) : Int), .int .u32 ((c'.s 5 : Nat) : Int), .int .u32 ((c'.s 6 : Nat) : Int), .int .u32 ((c'.s 7 : Nat) : Int)], .agg #[.int .i64 T.ca, .int .i64 T.nu, .int .i64 T.ad, .int .i64 T.f.k, .int .i64 T.f.s, .int .i64 T.f.l, .bool T.f.wk, .int .i64 T.f.p]]) ∧ Fr B.s w w' ∧ IsMc w' B 16 (stepR 16 (M0 bs g) c 1 3 0).1 := by
  subst hA
  exact (Step_any w B 16 (M0 bs g) c hok 1 3 0 hM (M0_few bs g) (by decide)).mono (fun e w' ⟨a, f, m, _⟩ => ⟨_, _, rfl, rfl, a, f, m⟩)

/-- A machine that others leave alone. -/
theorem isMc_far {w w' : World} {B C : Bm} {nf : Nat} {M : Mc} (h : IsMc w B nf M) (f : Fr C.s w w') (h1 : ∀ k, (B.s k ∨ k = B.p) → ¬ C.s k) : IsMc w' B nf M :=
  h.keep f (h1 _ (Or.inr rfl)) (h1 _ (Or.inl (Or.inl rfl))) (h1 _ (Or.inl (Or.inr (Or.inl rfl)))) (fun k hk => h1 k (Or.inl (Or.inr (Or.inr hk))))

theorem enc_a : i_encW 1 1 0 0 300 = ((17826092 : Nat) : Int) := by decide +kernel
theorem tr_a : (stepR 16 (M0 (exB 17826092) false) zc 1 3 0).2.2.ca = 0 ∧ (stepR 16 (M0 (exB 17826092) false) zc 1 3 0).2.2.nu = 0 ∧ (stepR 16 (M0 (exB 17826092) false) zc 1 3 0).2.2.ad = 0 ∧ (stepR 16 (M0 (exB 17826092) false) zc 1 3 0).2.2.f.k = 0 ∧ (stepR 16 (M0 (exB 17826092) false) zc 1 3 0).2.2.f.s = 0 ∧ (stepR 16 (M0 (exB 17826092) false) zc 1 3 0).2.2.f.l = 0 ∧ (stepR 16 (M0 (exB 17826092) false) zc 1 3 0).2.2.f.wk = false ∧ (stepR 16 (M0 (exB 17826092) false) zc 1 3 0).2.2.f.p = 0 := by decide +kernel
theorem re_a : (stepR 16 (M0 (exB 17826092) false) zc 1 3 0).2.1.r 1 = 300 ∧ (stepR 16 (M0 (exB 17826092) false) zc 1 3 0).2.1.pc = 4 := by decide +kernel
theorem enc_b : i_encW 7 2 1 0 0 = ((119603200 : Nat) : Int) := by decide +kernel
theorem tr_b : (stepR 16 (M0 (exB 119603200) false) (zc.setR 1 64) 1 3 0).2.2.ca = 0 ∧ (stepR 16 (M0 (exB 119603200) false) (zc.setR 1 64) 1 3 0).2.2.nu = 0 ∧ (stepR 16 (M0 (exB 119603200) false) (zc.setR 1 64) 1 3 0).2.2.ad = 0 ∧ (stepR 16 (M0 (exB 119603200) false) (zc.setR 1 64) 1 3 0).2.2.f.k = 0 ∧ (stepR 16 (M0 (exB 119603200) false) (zc.setR 1 64) 1 3 0).2.2.f.s = 0 ∧ (stepR 16 (M0 (exB 119603200) false) (zc.setR 1 64) 1 3 0).2.2.f.l = 0 ∧ (stepR 16 (M0 (exB 119603200) false) (zc.setR 1 64) 1 3 0).2.2.f.wk = false ∧ (stepR 16 (M0 (exB 119603200) false) (zc.setR 1 64) 1 3 0).2.2.f.p = 0 := by decide +kernel
theorem re_b : (stepR 16 (M0 (exB 119603200) false) (zc.setR 1 64) 1 3 0).2.1.r 2 = 77 := by decide +kernel
theorem enc_c : i_encW 17 0 0 0 3 = ((285212675 : Nat) : Int) := by decide +kernel
theorem tr_c : (stepR 16 (M0 (exB 285212675) false) zc 1 3 0).2.2.ca = 8 ∧ (stepR 16 (M0 (exB 285212675) false) zc 1 3 0).2.2.nu = 285212675 ∧ (stepR 16 (M0 (exB 285212675) false) zc 1 3 0).2.2.ad = 0 ∧ (stepR 16 (M0 (exB 285212675) false) zc 1 3 0).2.2.f.k = 0 ∧ (stepR 16 (M0 (exB 285212675) false) zc 1 3 0).2.2.f.s = 0 ∧ (stepR 16 (M0 (exB 285212675) false) zc 1 3 0).2.2.f.l = 0 ∧ (stepR 16 (M0 (exB 285212675) false) zc 1 3 0).2.2.f.wk = false ∧ (stepR 16 (M0 (exB 285212675) false) zc 1 3 0).2.2.f.p = 0 := by decide +kernel
theorem enc_d : i_encW 17 0 0 0 3 = ((285212675 : Nat) : Int) := by decide +kernel
theorem tr_d : (stepR 16 (M0 (exB 285212675) true) zc 1 3 0).2.2.ca = 5 ∧ (stepR 16 (M0 (exB 285212675) true) zc 1 3 0).2.2.nu = 3 ∧ (stepR 16 (M0 (exB 285212675) true) zc 1 3 0).2.2.ad = 0 ∧ (stepR 16 (M0 (exB 285212675) true) zc 1 3 0).2.2.f.k = 0 ∧ (stepR 16 (M0 (exB 285212675) true) zc 1 3 0).2.2.f.s = 0 ∧ (stepR 16 (M0 (exB 285212675) true) zc 1 3 0).2.2.f.l = 0 ∧ (stepR 16 (M0 (exB 285212675) true) zc 1 3 0).2.2.f.wk = false ∧ (stepR 16 (M0 (exB 285212675) true) zc 1 3 0).2.2.f.p = 0 := by decide +kernel

theorem exmade_f (w : World) (a0 a1 : Option Addr) (W : Nat) (hP : Pus w a0 3 exP) (hQ : Wos w a1 2 (exQ W)) :
    Calls Tryz.prog 10 #[.agg #[.slice a0 3 3, .slice a1 2 2, .bool false, .int .i64 1, .int .i64 3]] w fun e w' => ∃ O : Bo, O.B.v = none ∧ e = .returned (.tuple #[.agg #[.pointer (some ⟨O.B.p, 0, none⟩), .pointer (some ⟨O.B.bt, 0, none⟩), .pointer none, .pointer (some ⟨O.pr, 0, none⟩), .pointer (some ⟨O.bu, 0, none⟩), .pointer none], .bool true]) ∧ Fr none' w w' ∧ IsBo w' w.heap.size O (M0 (exB W) false) := by
  refine (exmade_any w a0 a1 false W hP hQ).mono ?_
  rintro e w' ⟨O, rfl, f, h⟩
  have h1 := h.m.vg
  have h2 := h.v
  obtain ⟨⟨p, bf, bt, v⟩, pr, br, bu, vr⟩ := O
  cases v with
  | none =>
    cases vr with
    | none => exact ⟨_, rfl, rfl, f, h⟩
    | some b => exact h2.elim
  | some b => exact h1.elim
theorem exmade_t (w : World) (a0 a1 : Option Addr) (W : Nat) (hP : Pus w a0 3 exP) (hQ : Wos w a1 2 (exQ W)) :
    Calls Tryz.prog 10 #[.agg #[.slice a0 3 3, .slice a1 2 2, .bool true, .int .i64 1, .int .i64 3]] w fun e w' => ∃ (O : Bo) (b : Bk) (vr : Nat), O.B.v = some b ∧ e = .returned (.tuple #[.agg #[.pointer (some ⟨O.B.p, 0, none⟩), .pointer (some ⟨O.B.bt, 0, none⟩), .pointer (some ⟨b.b, 0, none⟩), .pointer (some ⟨O.pr, 0, none⟩), .pointer (some ⟨O.bu, 0, none⟩), .pointer (some ⟨vr, 0, none⟩)], .bool true]) ∧ Fr none' w w' ∧ IsBo w' w.heap.size O (M0 (exB W) true) := by
  refine (exmade_any w a0 a1 true W hP hQ).mono ?_
  rintro e w' ⟨O, rfl, f, h⟩
  have h1 := h.m.vg
  have h2 := h.v
  obtain ⟨⟨p, bf, bt, v⟩, pr, br, bu, vr⟩ := O
  cases v with
  | none => exact h1.elim
  | some b =>
    cases vr with
    | none => exact h2.elim
    | some vr => exact ⟨_, b, vr, rfl, rfl, f, h⟩
theorem ne_new' {a b : Nat} (h : a < b) : ¬ at' a b := fun e => by have e' : b = a := e; omega
theorem IsBo.in {w : World} {n : Nat} {O : Bo} {M : Mc} (h : IsBo w n O M) : ∀ k, (O.B.s k ∨ k = O.B.p) → n ≤ k ∧ k < w.heap.size := fun k hk => ⟨h.new k hk, h.m.ltp k hk⟩

theorem exS_a (w : World) (B : Bm) (hv : B.v = none) (hM : IsMc w B 16 (M0 (exB 17826092) false)) :
    Calls Tryz.prog 11 #[.agg #[.pointer (some ⟨B.p, 0, none⟩), .pointer (some ⟨B.bt, 0, none⟩), .pointer none], .agg #[.int .u32 0, .int .u32 0, .int .u32 0, .int .u32 0, .int .u32 0, .int .u32 0, .int .u32 0, .int .u32 0, .int .u32 0, .int .u32 0, .int .u32 0, .int .u32 0, .int .u32 0, .int .u32 0, .int .u32 0, .int .u32 0, .int .i64 0, .int .u32 0, .int .u32 0, .int .u32 0, .int .u32 0, .int .u32 0, .int .u32 0, .int .u32 0, .int .u32 0], .int .i64 1, .int .i64 3, .int .i64 0] w fun e w' => ∃ A : Array Value, A.size = 25 ∧ A.all (·.oneCell') = true ∧ (A[1]? = some (.int .u32 300) ∧ A[16]? = some (.int .i64 4)) ∧ e = .returned (.tuple #[.agg A, .agg #[.int .i64 0, .int .i64 0, .int .i64 0, .int .i64 0, .int .i64 0, .int .i64 0, .bool false, .int .i64 0]]) ∧ Fr B.s w w' := by
  have h := exStep w B (exB 17826092) false zc _ zcA_eq zc_ok hM
  rw [hv] at h
  refine h.mono ?_
  rintro e w' ⟨c', T, hc, hT, rfl, f, _⟩
  obtain ⟨h1, h2, h3, h4, h5, h6, h7, h8⟩ := tr_a
  rw [← hT] at h1 h2 h3 h4 h5 h6 h7 h8
  obtain ⟨r1, r2⟩ := re_a
  rw [← hc] at r1 r2
  refine ⟨cpA c', cpA_size c', cpA_one c', ⟨by rw [cpA_get, cpL_r c' (by decide), r1]; rfl, by rw [cpA_get, cpL_pc, r2]⟩, ?_, f⟩
  rw [h1, h2, h3, h4, h5, h6, h7, h8]
  rfl

theorem exS_b (w : World) (B : Bm) (hv : B.v = none) (hM : IsMc w B 16 (M0 (exB 119603200) false)) :
    Calls Tryz.prog 11 #[.agg #[.pointer (some ⟨B.p, 0, none⟩), .pointer (some ⟨B.bt, 0, none⟩), .pointer none], .agg #[.int .u32 0, .int .u32 64, .int .u32 0, .int .u32 0, .int .u32 0, .int .u32 0, .int .u32 0, .int .u32 0, .int .u32 0, .int .u32 0, .int .u32 0, .int .u32 0, .int .u32 0, .int .u32 0, .int .u32 0, .int .u32 0, .int .i64 0, .int .u32 0, .int .u32 0, .int .u32 0, .int .u32 0, .int .u32 0, .int .u32 0, .int .u32 0, .int .u32 0], .int .i64 1, .int .i64 3, .int .i64 0] w fun e w' => ∃ A : Array Value, A.size = 25 ∧ A.all (·.oneCell') = true ∧ (A[2]? = some (.int .u32 77) ∧ True) ∧ e = .returned (.tuple #[.agg A, .agg #[.int .i64 0, .int .i64 0, .int .i64 0, .int .i64 0, .int .i64 0, .int .i64 0, .bool false, .int .i64 0]]) ∧ Fr B.s w w' := by
  have h := exStep w B (exB 119603200) false (zc.setR 1 64) _ inA_eq (zc_ok.setR 1 (by decide)) hM
  rw [hv] at h
  refine h.mono ?_
  rintro e w' ⟨c', T, hc, hT, rfl, f, _⟩
  obtain ⟨h1, h2, h3, h4, h5, h6, h7, h8⟩ := tr_b
  rw [← hT] at h1 h2 h3 h4 h5 h6 h7 h8
  have r1 := re_b
  rw [← hc] at r1
  refine ⟨cpA c', cpA_size c', cpA_one c', ⟨by rw [cpA_get, cpL_r c' (by decide), r1]; rfl, trivial⟩, ?_, f⟩
  rw [h1, h2, h3, h4, h5, h6, h7, h8]
  rfl

theorem exS_c (w : World) (B : Bm) (hv : B.v = none) (hM : IsMc w B 16 (M0 (exB 285212675) false)) :
    Calls Tryz.prog 11 #[.agg #[.pointer (some ⟨B.p, 0, none⟩), .pointer (some ⟨B.bt, 0, none⟩), .pointer none], .agg #[.int .u32 0, .int .u32 0, .int .u32 0, .int .u32 0, .int .u32 0, .int .u32 0, .int .u32 0, .int .u32 0, .int .u32 0, .int .u32 0, .int .u32 0, .int .u32 0, .int .u32 0, .int .u32 0, .int .u32 0, .int .u32 0, .int .i64 0, .int .u32 0, .int .u32 0, .int .u32 0, .int .u32 0, .int .u32 0, .int .u32 0, .int .u32 0, .int .u32 0], .int .i64 1, .int .i64 3, .int .i64 0] w fun e w' => ∃ A : Array Value, A.size = 25 ∧ A.all (·.oneCell') = true ∧ (True ∧ True) ∧ e = .returned (.tuple #[.agg A, .agg #[.int .i64 8, .int .i64 285212675, .int .i64 0, .int .i64 0, .int .i64 0, .int .i64 0, .bool false, .int .i64 0]]) ∧ Fr B.s w w' := by
  have h := exStep w B (exB 285212675) false zc _ zcA_eq zc_ok hM
  rw [hv] at h
  refine h.mono ?_
  rintro e w' ⟨c', T, hc, hT, rfl, f, _⟩
  obtain ⟨h1, h2, h3, h4, h5, h6, h7, h8⟩ := tr_c
  rw [← hT] at h1 h2 h3 h4 h5 h6 h7 h8
  clear hc
  skip
  refine ⟨cpA c', cpA_size c', cpA_one c', ⟨trivial, trivial⟩, ?_, f⟩
  rw [h1, h2, h3, h4, h5, h6, h7, h8]
  rfl

theorem exS_d (w : World) (B : Bm) (b : Bk) (hv : B.v = some b) (hM : IsMc w B 16 (M0 (exB 285212675) true)) :
    Calls Tryz.prog 11 #[.agg #[.pointer (some ⟨B.p, 0, none⟩), .pointer (some ⟨B.bt, 0, none⟩), .pointer (some ⟨b.b, 0, none⟩)], .agg #[.int .u32 0, .int .u32 0, .int .u32 0, .int .u32 0, .int .u32 0, .int .u32 0, .int .u32 0, .int .u32 0, .int .u32 0, .int .u32 0, .int .u32 0, .int .u32 0, .int .u32 0, .int .u32 0, .int .u32 0, .int .u32 0, .int .i64 0, .int .u32 0, .int .u32 0, .int .u32 0, .int .u32 0, .int .u32 0, .int .u32 0, .int .u32 0, .int .u32 0], .int .i64 1, .int .i64 3, .int .i64 0] w fun e w' => ∃ A : Array Value, A.size = 25 ∧ A.all (·.oneCell') = true ∧ (True ∧ True) ∧ e = .returned (.tuple #[.agg A, .agg #[.int .i64 5, .int .i64 3, .int .i64 0, .int .i64 0, .int .i64 0, .int .i64 0, .bool false, .int .i64 0]]) ∧ Fr B.s w w' := by
  have h := exStep w B (exB 285212675) true zc _ zcA_eq zc_ok hM
  rw [hv] at h
  refine h.mono ?_
  rintro e w' ⟨c', T, hc, hT, rfl, f, _⟩
  obtain ⟨h1, h2, h3, h4, h5, h6, h7, h8⟩ := tr_d
  rw [← hT] at h1 h2 h3 h4 h5 h6 h7 h8
  clear hc
  skip
  refine ⟨cpA c', cpA_size c', cpA_one c', ⟨trivial, trivial⟩, ?_, f⟩
  rw [h1, h2, h3, h4, h5, h6, h7, h8]
  rfl

set_option maxRecDepth 100000 in
set_option maxHeartbeats 16000000 in
theorem awake_any (w : World) : Calls Tryz.prog 9 #[] w fun e w' => e = .returned (.bool true) ∧ Fr none' w w' := by
  have hz : ∀ w, Sem.run Tryz.prog (zeroValue 30) w = .ok (.agg (cpA zc)) w := zero_cpu
  have f0 := Fr.refl none' w
  go_enter Tryz.func9, Tryz.ntmps9
  go_wp2_with fail
  refine (example_any _ 1 1 0 0 300 false 17826092 enc_a (by decide)).mono ?_
  rintro e xa ⟨sa, qa, rfl, g1, hP, hQ⟩
  replace f0 := f0.trans g1
  have KK : Hid (w.heap.size ≤ xa.heap.size) := f0.size
  have La : Hid (True) := trivial
  clear g1
  go_wp2_with fail
  refine (exmade_f _ _ _ 17826092 hP hQ).mono ?_
  rintro e ya ⟨Oa, va, rfl, g2, hB⟩
  replace f0 := f0.trans g2
  have Ia : Hid (∀ k, (Oa.B.s k ∨ k = Oa.B.p) → xa.heap.size ≤ k ∧ k < ya.heap.size) := hB.in
  have Ja : Hid (xa.heap.size ≤ ya.heap.size) := g2.size
  have Ha := hB.m.keep0 ((Fr.refl none' ya).alloc (.cells #[.pointer (some ⟨Oa.B.p, 0, none⟩), .pointer (some ⟨Oa.B.bt, 0, none⟩), .pointer none, .pointer (some ⟨Oa.pr, 0, none⟩), .pointer (some ⟨Oa.bu, 0, none⟩), .pointer none] 44))
  have ra := row_alloc ya #[.pointer (some ⟨Oa.B.p, 0, none⟩), .pointer (some ⟨Oa.B.bt, 0, none⟩), .pointer none, .pointer (some ⟨Oa.pr, 0, none⟩), .pointer (some ⟨Oa.bu, 0, none⟩), .pointer none] 44
  have g3 := (Fr.refl none' ya).alloc (.cells #[.pointer (some ⟨Oa.B.p, 0, none⟩), .pointer (some ⟨Oa.B.bt, 0, none⟩), .pointer none, .pointer (some ⟨Oa.pr, 0, none⟩), .pointer (some ⟨Oa.bu, 0, none⟩), .pointer none] 44)
  replace f0 := f0.trans g3
  clear g2 hB hP hQ g3
  go_upto_region 2 with fail
  obtain ⟨ua, hu⟩ : ∃ u, u = ya.alloc (.cells #[.pointer (some ⟨Oa.B.p, 0, none⟩), .pointer (some ⟨Oa.B.bt, 0, none⟩), .pointer none, .pointer (some ⟨Oa.pr, 0, none⟩), .pointer (some ⟨Oa.bu, 0, none⟩), .pointer none] 44) := ⟨_, rfl⟩
  rw [← hu] at Ha ra f0 ⊢
  clear hu
  obtain ⟨ga, hg⟩ : ∃ q, q = ya.heap.size := ⟨_, rfl⟩
  rw [← hg] at ra Ia Ja ⊢
  clear hg
  go_wp2_with fail
  refine (example_any _ 7 2 1 0 0 false 119603200 enc_b (by decide)).mono ?_
  rintro e xb ⟨sb, qb, rfl, g1, hP, hQ⟩
  replace Ha := Ha.keep0 g1
  replace ra := ra.keep g1 (fun h => h)
  replace f0 := f0.trans g1
  skip
  have Lb : Hid (ga < xb.heap.size) := ra.lt
  clear g1
  go_wp2_with fail
  refine (exmade_f _ _ _ 119603200 hP hQ).mono ?_
  rintro e yb ⟨Ob, vb, rfl, g2, hB⟩
  replace Ha := Ha.keep0 g2
  replace ra := ra.keep g2 (fun h => h)
  replace f0 := f0.trans g2
  have Ib : Hid (∀ k, (Ob.B.s k ∨ k = Ob.B.p) → xb.heap.size ≤ k ∧ k < yb.heap.size) := hB.in
  have Jb' : Hid (xb.heap.size ≤ yb.heap.size) := g2.size
  have Hb := hB.m.keep0 ((Fr.refl none' yb).alloc (.cells #[.pointer (some ⟨Ob.B.p, 0, none⟩), .pointer (some ⟨Ob.B.bt, 0, none⟩), .pointer none, .pointer (some ⟨Ob.pr, 0, none⟩), .pointer (some ⟨Ob.bu, 0, none⟩), .pointer none] 44))
  have rb := row_alloc yb #[.pointer (some ⟨Ob.B.p, 0, none⟩), .pointer (some ⟨Ob.B.bt, 0, none⟩), .pointer none, .pointer (some ⟨Ob.pr, 0, none⟩), .pointer (some ⟨Ob.bu, 0, none⟩), .pointer none] 44
  have g3 := (Fr.refl none' yb).alloc (.cells #[.pointer (some ⟨Ob.B.p, 0, none⟩), .pointer (some ⟨Ob.B.bt, 0, none⟩), .pointer none, .pointer (some ⟨Ob.pr, 0, none⟩), .pointer (some ⟨Ob.bu, 0, none⟩), .pointer none] 44)
  replace Ha := Ha.keep0 g3
  replace ra := ra.keep g3 (fun h => h)
  replace f0 := f0.trans g3
  clear g2 hB hP hQ g3
  go_upto_region 3 with fail
  obtain ⟨ub, hu⟩ : ∃ u, u = yb.alloc (.cells #[.pointer (some ⟨Ob.B.p, 0, none⟩), .pointer (some ⟨Ob.B.bt, 0, none⟩), .pointer none, .pointer (some ⟨Ob.pr, 0, none⟩), .pointer (some ⟨Ob.bu, 0, none⟩), .pointer none] 44) := ⟨_, rfl⟩
  rw [← hu] at Hb rb f0 Ha ra ⊢
  clear hu
  obtain ⟨gb, hg⟩ : ∃ q, q = yb.heap.size := ⟨_, rfl⟩
  rw [← hg] at rb Ib Jb' ⊢
  clear hg
  go_wp2_with fail
  refine (example_any _ 17 0 0 0 3 false 285212675 enc_c (by decide)).mono ?_
  rintro e xc ⟨sc, qc, rfl, g1, hP, hQ⟩
  replace Ha := Ha.keep0 g1
  replace ra := ra.keep g1 (fun h => h)
  replace Hb := Hb.keep0 g1
  replace rb := rb.keep g1 (fun h => h)
  replace f0 := f0.trans g1
  skip
  have Lc : Hid (gb < xc.heap.size) := rb.lt
  clear g1
  go_wp2_with fail
  refine (exmade_f _ _ _ 285212675 hP hQ).mono ?_
  rintro e yc ⟨Oc, vc, rfl, g2, hB⟩
  replace Ha := Ha.keep0 g2
  replace ra := ra.keep g2 (fun h => h)
  replace Hb := Hb.keep0 g2
  replace rb := rb.keep g2 (fun h => h)
  replace f0 := f0.trans g2
  have Ic : Hid (∀ k, (Oc.B.s k ∨ k = Oc.B.p) → xc.heap.size ≤ k ∧ k < yc.heap.size) := hB.in
  have Jc : Hid (xc.heap.size ≤ yc.heap.size) := g2.size
  have Hc := hB.m.keep0 ((Fr.refl none' yc).alloc (.cells #[.pointer (some ⟨Oc.B.p, 0, none⟩), .pointer (some ⟨Oc.B.bt, 0, none⟩), .pointer none, .pointer (some ⟨Oc.pr, 0, none⟩), .pointer (some ⟨Oc.bu, 0, none⟩), .pointer none] 44))
  have rc := row_alloc yc #[.pointer (some ⟨Oc.B.p, 0, none⟩), .pointer (some ⟨Oc.B.bt, 0, none⟩), .pointer none, .pointer (some ⟨Oc.pr, 0, none⟩), .pointer (some ⟨Oc.bu, 0, none⟩), .pointer none] 44
  have g3 := (Fr.refl none' yc).alloc (.cells #[.pointer (some ⟨Oc.B.p, 0, none⟩), .pointer (some ⟨Oc.B.bt, 0, none⟩), .pointer none, .pointer (some ⟨Oc.pr, 0, none⟩), .pointer (some ⟨Oc.bu, 0, none⟩), .pointer none] 44)
  replace Ha := Ha.keep0 g3
  replace ra := ra.keep g3 (fun h => h)
  replace Hb := Hb.keep0 g3
  replace rb := rb.keep g3 (fun h => h)
  replace f0 := f0.trans g3
  clear g2 hB hP hQ g3
  go_upto_region 4 with fail
  obtain ⟨uc, hu⟩ : ∃ u, u = yc.alloc (.cells #[.pointer (some ⟨Oc.B.p, 0, none⟩), .pointer (some ⟨Oc.B.bt, 0, none⟩), .pointer none, .pointer (some ⟨Oc.pr, 0, none⟩), .pointer (some ⟨Oc.bu, 0, none⟩), .pointer none] 44) := ⟨_, rfl⟩
  rw [← hu] at Hc rc f0 Ha ra Hb rb ⊢
  clear hu
  obtain ⟨gc, hg⟩ : ∃ q, q = yc.heap.size := ⟨_, rfl⟩
  rw [← hg] at rc Ic Jc ⊢
  clear hg
  go_wp2_with fail
  refine (example_any _ 17 0 0 0 3 true 285212675 enc_d (by decide)).mono ?_
  rintro e xd ⟨sd, qd, rfl, g1, hP, hQ⟩
  replace Ha := Ha.keep0 g1
  replace ra := ra.keep g1 (fun h => h)
  replace Hb := Hb.keep0 g1
  replace rb := rb.keep g1 (fun h => h)
  replace Hc := Hc.keep0 g1
  replace rc := rc.keep g1 (fun h => h)
  replace f0 := f0.trans g1
  skip
  have Ld : Hid (gc < xd.heap.size) := rc.lt
  clear g1
  go_wp2_with fail
  refine (exmade_t _ _ _ 285212675 hP hQ).mono ?_
  rintro e yd ⟨Od, bd, vrd, vd, rfl, g2, hB⟩
  replace Ha := Ha.keep0 g2
  replace ra := ra.keep g2 (fun h => h)
  replace Hb := Hb.keep0 g2
  replace rb := rb.keep g2 (fun h => h)
  replace Hc := Hc.keep0 g2
  replace rc := rc.keep g2 (fun h => h)
  replace f0 := f0.trans g2
  have Id : Hid (∀ k, (Od.B.s k ∨ k = Od.B.p) → xd.heap.size ≤ k ∧ k < yd.heap.size) := hB.in
  have Jd : Hid (xd.heap.size ≤ yd.heap.size) := g2.size
  have Hd := hB.m.keep0 ((Fr.refl none' yd).alloc (.cells #[.pointer (some ⟨Od.B.p, 0, none⟩), .pointer (some ⟨Od.B.bt, 0, none⟩), .pointer (some ⟨bd.b, 0, none⟩), .pointer (some ⟨Od.pr, 0, none⟩), .pointer (some ⟨Od.bu, 0, none⟩), .pointer (some ⟨vrd, 0, none⟩)] 44))
  have rd := row_alloc yd #[.pointer (some ⟨Od.B.p, 0, none⟩), .pointer (some ⟨Od.B.bt, 0, none⟩), .pointer (some ⟨bd.b, 0, none⟩), .pointer (some ⟨Od.pr, 0, none⟩), .pointer (some ⟨Od.bu, 0, none⟩), .pointer (some ⟨vrd, 0, none⟩)] 44
  have g3 := (Fr.refl none' yd).alloc (.cells #[.pointer (some ⟨Od.B.p, 0, none⟩), .pointer (some ⟨Od.B.bt, 0, none⟩), .pointer (some ⟨bd.b, 0, none⟩), .pointer (some ⟨Od.pr, 0, none⟩), .pointer (some ⟨Od.bu, 0, none⟩), .pointer (some ⟨vrd, 0, none⟩)] 44)
  replace Ha := Ha.keep0 g3
  replace ra := ra.keep g3 (fun h => h)
  replace Hb := Hb.keep0 g3
  replace rb := rb.keep g3 (fun h => h)
  replace Hc := Hc.keep0 g3
  replace rc := rc.keep g3 (fun h => h)
  replace f0 := f0.trans g3
  clear g2 hB hP hQ g3
  go_upto_region 5 with fail
  obtain ⟨ud, hu⟩ : ∃ u, u = yd.alloc (.cells #[.pointer (some ⟨Od.B.p, 0, none⟩), .pointer (some ⟨Od.B.bt, 0, none⟩), .pointer (some ⟨bd.b, 0, none⟩), .pointer (some ⟨Od.pr, 0, none⟩), .pointer (some ⟨Od.bu, 0, none⟩), .pointer (some ⟨vrd, 0, none⟩)] 44) := ⟨_, rfl⟩
  rw [← hu] at Hd rd f0 Ha ra Hb rb Hc rc ⊢
  clear hu
  obtain ⟨gd, hg⟩ : ∃ q, q = yd.heap.size := ⟨_, rfl⟩
  rw [← hg] at rd Id Jd ⊢
  clear hg
  have LL : Hid (w.heap.size ≤ xa.heap.size ∧ xa.heap.size ≤ ga ∧ ga < xb.heap.size ∧ xb.heap.size ≤ gb ∧ gb < xc.heap.size ∧ xc.heap.size ≤ gc ∧ gc < xd.heap.size ∧ xd.heap.size ≤ gd) := (show _ ∧ _ from ⟨KK.out, Ja.out, Lb.out, Jb'.out, Lc.out, Jc.out, Ld.out, Jd.out⟩)
  obtain ⟨k0, k1, k2, k3, k4, k5⟩ := cells6 ra
  go_wp2_with fail
  refine (exS_a _ Oa.B va Ha).mono ?_
  rintro e wza ⟨Aa, asa, aoa, afa, rfl, g1⟩
  have AFa : Hid (Aa[1]? = some (.int .u32 300) ∧ Aa[16]? = some (.int .i64 4)) := afa
  clear k0 k1 k2 k3 k4 k5 Ha afa
  replace ra := ra.keep g1 (fun e => by have h1 := Ia.out ga (Or.inl e); have h2 := LL.out; omega)
  replace rb := rb.keep g1 (fun e => by have h1 := Ia.out gb (Or.inl e); have h2 := LL.out; omega)
  replace rc := rc.keep g1 (fun e => by have h1 := Ia.out gc (Or.inl e); have h2 := LL.out; omega)
  replace rd := rd.keep g1 (fun e => by have h1 := Ia.out gd (Or.inl e); have h2 := LL.out; omega)
  replace Hb := isMc_far Hb g1 (fun k hk e => by have h1 := Ia.out k (Or.inl e); have h2 := Ib.out k hk; have h3 := LL.out; omega)
  replace Hc := isMc_far Hc g1 (fun k hk e => by have h1 := Ia.out k (Or.inl e); have h2 := Ic.out k hk; have h3 := LL.out; omega)
  replace Hd := isMc_far Hd g1 (fun k hk e => by have h1 := Ia.out k (Or.inl e); have h2 := Id.out k hk; have h3 := LL.out; omega)
  replace f0 : Fr none' w wza := ⟨g1.os.trans f0.os, g1.tape.trans f0.tape, g1.output.trans f0.output, Nat.le_trans f0.size g1.size, fun k hk hn => by
    rw [g1.block k (Nat.lt_of_lt_of_le hk f0.size) (fun e => by have h1 := Ia.out k (Or.inl e); have h2 := LL.out; omega)]; exact f0.block k hk hn⟩
  have pc0 : Row ((wza.alloc (.cells (cpA zc) 30)).alloc (.cells #[.int .i64 0, .int .i64 0, .int .i64 0, .int .i64 0, .int .i64 0, .int .i64 0, .bool false, .int .i64 0] 52)) wza.heap.size (cpA zc) 30 := (row_alloc wza (cpA zc) 30).alloc _
  have pt0 : Row ((wza.alloc (.cells (cpA zc) 30)).alloc (.cells #[.int .i64 0, .int .i64 0, .int .i64 0, .int .i64 0, .int .i64 0, .int .i64 0, .bool false, .int .i64 0] 52)) (wza.heap.size + 1) #[.int .i64 0, .int .i64 0, .int .i64 0, .int .i64 0, .int .i64 0, .int .i64 0, .bool false, .int .i64 0] 52 := row_at (by simp)
  have pt1 := pt0.keep (fr_row _ wza.heap.size Aa) (ne_new' (Nat.lt_succ_self _))
  have ls : (Tryz.prog.info? 30).map (·.size) = some Aa.size := by rw [asa]; exact size_cpu
  have lo : (cpA zc).size = Aa.size := by rw [asa]; exact cpA_size zc
  have lz : gd < wza.heap.size := rd.lt
  have g2 : Fr none' wza ((((wza.alloc (.cells (cpA zc) 30)).alloc (.cells #[.int .i64 0, .int .i64 0, .int .i64 0, .int .i64 0, .int .i64 0, .int .i64 0, .bool false, .int .i64 0] 52)).setRow wza.heap.size Aa).setRow (wza.heap.size + 1) #[.int .i64 0, .int .i64 0, .int .i64 0, .int .i64 0, .int .i64 0, .int .i64 0, .bool false, .int .i64 0]) := (((((Fr.refl none' wza).alloc _).alloc _).newer (fr_row _ wza.heap.size Aa) (Nat.le_refl _))).newer (fr_row _ (wza.heap.size + 1) _) (Nat.le_succ _)
  have pca : Row ((((wza.alloc (.cells (cpA zc) 30)).alloc (.cells #[.int .i64 0, .int .i64 0, .int .i64 0, .int .i64 0, .int .i64 0, .int .i64 0, .bool false, .int .i64 0] 52)).setRow wza.heap.size Aa).setRow (wza.heap.size + 1) #[.int .i64 0, .int .i64 0, .int .i64 0, .int .i64 0, .int .i64 0, .int .i64 0, .bool false, .int .i64 0]) wza.heap.size Aa 30 := (pc0.setRow).keep (fr_row _ (wza.heap.size + 1) _) (ne_new (Nat.lt_succ_self _))
  have pta : Row ((((wza.alloc (.cells (cpA zc) 30)).alloc (.cells #[.int .i64 0, .int .i64 0, .int .i64 0, .int .i64 0, .int .i64 0, .int .i64 0, .bool false, .int .i64 0] 52)).setRow wza.heap.size Aa).setRow (wza.heap.size + 1) #[.int .i64 0, .int .i64 0, .int .i64 0, .int .i64 0, .int .i64 0, .int .i64 0, .bool false, .int .i64 0]) (wza.heap.size + 1) #[.int .i64 0, .int .i64 0, .int .i64 0, .int .i64 0, .int .i64 0, .int .i64 0, .bool false, .int .i64 0] 52 := pt1.setRow
  have GG : Hid (Fr none' wza ((((wza.alloc (.cells (cpA zc) 30)).alloc (.cells #[.int .i64 0, .int .i64 0, .int .i64 0, .int .i64 0, .int .i64 0, .int .i64 0, .bool false, .int .i64 0] 52)).setRow wza.heap.size Aa).setRow (wza.heap.size + 1) #[.int .i64 0, .int .i64 0, .int .i64 0, .int .i64 0, .int .i64 0, .int .i64 0, .bool false, .int .i64 0]) ∧ Row ((((wza.alloc (.cells (cpA zc) 30)).alloc (.cells #[.int .i64 0, .int .i64 0, .int .i64 0, .int .i64 0, .int .i64 0, .int .i64 0, .bool false, .int .i64 0] 52)).setRow wza.heap.size Aa).setRow (wza.heap.size + 1) #[.int .i64 0, .int .i64 0, .int .i64 0, .int .i64 0, .int .i64 0, .int .i64 0, .bool false, .int .i64 0]) wza.heap.size Aa 30 ∧ Row ((((wza.alloc (.cells (cpA zc) 30)).alloc (.cells #[.int .i64 0, .int .i64 0, .int .i64 0, .int .i64 0, .int .i64 0, .int .i64 0, .bool false, .int .i64 0] 52)).setRow wza.heap.size Aa).setRow (wza.heap.size + 1) #[.int .i64 0, .int .i64 0, .int .i64 0, .int .i64 0, .int .i64 0, .int .i64 0, .bool false, .int .i64 0]) (wza.heap.size + 1) #[.int .i64 0, .int .i64 0, .int .i64 0, .int .i64 0, .int .i64 0, .int .i64 0, .bool false, .int .i64 0] 52) := ⟨g2, pca, pta⟩
  clear g1 g2 pca pta pt0
  go_upto_region 8 with (first | refine wpList_store_row rfl 30 _ _ rfl wza.heap.size Aa rfl rfl 30 (cpA zc) pc0 ls lo aoa ?_ | refine wpList_store_row rfl 52 _ _ rfl (wza.heap.size + 1) #[.int .i64 0, .int .i64 0, .int .i64 0, .int .i64 0, .int .i64 0, .int .i64 0, .bool false, .int .i64 0] rfl rfl 52 #[.int .i64 0, .int .i64 0, .int .i64 0, .int .i64 0, .int .i64 0, .int .i64 0, .bool false, .int .i64 0] pt1 size_trap rfl (by simp [Value.oneCell']) ?_)
  clear pc0 pt1 ls lo
  obtain ⟨g2, pca, pta⟩ := GG.out
  clear GG
  replace ra := ra.keep g2 (fun h => h)
  replace rb := rb.keep g2 (fun h => h)
  replace rc := rc.keep g2 (fun h => h)
  replace rd := rd.keep g2 (fun h => h)
  replace Hb := Hb.keep0 g2
  replace Hc := Hc.keep0 g2
  replace Hd := Hd.keep0 g2
  replace f0 := f0.trans g2
  clear g2
  obtain ⟨ta, ht⟩ : ∃ u, u = ((((wza.alloc (.cells (cpA zc) 30)).alloc (.cells #[.int .i64 0, .int .i64 0, .int .i64 0, .int .i64 0, .int .i64 0, .int .i64 0, .bool false, .int .i64 0] 52)).setRow wza.heap.size Aa).setRow (wza.heap.size + 1) #[.int .i64 0, .int .i64 0, .int .i64 0, .int .i64 0, .int .i64 0, .int .i64 0, .bool false, .int .i64 0]) := ⟨_, rfl⟩
  rw [← ht] at f0 pca pta ra rb rc rd  Hb Hc Hd ⊢
  clear ht
  obtain ⟨hca, hh1⟩ : ∃ q, q = wza.heap.size := ⟨_, rfl⟩
  obtain ⟨hta, hh2⟩ : ∃ q, q = wza.heap.size + 1 := ⟨_, rfl⟩
  rw [← hh2] at pta ⊢
  rw [← hh1] at pca lz ⊢
  have Pca : Hid (gd < hca) := lz
  have Pta : Hid (gd < hta) := (show gd < hta by omega)
  clear hh1 hh2 lz
  have lz : gd < ta.heap.size := rd.lt
  have pi0 := row_alloc ta (cpA zc) 30
  have pi1 : Row ((ta.alloc (.cells (cpA zc) 30)).setRow ta.heap.size #[.int .u32 0, .int .u32 0, .int .u32 0, .int .u32 0, .int .u32 0, .int .u32 0, .int .u32 0, .int .u32 0, .int .u32 0, .int .u32 0, .int .u32 0, .int .u32 0, .int .u32 0, .int .u32 0, .int .u32 0, .int .u32 0, .int .i64 0, .int .u32 0, .int .u32 0, .int .u32 0, .int .u32 0, .int .u32 0, .int .u32 0, .int .u32 0, .int .u32 0]) ta.heap.size #[.int .u32 0, .int .u32 0, .int .u32 0, .int .u32 0, .int .u32 0, .int .u32 0, .int .u32 0, .int .u32 0, .int .u32 0, .int .u32 0, .int .u32 0, .int .u32 0, .int .u32 0, .int .u32 0, .int .u32 0, .int .u32 0, .int .i64 0, .int .u32 0, .int .u32 0, .int .u32 0, .int .u32 0, .int .u32 0, .int .u32 0, .int .u32 0, .int .u32 0] 30 := pi0.setRow
  have g2 : Fr none' ta (((ta.alloc (.cells (cpA zc) 30)).setRow ta.heap.size #[.int .u32 0, .int .u32 0, .int .u32 0, .int .u32 0, .int .u32 0, .int .u32 0, .int .u32 0, .int .u32 0, .int .u32 0, .int .u32 0, .int .u32 0, .int .u32 0, .int .u32 0, .int .u32 0, .int .u32 0, .int .u32 0, .int .i64 0, .int .u32 0, .int .u32 0, .int .u32 0, .int .u32 0, .int .u32 0, .int .u32 0, .int .u32 0, .int .u32 0]).setCell ⟨ta.heap.size, 1, none⟩ (.int .u32 64)) := (((Fr.refl none' ta).alloc _).newer (fr_row _ ta.heap.size _) (Nat.le_refl _)).newer (fr_set _ ta.heap.size 1 _ (Fr.refl _ _)) (Nat.le_refl _)
  have pin : Row (((ta.alloc (.cells (cpA zc) 30)).setRow ta.heap.size #[.int .u32 0, .int .u32 0, .int .u32 0, .int .u32 0, .int .u32 0, .int .u32 0, .int .u32 0, .int .u32 0, .int .u32 0, .int .u32 0, .int .u32 0, .int .u32 0, .int .u32 0, .int .u32 0, .int .u32 0, .int .u32 0, .int .i64 0, .int .u32 0, .int .u32 0, .int .u32 0, .int .u32 0, .int .u32 0, .int .u32 0, .int .u32 0, .int .u32 0]).setCell ⟨ta.heap.size, 1, none⟩ (.int .u32 64)) ta.heap.size #[.int .u32 0, .int .u32 64, .int .u32 0, .int .u32 0, .int .u32 0, .int .u32 0, .int .u32 0, .int .u32 0, .int .u32 0, .int .u32 0, .int .u32 0, .int .u32 0, .int .u32 0, .int .u32 0, .int .u32 0, .int .u32 0, .int .i64 0, .int .u32 0, .int .u32 0, .int .u32 0, .int .u32 0, .int .u32 0, .int .u32 0, .int .u32 0, .int .u32 0] 30 := pi1.setCell 1 (.int .u32 64)
  have GG : Hid (Fr none' ta (((ta.alloc (.cells (cpA zc) 30)).setRow ta.heap.size #[.int .u32 0, .int .u32 0, .int .u32 0, .int .u32 0, .int .u32 0, .int .u32 0, .int .u32 0, .int .u32 0, .int .u32 0, .int .u32 0, .int .u32 0, .int .u32 0, .int .u32 0, .int .u32 0, .int .u32 0, .int .u32 0, .int .i64 0, .int .u32 0, .int .u32 0, .int .u32 0, .int .u32 0, .int .u32 0, .int .u32 0, .int .u32 0, .int .u32 0]).setCell ⟨ta.heap.size, 1, none⟩ (.int .u32 64)) ∧ Row (((ta.alloc (.cells (cpA zc) 30)).setRow ta.heap.size #[.int .u32 0, .int .u32 0, .int .u32 0, .int .u32 0, .int .u32 0, .int .u32 0, .int .u32 0, .int .u32 0, .int .u32 0, .int .u32 0, .int .u32 0, .int .u32 0, .int .u32 0, .int .u32 0, .int .u32 0, .int .u32 0, .int .i64 0, .int .u32 0, .int .u32 0, .int .u32 0, .int .u32 0, .int .u32 0, .int .u32 0, .int .u32 0, .int .u32 0]).setCell ⟨ta.heap.size, 1, none⟩ (.int .u32 64)) ta.heap.size #[.int .u32 0, .int .u32 64, .int .u32 0, .int .u32 0, .int .u32 0, .int .u32 0, .int .u32 0, .int .u32 0, .int .u32 0, .int .u32 0, .int .u32 0, .int .u32 0, .int .u32 0, .int .u32 0, .int .u32 0, .int .u32 0, .int .i64 0, .int .u32 0, .int .u32 0, .int .u32 0, .int .u32 0, .int .u32 0, .int .u32 0, .int .u32 0, .int .u32 0] 30) := ⟨g2, pin⟩
  clear g2 pin
  have pj1 : ((ta.alloc (.cells (cpA zc) 30)).setRow ta.heap.size #[.int .u32 0, .int .u32 0, .int .u32 0, .int .u32 0, .int .u32 0, .int .u32 0, .int .u32 0, .int .u32 0, .int .u32 0, .int .u32 0, .int .u32 0, .int .u32 0, .int .u32 0, .int .u32 0, .int .u32 0, .int .u32 0, .int .i64 0, .int .u32 0, .int .u32 0, .int .u32 0, .int .u32 0, .int .u32 0, .int .u32 0, .int .u32 0, .int .u32 0]).cell? ⟨ta.heap.size, 1, none⟩ = some (.int .u32 0) := pi1.cell 1
  have pj2 : ((ta.alloc (.cells (cpA zc) 30)).setRow ta.heap.size #[.int .u32 0, .int .u32 0, .int .u32 0, .int .u32 0, .int .u32 0, .int .u32 0, .int .u32 0, .int .u32 0, .int .u32 0, .int .u32 0, .int .u32 0, .int .u32 0, .int .u32 0, .int .u32 0, .int .u32 0, .int .u32 0, .int .i64 0, .int .u32 0, .int .u32 0, .int .u32 0, .int .u32 0, .int .u32 0, .int .u32 0, .int .u32 0, .int .u32 0]).frozen? ⟨ta.heap.size, 1, none⟩ = false := pi1.frozen 1
  clear pi1
  go_upto_region 10 with (refine wpList_store_row rfl 30 _ _ rfl ta.heap.size #[.int .u32 0, .int .u32 0, .int .u32 0, .int .u32 0, .int .u32 0, .int .u32 0, .int .u32 0, .int .u32 0, .int .u32 0, .int .u32 0, .int .u32 0, .int .u32 0, .int .u32 0, .int .u32 0, .int .u32 0, .int .u32 0, .int .i64 0, .int .u32 0, .int .u32 0, .int .u32 0, .int .u32 0, .int .u32 0, .int .u32 0, .int .u32 0, .int .u32 0] rfl rfl 30 (cpA zc) pi0 size_cpu rfl (by simp [Value.oneCell']) ?_)
  clear pi0 pj1 pj2
  obtain ⟨g2, pin⟩ := GG.out
  clear GG
  replace ra := ra.keep g2 (fun h => h)
  replace rb := rb.keep g2 (fun h => h)
  replace rc := rc.keep g2 (fun h => h)
  replace rd := rd.keep g2 (fun h => h)
  replace pca := pca.keep g2 (fun h => h)
  replace pta := pta.keep g2 (fun h => h)
  replace Hb := Hb.keep0 g2
  replace Hc := Hc.keep0 g2
  replace Hd := Hd.keep0 g2
  replace f0 := f0.trans g2
  clear g2
  obtain ⟨ti, ht⟩ : ∃ u, u = (((ta.alloc (.cells (cpA zc) 30)).setRow ta.heap.size #[.int .u32 0, .int .u32 0, .int .u32 0, .int .u32 0, .int .u32 0, .int .u32 0, .int .u32 0, .int .u32 0, .int .u32 0, .int .u32 0, .int .u32 0, .int .u32 0, .int .u32 0, .int .u32 0, .int .u32 0, .int .u32 0, .int .i64 0, .int .u32 0, .int .u32 0, .int .u32 0, .int .u32 0, .int .u32 0, .int .u32 0, .int .u32 0, .int .u32 0]).setCell ⟨ta.heap.size, 1, none⟩ (.int .u32 64)) := ⟨_, rfl⟩
  rw [← ht] at f0 pin ra rb rc rd pca pta Hb Hc Hd ⊢
  clear ht
  obtain ⟨gin, hh1⟩ : ∃ q, q = ta.heap.size := ⟨_, rfl⟩
  rw [← hh1] at pin lz ⊢
  clear hh1 lz
  have pinc : ∀ j v, (#[.int .u32 0, .int .u32 64, .int .u32 0, .int .u32 0, .int .u32 0, .int .u32 0, .int .u32 0, .int .u32 0, .int .u32 0, .int .u32 0, .int .u32 0, .int .u32 0, .int .u32 0, .int .u32 0, .int .u32 0, .int .u32 0, .int .i64 0, .int .u32 0, .int .u32 0, .int .u32 0, .int .u32 0, .int .u32 0, .int .u32 0, .int .u32 0, .int .u32 0] : Array Value)[j]? = some v → ti.cell? ⟨gin, j, none⟩ = some v := fun j v hv => (pin.cell j).trans hv
  obtain ⟨k0, k1, k2, k3, k4, k5⟩ := cells6 rb
  go_wp2_with (refine wpList_load_part rfl 30 _ rfl gin rfl #[.int .u32 0, .int .u32 64, .int .u32 0, .int .u32 0, .int .u32 0, .int .u32 0, .int .u32 0, .int .u32 0, .int .u32 0, .int .u32 0, .int .u32 0, .int .u32 0, .int .u32 0, .int .u32 0, .int .u32 0, .int .u32 0, .int .i64 0, .int .u32 0, .int .u32 0, .int .u32 0, .int .u32 0, .int .u32 0, .int .u32 0, .int .u32 0, .int .u32 0] _ pinc Tryz.underlying30 rfl size_cpu ?_)
  refine (exS_b _ Ob.B vb Hb).mono ?_
  rintro e wzb ⟨Ab, asb, aob, afb, rfl, g1⟩
  have AFb : Hid (Ab[2]? = some (.int .u32 77) ∧ True) := afb
  clear k0 k1 k2 k3 k4 k5 Hb afb
  replace ra := ra.keep g1 (fun e => by have h1 := Ib.out ga (Or.inl e); have h2 := LL.out; omega)
  replace rb := rb.keep g1 (fun e => by have h1 := Ib.out gb (Or.inl e); have h2 := LL.out; omega)
  replace rc := rc.keep g1 (fun e => by have h1 := Ib.out gc (Or.inl e); have h2 := LL.out; omega)
  replace rd := rd.keep g1 (fun e => by have h1 := Ib.out gd (Or.inl e); have h2 := LL.out; omega)
  replace pca := pca.keep g1 (fun e => by have h1 := Ib.out _ (Or.inl e); have h2 := LL.out; have h3 := Pca.out; omega)
  replace pta := pta.keep g1 (fun e => by have h1 := Ib.out _ (Or.inl e); have h2 := LL.out; have h3 := Pta.out; omega)
  replace Hc := isMc_far Hc g1 (fun k hk e => by have h1 := Ib.out k (Or.inl e); have h2 := Ic.out k hk; have h3 := LL.out; omega)
  replace Hd := isMc_far Hd g1 (fun k hk e => by have h1 := Ib.out k (Or.inl e); have h2 := Id.out k hk; have h3 := LL.out; omega)
  replace f0 : Fr none' w wzb := ⟨g1.os.trans f0.os, g1.tape.trans f0.tape, g1.output.trans f0.output, Nat.le_trans f0.size g1.size, fun k hk hn => by
    rw [g1.block k (Nat.lt_of_lt_of_le hk f0.size) (fun e => by have h1 := Ib.out k (Or.inl e); have h2 := LL.out; omega)]; exact f0.block k hk hn⟩
  have pc0 : Row ((wzb.alloc (.cells (cpA zc) 30)).alloc (.cells #[.int .i64 0, .int .i64 0, .int .i64 0, .int .i64 0, .int .i64 0, .int .i64 0, .bool false, .int .i64 0] 52)) wzb.heap.size (cpA zc) 30 := (row_alloc wzb (cpA zc) 30).alloc _
  have pt0 : Row ((wzb.alloc (.cells (cpA zc) 30)).alloc (.cells #[.int .i64 0, .int .i64 0, .int .i64 0, .int .i64 0, .int .i64 0, .int .i64 0, .bool false, .int .i64 0] 52)) (wzb.heap.size + 1) #[.int .i64 0, .int .i64 0, .int .i64 0, .int .i64 0, .int .i64 0, .int .i64 0, .bool false, .int .i64 0] 52 := row_at (by simp)
  have pt1 := pt0.keep (fr_row _ wzb.heap.size Ab) (ne_new' (Nat.lt_succ_self _))
  have ls : (Tryz.prog.info? 30).map (·.size) = some Ab.size := by rw [asb]; exact size_cpu
  have lo : (cpA zc).size = Ab.size := by rw [asb]; exact cpA_size zc
  have lz : gd < wzb.heap.size := rd.lt
  have g2 : Fr none' wzb ((((wzb.alloc (.cells (cpA zc) 30)).alloc (.cells #[.int .i64 0, .int .i64 0, .int .i64 0, .int .i64 0, .int .i64 0, .int .i64 0, .bool false, .int .i64 0] 52)).setRow wzb.heap.size Ab).setRow (wzb.heap.size + 1) #[.int .i64 0, .int .i64 0, .int .i64 0, .int .i64 0, .int .i64 0, .int .i64 0, .bool false, .int .i64 0]) := (((((Fr.refl none' wzb).alloc _).alloc _).newer (fr_row _ wzb.heap.size Ab) (Nat.le_refl _))).newer (fr_row _ (wzb.heap.size + 1) _) (Nat.le_succ _)
  have pcb : Row ((((wzb.alloc (.cells (cpA zc) 30)).alloc (.cells #[.int .i64 0, .int .i64 0, .int .i64 0, .int .i64 0, .int .i64 0, .int .i64 0, .bool false, .int .i64 0] 52)).setRow wzb.heap.size Ab).setRow (wzb.heap.size + 1) #[.int .i64 0, .int .i64 0, .int .i64 0, .int .i64 0, .int .i64 0, .int .i64 0, .bool false, .int .i64 0]) wzb.heap.size Ab 30 := (pc0.setRow).keep (fr_row _ (wzb.heap.size + 1) _) (ne_new (Nat.lt_succ_self _))
  have ptb : Row ((((wzb.alloc (.cells (cpA zc) 30)).alloc (.cells #[.int .i64 0, .int .i64 0, .int .i64 0, .int .i64 0, .int .i64 0, .int .i64 0, .bool false, .int .i64 0] 52)).setRow wzb.heap.size Ab).setRow (wzb.heap.size + 1) #[.int .i64 0, .int .i64 0, .int .i64 0, .int .i64 0, .int .i64 0, .int .i64 0, .bool false, .int .i64 0]) (wzb.heap.size + 1) #[.int .i64 0, .int .i64 0, .int .i64 0, .int .i64 0, .int .i64 0, .int .i64 0, .bool false, .int .i64 0] 52 := pt1.setRow
  have GG : Hid (Fr none' wzb ((((wzb.alloc (.cells (cpA zc) 30)).alloc (.cells #[.int .i64 0, .int .i64 0, .int .i64 0, .int .i64 0, .int .i64 0, .int .i64 0, .bool false, .int .i64 0] 52)).setRow wzb.heap.size Ab).setRow (wzb.heap.size + 1) #[.int .i64 0, .int .i64 0, .int .i64 0, .int .i64 0, .int .i64 0, .int .i64 0, .bool false, .int .i64 0]) ∧ Row ((((wzb.alloc (.cells (cpA zc) 30)).alloc (.cells #[.int .i64 0, .int .i64 0, .int .i64 0, .int .i64 0, .int .i64 0, .int .i64 0, .bool false, .int .i64 0] 52)).setRow wzb.heap.size Ab).setRow (wzb.heap.size + 1) #[.int .i64 0, .int .i64 0, .int .i64 0, .int .i64 0, .int .i64 0, .int .i64 0, .bool false, .int .i64 0]) wzb.heap.size Ab 30 ∧ Row ((((wzb.alloc (.cells (cpA zc) 30)).alloc (.cells #[.int .i64 0, .int .i64 0, .int .i64 0, .int .i64 0, .int .i64 0, .int .i64 0, .bool false, .int .i64 0] 52)).setRow wzb.heap.size Ab).setRow (wzb.heap.size + 1) #[.int .i64 0, .int .i64 0, .int .i64 0, .int .i64 0, .int .i64 0, .int .i64 0, .bool false, .int .i64 0]) (wzb.heap.size + 1) #[.int .i64 0, .int .i64 0, .int .i64 0, .int .i64 0, .int .i64 0, .int .i64 0, .bool false, .int .i64 0] 52) := ⟨g2, pcb, ptb⟩
  clear g1 g2 pcb ptb pt0
  go_upto_region 11 with (first | refine wpList_store_row rfl 30 _ _ rfl wzb.heap.size Ab rfl rfl 30 (cpA zc) pc0 ls lo aob ?_ | refine wpList_store_row rfl 52 _ _ rfl (wzb.heap.size + 1) #[.int .i64 0, .int .i64 0, .int .i64 0, .int .i64 0, .int .i64 0, .int .i64 0, .bool false, .int .i64 0] rfl rfl 52 #[.int .i64 0, .int .i64 0, .int .i64 0, .int .i64 0, .int .i64 0, .int .i64 0, .bool false, .int .i64 0] pt1 size_trap rfl (by simp [Value.oneCell']) ?_)
  clear pc0 pt1 ls lo
  obtain ⟨g2, pcb, ptb⟩ := GG.out
  clear GG
  replace ra := ra.keep g2 (fun h => h)
  replace rb := rb.keep g2 (fun h => h)
  replace rc := rc.keep g2 (fun h => h)
  replace rd := rd.keep g2 (fun h => h)
  replace pca := pca.keep g2 (fun h => h)
  replace pta := pta.keep g2 (fun h => h)
  replace Hc := Hc.keep0 g2
  replace Hd := Hd.keep0 g2
  replace f0 := f0.trans g2
  clear g2
  obtain ⟨tb, ht⟩ : ∃ u, u = ((((wzb.alloc (.cells (cpA zc) 30)).alloc (.cells #[.int .i64 0, .int .i64 0, .int .i64 0, .int .i64 0, .int .i64 0, .int .i64 0, .bool false, .int .i64 0] 52)).setRow wzb.heap.size Ab).setRow (wzb.heap.size + 1) #[.int .i64 0, .int .i64 0, .int .i64 0, .int .i64 0, .int .i64 0, .int .i64 0, .bool false, .int .i64 0]) := ⟨_, rfl⟩
  rw [← ht] at f0 pcb ptb ra rb rc rd pca pta Hc Hd ⊢
  clear ht
  obtain ⟨hcb, hh1⟩ : ∃ q, q = wzb.heap.size := ⟨_, rfl⟩
  obtain ⟨htb, hh2⟩ : ∃ q, q = wzb.heap.size + 1 := ⟨_, rfl⟩
  rw [← hh2] at ptb ⊢
  rw [← hh1] at pcb lz ⊢
  have Pcb : Hid (gd < hcb) := lz
  have Ptb : Hid (gd < htb) := (show gd < htb by omega)
  clear hh1 hh2 lz
  clear pinc pin
  obtain ⟨k0, k1, k2, k3, k4, k5⟩ := cells6 rc
  go_wp2_with fail
  refine (exS_c _ Oc.B vc Hc).mono ?_
  rintro e wzc ⟨Ac, asc, aoc, afc, rfl, g1⟩
  have AFc : Hid (True ∧ True) := afc
  clear k0 k1 k2 k3 k4 k5 Hc afc
  replace ra := ra.keep g1 (fun e => by have h1 := Ic.out ga (Or.inl e); have h2 := LL.out; omega)
  replace rb := rb.keep g1 (fun e => by have h1 := Ic.out gb (Or.inl e); have h2 := LL.out; omega)
  replace rc := rc.keep g1 (fun e => by have h1 := Ic.out gc (Or.inl e); have h2 := LL.out; omega)
  replace rd := rd.keep g1 (fun e => by have h1 := Ic.out gd (Or.inl e); have h2 := LL.out; omega)
  replace pca := pca.keep g1 (fun e => by have h1 := Ic.out _ (Or.inl e); have h2 := LL.out; have h3 := Pca.out; omega)
  replace pta := pta.keep g1 (fun e => by have h1 := Ic.out _ (Or.inl e); have h2 := LL.out; have h3 := Pta.out; omega)
  replace pcb := pcb.keep g1 (fun e => by have h1 := Ic.out _ (Or.inl e); have h2 := LL.out; have h3 := Pcb.out; omega)
  replace ptb := ptb.keep g1 (fun e => by have h1 := Ic.out _ (Or.inl e); have h2 := LL.out; have h3 := Ptb.out; omega)
  replace Hd := isMc_far Hd g1 (fun k hk e => by have h1 := Ic.out k (Or.inl e); have h2 := Id.out k hk; have h3 := LL.out; omega)
  replace f0 : Fr none' w wzc := ⟨g1.os.trans f0.os, g1.tape.trans f0.tape, g1.output.trans f0.output, Nat.le_trans f0.size g1.size, fun k hk hn => by
    rw [g1.block k (Nat.lt_of_lt_of_le hk f0.size) (fun e => by have h1 := Ic.out k (Or.inl e); have h2 := LL.out; omega)]; exact f0.block k hk hn⟩
  have pc0 : Row ((wzc.alloc (.cells (cpA zc) 30)).alloc (.cells #[.int .i64 0, .int .i64 0, .int .i64 0, .int .i64 0, .int .i64 0, .int .i64 0, .bool false, .int .i64 0] 52)) wzc.heap.size (cpA zc) 30 := (row_alloc wzc (cpA zc) 30).alloc _
  have pt0 : Row ((wzc.alloc (.cells (cpA zc) 30)).alloc (.cells #[.int .i64 0, .int .i64 0, .int .i64 0, .int .i64 0, .int .i64 0, .int .i64 0, .bool false, .int .i64 0] 52)) (wzc.heap.size + 1) #[.int .i64 0, .int .i64 0, .int .i64 0, .int .i64 0, .int .i64 0, .int .i64 0, .bool false, .int .i64 0] 52 := row_at (by simp)
  have pt1 := pt0.keep (fr_row _ wzc.heap.size Ac) (ne_new' (Nat.lt_succ_self _))
  have ls : (Tryz.prog.info? 30).map (·.size) = some Ac.size := by rw [asc]; exact size_cpu
  have lo : (cpA zc).size = Ac.size := by rw [asc]; exact cpA_size zc
  have lz : gd < wzc.heap.size := rd.lt
  have g2 : Fr none' wzc ((((wzc.alloc (.cells (cpA zc) 30)).alloc (.cells #[.int .i64 0, .int .i64 0, .int .i64 0, .int .i64 0, .int .i64 0, .int .i64 0, .bool false, .int .i64 0] 52)).setRow wzc.heap.size Ac).setRow (wzc.heap.size + 1) #[.int .i64 8, .int .i64 285212675, .int .i64 0, .int .i64 0, .int .i64 0, .int .i64 0, .bool false, .int .i64 0]) := (((((Fr.refl none' wzc).alloc _).alloc _).newer (fr_row _ wzc.heap.size Ac) (Nat.le_refl _))).newer (fr_row _ (wzc.heap.size + 1) _) (Nat.le_succ _)
  have pcc : Row ((((wzc.alloc (.cells (cpA zc) 30)).alloc (.cells #[.int .i64 0, .int .i64 0, .int .i64 0, .int .i64 0, .int .i64 0, .int .i64 0, .bool false, .int .i64 0] 52)).setRow wzc.heap.size Ac).setRow (wzc.heap.size + 1) #[.int .i64 8, .int .i64 285212675, .int .i64 0, .int .i64 0, .int .i64 0, .int .i64 0, .bool false, .int .i64 0]) wzc.heap.size Ac 30 := (pc0.setRow).keep (fr_row _ (wzc.heap.size + 1) _) (ne_new (Nat.lt_succ_self _))
  have ptc : Row ((((wzc.alloc (.cells (cpA zc) 30)).alloc (.cells #[.int .i64 0, .int .i64 0, .int .i64 0, .int .i64 0, .int .i64 0, .int .i64 0, .bool false, .int .i64 0] 52)).setRow wzc.heap.size Ac).setRow (wzc.heap.size + 1) #[.int .i64 8, .int .i64 285212675, .int .i64 0, .int .i64 0, .int .i64 0, .int .i64 0, .bool false, .int .i64 0]) (wzc.heap.size + 1) #[.int .i64 8, .int .i64 285212675, .int .i64 0, .int .i64 0, .int .i64 0, .int .i64 0, .bool false, .int .i64 0] 52 := pt1.setRow
  have GG : Hid (Fr none' wzc ((((wzc.alloc (.cells (cpA zc) 30)).alloc (.cells #[.int .i64 0, .int .i64 0, .int .i64 0, .int .i64 0, .int .i64 0, .int .i64 0, .bool false, .int .i64 0] 52)).setRow wzc.heap.size Ac).setRow (wzc.heap.size + 1) #[.int .i64 8, .int .i64 285212675, .int .i64 0, .int .i64 0, .int .i64 0, .int .i64 0, .bool false, .int .i64 0]) ∧ Row ((((wzc.alloc (.cells (cpA zc) 30)).alloc (.cells #[.int .i64 0, .int .i64 0, .int .i64 0, .int .i64 0, .int .i64 0, .int .i64 0, .bool false, .int .i64 0] 52)).setRow wzc.heap.size Ac).setRow (wzc.heap.size + 1) #[.int .i64 8, .int .i64 285212675, .int .i64 0, .int .i64 0, .int .i64 0, .int .i64 0, .bool false, .int .i64 0]) wzc.heap.size Ac 30 ∧ Row ((((wzc.alloc (.cells (cpA zc) 30)).alloc (.cells #[.int .i64 0, .int .i64 0, .int .i64 0, .int .i64 0, .int .i64 0, .int .i64 0, .bool false, .int .i64 0] 52)).setRow wzc.heap.size Ac).setRow (wzc.heap.size + 1) #[.int .i64 8, .int .i64 285212675, .int .i64 0, .int .i64 0, .int .i64 0, .int .i64 0, .bool false, .int .i64 0]) (wzc.heap.size + 1) #[.int .i64 8, .int .i64 285212675, .int .i64 0, .int .i64 0, .int .i64 0, .int .i64 0, .bool false, .int .i64 0] 52) := ⟨g2, pcc, ptc⟩
  clear g1 g2 pcc ptc pt0
  go_upto_region 12 with (first | refine wpList_store_row rfl 30 _ _ rfl wzc.heap.size Ac rfl rfl 30 (cpA zc) pc0 ls lo aoc ?_ | refine wpList_store_row rfl 52 _ _ rfl (wzc.heap.size + 1) #[.int .i64 8, .int .i64 285212675, .int .i64 0, .int .i64 0, .int .i64 0, .int .i64 0, .bool false, .int .i64 0] rfl rfl 52 #[.int .i64 0, .int .i64 0, .int .i64 0, .int .i64 0, .int .i64 0, .int .i64 0, .bool false, .int .i64 0] pt1 size_trap rfl (by simp [Value.oneCell']) ?_)
  clear pc0 pt1 ls lo
  obtain ⟨g2, pcc, ptc⟩ := GG.out
  clear GG
  replace ra := ra.keep g2 (fun h => h)
  replace rb := rb.keep g2 (fun h => h)
  replace rc := rc.keep g2 (fun h => h)
  replace rd := rd.keep g2 (fun h => h)
  replace pca := pca.keep g2 (fun h => h)
  replace pta := pta.keep g2 (fun h => h)
  replace pcb := pcb.keep g2 (fun h => h)
  replace ptb := ptb.keep g2 (fun h => h)
  replace Hd := Hd.keep0 g2
  replace f0 := f0.trans g2
  clear g2
  obtain ⟨tc, ht⟩ : ∃ u, u = ((((wzc.alloc (.cells (cpA zc) 30)).alloc (.cells #[.int .i64 0, .int .i64 0, .int .i64 0, .int .i64 0, .int .i64 0, .int .i64 0, .bool false, .int .i64 0] 52)).setRow wzc.heap.size Ac).setRow (wzc.heap.size + 1) #[.int .i64 8, .int .i64 285212675, .int .i64 0, .int .i64 0, .int .i64 0, .int .i64 0, .bool false, .int .i64 0]) := ⟨_, rfl⟩
  rw [← ht] at f0 pcc ptc ra rb rc rd pca pta pcb ptb Hd ⊢
  clear ht
  obtain ⟨hcc, hh1⟩ : ∃ q, q = wzc.heap.size := ⟨_, rfl⟩
  obtain ⟨htc, hh2⟩ : ∃ q, q = wzc.heap.size + 1 := ⟨_, rfl⟩
  rw [← hh2] at ptc ⊢
  rw [← hh1] at pcc lz ⊢
  have Pcc : Hid (gd < hcc) := lz
  have Ptc : Hid (gd < htc) := (show gd < htc by omega)
  clear hh1 hh2 lz
  obtain ⟨k0, k1, k2, k3, k4, k5⟩ := cells6 rd
  go_wp2_with fail
  refine (exS_d _ Od.B bd vd Hd).mono ?_
  rintro e wzd ⟨Ad, asd, aod, afd, rfl, g1⟩
  have AFd : Hid (True ∧ True) := afd
  clear k0 k1 k2 k3 k4 k5 Hd afd
  replace ra := ra.keep g1 (fun e => by have h1 := Id.out ga (Or.inl e); have h2 := LL.out; omega)
  replace rb := rb.keep g1 (fun e => by have h1 := Id.out gb (Or.inl e); have h2 := LL.out; omega)
  replace rc := rc.keep g1 (fun e => by have h1 := Id.out gc (Or.inl e); have h2 := LL.out; omega)
  replace rd := rd.keep g1 (fun e => by have h1 := Id.out gd (Or.inl e); have h2 := LL.out; omega)
  replace pca := pca.keep g1 (fun e => by have h1 := Id.out _ (Or.inl e); have h2 := LL.out; have h3 := Pca.out; omega)
  replace pta := pta.keep g1 (fun e => by have h1 := Id.out _ (Or.inl e); have h2 := LL.out; have h3 := Pta.out; omega)
  replace pcb := pcb.keep g1 (fun e => by have h1 := Id.out _ (Or.inl e); have h2 := LL.out; have h3 := Pcb.out; omega)
  replace ptb := ptb.keep g1 (fun e => by have h1 := Id.out _ (Or.inl e); have h2 := LL.out; have h3 := Ptb.out; omega)
  replace pcc := pcc.keep g1 (fun e => by have h1 := Id.out _ (Or.inl e); have h2 := LL.out; have h3 := Pcc.out; omega)
  replace ptc := ptc.keep g1 (fun e => by have h1 := Id.out _ (Or.inl e); have h2 := LL.out; have h3 := Ptc.out; omega)
  replace f0 : Fr none' w wzd := ⟨g1.os.trans f0.os, g1.tape.trans f0.tape, g1.output.trans f0.output, Nat.le_trans f0.size g1.size, fun k hk hn => by
    rw [g1.block k (Nat.lt_of_lt_of_le hk f0.size) (fun e => by have h1 := Id.out k (Or.inl e); have h2 := LL.out; omega)]; exact f0.block k hk hn⟩
  have pc0 : Row ((wzd.alloc (.cells (cpA zc) 30)).alloc (.cells #[.int .i64 0, .int .i64 0, .int .i64 0, .int .i64 0, .int .i64 0, .int .i64 0, .bool false, .int .i64 0] 52)) wzd.heap.size (cpA zc) 30 := (row_alloc wzd (cpA zc) 30).alloc _
  have pt0 : Row ((wzd.alloc (.cells (cpA zc) 30)).alloc (.cells #[.int .i64 0, .int .i64 0, .int .i64 0, .int .i64 0, .int .i64 0, .int .i64 0, .bool false, .int .i64 0] 52)) (wzd.heap.size + 1) #[.int .i64 0, .int .i64 0, .int .i64 0, .int .i64 0, .int .i64 0, .int .i64 0, .bool false, .int .i64 0] 52 := row_at (by simp)
  have pt1 := pt0.keep (fr_row _ wzd.heap.size Ad) (ne_new' (Nat.lt_succ_self _))
  have ls : (Tryz.prog.info? 30).map (·.size) = some Ad.size := by rw [asd]; exact size_cpu
  have lo : (cpA zc).size = Ad.size := by rw [asd]; exact cpA_size zc
  have lz : gd < wzd.heap.size := rd.lt
  have g2 : Fr none' wzd ((((wzd.alloc (.cells (cpA zc) 30)).alloc (.cells #[.int .i64 0, .int .i64 0, .int .i64 0, .int .i64 0, .int .i64 0, .int .i64 0, .bool false, .int .i64 0] 52)).setRow wzd.heap.size Ad).setRow (wzd.heap.size + 1) #[.int .i64 5, .int .i64 3, .int .i64 0, .int .i64 0, .int .i64 0, .int .i64 0, .bool false, .int .i64 0]) := (((((Fr.refl none' wzd).alloc _).alloc _).newer (fr_row _ wzd.heap.size Ad) (Nat.le_refl _))).newer (fr_row _ (wzd.heap.size + 1) _) (Nat.le_succ _)
  have pcd : Row ((((wzd.alloc (.cells (cpA zc) 30)).alloc (.cells #[.int .i64 0, .int .i64 0, .int .i64 0, .int .i64 0, .int .i64 0, .int .i64 0, .bool false, .int .i64 0] 52)).setRow wzd.heap.size Ad).setRow (wzd.heap.size + 1) #[.int .i64 5, .int .i64 3, .int .i64 0, .int .i64 0, .int .i64 0, .int .i64 0, .bool false, .int .i64 0]) wzd.heap.size Ad 30 := (pc0.setRow).keep (fr_row _ (wzd.heap.size + 1) _) (ne_new (Nat.lt_succ_self _))
  have ptd : Row ((((wzd.alloc (.cells (cpA zc) 30)).alloc (.cells #[.int .i64 0, .int .i64 0, .int .i64 0, .int .i64 0, .int .i64 0, .int .i64 0, .bool false, .int .i64 0] 52)).setRow wzd.heap.size Ad).setRow (wzd.heap.size + 1) #[.int .i64 5, .int .i64 3, .int .i64 0, .int .i64 0, .int .i64 0, .int .i64 0, .bool false, .int .i64 0]) (wzd.heap.size + 1) #[.int .i64 5, .int .i64 3, .int .i64 0, .int .i64 0, .int .i64 0, .int .i64 0, .bool false, .int .i64 0] 52 := pt1.setRow
  have GG : Hid (Fr none' wzd ((((wzd.alloc (.cells (cpA zc) 30)).alloc (.cells #[.int .i64 0, .int .i64 0, .int .i64 0, .int .i64 0, .int .i64 0, .int .i64 0, .bool false, .int .i64 0] 52)).setRow wzd.heap.size Ad).setRow (wzd.heap.size + 1) #[.int .i64 5, .int .i64 3, .int .i64 0, .int .i64 0, .int .i64 0, .int .i64 0, .bool false, .int .i64 0]) ∧ Row ((((wzd.alloc (.cells (cpA zc) 30)).alloc (.cells #[.int .i64 0, .int .i64 0, .int .i64 0, .int .i64 0, .int .i64 0, .int .i64 0, .bool false, .int .i64 0] 52)).setRow wzd.heap.size Ad).setRow (wzd.heap.size + 1) #[.int .i64 5, .int .i64 3, .int .i64 0, .int .i64 0, .int .i64 0, .int .i64 0, .bool false, .int .i64 0]) wzd.heap.size Ad 30 ∧ Row ((((wzd.alloc (.cells (cpA zc) 30)).alloc (.cells #[.int .i64 0, .int .i64 0, .int .i64 0, .int .i64 0, .int .i64 0, .int .i64 0, .bool false, .int .i64 0] 52)).setRow wzd.heap.size Ad).setRow (wzd.heap.size + 1) #[.int .i64 5, .int .i64 3, .int .i64 0, .int .i64 0, .int .i64 0, .int .i64 0, .bool false, .int .i64 0]) (wzd.heap.size + 1) #[.int .i64 5, .int .i64 3, .int .i64 0, .int .i64 0, .int .i64 0, .int .i64 0, .bool false, .int .i64 0] 52) := ⟨g2, pcd, ptd⟩
  clear g1 g2 pcd ptd pt0
  go_upto_region 13 with (first | refine wpList_store_row rfl 30 _ _ rfl wzd.heap.size Ad rfl rfl 30 (cpA zc) pc0 ls lo aod ?_ | refine wpList_store_row rfl 52 _ _ rfl (wzd.heap.size + 1) #[.int .i64 5, .int .i64 3, .int .i64 0, .int .i64 0, .int .i64 0, .int .i64 0, .bool false, .int .i64 0] rfl rfl 52 #[.int .i64 0, .int .i64 0, .int .i64 0, .int .i64 0, .int .i64 0, .int .i64 0, .bool false, .int .i64 0] pt1 size_trap rfl (by simp [Value.oneCell']) ?_)
  clear pc0 pt1 ls lo
  obtain ⟨g2, pcd, ptd⟩ := GG.out
  clear GG
  replace ra := ra.keep g2 (fun h => h)
  replace rb := rb.keep g2 (fun h => h)
  replace rc := rc.keep g2 (fun h => h)
  replace rd := rd.keep g2 (fun h => h)
  replace pca := pca.keep g2 (fun h => h)
  replace pta := pta.keep g2 (fun h => h)
  replace pcb := pcb.keep g2 (fun h => h)
  replace ptb := ptb.keep g2 (fun h => h)
  replace pcc := pcc.keep g2 (fun h => h)
  replace ptc := ptc.keep g2 (fun h => h)
  replace f0 := f0.trans g2
  clear g2
  obtain ⟨td, ht⟩ : ∃ u, u = ((((wzd.alloc (.cells (cpA zc) 30)).alloc (.cells #[.int .i64 0, .int .i64 0, .int .i64 0, .int .i64 0, .int .i64 0, .int .i64 0, .bool false, .int .i64 0] 52)).setRow wzd.heap.size Ad).setRow (wzd.heap.size + 1) #[.int .i64 5, .int .i64 3, .int .i64 0, .int .i64 0, .int .i64 0, .int .i64 0, .bool false, .int .i64 0]) := ⟨_, rfl⟩
  rw [← ht] at f0 pcd ptd ra rb rc rd pca pta pcb ptb pcc ptc  ⊢
  clear ht
  obtain ⟨hcd, hh1⟩ : ∃ q, q = wzd.heap.size := ⟨_, rfl⟩
  obtain ⟨htd, hh2⟩ : ∃ q, q = wzd.heap.size + 1 := ⟨_, rfl⟩
  rw [← hh2] at ptd ⊢
  rw [← hh1] at pcd lz ⊢
  have Pcd : Hid (gd < hcd) := lz
  have Ptd : Hid (gd < htd) := (show gd < htd by omega)
  clear hh1 hh2 lz
  have w1 := (pca.cell 1).trans AFa.out.1
  have w2 := (pca.cell 16).trans AFa.out.2
  have w3 := (pcb.cell 2).trans AFb.out.1
  clear pca pcb pcc pcd AFa AFb AFc AFd ra rb rc rd
  obtain ⟨ma0, ma1, ma2, ma3, ma4, ma5, ma6, ma7⟩ := cells8 pta
  obtain ⟨mb0, mb1, mb2, mb3, mb4, mb5, mb6, mb7⟩ := cells8 ptb
  obtain ⟨mc0, mc1, mc2, mc3, mc4, mc5, mc6, mc7⟩ := cells8 ptc
  obtain ⟨md0, md1, md2, md3, md4, md5, md6, md7⟩ := cells8 ptd
  go_wp2_with fail
  go_ret
  exact ⟨rfl, f0⟩

end Go.Proofs.YtcpjlpgphfhonaaGreat

/- CpuExPure -/
namespace Go.Proofs.YtcpjlpgphfhonaaGreat
open Go.RowKit

theorem ex_fetch (W : Nat) : nested (exB W) 16 (-1) 3 0 4 = ⟨1, 5, f0⟩ := by kernel_rfl
theorem ex_bytes (W : Nat) : ((exB W).drop 64).take 4 = bytesOf 4 W := by kernel_rfl
theorem ex_word (W : Nat) (hW : W < 4294967296) : loadV (exB W) 64 4 16 = (W : Int) := by
  have h : errOf 64 4 16 = 0 := by decide
  unfold loadV
  rw [if_pos h]
  show ((numOf (((exB W).drop 64).take 4) : Nat) : Int) = _
  rw [ex_bytes, numOf_bytesOf, Nat.mod_eq_of_lt (by simpa using hW)]

theorem ex_idx (page : Int) : idx (fun _ => zl) 1 0 page 8 = -1 := idx_none (fun j _ => by unfold hit; simp [zl, emp, leq])

/-- The machine behind the fetch; the work behind it. -/
def exM (W : Nat) (g : Bool) : Mc := rcM (M0 (exB W) g) 16 1 0 (-1) 3 0 4 0
def exX (W : Nat) (c : Cp) : Wk := ⟨0, 0, none, 1, 0, -1, 3, 0, 0, W, (dOp (W : Int)).toNat, (dA (W : Int)).toNat, (dB (W : Int)).toNat, (dC (W : Int)).toNat, (dI (W : Int)).toNat, c.setP 4⟩

theorem ex_reach (W : Nat) (g : Bool) : rcF (M0 (exB W) g) 16 1 0 (-1) 3 0 4 = f0 ∧ rcP (M0 (exB W) g) 16 1 0 (-1) 3 0 4 = 64 := by
  have hi : hitR (M0 (exB W) g).T 1 0 0 4 = false := by
    show hitR (fun _ => zl) 1 0 0 4 = false
    unfold hitR
    rw [ex_idx]
    rfl
  have hx : reachX (M0 (exB W) g).bs 16 (M0 (exB W) g).T 1 0 (-1) 3 0 4 = f0 := by
    unfold reachX
    rw [if_neg (by rw [hi]; decide)]
    show (nested (exB W) 16 (-1) 3 0 4).ft = f0
    rw [ex_fetch]
  have hf : reachF (M0 (exB W) g).bs 16 (M0 (exB W) g).T 1 0 (-1) 3 0 4 = 1 := by
    unfold reachF
    rw [if_neg (by rw [hi]; decide)]
    show (nested (exB W) 16 (-1) 3 0 4).fr = 1
    rw [ex_fetch]
  have h1 : rcF (M0 (exB W) g) 16 1 0 (-1) 3 0 4 = f0 := by
    unfold rcF
    show (if (reachX (M0 (exB W) g).bs 16 (M0 (exB W) g).T 1 0 (-1) 3 0 4).k ≠ 0 then _ else if ((16 : Nat) : Int) ≤ reachF (M0 (exB W) g).bs 16 (M0 (exB W) g).T 1 0 (-1) 3 0 4 then _ else f0) = f0
    rw [hx, hf]
    rfl
  refine ⟨h1, ?_⟩
  unfold rcP
  rw [h1]
  show (if f0.k ≠ 0 then 0 else reachF (M0 (exB W) g).bs 16 (M0 (exB W) g).T 1 0 (-1) 3 0 4 * 64 + 0 % 64) = 64
  rw [hf]
  rfl

theorem ex_step (W : Nat) (hW : W < 4294967296) (hd : i_decOk (W : Int) = true) (g : Bool) (c : Cp) (hp : c.pc = 0) (hf : spF g c = -1) (ha : spA g c = 0) (hg : isG (exX W c).op = false ∨ g = true) :
    stepR 16 (M0 (exB W) g) c 1 3 0 = ((exec 16 (exM W g) (exX W c)).1, stC c (exec 16 (exM W g) (exX W c)), (exec 16 (exM W g) (exX W c)).2.2) := by
  have hb : ¬ c.bad := by unfold Cp.bad; rw [hp]; decide
  have hv : (M0 (exB W) g).V.isSome = g := by cases g <;> rfl
  have hw : wkP g c 1 3 0 = ⟨0, 0, none, 1, 0, -1, 3, 0, 0, 0, 0, 0, 0, 0, 0, c.setP 4⟩ := by unfold wkP; rw [hf, ha, hp]; rfl
  have hfx : fX 16 (M0 (exB W) g) (wkP g c 1 3 0) = ⟨0, 0, none, 1, 0, -1, 3, 0, 0, W, 0, 0, 0, 0, 0, c.setP 4⟩ := by
    rw [hw]
    unfold fX
    show ({ p := 0, t := 0, v := none, vm := 1, sd := 0, fi := -1, se := 3, ix := 0, pc := 0, wd := (loadV (exB W) (rcP (M0 (exB W) g) 16 1 0 (-1) 3 0 4) 4 16).toNat, op := 0, a := 0, b := 0, c := 0, imm := 0, z := c.setP 4 } : Wk) = _
    rw [(ex_reach W g).2, ex_word W hW, Int.toNat_natCast]
  have hD : doR 16 (M0 (exB W) g) (wkP g c 1 3 0) = exec 16 (exM W g) (exX W c) := by
    unfold doR
    rw [hfx, hw]
    show (if (rcF (M0 (exB W) g) 16 1 0 (-1) 3 0 4).k ≠ 0 then _ else if i_decOk (W : Int) = false then _ else if isG (exX W c).op = true ∧ (M0 (exB W) g).V = none then _ else exec 16 (exM W g) (exX W c)) = _
    rw [(ex_reach W g).1, if_neg (by decide), if_neg (by rw [hd]; decide), if_neg ?_]
    rintro ⟨h1, h2⟩
    rcases hg with hg | hg
    · rw [hg] at h1; exact absurd h1 (by decide)
    · subst hg; exact absurd h2 (by intro h; cases h)
  unfold stepR
  rw [if_neg hb, hv, hD]

/-- States held against each other. -/
def ceq (c d : Cp) : Bool := (List.range 16).all (fun i => ((c.r i : Nat) : Int) == ((d.r i : Nat) : Int)) && (c.pc == d.pc && (List.range 8).all (fun i => ((c.s i : Nat) : Int) == ((d.s i : Nat) : Int)))
theorem ceq_self (c : Cp) : ceq c c = true := by simp [ceq]

theorem part_u32 {xs : Array Value} {i : Nat} {x : Int} (h : xs[i]? = some (.int .u32 x)) (w : World) : (part 26 xs i).run Tryz.prog w = .ok (.int .u32 x) w := by
  simp [part, isAgg, run_underlying Tryz.underlying26, h]

theorem eqItems_u32 (d : Nat) (xs ys : Array Value) (f g : Nat → Int) (w : World) : ∀ is : List Nat, (∀ i ∈ is, xs[i]? = some (.int .u32 (f i)) ∧ ys[i]? = some (.int .u32 (g i))) → (Op.eqItems (d + 1) 26 1 xs ys is).run Tryz.prog w = .ok (is.all (fun i => f i == g i)) w
  | [], _ => by simp [Op.eqItems]
  | i :: is, h => by
    have h1 := h i (by simp)
    have ih := eqItems_u32 d xs ys f g w is (fun j hj => h j (by simp [hj]))
    have p1 := part_u32 (i := i * 1) (by rw [Nat.mul_one]; exact h1.1) w
    have p2 := part_u32 (i := i * 1) (by rw [Nat.mul_one]; exact h1.2) w
    simp only [Op.eqItems, Sem.run_bind, p1, p2, Result.andThen_ok, run_equalIn_int w d 26 .u32 .u32 (f i) (g i) Tryz.underlying26]
    cases hh : (f i == g i) with
    | false => simp [hh]
    | true => simp [hh, ih]

theorem cells_u32 : Tryz.prog.cellsOf 26 = 1 := by kernel_rfl
theorem info_u32 : ∃ i, Tryz.prog.info? 26 = some i := by
  have h : (Tryz.prog.info? 26).isSome = true := by kernel_rfl
  exact Option.isSome_iff_exists.1 h

theorem eq_regs (c d : Cp) (w : World) : (Op.equalIn 9999 27 (.agg #[.int .u32 ((c.r 0 : Nat) : Int), .int .u32 ((c.r 1 : Nat) : Int), .int .u32 ((c.r 2 : Nat) : Int), .int .u32 ((c.r 3 : Nat) : Int), .int .u32 ((c.r 4 : Nat) : Int), .int .u32 ((c.r 5 : Nat) : Int), .int .u32 ((c.r 6 : Nat) : Int), .int .u32 ((c.r 7 : Nat) : Int), .int .u32 ((c.r 8 : Nat) : Int), .int .u32 ((c.r 9 : Nat) : Int), .int .u32 ((c.r 10 : Nat) : Int), .int .u32 ((c.r 11 : Nat) : Int), .int .u32 ((c.r 12 : Nat) : Int), .int .u32 ((c.r 13 : Nat) : Int), .int .u32 ((c.r 14 : Nat) : Int), .int .u32 ((c.r 15 : Nat) : Int)]) (.agg #[.int .u32 ((d.r 0 : Nat) : Int), .int .u32 ((d.r 1 : Nat) : Int), .int .u32 ((d.r 2 : Nat) : Int), .int .u32 ((d.r 3 : Nat) : Int), .int .u32 ((d.r 4 : Nat) : Int), .int .u32 ((d.r 5 : Nat) : Int), .int .u32 ((d.r 6 : Nat) : Int), .int .u32 ((d.r 7 : Nat) : Int), .int .u32 ((d.r 8 : Nat) : Int), .int .u32 ((d.r 9 : Nat) : Int), .int .u32 ((d.r 10 : Nat) : Int), .int .u32 ((d.r 11 : Nat) : Int), .int .u32 ((d.r 12 : Nat) : Int), .int .u32 ((d.r 13 : Nat) : Int), .int .u32 ((d.r 14 : Nat) : Int), .int .u32 ((d.r 15 : Nat) : Int)])).run Tryz.prog w = .ok ((List.range 16).all (fun i => ((c.r i : Nat) : Int) == ((d.r i : Nat) : Int))) w := by
  obtain ⟨i, hi⟩ := info_u32
  rw [show (9999 : Nat) = 9998 + 1 by rfl, run_equalIn_array w 9998 _ _ Tryz.underlying27 hi, cells_u32]
  refine eqItems_u32 9997 _ _ (fun i => ((c.r i : Nat) : Int)) (fun i => ((d.r i : Nat) : Int)) w _ (fun j hj => ?_)
  have hj' : j < 16 := List.mem_range.1 hj
  have : j = 0 ∨ j = 1 ∨ j = 2 ∨ j = 3 ∨ j = 4 ∨ j = 5 ∨ j = 6 ∨ j = 7 ∨ j = 8 ∨ j = 9 ∨ j = 10 ∨ j = 11 ∨ j = 12 ∨ j = 13 ∨ j = 14 ∨ j = 15 := by omega
  rcases this with rfl | rfl | rfl | rfl | rfl | rfl | rfl | rfl | rfl | rfl | rfl | rfl | rfl | rfl | rfl | rfl <;> exact ⟨rfl, rfl⟩
theorem eq_syss (c d : Cp) (w : World) : (Op.equalIn 9999 28 (.agg #[.int .u32 ((c.s 0 : Nat) : Int), .int .u32 ((c.s 1 : Nat) : Int), .int .u32 ((c.s 2 : Nat) : Int), .int .u32 ((c.s 3 : Nat) : Int), .int .u32 ((c.s 4 : Nat) : Int), .int .u32 ((c.s 5 : Nat) : Int), .int .u32 ((c.s 6 : Nat) : Int), .int .u32 ((c.s 7 : Nat) : Int)]) (.agg #[.int .u32 ((d.s 0 : Nat) : Int), .int .u32 ((d.s 1 : Nat) : Int), .int .u32 ((d.s 2 : Nat) : Int), .int .u32 ((d.s 3 : Nat) : Int), .int .u32 ((d.s 4 : Nat) : Int), .int .u32 ((d.s 5 : Nat) : Int), .int .u32 ((d.s 6 : Nat) : Int), .int .u32 ((d.s 7 : Nat) : Int)])).run Tryz.prog w = .ok ((List.range 8).all (fun i => ((c.s i : Nat) : Int) == ((d.s i : Nat) : Int))) w := by
  obtain ⟨i, hi⟩ := info_u32
  rw [show (9999 : Nat) = 9998 + 1 by rfl, run_equalIn_array w 9998 _ _ Tryz.underlying28 hi, cells_u32]
  refine eqItems_u32 9997 _ _ (fun i => ((c.s i : Nat) : Int)) (fun i => ((d.s i : Nat) : Int)) w _ (fun j hj => ?_)
  have hj' : j < 8 := List.mem_range.1 hj
  have : j = 0 ∨ j = 1 ∨ j = 2 ∨ j = 3 ∨ j = 4 ∨ j = 5 ∨ j = 6 ∨ j = 7 := by omega
  rcases this with rfl | rfl | rfl | rfl | rfl | rfl | rfl | rfl <;> exact ⟨rfl, rfl⟩

set_option maxHeartbeats 2000000 in
theorem neq_cpu (c d : Cp) (w : World) : (binOp .neq 30 (.agg (cpA c)) (.agg (cpA d))).run Tryz.prog w = .ok (.bool !(ceq c d)) w := by
  have h1 := eq_regs c d
  have h2 := eq_syss c d
  unfold ceq
  obtain ⟨x, hx⟩ : ∃ x, (List.range 16).all (fun i => ((c.r i : Nat) : Int) == ((d.r i : Nat) : Int)) = x := ⟨_, rfl⟩
  obtain ⟨y, hy⟩ : ∃ y, (List.range 8).all (fun i => ((c.s i : Nat) : Int) == ((d.s i : Nat) : Int)) = y := ⟨_, rfl⟩
  rw [hx] at h1 ⊢
  rw [hy] at h2 ⊢
  rw [cpA_eq, cpA_eq]
  clear hx hy
  cases x <;> cases y <;> cases hp : (c.pc == d.pc) <;> simp [go_sem, h1, h2, hp]
set_option maxHeartbeats 2000000 in
theorem eql_cpu (c d : Cp) (w : World) : (binOp .eql 30 (.agg (cpA c)) (.agg (cpA d))).run Tryz.prog w = .ok (.bool (ceq c d)) w := by
  have h1 := eq_regs c d
  have h2 := eq_syss c d
  unfold ceq
  obtain ⟨x, hx⟩ : ∃ x, (List.range 16).all (fun i => ((c.r i : Nat) : Int) == ((d.r i : Nat) : Int)) = x := ⟨_, rfl⟩
  obtain ⟨y, hy⟩ : ∃ y, (List.range 8).all (fun i => ((c.s i : Nat) : Int) == ((d.s i : Nat) : Int)) = y := ⟨_, rfl⟩
  rw [hx] at h1 ⊢
  rw [hy] at h2 ⊢
  rw [cpA_eq, cpA_eq]
  clear hx hy
  cases x <;> cases y <;> cases hp : (c.pc == d.pc) <;> simp [go_sem, h1, h2, hp]

end Go.Proofs.YtcpjlpgphfhonaaGreat

/- CpuSysP -/
namespace Go.Proofs.YtcpjlpgphfhonaaGreat
open Go.RowKit

def cin (w : Nat) : Cp := (zc.setR 2 w).setS 6 77
theorem cin_ok {w : Nat} (h : w < 4294967296) : (cin w).Ok := (zc_ok.setR 2 h).setS 6 (by decide)
def W1 (n : Nat) : Nat := 335675392 + n
def W2 (n : Nat) : Nat := 321912832 + n
theorem enc1 {n : Nat} (h : n < 65536) : i_encW 20 0 2 0 (n : Int) = (W1 n : Int) := by
  have hr : rightI 20 0 2 0 (n : Int) = true := by
    simp [rightI, kf, hA, hB, hC, hI, fld]
    omega
  unfold i_encW
  rw [if_pos hr]
  unfold wordI W1
  omega
theorem enc2 {n : Nat} (h : n < 65536) : i_encW 19 3 0 0 (n : Int) = (W2 n : Int) := by
  have hr : rightI 19 3 0 0 (n : Int) = true := by
    simp [rightI, kf, hA, hB, hC, hI, fld]
    omega
  unfold i_encW
  rw [if_pos hr]
  unfold wordI W2
  omega

theorem dec1 {n : Nat} (h : n < 65536) : i_decOk (W1 n : Int) = true ∧ dOp (W1 n : Int) = 20 ∧ dA (W1 n : Int) = 0 ∧ dB (W1 n : Int) = 2 ∧ dC (W1 n : Int) = 0 ∧ dI (W1 n : Int) = n := by
  have hr : rightI 20 0 2 0 (n : Int) = true := by
    simp [rightI, kf, hA, hB, hC, hI, fld]
    omega
  have hw : (W1 n : Int) = wordI 20 0 2 0 (n : Int) := by unfold W1 wordI; omega
  obtain ⟨h1, h2, h3, h4, h5, h6⟩ := i_dec_back hr
  rw [hw]
  refine ⟨?_, h1, h2, h3, h4, h5⟩
  cases hd : i_decOk (wordI 20 0 2 0 (n : Int)) with
  | true => rfl
  | false => unfold dE at h6; rw [if_neg (by rw [hd]; decide)] at h6; exact absurd h6 (by decide)
theorem dec2 {n : Nat} (h : n < 65536) : i_decOk (W2 n : Int) = true ∧ dOp (W2 n : Int) = 19 ∧ dA (W2 n : Int) = 3 ∧ dB (W2 n : Int) = 0 ∧ dC (W2 n : Int) = 0 ∧ dI (W2 n : Int) = n := by
  have hr : rightI 19 3 0 0 (n : Int) = true := by
    simp [rightI, kf, hA, hB, hC, hI, fld]
    omega
  have hw : (W2 n : Int) = wordI 19 3 0 0 (n : Int) := by unfold W2 wordI; omega
  obtain ⟨h1, h2, h3, h4, h5, h6⟩ := i_dec_back hr
  rw [hw]
  refine ⟨?_, h1, h2, h3, h4, h5⟩
  cases hd : i_decOk (wordI 19 3 0 0 (n : Int)) with
  | true => rfl
  | false => unfold dE at h6; rw [if_neg (by rw [hd]; decide)] at h6; exact absurd h6 (by decide)

theorem exX1 {n : Nat} (h : n < 65536) (c : Cp) : exX (W1 n) c = ⟨0, 0, none, 1, 0, -1, 3, 0, 0, W1 n, 20, 0, 2, 0, n, c.setP 4⟩ := by
  obtain ⟨_, h1, h2, h3, h4, h5⟩ := dec1 h
  unfold exX
  rw [h1, h2, h3, h4, h5, Int.toNat_natCast]
  rfl
theorem exX2 {n : Nat} (h : n < 65536) (c : Cp) : exX (W2 n) c = ⟨0, 0, none, 1, 0, -1, 3, 0, 0, W2 n, 19, 3, 0, 0, n, c.setP 4⟩ := by
  obtain ⟨_, h1, h2, h3, h4, h5⟩ := dec2 h
  unfold exX
  rw [h1, h2, h3, h4, h5, Int.toNat_natCast]
  rfl

theorem sp_low {c : Cp} (h : c.s 0 = 0) : spF true c = -1 ∧ spA true c = 0 := by
  unfold spF spA
  rw [h]
  exact ⟨rfl, rfl⟩

theorem sys1_hi {n w : Nat} (h : n < 65536) (hn : 5 < n) : (stepR 16 (M0 (exB (W1 n)) true) (cin w) 1 3 0).2.1 = cin w ∧ (stepR 16 (M0 (exB (W1 n)) true) (cin w) 1 3 0).2.2 = ⟨7, n, 0, f0⟩ := by
  rw [ex_step (W1 n) (by unfold W1; omega) (dec1 h).1 true (cin w) rfl (sp_low rfl).1 (sp_low rfl).2 (Or.inr rfl), exX1 h]
  have e : exec 16 (exM (W1 n) true) ⟨0, 0, none, 1, 0, -1, 3, 0, 0, W1 n, 20, 0, 2, 0, n, (cin w).setP 4⟩ = (wrM (exM (W1 n) true) (exM (W1 n) true).S ⟨0, 0, none, 1, 0, -1, 3, 0, 0, W1 n, 20, 0, 2, 0, n, (cin w).setP 4⟩, wrX ⟨0, 0, none, 1, 0, -1, 3, 0, 0, W1 n, 20, 0, 2, 0, n, (cin w).setP 4⟩, wrT ⟨0, 0, none, 1, 0, -1, 3, 0, 0, W1 n, 20, 0, 2, 0, n, (cin w).setP 4⟩) := rfl
  have ht : wrT ⟨0, 0, none, 1, 0, -1, 3, 0, 0, W1 n, 20, 0, 2, 0, n, (cin w).setP 4⟩ = ⟨7, n, 0, f0⟩ := if_pos (show (5 : Int) < (n : Int) by omega)
  rw [e]
  refine ⟨?_, ht⟩
  show (if (wrT ⟨0, 0, none, 1, 0, -1, 3, 0, 0, W1 n, 20, 0, 2, 0, n, (cin w).setP 4⟩).ca = 0 ∨ (wrT ⟨0, 0, none, 1, 0, -1, 3, 0, 0, W1 n, 20, 0, 2, 0, n, (cin w).setP 4⟩).ca = 10 then _ else cin w) = cin w
  rw [ht]
  rfl
theorem sys1_lo {n w : Nat} (h : n ≤ 5) : (stepR 16 (M0 (exB (W1 n)) true) (cin w) 1 3 0).2.1 = ((cin w).setP 4).setS n w ∧ (stepR 16 (M0 (exB (W1 n)) true) (cin w) 1 3 0).2.2 = t0 := by
  rw [ex_step (W1 n) (by unfold W1; omega) (dec1 (by omega)).1 true (cin w) rfl (sp_low rfl).1 (sp_low rfl).2 (Or.inr rfl), exX1 (by omega)]
  have e : exec 16 (exM (W1 n) true) ⟨0, 0, none, 1, 0, -1, 3, 0, 0, W1 n, 20, 0, 2, 0, n, (cin w).setP 4⟩ = (wrM (exM (W1 n) true) (exM (W1 n) true).S ⟨0, 0, none, 1, 0, -1, 3, 0, 0, W1 n, 20, 0, 2, 0, n, (cin w).setP 4⟩, wrX ⟨0, 0, none, 1, 0, -1, 3, 0, 0, W1 n, 20, 0, 2, 0, n, (cin w).setP 4⟩, wrT ⟨0, 0, none, 1, 0, -1, 3, 0, 0, W1 n, 20, 0, 2, 0, n, (cin w).setP 4⟩) := rfl
  have ht : wrT ⟨0, 0, none, 1, 0, -1, 3, 0, 0, W1 n, 20, 0, 2, 0, n, (cin w).setP 4⟩ = t0 := if_neg (show ¬ (5 : Int) < (n : Int) by omega)
  have hx : wrX ⟨0, 0, none, 1, 0, -1, 3, 0, 0, W1 n, 20, 0, 2, 0, n, (cin w).setP 4⟩ = ⟨0, 0, none, 1, 0, -1, 3, 0, 0, W1 n, 20, 0, 2, 0, n, ((cin w).setP 4).setS n w⟩ := if_neg (show ¬ (5 : Int) < (n : Int) by omega)
  rw [e]
  refine ⟨?_, ht⟩
  show (if (wrT ⟨0, 0, none, 1, 0, -1, 3, 0, 0, W1 n, 20, 0, 2, 0, n, (cin w).setP 4⟩).ca = 0 ∨ (wrT ⟨0, 0, none, 1, 0, -1, 3, 0, 0, W1 n, 20, 0, 2, 0, n, (cin w).setP 4⟩).ca = 10 then (wrX ⟨0, 0, none, 1, 0, -1, 3, 0, 0, W1 n, 20, 0, 2, 0, n, (cin w).setP 4⟩).z else cin w) = _
  rw [ht, hx]
  rfl
theorem sys2_hi {n : Nat} (h : n < 65536) (hn : 6 < n) (c : Cp) (hp : c.pc = 0) (hs : c.s 0 = 0) : (stepR 16 (M0 (exB (W2 n)) true) c 1 3 0).2.1 = c ∧ (stepR 16 (M0 (exB (W2 n)) true) c 1 3 0).2.2 = ⟨7, n, 0, f0⟩ := by
  rw [ex_step (W2 n) (by unfold W2; omega) (dec2 h).1 true c hp (sp_low hs).1 (sp_low hs).2 (Or.inr rfl), exX2 h]
  have e : exec 16 (exM (W2 n) true) ⟨0, 0, none, 1, 0, -1, 3, 0, 0, W2 n, 19, 3, 0, 0, n, c.setP 4⟩ = (exM (W2 n) true, rdX ⟨0, 0, none, 1, 0, -1, 3, 0, 0, W2 n, 19, 3, 0, 0, n, c.setP 4⟩, rdT ⟨0, 0, none, 1, 0, -1, 3, 0, 0, W2 n, 19, 3, 0, 0, n, c.setP 4⟩) := rfl
  have ht : rdT ⟨0, 0, none, 1, 0, -1, 3, 0, 0, W2 n, 19, 3, 0, 0, n, c.setP 4⟩ = ⟨7, n, 0, f0⟩ := if_pos (show (6 : Int) < (n : Int) by omega)
  rw [e]
  refine ⟨?_, ht⟩
  show (if (rdT ⟨0, 0, none, 1, 0, -1, 3, 0, 0, W2 n, 19, 3, 0, 0, n, c.setP 4⟩).ca = 0 ∨ (rdT ⟨0, 0, none, 1, 0, -1, 3, 0, 0, W2 n, 19, 3, 0, 0, n, c.setP 4⟩).ca = 10 then _ else c) = c
  rw [ht]
  rfl
theorem sys2_lo {n : Nat} (h : n ≤ 6) (c : Cp) (hp : c.pc = 0) (hs : c.s 0 = 0) : (stepR 16 (M0 (exB (W2 n)) true) c 1 3 0).2.1 = (c.setP 4).setR 3 (c.s n) ∧ (stepR 16 (M0 (exB (W2 n)) true) c 1 3 0).2.2 = t0 := by
  rw [ex_step (W2 n) (by unfold W2; omega) (dec2 (by omega)).1 true c hp (sp_low hs).1 (sp_low hs).2 (Or.inr rfl), exX2 (by omega)]
  have e : exec 16 (exM (W2 n) true) ⟨0, 0, none, 1, 0, -1, 3, 0, 0, W2 n, 19, 3, 0, 0, n, c.setP 4⟩ = (exM (W2 n) true, rdX ⟨0, 0, none, 1, 0, -1, 3, 0, 0, W2 n, 19, 3, 0, 0, n, c.setP 4⟩, rdT ⟨0, 0, none, 1, 0, -1, 3, 0, 0, W2 n, 19, 3, 0, 0, n, c.setP 4⟩) := rfl
  have ht : rdT ⟨0, 0, none, 1, 0, -1, 3, 0, 0, W2 n, 19, 3, 0, 0, n, c.setP 4⟩ = t0 := if_neg (show ¬ (6 : Int) < (n : Int) by omega)
  have hx : rdX ⟨0, 0, none, 1, 0, -1, 3, 0, 0, W2 n, 19, 3, 0, 0, n, c.setP 4⟩ = ⟨0, 0, none, 1, 0, -1, 3, 0, 0, W2 n, 19, 3, 0, 0, n, (c.setP 4).setR 3 (c.s n)⟩ := if_neg (show ¬ (6 : Int) < (n : Int) by omega)
  rw [e]
  refine ⟨?_, ht⟩
  show (if (rdT ⟨0, 0, none, 1, 0, -1, 3, 0, 0, W2 n, 19, 3, 0, 0, n, c.setP 4⟩).ca = 0 ∨ (rdT ⟨0, 0, none, 1, 0, -1, 3, 0, 0, W2 n, 19, 3, 0, 0, n, c.setP 4⟩).ca = 10 then (rdX ⟨0, 0, none, 1, 0, -1, 3, 0, 0, W2 n, 19, 3, 0, 0, n, c.setP 4⟩).z else c) = _
  rw [ht, hx]
  rfl

end Go.Proofs.YtcpjlpgphfhonaaGreat

/- CpuSystemA -/
namespace Go.Proofs.YtcpjlpgphfhonaaGreat
open Go.RowKit

/-- Step of a guest's example, what it leaves said outright. -/
theorem exSt (w : World) (B : Bm) (b : Bk) (bs : List UInt8) (c c' : Cp) (t : Tr) (T : Array Value) (hv : B.v = some b) (hok : c.Ok) (hM : IsMc w B 16 (M0 bs true)) (hc : (stepR 16 (M0 bs true) c 1 3 0).2.1 = c' ∧ (stepR 16 (M0 bs true) c 1 3 0).2.2 = t) (hT : trL t = T) :
    Calls Tryz.prog 11 #[.agg #[.pointer (some ⟨B.p, 0, none⟩), .pointer (some ⟨B.bt, 0, none⟩), .pointer (some ⟨b.b, 0, none⟩)], .agg (cpA c), .int .i64 1, .int .i64 3, .int .i64 0] w fun e w' => e = .returned (.tuple #[.agg (cpA c'), .agg T]) ∧ Fr B.s w w' := by
  have h := Step_any w B 16 (M0 bs true) c hok 1 3 0 hM (M0_few bs true) (by decide)
  rw [hv, hc.1, hc.2, hT] at h
  exact h.mono (fun e w' ⟨a, f, _, o⟩ => ⟨a, f⟩)

theorem isMc_at {w w' : World} {B : Bm} {g : Nat} {nf : Nat} {M : Mc} (h : IsMc w B nf M) (f : Fr (at' g) w w') (h1 : ∀ k, (B.s k ∨ k = B.p) → k ≠ g) : IsMc w' B nf M :=
  h.keep f (h1 _ (Or.inr rfl)) (h1 _ (Or.inl (Or.inl rfl))) (h1 _ (Or.inl (Or.inr (Or.inl rfl)))) (fun k hk => h1 k (Or.inl (Or.inr (Or.inr hk))))

theorem load_partG {P : Program} {ops : Array Oper} {rest : List Oper} {o : Oper} {a : Act} {w : World} {Q : Exit → Act → World → Prop} (hgd : Region.wanted o (yielded ops a.tmps) = true) (ty : TypeId) (x : Operand) (ho : o.op = .load ty x)
    (g : Nat) (hx : a.eval x = .pointer (some ⟨g, 0, none⟩)) (cs : Array Value) (d : TypeDesc) (hc : ∀ j v, cs[j]? = some v → w.cell? ⟨g, j, none⟩ = some v)
    (hu : P.underlying ty = some d) (hd : (match d with | .struct _ | .array _ _ => true | _ => false) = true) (hi : (P.info? ty).map (·.size) = some cs.size)
    (h : wpList P ops Q rest (a.put o.dst (.agg cs)) w) : wpList P ops Q (o :: rest) a w := by
  refine BigFrame.wpList_want hgd fun K hK => ?_
  have hl : (loadCells ⟨g, 0, none⟩ cs.toList.length).run P w = .ok cs.toList.toArray w :=
    run_loadCells_list (P := P) w ⟨g, 0, none⟩ cs.toList (fun j v hv => by
      rw [add_lit', Nat.zero_add]
      exact hc j v (by simpa using hv))
  have hv : (loadVar ty ⟨g, 0, none⟩).run P w = .ok (.agg cs) w := by
    cases hq : P.info? ty with
    | none => simp [hq] at hi
    | some i =>
      have hs : i.size = cs.size := by simpa [hq] using hi
      have hagg : (isAgg ty).run P w = .ok true w := by
        unfold isAgg
        rw [Sem.run_bind, run_underlying hu w]
        cases d <;> simp_all
      simp only [Array.length_toList, Array.toArray_toList] at hl
      simp [loadVar, Sem.run_bind, hagg, sizeOf, typeInfo, hq, hs, hl]
  unfold Oper.wp execOp
  simp only [ho, hx, Instr.loadAt, Instr.sureAddr, Sem.run_bind, Sem.run_pure, Result.andThen_ok, hv]
  exact hK _ _ h

theorem cpA_setP (c : Cp) (x : Int) : (cpA c).setIfInBounds 16 (.int .i64 x) = cpA (c.setP x) := rfl
theorem cpA_set0 (c : Cp) : (cpA c).setIfInBounds 17 (.int .u32 0) = cpA (c.setS 0 0) := rfl
theorem cinA (x : Nat) : ((#[.int .u32 0, .int .u32 0, .int .u32 0, .int .u32 0, .int .u32 0, .int .u32 0, .int .u32 0, .int .u32 0, .int .u32 0, .int .u32 0, .int .u32 0, .int .u32 0, .int .u32 0, .int .u32 0, .int .u32 0, .int .u32 0, .int .i64 0, .int .u32 0, .int .u32 0, .int .u32 0, .int .u32 0, .int .u32 0, .int .u32 0, .int .u32 0, .int .u32 0] : Array Value).setIfInBounds 2 (.int .u32 (x : Int))).setIfInBounds 23 (.int .u32 77) = cpA (cin x) := rfl
theorem cp_at {w : World} {g : Nat} {c : Cp} {t : TypeId} (h : Row w g (cpA c) t) : ∀ j v, (cpA c)[j]? = some v → w.cell? ⟨g, j, none⟩ = some v := fun j _ hv => (h.cell j).trans hv

end Go.Proofs.YtcpjlpgphfhonaaGreat

/- CpuRunP -/
namespace Go.Proofs.YtcpjlpgphfhonaaGreat
open Go.RowKit

theorem exec_zero (nf : Nat) (M : Mc) (X : Wk) (h : (exec nf M X).2.2.ca = 0) : (exec nf M X).2.2 = _root_.Go.Proofs.YtcpjlpgphfhonaaGreat.t0 := by
  unfold exec at h ⊢
  split at h
  all_goals first
    | rfl
    | exact dT_zero (by decide) h
    | (exact absurd h (show ¬((5 : Int) = 0) by decide))
    | (exact absurd h (show ¬((6 : Int) = 0) by decide))
    | skip
  · change (rdT X).ca = 0 at h
    show rdT X = _
    unfold rdT at h ⊢
    split at h
    · exact absurd h (show ¬((7 : Int) = 0) by decide)
    · rw [if_neg (by assumption)]
  · change (wrT X).ca = 0 at h
    show wrT X = _
    unfold wrT at h ⊢
    split at h
    · exact absurd h (show ¬((7 : Int) = 0) by decide)
    · rw [if_neg (by assumption)]
  · change (wfT M X).ca = 0 at h
    show wfT M X = _
    unfold wfT at h ⊢
    split at h
    · split at h
      · rw [if_pos (by assumption)]
      · exact absurd h (show ¬((9 : Int) = 0) by decide)
    · exact absurd h (show ¬((9 : Int) = 0) by decide)
  · change (eoT M.S X).ca = 0 at h
    show eoT M.S X = _
    unfold eoT at h ⊢
    split at h
    · exact absurd h (show ¬((10 : Int) = 0) by decide)
    · rw [if_neg (by assumption)]

theorem do_zero (nf : Nat) (M : Mc) (X : Wk) (h : (doR nf M X).2.2.ca = 0) : (doR nf M X).2.2 = _root_.Go.Proofs.YtcpjlpgphfhonaaGreat.t0 := by
  unfold doR at h ⊢
  split at h
  · exact absurd h (show ¬((1 : Int) = 0) by decide)
  · rw [if_neg (by assumption)]
    split at h
    · exact absurd h (show ¬((8 : Int) = 0) by decide)
    · rw [if_neg (by assumption)]
      split at h
      · exact absurd h (show ¬((8 : Int) = 0) by decide)
      · rw [if_neg (by assumption)]
        exact exec_zero nf _ _ h

/-- A trap of cause none tells nothing. -/
theorem step_zero (nf : Nat) (M : Mc) (c : Cp) (vm se ix : Int) (h : (stepR nf M c vm se ix).2.2.ca = 0) : (stepR nf M c vm se ix).2.2 = _root_.Go.Proofs.YtcpjlpgphfhonaaGreat.t0 := by
  unfold stepR at h ⊢
  split at h
  · exact absurd h (show ¬((4 : Int) = 0) by decide)
  · rw [if_neg (by assumption)]
    exact do_zero nf M _ h

def stepI (nf : Nat) (M : Mc) (c : Cp) (vm se : Int) : Mc × Cp × Tr := stepR nf M c vm se (c.pc / 4 % 8)

theorem step_bad_ix {nf : Nat} {M : Mc} {c : Cp} (h : c.bad) (vm se ix : Int) : stepR nf M c vm se ix = stepI nf M c vm se := by
  unfold stepI stepR
  rw [if_pos h, if_pos h]

/-- So many steps, one behind the other. -/
def seqR (nf : Nat) (M : Mc) (c : Cp) (vm se : Int) : Nat → Mc × Cp
  | 0 => (M, c)
  | k + 1 => ((stepI nf (seqR nf M c vm se k).1 (seqR nf M c vm se k).2 vm se).1, (stepI nf (seqR nf M c vm se k).1 (seqR nf M c vm se k).2 vm se).2.1)

def trapK (nf : Nat) (M : Mc) (c : Cp) (vm se : Int) (k : Nat) : Tr := (stepI nf (seqR nf M c vm se k).1 (seqR nf M c vm se k).2 vm se).2.2

theorem few_seq {nf : Nat} {M : Mc} (h : M.few 0) (c : Cp) (vm se : Int) (k : Nat) : (seqR nf M c vm se k).1.few (2 * k) := by
  induction k with
  | zero => exact h
  | succ k ih => exact few_mono (few_step ih nf _ vm se _) (by omega)

/-- So many were asked for: k went through; then a trap, or the end. -/
def Ran (nf : Nat) (M : Mc) (c : Cp) (vm se : Int) (many k : Nat) (M' : Mc) (c' : Cp) (T : Tr) : Prop :=
  (∀ j, j < k → (trapK nf M c vm se j).ca = 0) ∧ ((k = many ∧ M' = (seqR nf M c vm se k).1 ∧ c' = (seqR nf M c vm se k).2 ∧ T = _root_.Go.Proofs.YtcpjlpgphfhonaaGreat.t0) ∨ (k < many ∧ (trapK nf M c vm se k).ca ≠ 0 ∧ M' = (seqR nf M c vm se (k + 1)).1 ∧ c' = (seqR nf M c vm se (k + 1)).2 ∧ T = trapK nf M c vm se k))

theorem Ran.one {nf : Nat} {M : Mc} {c : Cp} {vm se : Int} {many k k' : Nat} {M1 M2 : Mc} {c1 c2 : Cp} {T1 T2 : Tr} (h : Ran nf M c vm se many k M1 c1 T1) (h' : Ran nf M c vm se many k' M2 c2 T2) : k = k' ∧ M1 = M2 ∧ c1 = c2 ∧ T1 = T2 := by
  obtain ⟨a, b⟩ := h
  obtain ⟨a', b'⟩ := h'
  rcases b with ⟨rfl, rfl, rfl, rfl⟩ | ⟨hk, ht, rfl, rfl, rfl⟩ <;> rcases b' with ⟨rfl, rfl, rfl, rfl⟩ | ⟨hk', ht', rfl, rfl, rfl⟩
  · exact ⟨rfl, rfl, rfl, rfl⟩
  · exact absurd (a _ hk') ht'
  · exact absurd (a' _ hk) ht
  · rcases Nat.lt_trichotomy k k' with e | rfl | e
    · exact absurd (a' _ e) ht
    · exact ⟨rfl, rfl, rfl, rfl⟩
    · exact absurd (a _ e) ht'

end Go.Proofs.YtcpjlpgphfhonaaGreat

/- CpuRun -/
namespace Go.Proofs.YtcpjlpgphfhonaaGreat
open Go.RowKit

theorem ret_ctk {fn : Func} {p q u : Tmp} {tmps : Array Value} {g g' : Nat} {A cs : Array Value} {w : World} (h : fn.results = #[.cell p 30, .cell q 52, .tmp u]) (hp : tmps.getD p undef = .pointer (some ⟨g, 0, none⟩)) (hq : tmps.getD q undef = .pointer (some ⟨g', 0, none⟩)) (hr : Row w g A 30) (hs : A.size = 25) (hr' : Row w g' cs 52) (hs' : cs.size = 8) :
    (results fn tmps).run Tryz.prog w = .ok (.tuple #[.agg A, .agg cs, tmps.getD u undef]) w := by
  have hl : (loadVar 30 ⟨g, 0, none⟩).run Tryz.prog w = .ok (.agg A) w := by
    have := run_loadVar_mid (P := Tryz.prog) w g 0 30 A.toList _ (fun j v hv => by rw [Nat.zero_add, hr.cell]; simpa using hv) Tryz.underlying30 rfl (by rw [Array.length_toList, hs]; exact size_cpu)
    simpa using this
  have hl' := load_trap hr' hs'
  have hp' : tmps[p]?.getD undef = .pointer (some ⟨g, 0, none⟩) := by simpa using hp
  have hq' : tmps[q]?.getD undef = .pointer (some ⟨g', 0, none⟩) := by simpa using hq
  simp only [results, h]
  simp [Result.andThen, hp', hq', asAddr, hl, hl']

theorem wrap_up {k : Nat} (h : k ≤ 1000) : wrap64 ((k : Int) + 1) = ((k + 1 : Nat) : Int) := by unfold wrap64; omega

/-- What a round of Run finds. -/
structure Rn (w wr : World) (B : Bm) (nf N gM gA gZ gT : Nat) (M : Mc) (c : Cp) (vm se : Int) (k : Nat) : Prop where
  f : Fr B.s w wr
  rM : Row wr gM #[.pointer (some ⟨B.p, 0, none⟩), .pointer (some ⟨B.bt, 0, none⟩), ptrV (B.v.map Bk.b)] 37
  rA : Row wr gA (cpA (seqR nf M c vm se k).2) 30
  rZ : Row wr gZ (cpA zc) 30
  rT : Row wr gT #[.int .i64 0, .int .i64 0, .int .i64 0, .int .i64 0, .int .i64 0, .int .i64 0, .bool false, .int .i64 0] 52
  m : IsMc wr B nf (seqR nf M c vm se k).1
  o : Ops wr N
  t : ∀ j, j < k → (trapK nf M c vm se j).ca = 0
  ok : (seqR nf M c vm se k).2.Ok
  sz : N + 30 ≤ wr.heap.size

set_option maxRecDepth 100000 in
set_option maxHeartbeats 4000000 in
theorem Run_any (w : World) (B : Bm) (nf : Nat) (M : Mc) (c : Cp) (hok : c.Ok) (vm se : Int) (many : Nat) (hmy : many ≤ 1000) (hM : IsMc w B nf M) (hm : M.few 0) :
    Calls Tryz.prog 13 #[.agg #[.pointer (some ⟨B.p, 0, none⟩), .pointer (some ⟨B.bt, 0, none⟩), ptrV (B.v.map Bk.b)], .agg (cpA c), .int .i64 vm, .int .i64 se, .int .i64 (many : Int)] w fun e w' => ∃ k M' c' T, e = .returned (.tuple #[.agg (cpA c'), .agg (trL T), .int .i64 (k : Nat)]) ∧ Fr B.s w w' ∧ IsMc w' B nf M' ∧ Ran nf M c vm se many k M' c' T ∧ c'.Ok := by
  have HB : Hid (∀ k, (B.s k ∨ k = B.p) → k < w.heap.size) := hM.ltp
  have hz : ∀ w, Sem.run Tryz.prog (zeroValue 30) w = .ok (.agg (cpA zc)) w := zero_cpu
  obtain ⟨v0, hv0⟩ : ∃ v0, v0 = (((w.alloc (.cells #[.pointer (some ⟨B.p, 0, none⟩), .pointer (some ⟨B.bt, 0, none⟩), ptrV (B.v.map Bk.b)] 37)).alloc (.cells (cpA c) 30)).alloc (.cells (cpA zc) 30)).alloc (.cells #[.int .i64 0, .int .i64 0, .int .i64 0, .int .i64 0, .int .i64 0, .int .i64 0, .bool false, .int .i64 0] 52) := ⟨_, rfl⟩
  have f0 : Fr none' w v0 := by rw [hv0]; exact ((((Fr.refl none' w).alloc _).alloc _).alloc _).alloc _
  have rM : Row v0 w.heap.size #[.pointer (some ⟨B.p, 0, none⟩), .pointer (some ⟨B.bt, 0, none⟩), ptrV (B.v.map Bk.b)] 37 := by rw [hv0]; exact (((row_alloc _ _ _).alloc _).alloc _).alloc _
  have rA : Row v0 (w.heap.size + 1) (cpA c) 30 := by rw [hv0]; exact ((row_at (by simp)).alloc _).alloc _
  have rZ : Row v0 (w.heap.size + 1 + 1) (cpA zc) 30 := by rw [hv0]; exact (row_at (by simp)).alloc _
  have rT : Row v0 (w.heap.size + 1 + 1 + 1) #[.int .i64 0, .int .i64 0, .int .i64 0, .int .i64 0, .int .i64 0, .int .i64 0, .bool false, .int .i64 0] 52 := by rw [hv0]; exact row_at (by simp)
  have hsz : Hid (v0.heap.size = w.heap.size + 4) := by show _ = _; rw [hv0]; simp
  have u1000 : decide ((1000 : Int) < (many : Int)) = false := decide_eq_false (by omega)
  have v1000 : ¬ ((1000 : Int) < (many : Int)) := by omega
  have HMY : Hid (many ≤ 1000) := hmy
  clear hmy
  go_enter Tryz.func13, Tryz.ntmps13
  go_upto_region 1 with fail
  rw [← hv0]
  clear hv0 hz
  obtain ⟨gM, hgM⟩ : ∃ g, g = w.heap.size := ⟨_, rfl⟩
  obtain ⟨gA, hgA⟩ : ∃ g, g = w.heap.size + 1 := ⟨_, rfl⟩
  obtain ⟨gZ, hgZ⟩ : ∃ g, g = w.heap.size + 1 + 1 := ⟨_, rfl⟩
  obtain ⟨gT, hgT⟩ : ∃ g, g = w.heap.size + 1 + 1 + 1 := ⟨_, rfl⟩
  rw [← hgT] at rT ⊢
  rw [← hgZ] at rZ ⊢
  rw [← hgA] at rA ⊢
  rw [← hgM] at rM ⊢
  have HN : Hid (gM = w.heap.size ∧ gA = w.heap.size + 1 ∧ gZ = w.heap.size + 2 ∧ gT = w.heap.size + 3) := by show _ ∧ _; omega
  clear hgA hgZ hgT hgM
  go_wp2_with fail
  refine (ops_any v0 v0.heap.size rfl).mono ?_
  rintro e v1 ⟨rfl, g1, hO⟩
  obtain ⟨N, hN⟩ : ∃ N, N = v0.heap.size := ⟨_, rfl⟩
  rw [← hN] at hO ⊢
  have HNN : Hid (N = w.heap.size + 4) := by show _ = _; rw [hN, hsz.out]
  have hR : Hid (Rn w v1 B nf N gM gA gZ gT M c vm se 0) := by
    have hlt := hO.list.lt
    refine ⟨(f0.trans g1).mono (fun _ _ h => h.elim), rM.keep g1 (fun h => h), rA.keep g1 (fun h => h), rZ.keep g1 (fun h => h), rT.keep g1 (fun h => h), (hM.keep0 f0).keep0 g1, hO, fun j hj => absurd hj (Nat.not_lt_zero j), hok, by omega⟩
  clear hN f0 g1 rM rA rZ rT hO hsz hM hok
  go_wp2_with fail
  go_loopw [14, 15] (fun i p wr => ∃ k : Nat, k ≤ many ∧ i = .int .i64 (k : Int) ∧ Hid (Rn w wr B nf N gM gA gZ gT M c vm se k)) (fun i _ _ => many - (intOf i).toNat)
  case atStart => exact ⟨0, Nat.zero_le _, rfl, hR⟩
  case round =>
    clear hR
    obtain ⟨k, hk, rfl, RR⟩ := hrel
    by_cases hlt : k < many
    · have uk : decide ((k : Int) < (many : Int)) = true := decide_eq_true (by omega)
      obtain ⟨cc0, cc1, cc2⟩ : wr.cell? ⟨gM, 0, none⟩ = some (.pointer (some ⟨B.p, 0, none⟩)) ∧ wr.cell? ⟨gM, 1, none⟩ = some (.pointer (some ⟨B.bt, 0, none⟩)) ∧ wr.cell? ⟨gM, 2, none⟩ = some (ptrV (B.v.map Bk.b)) := ⟨RR.out.rM.cell 0, RR.out.rM.cell 1, RR.out.rM.cell 2⟩
      go_upto_region 5 with fail
      clear cc0 cc1 cc2 uk u1000 v1000
      have rU := row_alloc wr #[.int .i64 0, .int .i64 0, .int .i64 0, .int .i64 0, .int .i64 0, .int .i64 0, .bool false, .int .i64 0] 52
      have fU := (Fr.refl none' wr).alloc (.cells #[.int .i64 0, .int .i64 0, .int .i64 0, .int .i64 0, .int .i64 0, .int .i64 0, .bool false, .int .i64 0] 52)
      obtain ⟨va, hva⟩ : ∃ va, va = wr.alloc (.cells #[.int .i64 0, .int .i64 0, .int .i64 0, .int .i64 0, .int .i64 0, .int .i64 0, .bool false, .int .i64 0] 52) := ⟨_, rfl⟩
      obtain ⟨gU, hgU⟩ : ∃ gU, gU = wr.heap.size := ⟨_, rfl⟩
      rw [← hva] at rU fU ⊢
      rw [← hgU] at rU ⊢
      have HU : Hid (N + 30 ≤ gU) := by show _ ≤ _; rw [hgU]; exact RR.out.sz
      clear hva hgU
      have f1 := RR.out.f.trans (fU.mono (fun _ _ h => h.elim))
      have rM := RR.out.rM.keep fU (fun h => h)
      have rA := RR.out.rA.keep fU (fun h => h)
      have rZ := RR.out.rZ.keep fU (fun h => h)
      have rT := RR.out.rT.keep fU (fun h => h)
      have hM := RR.out.m.keep0 fU
      have hO := RR.out.o.keep fU (fun _ _ _ h => h)
      have HF : Hid ((seqR nf M c vm se k).1.few (2 * k)) := few_seq hm c vm se k
      have HT : Hid (∀ j, j < k → (trapK nf M c vm se j).ca = 0) := RR.out.t
      obtain ⟨R, hR⟩ : ∃ R, stepI nf (seqR nf M c vm se k).1 (seqR nf M c vm se k).2 vm se = R := ⟨_, rfl⟩
      have HQ : Hid (seqR nf M c vm se (k + 1) = (R.1, R.2.1) ∧ trapK nf M c vm se k = R.2.2 ∧ (R.2.2.ca = 0 → R.2.2 = _root_.Go.Proofs.YtcpjlpgphfhonaaGreat.t0)) := by
        refine ⟨by rw [← hR]; rfl, by rw [← hR]; rfl, ?_⟩
        rw [← hR]; exact step_zero nf _ _ vm se _
      have hok := RR.out.ok
      have HKM : Hid (k < many) := hlt
      clear RR fU hk hlt
      obtain ⟨S1, hS⟩ : ∃ S1, seqR nf M c vm se k = S1 := ⟨_, rfl⟩
      rw [hS] at rA hM HF hR hok
      obtain ⟨M1, c1⟩ := S1
      replace rA : Row va gA (cpA c1) 30 := rA
      replace hM : IsMc va B nf M1 := hM
      replace HF : Hid (M1.few (2 * k)) := HF
      replace hR : stepI nf M1 c1 vm se = R := hR
      replace hok : c1.Ok := hok
      have SA : ∀ ix, (ix = c1.pc / 4 % 8 ∨ c1.bad) → Calls Tryz.prog 39 #[.slice (some ⟨N + 29, 0, none⟩) 26 26, .agg #[.pointer (some ⟨B.p, 0, none⟩), .pointer (some ⟨B.bt, 0, none⟩), ptrV (B.v.map Bk.b)], .agg (cpA c1), .int .i64 vm, .int .i64 se, .int .i64 ix] va fun e w' => e = .returned (.tuple #[.agg (cpA R.2.1), .agg (trL R.2.2)]) ∧ Fr B.s va w' ∧ IsMc w' B nf R.1 ∧ R.2.1.Ok := by
        intro ix hix
        have h := step_any va N B nf M1 c1 hok vm se ix hO hM HF.out (by have := HKM.out; have := HMY.out; omega) (fun j hj => Or.inl (by have := HB.out j hj; have := HNN.out; omega))
        have e : stepR nf M1 c1 vm se ix = R := by
          rcases hix with rfl | hb
          · exact hR
          · rw [step_bad_ix hb]; exact hR
        rw [e] at h
        exact h
      have cpc := cp_cell rA
      obtain ⟨cc0, cc1, cc2⟩ : va.cell? ⟨gM, 0, none⟩ = some (.pointer (some ⟨B.p, 0, none⟩)) ∧ va.cell? ⟨gM, 1, none⟩ = some (.pointer (some ⟨B.bt, 0, none⟩)) ∧ va.cell? ⟨gM, 2, none⟩ = some (ptrV (B.v.map Bk.b)) := ⟨rM.cell 0, rM.cell 1, rM.cell 2⟩
      clear hR hM hok HF
      obtain ⟨Mx, cx, Tx⟩ := R
      have SB : ∀ ix, Hid (ix = c1.pc / 4 % 8 ∨ c1.bad) → Calls Tryz.prog 39 #[.slice (some ⟨N + 29, 0, none⟩) 26 26, .agg #[.pointer (some ⟨B.p, 0, none⟩), .pointer (some ⟨B.bt, 0, none⟩), ptrV (B.v.map Bk.b)], .agg (cpA c1), .int .i64 vm, .int .i64 se, .int .i64 ix] va fun e w' => e = .returned (.tuple #[.agg (cpA cx), .agg (trL Tx)]) ∧ Fr B.s va w' ∧ IsMc w' B nf Mx ∧ cx.Ok := fun ix h => SA ix h.out
      clear SA
      by_cases hb : c1.bad
      · have HBB : Hid c1.bad := hb
        clear hb
        go_wp2_with (refine wpList_load_part rfl 30 _ rfl gA rfl (cpA c1) _ (cp_at rA) Tryz.underlying30 rfl (size_cpA c1) ?_)
        refine (SB _ (Or.inr HBB.out)).mono ?_
        rintro e v2 ⟨rfl, g2, hM2, hok2⟩
        clear SB cc0 cc1 cc2 cpc
        have ns : ∀ j, w.heap.size ≤ j → ¬ B.s j := fun j hj e => by have := HB.out j (Or.inl e); omega
        replace rM := rM.keep g2 (ns _ (by have := HN.out; omega))
        replace rA := rA.keep g2 (ns _ (by have := HN.out; omega))
        replace rZ := rZ.keep g2 (ns _ (by have := HN.out; omega))
        replace rT := rT.keep g2 (ns _ (by have := HN.out; omega))
        replace rU := rU.keep g2 (ns _ (by have := HU.out; have := HNN.out; omega))
        replace hO := hO.keep g2 (fun j h1 _ => ns j (by have := HNN.out; omega))
        replace f1 := f1.trans g2
        clear g2
        have dA : ∀ j, j ≠ gA → ¬ at' gA j := fun j h e => h e
        have dU : ∀ j, j ≠ gU → ¬ at' gU j := fun j h e => h e
        have rU1 := rU.keep (fr_row v2 gA (cpA cx)) (dA _ (by have := HU.out; have := HN.out; have := HNN.out; omega))
        have rM1 := (rM.keep (fr_row v2 gA (cpA cx)) (dA _ (by have := HN.out; omega))).keep (fr_row _ gU (trL Tx)) (dU _ (by have := HU.out; have := HN.out; have := HNN.out; omega))
        have rA1 : Row ((v2.setRow gA (cpA cx)).setRow gU (trL Tx)) gA (cpA cx) 30 := (rA.setRow).keep (fr_row _ gU (trL Tx)) (dU _ (by have := HU.out; have := HN.out; have := HNN.out; omega))
        have rZ1 := (rZ.keep (fr_row v2 gA (cpA cx)) (dA _ (by have := HN.out; omega))).keep (fr_row _ gU (trL Tx)) (dU _ (by have := HU.out; have := HN.out; have := HNN.out; omega))
        have rT1 := (rT.keep (fr_row v2 gA (cpA cx)) (dA _ (by have := HN.out; omega))).keep (fr_row _ gU (trL Tx)) (dU _ (by have := HU.out; have := HN.out; have := HNN.out; omega))
        have rU2 : Row ((v2.setRow gA (cpA cx)).setRow gU (trL Tx)) gU (trL Tx) 52 := rU1.setRow
        have f2 := fr_rowS (fr_rowS f1 (g := gA) (by have := HN.out; omega) (cpA cx)) (g := gU) (by have := HU.out; have := HNN.out; omega) (trL Tx)
        have m1 := isMc_past hM2 (fr_row v2 gA (cpA cx)) (fun j hj e => by have e' : j = gA := e; have := HB.out j hj; have := HN.out; omega)
        have m2 := isMc_past m1 (fr_row _ gU (trL Tx)) (fun j hj e => by have e' : j = gU := e; have := HB.out j hj; have := HU.out; have := HNN.out; omega)
        have o2 := (hO.keep (fr_row v2 gA (cpA cx)) (fun j h1 _ e => by have e' : j = gA := e; have := HN.out; have := HNN.out; omega)).keep (fr_row _ gU (trL Tx)) (fun j h1 h2 e => by have e' : j = gU := e; have := HU.out; omega)
        have z2 : Hid (N + 30 ≤ ((v2.setRow gA (cpA cx)).setRow gU (trL Tx)).heap.size) := by have := rU2.lt; have := HU.out; show _ ≤ _; omega
        clear rM rZ rT hM2 m1 hO f1
        have lo : (cpA c1).size = (cpA cx).size := by rw [cpA_size, cpA_size]
        have AA : Hid (Row ((v2.setRow gA (cpA cx)).setRow gU (trL Tx)) gM #[.pointer (some ⟨B.p, 0, none⟩), .pointer (some ⟨B.bt, 0, none⟩), ptrV (B.v.map Bk.b)] 37 ∧ Row ((v2.setRow gA (cpA cx)).setRow gU (trL Tx)) gA (cpA cx) 30 ∧ Row ((v2.setRow gA (cpA cx)).setRow gU (trL Tx)) gZ (cpA zc) 30 ∧ Row ((v2.setRow gA (cpA cx)).setRow gU (trL Tx)) gT #[.int .i64 0, .int .i64 0, .int .i64 0, .int .i64 0, .int .i64 0, .int .i64 0, .bool false, .int .i64 0] 52 ∧ Row ((v2.setRow gA (cpA cx)).setRow gU (trL Tx)) gU (trL Tx) 52 ∧ Fr B.s w ((v2.setRow gA (cpA cx)).setRow gU (trL Tx)) ∧ IsMc ((v2.setRow gA (cpA cx)).setRow gU (trL Tx)) B nf Mx ∧ Ops ((v2.setRow gA (cpA cx)).setRow gU (trL Tx)) N) := ⟨rM1, rA1, rZ1, rT1, rU2, f2, m2, o2⟩
        clear rM1 rA1 rZ1 rT1 rU2 f2 m2 o2
        go_upto_region 6 with (first | refine wpList_store_row rfl 30 _ _ rfl gA (cpA cx) rfl rfl 30 (cpA c1) rA (size_cpA cx) lo (cpA_one cx) ?_ | refine wpList_store_row rfl 52 _ _ rfl gU (trL Tx) rfl rfl 52 #[.int .i64 0, .int .i64 0, .int .i64 0, .int .i64 0, .int .i64 0, .int .i64 0, .bool false, .int .i64 0] rU1 size_trap rfl (trL_one Tx) ?_)
        clear rA rU rU1 lo
        obtain ⟨v3, hv3⟩ : ∃ v3, v3 = (v2.setRow gA (cpA cx)).setRow gU (trL Tx) := ⟨_, rfl⟩
        rw [← hv3] at AA z2 ⊢
        clear hv3
        have uc : v3.cell? ⟨gU, 0, none⟩ = some (.int .i64 Tx.ca) := AA.out.2.2.2.2.1.cell 0
        have HOK : Hid cx.Ok := hok2
        clear hok2
        by_cases ht : Tx.ca = 0
        · have ut : (Tx.ca != 0) = false := by simpa using ht
          have HTZ : Hid (Tx.ca = 0) := ht
          have hk9 : k ≤ 1000 := by have := HKM.out; have := HMY.out; omega
          clear ht
          go_wp2_with fail
          go_roundw
          case rel =>
            refine ⟨k + 1, by have := HKM.out; omega, by simp, ?_⟩
            obtain ⟨a1, a2, a3, a4, a5, a6, a7, a8⟩ := AA.out
            obtain ⟨q1, q2, q3⟩ := HQ.out
            refine ⟨a6, a1, ?_, a3, a4, ?_, a8, ?_, ?_, z2.out⟩
            · rw [q1]; exact a2
            · rw [q1]; exact a7
            · intro j hj
              by_cases e : j < k
              · exact HT.out j e
              · obtain rfl : j = k := by omega
                rw [q2]; exact HTZ.out
            · rw [q1]; exact HOK.out
          case measure =>
            have := HKM.out
            simp [intOf]; omega
        · have ut : (Tx.ca != 0) = true := by simpa using ht
          have HTZ : Hid (Tx.ca ≠ 0) := ht
          clear ht
          go_upto_region 7 with fail
          obtain ⟨a1, a2, a3, a4, a5, a6, a7, a8⟩ := AA.out
          clear uc ut AA
          refine wp_region_held (S := fun w' => Row w' gA (cpA cx) 30 ∧ Row w' gU (trL Tx) 52) (by kernel_rfl) ?_
          change wpAnyH _ _ _ _ _ _ _ _ (World.drew _)
          refine wpAnyH_take (i := 0) (v := .agg (cpL cx).toArray) rfl (by kernel_rfl) (by kernel_rfl) (by kernel_rfl) (fun _ _ _ h => h) (yieldsIf_load_mid (by kernel_rfl) 30 _ rfl gA 0 rfl (cpL cx) _ (fun _ h => range_row h.1) Tryz.underlying30 rfl (size_cpL cx)) ⟨a2.drew, a5.drew⟩ ?_
          show wpAnyH _ _ _ _ _ _ _ (Act.put _ (some 37) _) _
          simp only [Act.put, List.setIfInBounds_toArray, List.set_cons_succ, List.set_cons_zero]
          refine wpAnyH_take (i := 1) (v := .agg ([.int .i64 Tx.ca, .int .i64 Tx.nu, .int .i64 Tx.ad, .int .i64 Tx.f.k, .int .i64 Tx.f.s, .int .i64 Tx.f.l, .bool Tx.f.wk, .int .i64 Tx.f.p]).toArray) rfl (by kernel_rfl) (by kernel_rfl) (by kernel_rfl) (fun _ _ _ h => h) (yieldsIf_load_mid (by kernel_rfl) 52 _ rfl gU 0 rfl ([.int .i64 Tx.ca, .int .i64 Tx.nu, .int .i64 Tx.ad, .int .i64 Tx.f.k, .int .i64 Tx.f.s, .int .i64 Tx.f.l, .bool Tx.f.wk, .int .i64 Tx.f.p]) _ (fun _ h => range_row' h.2) Tryz.underlying52 rfl size_trap) ⟨a2.drew, a5.drew⟩ ?_
          show wpAnyH _ _ _ _ _ _ _ (Act.put _ (some 38) _) _
          simp only [Act.put, List.setIfInBounds_toArray, List.set_cons_succ, List.set_cons_zero]
          refine wpAnyH_take (i := 2) (v := ?_) rfl (by kernel_rfl) (by kernel_rfl) (by kernel_rfl) (fun _ _ _ h => h) (Or.inl ⟨by kernel_rfl, fun w hS => ?_⟩) ⟨a2.drew, a5.drew⟩ ?_
          rotate_left
          · go_simp
            try with_reducible rfl
          show wpAnyH _ _ _ _ _ _ _ (Act.put _ (some 39) _) _
          simp only [Act.put, List.setIfInBounds_toArray, List.set_cons_succ, List.set_cons_zero]
          have dZ : ∀ j, j ≠ gZ → ¬ at' gZ j := fun j h e => h e
          have dT : ∀ j, j ≠ gT → ¬ at' gT j := fun j h e => h e
          have b2 := a2.drew.keep (fr_row _ gZ (cpA cx)) (dZ _ (by have := HN.out; omega))
          have b5 := a5.drew.keep (fr_row _ gZ (cpA cx)) (dZ _ (by have := HU.out; have := HN.out; have := HNN.out; omega))
          have b4 := a4.drew.keep (fr_row _ gZ (cpA cx)) (dZ _ (by have := HN.out; omega))
          have e2 := b2.keep (fr_row _ gT (trL Tx)) (dT _ (by have := HN.out; omega))
          have e5 := b5.keep (fr_row _ gT (trL Tx)) (dT _ (by have := HU.out; have := HN.out; have := HNN.out; omega))
          have eZ : Row (((v3.drew).setRow gZ (cpA cx)).setRow gT (trL Tx)) gZ (cpA cx) 30 := (a3.drew.setRow).keep (fr_row _ gT (trL Tx)) (dT _ (by have := HN.out; omega))
          have eT : Row (((v3.drew).setRow gZ (cpA cx)).setRow gT (trL Tx)) gT (trL Tx) 52 := b4.setRow
          have f3 := fr_rowS (fr_rowS a6.drew (g := gZ) (by have := HN.out; omega) (cpA cx)) (g := gT) (by have := HN.out; omega) (trL Tx)
          have m1 := isMc_past (isMc_past (a7.keep0 (Fr.refl none' v3).drew) (fr_row _ gZ (cpA cx)) (fun j hj e => by have e' : j = gZ := e; have := HB.out j hj; have := HN.out; omega)) (fr_row _ gT (trL Tx)) (fun j hj e => by have e' : j = gT := e; have := HB.out j hj; have := HN.out; omega)
          have lo : (cpA zc).size = (cpA cx).size := by rw [cpA_size, cpA_size]
          refine wpAnyH_all (rs := [3]) (by kernel_rfl) (by simp) ?_
          intro i hi
          obtain rfl : i = 3 := by simpa using hi
          clear hi
          refine wpOp_mk rfl (by kernel_rfl) ?_
          refine wp_store_row 30 _ _ rfl gZ (cpA cx) rfl rfl 30 (cpA zc) a3.drew (size_cpA cx) lo (cpA_one cx) ?_
          refine ⟨⟨b2, b5⟩, ?_⟩
          show wpAnyH _ _ _ _ _ _ _ _ _
          refine wpAnyH_all (rs := [4]) (by kernel_rfl) (by simp) ?_
          intro i hi
          obtain rfl : i = 4 := by simpa using hi
          clear hi
          refine wpOp_mk rfl (by kernel_rfl) ?_
          refine wp_store_row 52 _ _ rfl gT (trL Tx) rfl rfl 52 #[.int .i64 0, .int .i64 0, .int .i64 0, .int .i64 0, .int .i64 0, .int .i64 0, .bool false, .int .i64 0] b4 size_trap rfl (trL_one Tx) ?_
          refine ⟨⟨e2, e5⟩, ?_⟩
          show wpAnyH _ _ _ _ _ _ _ _ _
          refine wpAnyH_take (i := 5) (v := ?_) rfl (by kernel_rfl) (by kernel_rfl) (by kernel_rfl) (fun _ _ _ h => h) (Or.inl ⟨by kernel_rfl, fun w hS => ?_⟩) ⟨e2, e5⟩ ?_
          rotate_left
          · go_simp
            try with_reducible rfl
          show wpAnyH _ _ _ _ _ _ _ (Act.put _ (some 12) _) _
          go_simp
          refine wpAnyH_done (by kernel_rfl) ?_ _
          go_wp2_with fail
          refine bodyPost_ret (ret_ctk rfl rfl rfl eZ (cpA_size _) eT rfl) rfl ?_
          refine ⟨k, Mx, cx, Tx, rfl, f3, m1, ⟨HT.out, Or.inr ⟨HKM.out, ?_, ?_, ?_, ?_⟩⟩, HOK.out⟩
          · rw [HQ.out.2.1]; exact HTZ.out
          · rw [HQ.out.1]
          · rw [HQ.out.1]
          · exact HQ.out.2.1.symm
      · have hp : 0 ≤ c1.pc ∧ c1.pc ≤ 65535 := by unfold Cp.bad at hb; omega
        obtain ⟨hp0, hp1⟩ := hp
        clear hb
        go_wp2_with (refine wpList_load_part rfl 30 _ rfl gA rfl (cpA c1) _ (cp_at rA) Tryz.underlying30 rfl (size_cpA c1) ?_)
        refine (SB _ (Or.inl rfl)).mono ?_
        rintro e v2 ⟨rfl, g2, hM2, hok2⟩
        clear SB cc0 cc1 cc2 cpc
        have ns : ∀ j, w.heap.size ≤ j → ¬ B.s j := fun j hj e => by have := HB.out j (Or.inl e); omega
        replace rM := rM.keep g2 (ns _ (by have := HN.out; omega))
        replace rA := rA.keep g2 (ns _ (by have := HN.out; omega))
        replace rZ := rZ.keep g2 (ns _ (by have := HN.out; omega))
        replace rT := rT.keep g2 (ns _ (by have := HN.out; omega))
        replace rU := rU.keep g2 (ns _ (by have := HU.out; have := HNN.out; omega))
        replace hO := hO.keep g2 (fun j h1 _ => ns j (by have := HNN.out; omega))
        replace f1 := f1.trans g2
        clear g2
        have dA : ∀ j, j ≠ gA → ¬ at' gA j := fun j h e => h e
        have dU : ∀ j, j ≠ gU → ¬ at' gU j := fun j h e => h e
        have rU1 := rU.keep (fr_row v2 gA (cpA cx)) (dA _ (by have := HU.out; have := HN.out; have := HNN.out; omega))
        have rM1 := (rM.keep (fr_row v2 gA (cpA cx)) (dA _ (by have := HN.out; omega))).keep (fr_row _ gU (trL Tx)) (dU _ (by have := HU.out; have := HN.out; have := HNN.out; omega))
        have rA1 : Row ((v2.setRow gA (cpA cx)).setRow gU (trL Tx)) gA (cpA cx) 30 := (rA.setRow).keep (fr_row _ gU (trL Tx)) (dU _ (by have := HU.out; have := HN.out; have := HNN.out; omega))
        have rZ1 := (rZ.keep (fr_row v2 gA (cpA cx)) (dA _ (by have := HN.out; omega))).keep (fr_row _ gU (trL Tx)) (dU _ (by have := HU.out; have := HN.out; have := HNN.out; omega))
        have rT1 := (rT.keep (fr_row v2 gA (cpA cx)) (dA _ (by have := HN.out; omega))).keep (fr_row _ gU (trL Tx)) (dU _ (by have := HU.out; have := HN.out; have := HNN.out; omega))
        have rU2 : Row ((v2.setRow gA (cpA cx)).setRow gU (trL Tx)) gU (trL Tx) 52 := rU1.setRow
        have f2 := fr_rowS (fr_rowS f1 (g := gA) (by have := HN.out; omega) (cpA cx)) (g := gU) (by have := HU.out; have := HNN.out; omega) (trL Tx)
        have m1 := isMc_past hM2 (fr_row v2 gA (cpA cx)) (fun j hj e => by have e' : j = gA := e; have := HB.out j hj; have := HN.out; omega)
        have m2 := isMc_past m1 (fr_row _ gU (trL Tx)) (fun j hj e => by have e' : j = gU := e; have := HB.out j hj; have := HU.out; have := HNN.out; omega)
        have o2 := (hO.keep (fr_row v2 gA (cpA cx)) (fun j h1 _ e => by have e' : j = gA := e; have := HN.out; have := HNN.out; omega)).keep (fr_row _ gU (trL Tx)) (fun j h1 h2 e => by have e' : j = gU := e; have := HU.out; omega)
        have z2 : Hid (N + 30 ≤ ((v2.setRow gA (cpA cx)).setRow gU (trL Tx)).heap.size) := by have := rU2.lt; have := HU.out; show _ ≤ _; omega
        clear rM rZ rT hM2 m1 hO f1
        have lo : (cpA c1).size = (cpA cx).size := by rw [cpA_size, cpA_size]
        have AA : Hid (Row ((v2.setRow gA (cpA cx)).setRow gU (trL Tx)) gM #[.pointer (some ⟨B.p, 0, none⟩), .pointer (some ⟨B.bt, 0, none⟩), ptrV (B.v.map Bk.b)] 37 ∧ Row ((v2.setRow gA (cpA cx)).setRow gU (trL Tx)) gA (cpA cx) 30 ∧ Row ((v2.setRow gA (cpA cx)).setRow gU (trL Tx)) gZ (cpA zc) 30 ∧ Row ((v2.setRow gA (cpA cx)).setRow gU (trL Tx)) gT #[.int .i64 0, .int .i64 0, .int .i64 0, .int .i64 0, .int .i64 0, .int .i64 0, .bool false, .int .i64 0] 52 ∧ Row ((v2.setRow gA (cpA cx)).setRow gU (trL Tx)) gU (trL Tx) 52 ∧ Fr B.s w ((v2.setRow gA (cpA cx)).setRow gU (trL Tx)) ∧ IsMc ((v2.setRow gA (cpA cx)).setRow gU (trL Tx)) B nf Mx ∧ Ops ((v2.setRow gA (cpA cx)).setRow gU (trL Tx)) N) := ⟨rM1, rA1, rZ1, rT1, rU2, f2, m2, o2⟩
        clear rM1 rA1 rZ1 rT1 rU2 f2 m2 o2
        go_upto_region 6 with (first | refine wpList_store_row rfl 30 _ _ rfl gA (cpA cx) rfl rfl 30 (cpA c1) rA (size_cpA cx) lo (cpA_one cx) ?_ | refine wpList_store_row rfl 52 _ _ rfl gU (trL Tx) rfl rfl 52 #[.int .i64 0, .int .i64 0, .int .i64 0, .int .i64 0, .int .i64 0, .int .i64 0, .bool false, .int .i64 0] rU1 size_trap rfl (trL_one Tx) ?_)
        clear rA rU rU1 lo
        obtain ⟨v3, hv3⟩ : ∃ v3, v3 = (v2.setRow gA (cpA cx)).setRow gU (trL Tx) := ⟨_, rfl⟩
        rw [← hv3] at AA z2 ⊢
        clear hv3
        have uc : v3.cell? ⟨gU, 0, none⟩ = some (.int .i64 Tx.ca) := AA.out.2.2.2.2.1.cell 0
        have HOK : Hid cx.Ok := hok2
        clear hok2
        by_cases ht : Tx.ca = 0
        · have ut : (Tx.ca != 0) = false := by simpa using ht
          have HTZ : Hid (Tx.ca = 0) := ht
          have hk9 : k ≤ 1000 := by have := HKM.out; have := HMY.out; omega
          clear ht
          go_wp2_with fail
          go_roundw
          case rel =>
            refine ⟨k + 1, by have := HKM.out; omega, by simp, ?_⟩
            obtain ⟨a1, a2, a3, a4, a5, a6, a7, a8⟩ := AA.out
            obtain ⟨q1, q2, q3⟩ := HQ.out
            refine ⟨a6, a1, ?_, a3, a4, ?_, a8, ?_, ?_, z2.out⟩
            · rw [q1]; exact a2
            · rw [q1]; exact a7
            · intro j hj
              by_cases e : j < k
              · exact HT.out j e
              · obtain rfl : j = k := by omega
                rw [q2]; exact HTZ.out
            · rw [q1]; exact HOK.out
          case measure =>
            have := HKM.out
            simp [intOf]; omega
        · have ut : (Tx.ca != 0) = true := by simpa using ht
          have HTZ : Hid (Tx.ca ≠ 0) := ht
          clear ht
          go_upto_region 7 with fail
          obtain ⟨a1, a2, a3, a4, a5, a6, a7, a8⟩ := AA.out
          clear uc ut AA
          refine wp_region_held (S := fun w' => Row w' gA (cpA cx) 30 ∧ Row w' gU (trL Tx) 52) (by kernel_rfl) ?_
          change wpAnyH _ _ _ _ _ _ _ _ (World.drew _)
          refine wpAnyH_take (i := 0) (v := .agg (cpL cx).toArray) rfl (by kernel_rfl) (by kernel_rfl) (by kernel_rfl) (fun _ _ _ h => h) (yieldsIf_load_mid (by kernel_rfl) 30 _ rfl gA 0 rfl (cpL cx) _ (fun _ h => range_row h.1) Tryz.underlying30 rfl (size_cpL cx)) ⟨a2.drew, a5.drew⟩ ?_
          show wpAnyH _ _ _ _ _ _ _ (Act.put _ (some 37) _) _
          simp only [Act.put, List.setIfInBounds_toArray, List.set_cons_succ, List.set_cons_zero]
          refine wpAnyH_take (i := 1) (v := .agg ([.int .i64 Tx.ca, .int .i64 Tx.nu, .int .i64 Tx.ad, .int .i64 Tx.f.k, .int .i64 Tx.f.s, .int .i64 Tx.f.l, .bool Tx.f.wk, .int .i64 Tx.f.p]).toArray) rfl (by kernel_rfl) (by kernel_rfl) (by kernel_rfl) (fun _ _ _ h => h) (yieldsIf_load_mid (by kernel_rfl) 52 _ rfl gU 0 rfl ([.int .i64 Tx.ca, .int .i64 Tx.nu, .int .i64 Tx.ad, .int .i64 Tx.f.k, .int .i64 Tx.f.s, .int .i64 Tx.f.l, .bool Tx.f.wk, .int .i64 Tx.f.p]) _ (fun _ h => range_row' h.2) Tryz.underlying52 rfl size_trap) ⟨a2.drew, a5.drew⟩ ?_
          show wpAnyH _ _ _ _ _ _ _ (Act.put _ (some 38) _) _
          simp only [Act.put, List.setIfInBounds_toArray, List.set_cons_succ, List.set_cons_zero]
          refine wpAnyH_take (i := 2) (v := ?_) rfl (by kernel_rfl) (by kernel_rfl) (by kernel_rfl) (fun _ _ _ h => h) (Or.inl ⟨by kernel_rfl, fun w hS => ?_⟩) ⟨a2.drew, a5.drew⟩ ?_
          rotate_left
          · go_simp
            try with_reducible rfl
          show wpAnyH _ _ _ _ _ _ _ (Act.put _ (some 39) _) _
          simp only [Act.put, List.setIfInBounds_toArray, List.set_cons_succ, List.set_cons_zero]
          have dZ : ∀ j, j ≠ gZ → ¬ at' gZ j := fun j h e => h e
          have dT : ∀ j, j ≠ gT → ¬ at' gT j := fun j h e => h e
          have b2 := a2.drew.keep (fr_row _ gZ (cpA cx)) (dZ _ (by have := HN.out; omega))
          have b5 := a5.drew.keep (fr_row _ gZ (cpA cx)) (dZ _ (by have := HU.out; have := HN.out; have := HNN.out; omega))
          have b4 := a4.drew.keep (fr_row _ gZ (cpA cx)) (dZ _ (by have := HN.out; omega))
          have e2 := b2.keep (fr_row _ gT (trL Tx)) (dT _ (by have := HN.out; omega))
          have e5 := b5.keep (fr_row _ gT (trL Tx)) (dT _ (by have := HU.out; have := HN.out; have := HNN.out; omega))
          have eZ : Row (((v3.drew).setRow gZ (cpA cx)).setRow gT (trL Tx)) gZ (cpA cx) 30 := (a3.drew.setRow).keep (fr_row _ gT (trL Tx)) (dT _ (by have := HN.out; omega))
          have eT : Row (((v3.drew).setRow gZ (cpA cx)).setRow gT (trL Tx)) gT (trL Tx) 52 := b4.setRow
          have f3 := fr_rowS (fr_rowS a6.drew (g := gZ) (by have := HN.out; omega) (cpA cx)) (g := gT) (by have := HN.out; omega) (trL Tx)
          have m1 := isMc_past (isMc_past (a7.keep0 (Fr.refl none' v3).drew) (fr_row _ gZ (cpA cx)) (fun j hj e => by have e' : j = gZ := e; have := HB.out j hj; have := HN.out; omega)) (fr_row _ gT (trL Tx)) (fun j hj e => by have e' : j = gT := e; have := HB.out j hj; have := HN.out; omega)
          have lo : (cpA zc).size = (cpA cx).size := by rw [cpA_size, cpA_size]
          refine wpAnyH_all (rs := [3]) (by kernel_rfl) (by simp) ?_
          intro i hi
          obtain rfl : i = 3 := by simpa using hi
          clear hi
          refine wpOp_mk rfl (by kernel_rfl) ?_
          refine wp_store_row 30 _ _ rfl gZ (cpA cx) rfl rfl 30 (cpA zc) a3.drew (size_cpA cx) lo (cpA_one cx) ?_
          refine ⟨⟨b2, b5⟩, ?_⟩
          show wpAnyH _ _ _ _ _ _ _ _ _
          refine wpAnyH_all (rs := [4]) (by kernel_rfl) (by simp) ?_
          intro i hi
          obtain rfl : i = 4 := by simpa using hi
          clear hi
          refine wpOp_mk rfl (by kernel_rfl) ?_
          refine wp_store_row 52 _ _ rfl gT (trL Tx) rfl rfl 52 #[.int .i64 0, .int .i64 0, .int .i64 0, .int .i64 0, .int .i64 0, .int .i64 0, .bool false, .int .i64 0] b4 size_trap rfl (trL_one Tx) ?_
          refine ⟨⟨e2, e5⟩, ?_⟩
          show wpAnyH _ _ _ _ _ _ _ _ _
          refine wpAnyH_take (i := 5) (v := ?_) rfl (by kernel_rfl) (by kernel_rfl) (by kernel_rfl) (fun _ _ _ h => h) (Or.inl ⟨by kernel_rfl, fun w hS => ?_⟩) ⟨e2, e5⟩ ?_
          rotate_left
          · go_simp
            try with_reducible rfl
          show wpAnyH _ _ _ _ _ _ _ (Act.put _ (some 12) _) _
          go_simp
          refine wpAnyH_done (by kernel_rfl) ?_ _
          go_wp2_with fail
          refine bodyPost_ret (ret_ctk rfl rfl rfl eZ (cpA_size _) eT rfl) rfl ?_
          refine ⟨k, Mx, cx, Tx, rfl, f3, m1, ⟨HT.out, Or.inr ⟨HKM.out, ?_, ?_, ?_, ?_⟩⟩, HOK.out⟩
          · rw [HQ.out.2.1]; exact HTZ.out
          · rw [HQ.out.1]
          · rw [HQ.out.1]
          · exact HQ.out.2.1.symm
    · have hkm : k = many := by omega
      subst hkm
      have uk : decide ((k : Int) < (k : Int)) = false := decide_eq_false (by omega)
      have rA := RR.out.rA
      have rZ := RR.out.rZ
      have rT := RR.out.rT
      have f1 := RR.out.f
      have hM := RR.out.m
      have HT : Hid (∀ j, j < k → (trapK nf M c vm se j).ca = 0) := RR.out.t
      have HOK : Hid ((seqR nf M c vm se k).2.Ok) := RR.out.ok
      have HS : Hid (seqR nf M c vm se k = seqR nf M c vm se k) := rfl
      clear RR hk hlt
      obtain ⟨M1, hM1⟩ : ∃ q, q = (seqR nf M c vm se k).1 := ⟨_, rfl⟩
      obtain ⟨c1, hc1⟩ : ∃ q, q = (seqR nf M c vm se k).2 := ⟨_, rfl⟩
      rw [← hM1] at hM
      rw [← hc1] at rA HOK
      have HE : Hid (M1 = (seqR nf M c vm se k).1 ∧ c1 = (seqR nf M c vm se k).2) := ⟨hM1, hc1⟩
      clear hM1 hc1 HS
      have lo : (cpA zc).size = (cpA c1).size := by rw [cpA_size, cpA_size]
      have dT : ∀ j, j ≠ gT → ¬ at' gT j := fun j h e => h e
      have rT1 := rT.keep (fr_row wr gZ (cpA c1)) (fun e => by have e' : gT = gZ := e; have := HN.out; omega)
      have eZ : Row ((wr.setRow gZ (cpA c1)).setRow gT #[.int .i64 0, .int .i64 0, .int .i64 0, .int .i64 0, .int .i64 0, .int .i64 0, .bool false, .int .i64 0]) gZ (cpA c1) 30 := (rZ.setRow).keep (fr_row _ gT #[.int .i64 0, .int .i64 0, .int .i64 0, .int .i64 0, .int .i64 0, .int .i64 0, .bool false, .int .i64 0]) (dT _ (by have := HN.out; omega))
      have eT : Row ((wr.setRow gZ (cpA c1)).setRow gT #[.int .i64 0, .int .i64 0, .int .i64 0, .int .i64 0, .int .i64 0, .int .i64 0, .bool false, .int .i64 0]) gT #[.int .i64 0, .int .i64 0, .int .i64 0, .int .i64 0, .int .i64 0, .int .i64 0, .bool false, .int .i64 0] 52 := rT1.setRow
      have f3 := fr_rowS (fr_rowS f1 (g := gZ) (by have := HN.out; omega) (cpA c1)) (g := gT) (by have := HN.out; omega) #[.int .i64 0, .int .i64 0, .int .i64 0, .int .i64 0, .int .i64 0, .int .i64 0, .bool false, .int .i64 0]
      have m1 := isMc_past (isMc_past hM (fr_row _ gZ (cpA c1)) (fun j hj e => by have e' : j = gZ := e; have := HB.out j hj; have := HN.out; omega)) (fr_row _ gT #[.int .i64 0, .int .i64 0, .int .i64 0, .int .i64 0, .int .i64 0, .int .i64 0, .bool false, .int .i64 0]) (fun j hj e => by have e' : j = gT := e; have := HB.out j hj; have := HN.out; omega)
      have ZZ : Hid (Row ((wr.setRow gZ (cpA c1)).setRow gT #[.int .i64 0, .int .i64 0, .int .i64 0, .int .i64 0, .int .i64 0, .int .i64 0, .bool false, .int .i64 0]) gZ (cpA c1) 30 ∧ Row ((wr.setRow gZ (cpA c1)).setRow gT #[.int .i64 0, .int .i64 0, .int .i64 0, .int .i64 0, .int .i64 0, .int .i64 0, .bool false, .int .i64 0]) gT #[.int .i64 0, .int .i64 0, .int .i64 0, .int .i64 0, .int .i64 0, .int .i64 0, .bool false, .int .i64 0] 52 ∧ Fr B.s w ((wr.setRow gZ (cpA c1)).setRow gT #[.int .i64 0, .int .i64 0, .int .i64 0, .int .i64 0, .int .i64 0, .int .i64 0, .bool false, .int .i64 0]) ∧ IsMc ((wr.setRow gZ (cpA c1)).setRow gT #[.int .i64 0, .int .i64 0, .int .i64 0, .int .i64 0, .int .i64 0, .int .i64 0, .bool false, .int .i64 0]) B nf M1) := ⟨eZ, eT, f3, m1⟩
      clear eZ eT f3 m1
      go_wp2_with (first | refine wpList_load_part rfl 30 _ rfl gA rfl (cpA c1) _ (cp_at rA) Tryz.underlying30 rfl (size_cpA c1) ?_ | refine wpList_store_row rfl 30 _ _ rfl gZ (cpA c1) rfl rfl 30 (cpA zc) rZ (size_cpA c1) lo (cpA_one c1) ?_ | refine wpList_store_row rfl 52 _ _ rfl gT #[.int .i64 0, .int .i64 0, .int .i64 0, .int .i64 0, .int .i64 0, .int .i64 0, .bool false, .int .i64 0] rfl rfl 52 #[.int .i64 0, .int .i64 0, .int .i64 0, .int .i64 0, .int .i64 0, .int .i64 0, .bool false, .int .i64 0] rT1 size_trap rfl (by simp [Value.oneCell']) ?_)
      obtain ⟨eZ, eT, f3, m1⟩ := ZZ.out
      refine bodyPost_ret (ret_ctk rfl rfl rfl eZ (cpA_size _) eT rfl) rfl ?_
      refine ⟨k, M1, c1, _root_.Go.Proofs.YtcpjlpgphfhonaaGreat.t0, rfl, f3, m1, ⟨HT.out, Or.inl ⟨rfl, HE.out.1, HE.out.2, rfl⟩⟩, HOK.out⟩

end Go.Proofs.YtcpjlpgphfhonaaGreat

/- CpuRunsA -/
namespace Go.Proofs.YtcpjlpgphfhonaaGreat
open Go.RowKit

theorem fr_far {S : Nat → Prop} {w a b : World} (f : Fr none' w a) (g : Fr S a b) (h : ∀ k, S k → w.heap.size ≤ k) : Fr none' w b :=
  ⟨g.os.trans f.os, g.tape.trans f.tape, g.output.trans f.output, Nat.le_trans f.size g.size, fun k hk hn => by
    rw [g.block k (Nat.lt_of_lt_of_le hk f.size) (fun e => by have := h k e; omega)]; exact f.block k hk hn⟩

/-- Two machines apart, beside the world and the state that came in. -/
structure Ro (w wr : World) (gx gc g8 g10 : Nat) (X : Array Value) (c : Cp) (O1 O2 : Bo) (M1 M2 : Mc) : Prop where
  f : Fr none' w wr
  rx : Row wr gx X 25
  rc : Row wr gc (cpA c) 30
  r8 : Row wr g8 O1.a 44
  r10 : Row wr g10 O2.a 44
  m1 : IsMc wr O1.B 16 M1
  m2 : IsMc wr O2.B 16 M2
  s1 : ∀ k, (O1.B.s k ∨ k = O1.B.p) → gc < k ∧ k < g8
  s2 : ∀ k, (O2.B.s k ∨ k = O2.B.p) → g8 < k ∧ k < g10
  g : w.heap.size ≤ gx ∧ gx < gc ∧ gc < g8 ∧ g8 < g10

section
variable {w wr wr' : World} {gx gc g8 g10 : Nat} {X : Array Value} {c : Cp} {O1 O2 : Bo} {M1 M2 M' : Mc}
theorem Ro.keep0 (h : Ro w wr gx gc g8 g10 X c O1 O2 M1 M2) (k : Fr none' wr wr') : Ro w wr' gx gc g8 g10 X c O1 O2 M1 M2 :=
  ⟨h.f.trans k, h.rx.keep k (fun h => h), h.rc.keep k (fun h => h), h.r8.keep k (fun h => h), h.r10.keep k (fun h => h), h.m1.keep0 k, h.m2.keep0 k, h.s1, h.s2, h.g⟩
theorem Ro.at (h : Ro w wr gx gc g8 g10 X c O1 O2 M1 M2) {g : Nat} (k : Fr (at' g) wr wr') (hg : g10 < g) : Ro w wr' gx gc g8 g10 X c O1 O2 M1 M2 := by
  obtain ⟨h1, h2, h3, h4⟩ := h.g
  have n : ∀ j, j ≠ g → ¬ at' g j := fun j h e => h e
  exact ⟨fr_far h.f k (fun j e => by have e' : j = g := e; omega), h.rx.keep k (n _ (by omega)), h.rc.keep k (n _ (by omega)), h.r8.keep k (n _ (by omega)), h.r10.keep k (n _ (by omega)), isMc_past h.m1 k (fun j hj => n j (by have := h.s1 j hj; omega)), isMc_past h.m2 k (fun j hj => n j (by have := h.s2 j hj; omega)), h.s1, h.s2, h.g⟩
theorem Ro.run1 (h : Ro w wr gx gc g8 g10 X c O1 O2 M1 M2) (k : Fr O1.B.s wr wr') (m : IsMc wr' O1.B 16 M') : Ro w wr' gx gc g8 g10 X c O1 O2 M' M2 := by
  obtain ⟨h1, h2, h3, h4⟩ := h.g
  have n : ∀ j, j ≤ gc ∨ g8 ≤ j → ¬ O1.B.s j := fun j hj e => by have := h.s1 j (Or.inl e); omega
  exact ⟨fr_far h.f k (fun j e => by have := h.s1 j (Or.inl e); omega), h.rx.keep k (n _ (by omega)), h.rc.keep k (n _ (by omega)), h.r8.keep k (n _ (by omega)), h.r10.keep k (n _ (by omega)), m,
    h.m2.keep k (n _ (by have := h.s2 _ (Or.inr rfl); omega)) (n _ (by have := h.s2 _ (Or.inl (Or.inl rfl)); omega)) (n _ (by have := h.s2 _ (Or.inl (Or.inr (Or.inl rfl))); omega)) (fun j hj => n j (by have := h.s2 j (Or.inl (Or.inr (Or.inr hj))); omega)), h.s1, h.s2, h.g⟩
theorem Ro.run2 (h : Ro w wr gx gc g8 g10 X c O1 O2 M1 M2) (k : Fr O2.B.s wr wr') (m : IsMc wr' O2.B 16 M') : Ro w wr' gx gc g8 g10 X c O1 O2 M1 M' := by
  obtain ⟨h1, h2, h3, h4⟩ := h.g
  have n : ∀ j, j ≤ g8 ∨ g10 ≤ j → ¬ O2.B.s j := fun j hj e => by have := h.s2 j (Or.inl e); omega
  exact ⟨fr_far h.f k (fun j e => by have := h.s2 j (Or.inl e); omega), h.rx.keep k (n _ (by omega)), h.rc.keep k (n _ (by omega)), h.r8.keep k (n _ (by omega)), h.r10.keep k (n _ (by omega)),
    h.m1.keep k (n _ (by have := h.s1 _ (Or.inr rfl); omega)) (n _ (by have := h.s1 _ (Or.inl (Or.inl rfl)); omega)) (n _ (by have := h.s1 _ (Or.inl (Or.inr (Or.inl rfl))); omega)) (fun j hj => n j (by have := h.s1 j (Or.inl (Or.inr (Or.inr hj))); omega)), m, h.s1, h.s2, h.g⟩
end

/-- Traps held against each other. -/
theorem eq_trap (t : Tr) (w : World) : (binOp .eql 52 (.agg (trL t)) (.agg (trL t))).run Tryz.prog w = .ok (.bool true) w := by
  unfold trL
  simp [go_sem]

theorem tr_at {w : World} {g : Nat} {t : Tr} {ty : TypeId} (h : Row w g (trL t) ty) : ∀ j v, (trL t)[j]? = some v → w.cell? ⟨g, j, none⟩ = some v := fun j _ hv => (h.cell j).trans hv

/-- Where the law's own steps stand. -/
def Stand (M : Mc) (c : Cp) (vm se : Int) (many k : Nat) (M' : Mc) (D : Cp) (T : Tr) : Prop :=
  (∀ j, j < k → (trapK 16 M c vm se j).ca = 0) ∧ ((k ≤ many ∧ T.ca = 0 ∧ M' = (seqR 16 M c vm se k).1 ∧ D = (seqR 16 M c vm se k).2 ∧ T = _root_.Go.Proofs.YtcpjlpgphfhonaaGreat.t0) ∨ (k < many ∧ T.ca ≠ 0 ∧ M' = (seqR 16 M c vm se (k + 1)).1 ∧ D = (seqR 16 M c vm se (k + 1)).2 ∧ T = trapK 16 M c vm se k))

theorem Stand.ran {M : Mc} {c : Cp} {vm se : Int} {many k : Nat} {M' : Mc} {D : Cp} {T : Tr} (h : Stand M c vm se many k M' D T) (e : k = many ∨ T.ca ≠ 0) : Ran 16 M c vm se many k M' D T := by
  obtain ⟨h1, h2⟩ := h
  refine ⟨h1, ?_⟩
  rcases h2 with ⟨_, b, c1, c2, c3⟩ | ⟨a, b, c1, c2, c3⟩
  · rcases e with e | e
    · exact Or.inl ⟨e, c1, c2, c3⟩
    · exact absurd b e
  · exact Or.inr ⟨a, by rw [← c3]; exact b, c1, c2, c3⟩

/-- One more step. -/
theorem Stand.step {M : Mc} {c : Cp} {vm se : Int} {many k : Nat} {M' : Mc} {D : Cp} {T : Tr} (h : Stand M c vm se many k M' D T) (hk : k < many) (ht : T.ca = 0) :
    ((stepI 16 M' D vm se).2.2.ca = 0 → Stand M c vm se many (k + 1) (stepI 16 M' D vm se).1 (stepI 16 M' D vm se).2.1 (stepI 16 M' D vm se).2.2) ∧ ((stepI 16 M' D vm se).2.2.ca ≠ 0 → Stand M c vm se many k (stepI 16 M' D vm se).1 (stepI 16 M' D vm se).2.1 (stepI 16 M' D vm se).2.2) := by
  obtain ⟨h1, h2⟩ := h
  rcases h2 with ⟨_, b, rfl, rfl, c3⟩ | ⟨a, b, _⟩
  · refine ⟨fun e => ⟨fun j hj => ?_, Or.inl ⟨by omega, e, rfl, rfl, step_zero 16 _ _ vm se _ e⟩⟩, fun e => ⟨h1, Or.inr ⟨hk, e, rfl, rfl, rfl⟩⟩⟩
    by_cases q : j < k
    · exact h1 j q
    · obtain rfl : j = k := by omega
      exact e
  · exact absurd ht b

theorem Stand.few {M : Mc} {c : Cp} {vm se : Int} {many k : Nat} {M' : Mc} {D : Cp} {T : Tr} (h : Stand M c vm se many k M' D T) (hm : M.few 0) : M'.few (2 * (k + 1)) := by
  rcases h.2 with ⟨_, _, rfl, _⟩ | ⟨_, _, rfl, _⟩
  · exact few_mono (few_seq hm c vm se k) (by omega)
  · exact few_seq hm c vm se (k + 1)

/-- What a round of the law's own steps finds. -/
structure Lp (w wr : World) (gx gc g8 g10 g12 g13 g15 g16 : Nat) (X : Array Value) (c : Cp) (O1 O2 : Bo) (Ma : Mc) (p1 : Cp) (s1 : Tr) (MM : Mc) (vm se : Int) (many k : Nat) (M' : Mc) (D : Cp) (T : Tr) : Prop where
  ro : Ro w wr gx gc g8 g10 X c O1 O2 Ma M'
  r12 : Row wr g12 (cpA p1) 30
  r13 : Row wr g13 (trL s1) 52
  r15 : Row wr g15 (cpA D) 30
  r16 : Row wr g16 (trL T) 52
  st : Stand MM c vm se many k M' D T
  ok : D.Ok

theorem ix_eq {p : Int} (h0 : 0 ≤ p) (h1 : p ≤ 65535) : (wrap64 (p.tdiv 4)).tmod 8 = p / 4 % 8 := by
  have e1 : p.tdiv 4 = p / 4 := Int.tdiv_eq_ediv_of_nonneg h0
  have e2 : wrap64 (p / 4) = p / 4 := by unfold wrap64; omega
  rw [e1, e2, Int.tmod_eq_emod_of_nonneg (by omega)]

/-- Is there a trap in that block? -/
def tm (w : World) (g : Nat) : Nat := match w.cell? ⟨g, 0, none⟩ with
  | some (.int _ x) => if x = 0 then 1 else 0
  | _ => 0
theorem tm_row {w : World} {g : Nat} {T : Tr} {t : TypeId} (h : Row w g (trL T) t) : tm w g = if T.ca = 0 then 1 else 0 := by
  have e : w.cell? ⟨g, 0, none⟩ = some (.int .i64 T.ca) := h.cell 0
  unfold tm
  rw [e]

end Go.Proofs.YtcpjlpgphfhonaaGreat

/- CpuRunsWalk -/
namespace Go.Proofs.YtcpjlpgphfhonaaGreat
open Go.RowKit

theorem ptr_one (o : Option Nat) : (ptrV o).oneCell' = true := by cases o <;> simp [ptrV, Value.oneCell']
theorem bo_one (O : Bo) : (O.a).all (·.oneCell') = true := by
  unfold Bo.a
  cases O.B.v <;> cases O.vr <;> simp [ptrV, Value.oneCell']

set_option maxRecDepth 100000 in
set_option maxHeartbeats 8000000 in
theorem runs_walk (w : World) (a0 a1 : Option Addr) (len cap len1 cap1 : Nat) (g : Bool) (vm se : Int) (P : Nat → Pu) (Q : Nat → Wo) (hl : len ≤ 9223372036854775807) (hl1 : len1 ≤ 9223372036854775807) (hP : Pus w a0 len P) (hQ : Wos w a1 len1 Q) (c : Cp) (hok : c.Ok) (many : Nat) (hmy : many ≤ 60) :
    Calls Tryz.prog 7 #[.agg #[.slice a0 len cap, .slice a1 len1 cap1, .bool g, .int .i64 vm, .int .i64 se], .agg (cpA c), .int .i64 (many : Int)] w fun e w' => e = .returned (.bool true) ∧ Fr none' w w' := by
  have hz : ∀ w, Sem.run Tryz.prog (zeroValue 30) w = .ok (.agg (cpA zc)) w := zero_cpu
  have f0 := ((Fr.refl none' w).alloc (.cells #[.slice a0 len cap, .slice a1 len1 cap1, .bool g, .int .i64 vm, .int .i64 se] 25)).alloc (.cells (cpA c) 30)
  have rx := (row_alloc w #[.slice a0 len cap, .slice a1 len1 cap1, .bool g, .int .i64 vm, .int .i64 se] 25).alloc (.cells (cpA c) 30)
  have rc := row_at (W := w.alloc (.cells #[.slice a0 len cap, .slice a1 len1 cap1, .bool g, .int .i64 vm, .int .i64 se] 25)) (n := w.heap.size + 1) (cs := cpA c) (t := 30) (by simp)
  have u0 : decide ((many : Int) < 0) = false := decide_eq_false (by omega)
  have u60 : decide (60 < (many : Int)) = false := decide_eq_false (by omega)
  have HMY : Hid (many ≤ 60) := hmy
  have HL : Hid (len ≤ 9223372036854775807 ∧ len1 ≤ 9223372036854775807) := ⟨hl, hl1⟩
  clear hmy hl hl1
  go_enter Tryz.func7, Tryz.ntmps7
  go_wp2_with fail
  refine (awake_any _).mono ?_
  rintro e w1 ⟨rfl, g1⟩
  replace f0 := f0.trans g1
  replace rx := rx.keep g1 (fun h => h)
  replace rc := rc.keep g1 (fun h => h)
  clear g1
  obtain ⟨gx, hgx⟩ : ∃ q, q = w.heap.size := ⟨_, rfl⟩
  obtain ⟨gc, hgc⟩ : ∃ q, q = w.heap.size + 1 := ⟨_, rfl⟩
  rw [← hgc] at rc ⊢
  rw [← hgx] at rx ⊢
  have HG : Hid (gx = w.heap.size ∧ gc = w.heap.size + 1) := ⟨hgx, hgc⟩
  clear hgx hgc
  have hP1 := hP.keep f0
  have hQ1 := hQ.keep f0
  clear hP hQ
  obtain ⟨x0, x1, x2, x3, x4⟩ : w1.cell? ⟨gx, 0, none⟩ = some (.slice a0 len cap) ∧ w1.cell? ⟨gx, 1, none⟩ = some (.slice a1 len1 cap1) ∧ w1.cell? ⟨gx, 2, none⟩ = some (.bool g) ∧ w1.cell? ⟨gx, 3, none⟩ = some (.int .i64 vm) ∧ w1.cell? ⟨gx, 4, none⟩ = some (.int .i64 se) := ⟨rx.cell 0, rx.cell 1, rx.cell 2, rx.cell 3, rx.cell 4⟩
  go_wp2_with fail
  refine (made_any w1 a0 a1 len cap len1 cap1 g vm se P Q HL.out.1 HL.out.2 hP1 hQ1).mono ?_
  rintro e w2 ⟨O1, rfl, g2, hB1⟩
  clear x0 x1 x2 x3 x4
  obtain ⟨MM, hMM⟩ : ∃ MM, MM = M0 (wB (pB P (min len 100)) Q (min len1 300)) g := ⟨_, rfl⟩
  have HF : Hid (MM.few 0) := by rw [hMM]; exact M0_few _ _
  rw [← hMM] at hB1
  have II1 : Hid (∀ k, (O1.B.s k ∨ k = O1.B.p) → w1.heap.size ≤ k ∧ k < w2.heap.size) := hB1.in
  have L1 : Hid (gc < w1.heap.size) := rc.lt
  have L2 : Hid (w1.heap.size ≤ w2.heap.size) := g2.size
  have z8 := row_alloc w2 #[.pointer none, .pointer none, .pointer none, .pointer none, .pointer none, .pointer none] 44
  have g3 : Fr none' w2 ((w2.alloc (.cells #[.pointer none, .pointer none, .pointer none, .pointer none, .pointer none, .pointer none] 44)).setRow w2.heap.size O1.a) := ((Fr.refl none' w2).alloc _).newer (fr_row _ w2.heap.size _) (Nat.le_refl _)
  have rr : Row ((w2.alloc (.cells #[.pointer none, .pointer none, .pointer none, .pointer none, .pointer none, .pointer none] 44)).setRow w2.heap.size O1.a) w2.heap.size O1.a 44 := z8.setRow
  have GG : Hid (Fr none' w2 ((w2.alloc (.cells #[.pointer none, .pointer none, .pointer none, .pointer none, .pointer none, .pointer none] 44)).setRow w2.heap.size O1.a) ∧ Row ((w2.alloc (.cells #[.pointer none, .pointer none, .pointer none, .pointer none, .pointer none, .pointer none] 44)).setRow w2.heap.size O1.a) w2.heap.size O1.a 44) := ⟨g3, rr⟩
  clear g3 rr
  go_upto_region 3 with (refine wpList_store_row rfl 44 _ _ rfl w2.heap.size O1.a rfl rfl 44 #[.pointer none, .pointer none, .pointer none, .pointer none, .pointer none, .pointer none] z8 size_both rfl (bo_one O1) ?_)
  obtain ⟨g3, r8⟩ := GG.out
  clear GG z8
  obtain ⟨w3, hw3⟩ : ∃ q, q = (w2.alloc (.cells #[.pointer none, .pointer none, .pointer none, .pointer none, .pointer none, .pointer none] 44)).setRow w2.heap.size O1.a := ⟨_, rfl⟩
  rw [← hw3] at g3 r8 ⊢
  clear hw3
  have m1 := hB1.m.keep0 g3
  have L3 : Hid (w2.heap.size < w3.heap.size) := r8.lt
  replace g2 := g2.trans g3
  replace hP1 := hP1.keep g2
  replace hQ1 := hQ1.keep g2
  replace rx := rx.keep g2 (fun h => h)
  replace rc := rc.keep g2 (fun h => h)
  replace f0 := f0.trans g2
  clear g2 g3 hB1
  obtain ⟨g8, hg8⟩ : ∃ q, q = w2.heap.size := ⟨_, rfl⟩
  rw [← hg8] at r8 ⊢
  have H8 : Hid (g8 = w2.heap.size) := hg8
  clear hg8
  obtain ⟨x0, x1, x2, x3, x4⟩ : w3.cell? ⟨gx, 0, none⟩ = some (.slice a0 len cap) ∧ w3.cell? ⟨gx, 1, none⟩ = some (.slice a1 len1 cap1) ∧ w3.cell? ⟨gx, 2, none⟩ = some (.bool g) ∧ w3.cell? ⟨gx, 3, none⟩ = some (.int .i64 vm) ∧ w3.cell? ⟨gx, 4, none⟩ = some (.int .i64 se) := ⟨rx.cell 0, rx.cell 1, rx.cell 2, rx.cell 3, rx.cell 4⟩
  go_wp2_with fail
  refine (made_any w3 a0 a1 len cap len1 cap1 g vm se P Q HL.out.1 HL.out.2 hP1 hQ1).mono ?_
  rintro e w4 ⟨O2, rfl, g2, hB2⟩
  clear x0 x1 x2 x3 x4 hP1 hQ1
  rw [← hMM] at hB2
  have II2 : Hid (∀ k, (O2.B.s k ∨ k = O2.B.p) → w3.heap.size ≤ k ∧ k < w4.heap.size) := hB2.in
  have z10 := row_alloc w4 #[.pointer none, .pointer none, .pointer none, .pointer none, .pointer none, .pointer none] 44
  have g3 : Fr none' w4 ((w4.alloc (.cells #[.pointer none, .pointer none, .pointer none, .pointer none, .pointer none, .pointer none] 44)).setRow w4.heap.size O2.a) := ((Fr.refl none' w4).alloc _).newer (fr_row _ w4.heap.size _) (Nat.le_refl _)
  have rr : Row ((w4.alloc (.cells #[.pointer none, .pointer none, .pointer none, .pointer none, .pointer none, .pointer none] 44)).setRow w4.heap.size O2.a) w4.heap.size O2.a 44 := z10.setRow
  have GG : Hid (Fr none' w4 ((w4.alloc (.cells #[.pointer none, .pointer none, .pointer none, .pointer none, .pointer none, .pointer none] 44)).setRow w4.heap.size O2.a) ∧ Row ((w4.alloc (.cells #[.pointer none, .pointer none, .pointer none, .pointer none, .pointer none, .pointer none] 44)).setRow w4.heap.size O2.a) w4.heap.size O2.a 44) := ⟨g3, rr⟩
  clear g3 rr
  go_upto_region 8 with (refine wpList_store_row rfl 44 _ _ rfl w4.heap.size O2.a rfl rfl 44 #[.pointer none, .pointer none, .pointer none, .pointer none, .pointer none, .pointer none] z10 size_both rfl (bo_one O2) ?_)
  obtain ⟨g3, r10⟩ := GG.out
  clear GG z10
  obtain ⟨w5, hw5⟩ : ∃ q, q = (w4.alloc (.cells #[.pointer none, .pointer none, .pointer none, .pointer none, .pointer none, .pointer none] 44)).setRow w4.heap.size O2.a := ⟨_, rfl⟩
  rw [← hw5] at g3 r10 ⊢
  clear hw5
  have m2 := hB2.m.keep0 g3
  replace g2 := g2.trans g3
  have RO : Hid (Ro w w5 gx gc g8 w4.heap.size #[.slice a0 len cap, .slice a1 len1 cap1, .bool g, .int .i64 vm, .int .i64 se] c O1 O2 MM MM) := by
    refine ⟨f0.trans g2, rx.keep g2 (fun h => h), rc.keep g2 (fun h => h), r8.keep g2 (fun h => h), r10, m1.keep0 g2, m2, ?_, ?_, ?_⟩
    · intro k hk
      have h1 := II1.out k hk
      have h2 := L1.out
      have h3 := H8.out
      omega
    · intro k hk
      have h1 := II2.out k hk
      have h2 := L3.out
      have h3 := H8.out
      omega
    · have h1 := HG.out
      have h2 := L1.out
      have h3 := L2.out
      have h4 := H8.out
      have h5 := L3.out
      have h6 := II2.out _ (Or.inr rfl)
      omega
  clear f0 rx rc r8 r10 m1 m2 g2 g3 hB2 II1 II2 L1 L2 L3 H8 HG hMM
  obtain ⟨g10, hg10⟩ : ∃ q, q = w4.heap.size := ⟨_, rfl⟩
  rw [← hg10] at RO ⊢
  clear hg10
  obtain ⟨y0, y1, y2⟩ : w5.cell? ⟨g8, 0, none⟩ = some (.pointer (some ⟨O1.B.p, 0, none⟩)) ∧ w5.cell? ⟨g8, 1, none⟩ = some (.pointer (some ⟨O1.B.bt, 0, none⟩)) ∧ w5.cell? ⟨g8, 2, none⟩ = some (ptrV (O1.B.v.map Bk.b)) := ⟨RO.out.r8.cell 0, RO.out.r8.cell 1, RO.out.r8.cell 2⟩
  obtain ⟨x3, x4⟩ : w5.cell? ⟨gx, 3, none⟩ = some (.int .i64 vm) ∧ w5.cell? ⟨gx, 4, none⟩ = some (.int .i64 se) := ⟨RO.out.rx.cell 3, RO.out.rx.cell 4⟩
  go_wp2_with (refine wpList_load_part rfl 30 _ rfl gc rfl (cpA c) _ (cp_at RO.out.rc) Tryz.underlying30 rfl (size_cpA c) ?_)
  refine (Run_any w5 O1.B 16 MM c hok vm se many (by have := HMY.out; omega) RO.out.m1 HF.out).mono ?_
  rintro e w6 ⟨k1, Ma, p1, s1, rfl, g2, hMa, RN, okp⟩
  clear y0 y1 y2 x3 x4 u0 u60
  replace RO : Hid (Ro w w6 gx gc g8 g10 #[.slice a0 len cap, .slice a1 len1 cap1, .bool g, .int .i64 vm, .int .i64 se] c O1 O2 Ma MM) := RO.out.run1 g2 hMa
  have HRN : Hid (Ran 16 MM c vm se many k1 Ma p1 s1) := RN
  have L10 : Hid (g10 < w6.heap.size) := RO.out.r10.lt
  clear g2 hMa RN okp
  have q12 : Row ((w6.alloc (.cells (cpA zc) 30)).alloc (.cells #[.int .i64 0, .int .i64 0, .int .i64 0, .int .i64 0, .int .i64 0, .int .i64 0, .bool false, .int .i64 0] 52)) w6.heap.size (cpA zc) 30 := (row_alloc w6 (cpA zc) 30).alloc _
  have q13 : Row ((w6.alloc (.cells (cpA zc) 30)).alloc (.cells #[.int .i64 0, .int .i64 0, .int .i64 0, .int .i64 0, .int .i64 0, .int .i64 0, .bool false, .int .i64 0] 52)) (w6.heap.size + 1) #[.int .i64 0, .int .i64 0, .int .i64 0, .int .i64 0, .int .i64 0, .int .i64 0, .bool false, .int .i64 0] 52 := row_at (by simp)
  have q13' := q13.keep (fr_row _ w6.heap.size (cpA p1)) (fun e => by have e' : w6.heap.size + 1 = w6.heap.size := e; omega)
  have lp : (cpA zc).size = (cpA p1).size := by rw [cpA_size, cpA_size]
  have GG : Hid (Fr none' w6 ((((w6.alloc (.cells (cpA zc) 30)).alloc (.cells #[.int .i64 0, .int .i64 0, .int .i64 0, .int .i64 0, .int .i64 0, .int .i64 0, .bool false, .int .i64 0] 52)).setRow w6.heap.size (cpA p1)).setRow (w6.heap.size + 1) (trL s1)) ∧ Row ((((w6.alloc (.cells (cpA zc) 30)).alloc (.cells #[.int .i64 0, .int .i64 0, .int .i64 0, .int .i64 0, .int .i64 0, .int .i64 0, .bool false, .int .i64 0] 52)).setRow w6.heap.size (cpA p1)).setRow (w6.heap.size + 1) (trL s1)) w6.heap.size (cpA p1) 30 ∧ Row ((((w6.alloc (.cells (cpA zc) 30)).alloc (.cells #[.int .i64 0, .int .i64 0, .int .i64 0, .int .i64 0, .int .i64 0, .int .i64 0, .bool false, .int .i64 0] 52)).setRow w6.heap.size (cpA p1)).setRow (w6.heap.size + 1) (trL s1)) (w6.heap.size + 1) (trL s1) 52) :=
    ⟨((((Fr.refl none' w6).alloc _).alloc _).newer (fr_row _ w6.heap.size (cpA p1)) (Nat.le_refl _)).newer (fr_row _ (w6.heap.size + 1) (trL s1)) (Nat.le_succ _), (q12.setRow).keep (fr_row _ (w6.heap.size + 1) _) (fun e => by have e' : w6.heap.size = w6.heap.size + 1 := e; omega), q13'.setRow⟩
  clear q13
  go_upto_region 9 with (first | refine wpList_store_row rfl 30 _ _ rfl w6.heap.size (cpA p1) rfl rfl 30 (cpA zc) q12 (size_cpA p1) lp (cpA_one p1) ?_ | refine wpList_store_row rfl 52 _ _ rfl (w6.heap.size + 1) (trL s1) rfl rfl 52 #[.int .i64 0, .int .i64 0, .int .i64 0, .int .i64 0, .int .i64 0, .int .i64 0, .bool false, .int .i64 0] q13' size_trap rfl (trL_one s1) ?_)
  clear q12 q13' lp
  obtain ⟨g3, r12, r13⟩ := GG.out
  clear GG
  obtain ⟨w7, hw7⟩ : ∃ q, q = (((w6.alloc (.cells (cpA zc) 30)).alloc (.cells #[.int .i64 0, .int .i64 0, .int .i64 0, .int .i64 0, .int .i64 0, .int .i64 0, .bool false, .int .i64 0] 52)).setRow w6.heap.size (cpA p1)).setRow (w6.heap.size + 1) (trL s1) := ⟨_, rfl⟩
  rw [← hw7] at g3 r12 r13 ⊢
  clear hw7
  obtain ⟨g12, hg12⟩ : ∃ q, q = w6.heap.size := ⟨_, rfl⟩
  obtain ⟨g13, hg13⟩ : ∃ q, q = w6.heap.size + 1 := ⟨_, rfl⟩
  rw [← hg13] at r13 ⊢
  rw [← hg12] at r12 L10 ⊢
  have H12 : Hid (g10 < g12 ∧ g13 = g12 + 1) := by have := L10.out; show _ ∧ _; omega
  clear hg12 hg13 L10
  replace RO : Hid (Ro w w7 gx gc g8 g10 #[.slice a0 len cap, .slice a1 len1 cap1, .bool g, .int .i64 vm, .int .i64 se] c O1 O2 Ma MM) := RO.out.keep0 g3
  clear g3
  have L13 : Hid (g13 < w7.heap.size) := r13.lt
  have q15 := row_alloc w7 (cpA zc) 30
  have lp : (cpA zc).size = (cpA c).size := by rw [cpA_size, cpA_size]
  have GG : Hid (Fr none' w7 (((w7.alloc (.cells (cpA zc) 30)).setRow w7.heap.size (cpA c)).alloc (.cells #[.int .i64 0, .int .i64 0, .int .i64 0, .int .i64 0, .int .i64 0, .int .i64 0, .bool false, .int .i64 0] 52)) ∧ Row (((w7.alloc (.cells (cpA zc) 30)).setRow w7.heap.size (cpA c)).alloc (.cells #[.int .i64 0, .int .i64 0, .int .i64 0, .int .i64 0, .int .i64 0, .int .i64 0, .bool false, .int .i64 0] 52)) w7.heap.size (cpA c) 30 ∧ Row (((w7.alloc (.cells (cpA zc) 30)).setRow w7.heap.size (cpA c)).alloc (.cells #[.int .i64 0, .int .i64 0, .int .i64 0, .int .i64 0, .int .i64 0, .int .i64 0, .bool false, .int .i64 0] 52)) (w7.heap.size + 1) #[.int .i64 0, .int .i64 0, .int .i64 0, .int .i64 0, .int .i64 0, .int .i64 0, .bool false, .int .i64 0] 52) :=
    ⟨(((Fr.refl none' w7).alloc _).newer (fr_row _ w7.heap.size (cpA c)) (Nat.le_refl _)).alloc _, (q15.setRow).alloc _, row_at (by simp)⟩
  have rcc := RO.out.rc
  go_upto_region 11 with (first | refine wpList_load_part rfl 30 _ rfl gc rfl (cpA c) _ (cp_at rcc) Tryz.underlying30 rfl (size_cpA c) ?_ | refine wpList_store_row rfl 30 _ _ rfl w7.heap.size (cpA c) rfl rfl 30 (cpA zc) q15 (size_cpA c) lp (cpA_one c) ?_)
  clear q15 lp rcc
  obtain ⟨g3, r15, r16⟩ := GG.out
  clear GG
  obtain ⟨w8, hw8⟩ : ∃ q, q = ((w7.alloc (.cells (cpA zc) 30)).setRow w7.heap.size (cpA c)).alloc (.cells #[.int .i64 0, .int .i64 0, .int .i64 0, .int .i64 0, .int .i64 0, .int .i64 0, .bool false, .int .i64 0] 52) := ⟨_, rfl⟩
  rw [← hw8] at g3 r15 r16 ⊢
  clear hw8
  obtain ⟨g15, hg15⟩ : ∃ q, q = w7.heap.size := ⟨_, rfl⟩
  obtain ⟨g16, hg16⟩ : ∃ q, q = w7.heap.size + 1 := ⟨_, rfl⟩
  rw [← hg16] at r16 ⊢
  rw [← hg15] at r15 L13 ⊢
  have H15 : Hid (g13 < g15 ∧ g16 = g15 + 1) := by have := L13.out; show _ ∧ _; omega
  clear hg15 hg16 L13
  have LL : Hid (Lp w w8 gx gc g8 g10 g12 g13 g15 g16 #[.slice a0 len cap, .slice a1 len1 cap1, .bool g, .int .i64 vm, .int .i64 se] c O1 O2 Ma p1 s1 MM vm se many 0 MM c _root_.Go.Proofs.YtcpjlpgphfhonaaGreat.t0) := ⟨RO.out.keep0 g3, r12.keep g3 (fun h => h), r13.keep g3 (fun h => h), r15, r16, ⟨fun j hj => absurd hj (Nat.not_lt_zero j), Or.inl ⟨Nat.zero_le _, rfl, rfl, rfl, rfl⟩⟩, hok⟩
  clear RO r12 r13 r15 r16 g3 hok
  go_upto_block 0 with fail
  go_cut [17, 18, 19, 20] from 66 to 100 (fun m a b d wx => ∃ (k : Nat) (M' : Mc) (D : Cp) (T : Tr), m = .int .i64 (k : Int) ∧ Hid (Lp w wx gx gc g8 g10 g12 g13 g15 g16 #[.slice a0 len cap, .slice a1 len1 cap1, .bool g, .int .i64 vm, .int .i64 se] c O1 O2 Ma p1 s1 MM vm se many k M' D T) ∧ Hid (k = many ∨ T.ca ≠ 0))
  case first =>
    go_wp2_with fail
    go_loopw [17, 18, 19, 20] (fun m a b d wr => ∃ (k : Nat) (M' : Mc) (D : Cp) (T : Tr), k ≤ many ∧ m = .int .i64 (k : Int) ∧ Hid (Lp w wr gx gc g8 g10 g12 g13 g15 g16 #[.slice a0 len cap, .slice a1 len1 cap1, .bool g, .int .i64 vm, .int .i64 se] c O1 O2 Ma p1 s1 MM vm se many k M' D T)) (fun m _ _ _ wr => 2 * (many - (intOf m).toNat) + tm wr g16)
    case atStart => exact ⟨0, MM, c, _root_.Go.Proofs.YtcpjlpgphfhonaaGreat.t0, Nat.zero_le _, rfl, LL⟩
    case round =>
      clear LL
      obtain ⟨k, M', D, T, hk, rfl, LL⟩ := hrel
      have t0' : wr.cell? ⟨g16, 0, none⟩ = some (.int .i64 T.ca) := LL.out.r16.cell 0
      by_cases hlt : k < many
      · have uk : decide ((k : Int) < (many : Int)) = true := decide_eq_true (by omega)
        have uk' : decide (k < many) = true := decide_eq_true hlt
        by_cases hT : T.ca = 0
        · have ut : (T.ca == 0) = true := by simpa using hT
          have HK : Hid (k < many ∧ T.ca = 0) := ⟨hlt, hT⟩
          clear hlt hT hk
          have cpc := cp_cell LL.out.r15
          go_upto_if 79 with fail
          clear uk uk' ut t0' cpc
          go_cut [18, 79] from 80 to 81 (fun a q wx => ∃ z : Int, a = .int .i64 z ∧ Hid (z = D.pc / 4 % 8 ∨ D.bad) ∧ wx = wr)
          case first =>
            by_cases hb : D.bad
            · have HB : Hid D.bad := hb
              clear hb
              cases hq : decide ((wrap64 (D.pc.tdiv 4)).tmod 8 < 0)
              · go_wp2_with fail
                go_meet
                exact ⟨_, rfl, Or.inr HB.out, rfl⟩
              · go_wp2_with fail
                go_meet
                exact ⟨_, rfl, Or.inr HB.out, rfl⟩
            · have hp : 0 ≤ D.pc ∧ D.pc ≤ 65535 := by unfold Cp.bad at hb; omega
              have hq : decide ((wrap64 (D.pc.tdiv 4)).tmod 8 < 0) = false := by rw [ix_eq hp.1 hp.2, decide_eq_false_iff_not]; omega
              have HI : Hid ((wrap64 (D.pc.tdiv 4)).tmod 8 = D.pc / 4 % 8) := ix_eq hp.1 hp.2
              clear hb hp
              rw [hq]
              go_wp2_with fail
              go_meet
              exact ⟨_, rfl, Or.inl HI.out, rfl⟩
          case rest =>
          obtain ⟨z, rfl, HZ, rfl⟩ := hcut
          obtain ⟨y0, y1, y2⟩ : wc.cell? ⟨g10, 0, none⟩ = some (.pointer (some ⟨O2.B.p, 0, none⟩)) ∧ wc.cell? ⟨g10, 1, none⟩ = some (.pointer (some ⟨O2.B.bt, 0, none⟩)) ∧ wc.cell? ⟨g10, 2, none⟩ = some (ptrV (O2.B.v.map Bk.b)) := ⟨LL.out.ro.r10.cell 0, LL.out.ro.r10.cell 1, LL.out.ro.r10.cell 2⟩
          obtain ⟨x3, x4⟩ : wc.cell? ⟨gx, 3, none⟩ = some (.int .i64 vm) ∧ wc.cell? ⟨gx, 4, none⟩ = some (.int .i64 se) := ⟨LL.out.ro.rx.cell 3, LL.out.ro.rx.cell 4⟩
          have r15 := LL.out.r15
          obtain ⟨R, hR⟩ : ∃ R, stepI 16 M' D vm se = R := ⟨_, rfl⟩
          have HS : Hid ((R.2.2.ca = 0 → Stand MM c vm se many (k + 1) R.1 R.2.1 R.2.2) ∧ (R.2.2.ca ≠ 0 → Stand MM c vm se many k R.1 R.2.1 R.2.2)) := by rw [← hR]; exact LL.out.st.step HK.out.1 HK.out.2
          have SB : ∀ ix, Hid (ix = D.pc / 4 % 8 ∨ D.bad) → Calls Tryz.prog 11 #[.agg #[.pointer (some ⟨O2.B.p, 0, none⟩), .pointer (some ⟨O2.B.bt, 0, none⟩), ptrV (O2.B.v.map Bk.b)], .agg (cpA D), .int .i64 vm, .int .i64 se, .int .i64 ix] wc fun e w' => e = .returned (.tuple #[.agg (cpA R.2.1), .agg (trL R.2.2)]) ∧ Fr O2.B.s wc w' ∧ IsMc w' O2.B 16 R.1 ∧ R.2.1.Ok := by
            intro ix hix
            have h := Step_any wc O2.B 16 M' D LL.out.ok vm se ix LL.out.ro.m2 (LL.out.st.few HF.out) (by have := HK.out.1; have := HMY.out; omega)
            have e : stepR 16 M' D vm se ix = R := by
              rcases hix.out with rfl | hb
              · exact hR
              · rw [step_bad_ix hb]; exact hR
            rw [e] at h
            exact h
          clear hR
          obtain ⟨Mx, cx, Tx⟩ := R
          replace HS : Hid ((Tx.ca = 0 → Stand MM c vm se many (k + 1) Mx cx Tx) ∧ (Tx.ca ≠ 0 → Stand MM c vm se many k Mx cx Tx)) := HS
          replace SB : ∀ ix, Hid (ix = D.pc / 4 % 8 ∨ D.bad) → Calls Tryz.prog 11 #[.agg #[.pointer (some ⟨O2.B.p, 0, none⟩), .pointer (some ⟨O2.B.bt, 0, none⟩), ptrV (O2.B.v.map Bk.b)], .agg (cpA D), .int .i64 vm, .int .i64 se, .int .i64 ix] wc fun e w' => e = .returned (.tuple #[.agg (cpA cx), .agg (trL Tx)]) ∧ Fr O2.B.s wc w' ∧ IsMc w' O2.B 16 Mx ∧ cx.Ok := SB
          go_wp2_with (refine wpList_load_part rfl 30 _ rfl g15 rfl (cpA D) _ (cp_at r15) Tryz.underlying30 rfl (size_cpA D) ?_)
          refine (SB _ HZ).mono ?_
          rintro e w9 ⟨rfl, g2, hMx, okx⟩
          clear SB y0 y1 y2 x3 x4 r15 HZ
          have ns : ∀ j, g10 ≤ j → ¬ O2.B.s j := fun j hj e => by have := LL.out.ro.s2 j (Or.inl e); omega
          have RO : Hid (Ro w w9 gx gc g8 g10 #[.slice a0 len cap, .slice a1 len1 cap1, .bool g, .int .i64 vm, .int .i64 se] c O1 O2 Ma Mx) := LL.out.ro.run2 g2 hMx
          have r12 := LL.out.r12.keep g2 (ns _ (by have := H12.out; omega))
          have r13 := LL.out.r13.keep g2 (ns _ (by have := H12.out; omega))
          have r15 := LL.out.r15.keep g2 (ns _ (by have := H12.out; have := H15.out; omega))
          have r16 := LL.out.r16.keep g2 (ns _ (by have := H12.out; have := H15.out; omega))
          have HTM : Hid (tm wc g16 = 1) := by show _ = _; rw [tm_row LL.out.r16, if_pos HK.out.2]
          have HOK : Hid cx.Ok := okx
          clear LL g2 hMx ns okx
          have q19 : Row ((w9.alloc (.cells (cpA zc) 30)).alloc (.cells #[.int .i64 0, .int .i64 0, .int .i64 0, .int .i64 0, .int .i64 0, .int .i64 0, .bool false, .int .i64 0] 52)) w9.heap.size (cpA zc) 30 := (row_alloc w9 (cpA zc) 30).alloc _
          have q20 : Row ((w9.alloc (.cells (cpA zc) 30)).alloc (.cells #[.int .i64 0, .int .i64 0, .int .i64 0, .int .i64 0, .int .i64 0, .int .i64 0, .bool false, .int .i64 0] 52)) (w9.heap.size + 1) #[.int .i64 0, .int .i64 0, .int .i64 0, .int .i64 0, .int .i64 0, .int .i64 0, .bool false, .int .i64 0] 52 := row_at (by simp)
          have q20' := q20.keep (fr_row _ w9.heap.size (cpA cx)) (fun e => by have e' : w9.heap.size + 1 = w9.heap.size := e; omega)
          have lp : (cpA zc).size = (cpA cx).size := by rw [cpA_size, cpA_size]
          have GG : Hid (Fr none' w9 ((((w9.alloc (.cells (cpA zc) 30)).alloc (.cells #[.int .i64 0, .int .i64 0, .int .i64 0, .int .i64 0, .int .i64 0, .int .i64 0, .bool false, .int .i64 0] 52)).setRow w9.heap.size (cpA cx)).setRow (w9.heap.size + 1) (trL Tx)) ∧ Row ((((w9.alloc (.cells (cpA zc) 30)).alloc (.cells #[.int .i64 0, .int .i64 0, .int .i64 0, .int .i64 0, .int .i64 0, .int .i64 0, .bool false, .int .i64 0] 52)).setRow w9.heap.size (cpA cx)).setRow (w9.heap.size + 1) (trL Tx)) w9.heap.size (cpA cx) 30 ∧ Row ((((w9.alloc (.cells (cpA zc) 30)).alloc (.cells #[.int .i64 0, .int .i64 0, .int .i64 0, .int .i64 0, .int .i64 0, .int .i64 0, .bool false, .int .i64 0] 52)).setRow w9.heap.size (cpA cx)).setRow (w9.heap.size + 1) (trL Tx)) (w9.heap.size + 1) (trL Tx) 52) :=
            ⟨((((Fr.refl none' w9).alloc _).alloc _).newer (fr_row _ w9.heap.size (cpA cx)) (Nat.le_refl _)).newer (fr_row _ (w9.heap.size + 1) (trL Tx)) (Nat.le_succ _), (q19.setRow).keep (fr_row _ (w9.heap.size + 1) _) (fun e => by have e' : w9.heap.size = w9.heap.size + 1 := e; omega), q20'.setRow⟩
          clear q20
          go_upto_region 17 with (first | refine wpList_store_row rfl 30 _ _ rfl w9.heap.size (cpA cx) rfl rfl 30 (cpA zc) q19 (size_cpA cx) lp (cpA_one cx) ?_ | refine wpList_store_row rfl 52 _ _ rfl (w9.heap.size + 1) (trL Tx) rfl rfl 52 #[.int .i64 0, .int .i64 0, .int .i64 0, .int .i64 0, .int .i64 0, .int .i64 0, .bool false, .int .i64 0] q20' size_trap rfl (trL_one Tx) ?_)
          clear q19 q20' lp
          obtain ⟨g3, r19, r20⟩ := GG.out
          clear GG
          obtain ⟨w10, hw10⟩ : ∃ q, q = (((w9.alloc (.cells (cpA zc) 30)).alloc (.cells #[.int .i64 0, .int .i64 0, .int .i64 0, .int .i64 0, .int .i64 0, .int .i64 0, .bool false, .int .i64 0] 52)).setRow w9.heap.size (cpA cx)).setRow (w9.heap.size + 1) (trL Tx) := ⟨_, rfl⟩
          rw [← hw10] at g3 r19 r20 ⊢
          clear hw10
          have L9 : Hid (g16 < w9.heap.size) := r16.lt
          obtain ⟨g19, hg19⟩ : ∃ q, q = w9.heap.size := ⟨_, rfl⟩
          obtain ⟨g20, hg20⟩ : ∃ q, q = w9.heap.size + 1 := ⟨_, rfl⟩
          rw [← hg20] at r20 ⊢
          rw [← hg19] at r19 L9 ⊢
          have H19 : Hid (g16 < g19 ∧ g20 = g19 + 1) := by have := L9.out; show _ ∧ _; omega
          clear hg19 hg20 L9
          replace RO : Hid (Ro w w10 gx gc g8 g10 #[.slice a0 len cap, .slice a1 len1 cap1, .bool g, .int .i64 vm, .int .i64 se] c O1 O2 Ma Mx) := RO.out.keep0 g3
          replace r12 := r12.keep g3 (fun h => h)
          replace r13 := r13.keep g3 (fun h => h)
          replace r15 := r15.keep g3 (fun h => h)
          replace r16 := r16.keep g3 (fun h => h)
          clear g3
          have d15 : ∀ j, j ≠ g15 → ¬ at' g15 j := fun j h e => h e
          have d16 : ∀ j, j ≠ g16 → ¬ at' g16 j := fun j h e => h e
          have r16' := r16.keep (fr_row _ g15 (cpA cx)) (d15 _ (by have := H15.out; omega))
          have r20' := r20.keep (fr_row _ g15 (cpA cx)) (d15 _ (by have := H19.out; have := H15.out; omega))
          have GG : Hid (Ro w ((w10.setRow g15 (cpA cx)).setRow g16 (trL Tx)) gx gc g8 g10 #[.slice a0 len cap, .slice a1 len1 cap1, .bool g, .int .i64 vm, .int .i64 se] c O1 O2 Ma Mx ∧ Row ((w10.setRow g15 (cpA cx)).setRow g16 (trL Tx)) g12 (cpA p1) 30 ∧ Row ((w10.setRow g15 (cpA cx)).setRow g16 (trL Tx)) g13 (trL s1) 52 ∧ Row ((w10.setRow g15 (cpA cx)).setRow g16 (trL Tx)) g15 (cpA cx) 30 ∧ Row ((w10.setRow g15 (cpA cx)).setRow g16 (trL Tx)) g16 (trL Tx) 52 ∧ Row ((w10.setRow g15 (cpA cx)).setRow g16 (trL Tx)) g20 (trL Tx) 52) :=
            ⟨(RO.out.at (fr_row _ g15 (cpA cx)) (by have := H12.out; have := H15.out; omega)).at (fr_row _ g16 (trL Tx)) (by have := H12.out; have := H15.out; omega),
             (r12.keep (fr_row _ g15 (cpA cx)) (d15 _ (by have := H12.out; have := H15.out; omega))).keep (fr_row _ g16 (trL Tx)) (d16 _ (by have := H12.out; have := H15.out; omega)),
             (r13.keep (fr_row _ g15 (cpA cx)) (d15 _ (by have := H15.out; omega))).keep (fr_row _ g16 (trL Tx)) (d16 _ (by have := H15.out; omega)),
             (r15.setRow).keep (fr_row _ g16 (trL Tx)) (d16 _ (by have := H15.out; omega)), r16'.setRow,
             r20'.keep (fr_row _ g16 (trL Tx)) (d16 _ (by have := H19.out; omega))⟩
          clear RO r12 r13
          have lp : (cpA D).size = (cpA cx).size := by rw [cpA_size, cpA_size]
          go_upto_region 19 with (first
            | refine wpList_load_part rfl 30 _ rfl g19 rfl (cpA cx) _ (cp_at r19) Tryz.underlying30 rfl (size_cpA cx) ?_
            | refine wpList_store_row rfl 30 _ _ rfl g15 (cpA cx) rfl rfl 30 (cpA D) r15 (size_cpA cx) lp (cpA_one cx) ?_
            | refine wpList_load_part rfl 52 _ rfl g20 rfl (trL Tx) _ (tr_at r20') Tryz.underlying52 rfl size_trap ?_
            | refine wpList_store_row rfl 52 _ _ rfl g16 (trL Tx) rfl rfl 52 (trL T) r16' size_trap rfl (trL_one Tx) ?_)
          clear r15 r16 r16' r19 r20 r20' lp
          obtain ⟨w11, hw11⟩ : ∃ q, q = (w10.setRow g15 (cpA cx)).setRow g16 (trL Tx) := ⟨_, rfl⟩
          rw [← hw11] at GG ⊢
          clear hw11
          have uc : w11.cell? ⟨g20, 0, none⟩ = some (.int .i64 Tx.ca) := GG.out.2.2.2.2.2.cell 0
          have hk9 : k ≤ 60 := by have := HK.out.1; have := HMY.out; omega
          by_cases ht : Tx.ca = 0
          · have ut : (Tx.ca == 0) = true := by simpa using ht
            have HT : Hid (Tx.ca = 0) := ht
            clear ht
            go_wp2_with fail
            go_roundw
            case rel =>
              obtain ⟨a1, a2, a3, a4, a5, a6⟩ := GG.out
              exact ⟨k + 1, Mx, cx, Tx, by have := HK.out.1; omega, by simp, ⟨a1, a2, a3, a4, a5, HS.out.1 HT.out, HOK.out⟩⟩
            case measure =>
              have h1 := HK.out.1
              have h2 : tm w11 g16 = 1 := by rw [tm_row GG.out.2.2.2.2.1, if_pos HT.out]
              have h3 := HTM.out
              simp [intOf, h2, h3]; omega
          · have ut : (Tx.ca == 0) = false := by simpa using ht
            have HT : Hid (Tx.ca ≠ 0) := ht
            clear ht
            go_wp2_with fail
            go_roundw
            case rel =>
              obtain ⟨a1, a2, a3, a4, a5, a6⟩ := GG.out
              exact ⟨k, Mx, cx, Tx, by have := HK.out.1; omega, rfl, ⟨a1, a2, a3, a4, a5, HS.out.2 HT.out, HOK.out⟩⟩
            case measure =>
              have h2 : tm w11 g16 = 0 := by rw [tm_row GG.out.2.2.2.2.1, if_neg HT.out]
              have h3 := HTM.out
              simp [intOf, h2, h3]
        · have ut : (T.ca == 0) = false := by simpa using hT
          have HE : Hid (k = many ∨ T.ca ≠ 0) := Or.inr hT
          clear hlt hT hk
          go_wp2_with fail
          go_meet
          exact ⟨k, M', D, T, rfl, LL, HE⟩
      · have hkm : k = many := by omega
        have uk : decide ((k : Int) < (many : Int)) = false := decide_eq_false (by omega)
        have uk' : decide (k < many) = false := decide_eq_false hlt
        have HE : Hid (k = many ∨ T.ca ≠ 0) := Or.inl hkm
        clear hlt hk hkm
        go_wp2_with fail
        go_meet
        exact ⟨k, M', D, T, rfl, LL, HE⟩
  case rest =>
  clear LL
  obtain ⟨k, M', D, T, rfl, LL, HE⟩ := hcut
  have HRR : Hid (k1 = k ∧ Ma = M' ∧ p1 = D ∧ s1 = T) := HRN.out.one (LL.out.st.ran HE.out)
  obtain ⟨e1, e2, e3, e4⟩ := HRR.out
  subst e1 e2 e3 e4
  clear HRR HE HRN
  go_wp2_with fail
  go_loopw [21, 22, 23, 24, 25, 26] (fun i a b d e f wr => ∃ j : Nat, j ≤ 16 ∧ i = .int .i64 (j : Int) ∧ Hid (Lp w wr gx gc g8 g10 g12 g13 g15 g16 #[.slice a0 len cap, .slice a1 len1 cap1, .bool g, .int .i64 vm, .int .i64 se] c O1 O2 Ma p1 s1 MM vm se many k1 Ma p1 s1)) (fun i _ _ _ _ _ _ => 16 - (intOf i).toNat)
  case atStart => exact ⟨0, by omega, rfl, LL⟩
  case round =>
    clear LL
    obtain ⟨j, hj, rfl, LL⟩ := hrel
    by_cases hlt : j < 16
    · have HFL : Hid ((frameOf Ma.bs j).length = 64) := length_frameOf Ma.bs j 16 LL.out.ro.m1.ram.len hlt
      have y0 : wr.cell? ⟨g8, 0, none⟩ = some (.pointer (some ⟨O1.B.p, 0, none⟩)) := LL.out.ro.r8.cell 0
      go_wp2_with fail
      refine (frame_ok _ _ _ _ _ _ LL.out.ro.m1.ram hlt).mono ?_
      rintro e v3 ⟨rfl, f3, r3⟩
      replace LL : Hid (Lp w v3 gx gc g8 g10 g12 g13 g15 g16 #[.slice a0 len cap, .slice a1 len1 cap1, .bool g, .int .i64 vm, .int .i64 se] c O1 O2 Ma p1 s1 MM vm se many k1 Ma p1 s1) := ⟨LL.out.ro.keep0 f3, LL.out.r12.keep f3 (fun h => h), LL.out.r13.keep f3 (fun h => h), LL.out.r15.keep f3 (fun h => h), LL.out.r16.keep f3 (fun h => h), LL.out.st, LL.out.ok⟩
      clear f3 y0
      have y0 : v3.cell? ⟨g10, 0, none⟩ = some (.pointer (some ⟨O2.B.p, 0, none⟩)) := LL.out.ro.r10.cell 0
      go_wp2_with fail
      refine (frame_ok _ _ _ _ _ _ LL.out.ro.m2.ram hlt).mono ?_
      rintro e v4 ⟨rfl, f4, r4⟩
      replace LL : Hid (Lp w v4 gx gc g8 g10 g12 g13 g15 g16 #[.slice a0 len cap, .slice a1 len1 cap1, .bool g, .int .i64 vm, .int .i64 se] c O1 O2 Ma p1 s1 MM vm se many k1 Ma p1 s1) := ⟨LL.out.ro.keep0 f4, LL.out.r12.keep f4 (fun h => h), LL.out.r13.keep f4 (fun h => h), LL.out.r15.keep f4 (fun h => h), LL.out.r16.keep f4 (fun h => h), LL.out.st, LL.out.ok⟩
      replace r3 := r3.keep f4 (fun h => h)
      clear f4 y0
      have b3 := (begins_row r3).src
      have b4 := (begins_row r4).src
      go_wp2_with fail
      refine (same_any _ _ _ _ _ _ _ _ _ HFL.out HFL.out (by omega) b3 b4).mono ?_
      rintro e v5 ⟨rfl, f5⟩
      replace LL : Hid (Lp w v5 gx gc g8 g10 g12 g13 g15 g16 #[.slice a0 len cap, .slice a1 len1 cap1, .bool g, .int .i64 vm, .int .i64 se] c O1 O2 Ma p1 s1 MM vm se many k1 Ma p1 s1) := ⟨LL.out.ro.keep0 f5, LL.out.r12.keep f5 (fun h => h), LL.out.r13.keep f5 (fun h => h), LL.out.r15.keep f5 (fun h => h), LL.out.r16.keep f5 (fun h => h), LL.out.st, LL.out.ok⟩
      clear f5 b3 b4 r3 r4
      have us : decide (frameOf Ma.bs j = frameOf Ma.bs j) = true := by simp
      rw [us]
      clear us
      go_wp2_with fail
      go_roundw
      case rel => exact ⟨j + 1, by omega, by simp, LL⟩
      case measure => simp [intOf]; omega
    · obtain rfl : j = 16 := by omega
      clear hlt hj
      have heq := fun w => eql_cpu p1 p1 w
      rw [ceq_self] at heq
      have het := fun w => eq_trap s1 w
      have r12 := LL.out.r12
      have r13 := LL.out.r13
      have r15 := LL.out.r15
      have r16 := LL.out.r16
      have hkk : ((k1 : Int) == (k1 : Int)) = true := by simp
      go_wp2_with (first
        | refine load_partG (by kernel_rfl) 30 _ rfl g12 rfl (cpA p1) _ (cp_at r12) Tryz.underlying30 rfl (size_cpA p1) ?_
        | refine load_partG (by kernel_rfl) 30 _ rfl g15 rfl (cpA p1) _ (cp_at r15) Tryz.underlying30 rfl (size_cpA p1) ?_
        | refine load_partG (by kernel_rfl) 52 _ rfl g13 rfl (trL s1) _ (tr_at r13) Tryz.underlying52 rfl size_trap ?_
        | refine load_partG (by kernel_rfl) 52 _ rfl g16 rfl (trL s1) _ (tr_at r16) Tryz.underlying52 rfl size_trap ?_)
      go_ret
      exact ⟨rfl, LL.out.ro.f⟩

end Go.Proofs.YtcpjlpgphfhonaaGreat

/- CpuRunsOut -/
namespace Go.Proofs.YtcpjlpgphfhonaaGreat
open Go.RowKit

set_option maxRecDepth 100000 in
set_option maxHeartbeats 8000000 in
theorem runs_out (w : World) (a0 a1 : Option Addr) (len cap len1 cap1 : Nat) (g : Bool) (vm se : Int) (P : Nat → Pu) (Q : Nat → Wo) (hl : len ≤ 9223372036854775807) (hl1 : len1 ≤ 9223372036854775807) (hP : Pus w a0 len P) (hQ : Wos w a1 len1 Q) (c : Cp) (many : Int) (hmy : Hid (decide (many < 0) = true ∨ decide (many < 0) = false ∧ decide (60 < many) = true)) :
    Calls Tryz.prog 7 #[.agg #[.slice a0 len cap, .slice a1 len1 cap1, .bool g, .int .i64 vm, .int .i64 se], .agg (cpA c), .int .i64 many] w fun e w' => e = .returned (.bool true) ∧ Fr none' w w' := by
  have hz : ∀ w, Sem.run Tryz.prog (zeroValue 30) w = .ok (.agg (cpA zc)) w := zero_cpu
  have f0 := ((Fr.refl none' w).alloc (.cells #[.slice a0 len cap, .slice a1 len1 cap1, .bool g, .int .i64 vm, .int .i64 se] 25)).alloc (.cells (cpA c) 30)
  have rx := (row_alloc w #[.slice a0 len cap, .slice a1 len1 cap1, .bool g, .int .i64 vm, .int .i64 se] 25).alloc (.cells (cpA c) 30)
  have rc := row_at (W := w.alloc (.cells #[.slice a0 len cap, .slice a1 len1 cap1, .bool g, .int .i64 vm, .int .i64 se] 25)) (n := w.heap.size + 1) (cs := cpA c) (t := 30) (by simp)
  have HL : Hid (len ≤ 9223372036854775807 ∧ len1 ≤ 9223372036854775807) := ⟨hl, hl1⟩
  clear hl hl1
  go_enter Tryz.func7, Tryz.ntmps7
  go_wp2_with fail
  refine (awake_any _).mono ?_
  rintro e w1 ⟨rfl, g1⟩
  replace f0 := f0.trans g1
  replace rx := rx.keep g1 (fun h => h)
  replace rc := rc.keep g1 (fun h => h)
  clear g1
  obtain ⟨gx, hgx⟩ : ∃ q, q = w.heap.size := ⟨_, rfl⟩
  obtain ⟨gc, hgc⟩ : ∃ q, q = w.heap.size + 1 := ⟨_, rfl⟩
  rw [← hgc] at rc ⊢
  rw [← hgx] at rx ⊢
  have HG : Hid (gx = w.heap.size ∧ gc = w.heap.size + 1) := ⟨hgx, hgc⟩
  clear hgx hgc
  have hP1 := hP.keep f0
  have hQ1 := hQ.keep f0
  clear hP hQ
  obtain ⟨x0, x1, x2, x3, x4⟩ : w1.cell? ⟨gx, 0, none⟩ = some (.slice a0 len cap) ∧ w1.cell? ⟨gx, 1, none⟩ = some (.slice a1 len1 cap1) ∧ w1.cell? ⟨gx, 2, none⟩ = some (.bool g) ∧ w1.cell? ⟨gx, 3, none⟩ = some (.int .i64 vm) ∧ w1.cell? ⟨gx, 4, none⟩ = some (.int .i64 se) := ⟨rx.cell 0, rx.cell 1, rx.cell 2, rx.cell 3, rx.cell 4⟩
  go_wp2_with fail
  refine (made_any w1 a0 a1 len cap len1 cap1 g vm se P Q HL.out.1 HL.out.2 hP1 hQ1).mono ?_
  rintro e w2 ⟨O1, rfl, g2, hB1⟩
  clear x0 x1 x2 x3 x4
  obtain ⟨MM, hMM⟩ : ∃ MM, MM = M0 (wB (pB P (min len 100)) Q (min len1 300)) g := ⟨_, rfl⟩
  have HF : Hid (MM.few 0) := by rw [hMM]; exact M0_few _ _
  rw [← hMM] at hB1
  have II1 : Hid (∀ k, (O1.B.s k ∨ k = O1.B.p) → w1.heap.size ≤ k ∧ k < w2.heap.size) := hB1.in
  have L1 : Hid (gc < w1.heap.size) := rc.lt
  have L2 : Hid (w1.heap.size ≤ w2.heap.size) := g2.size
  have z8 := row_alloc w2 #[.pointer none, .pointer none, .pointer none, .pointer none, .pointer none, .pointer none] 44
  have g3 : Fr none' w2 ((w2.alloc (.cells #[.pointer none, .pointer none, .pointer none, .pointer none, .pointer none, .pointer none] 44)).setRow w2.heap.size O1.a) := ((Fr.refl none' w2).alloc _).newer (fr_row _ w2.heap.size _) (Nat.le_refl _)
  have rr : Row ((w2.alloc (.cells #[.pointer none, .pointer none, .pointer none, .pointer none, .pointer none, .pointer none] 44)).setRow w2.heap.size O1.a) w2.heap.size O1.a 44 := z8.setRow
  have GG : Hid (Fr none' w2 ((w2.alloc (.cells #[.pointer none, .pointer none, .pointer none, .pointer none, .pointer none, .pointer none] 44)).setRow w2.heap.size O1.a) ∧ Row ((w2.alloc (.cells #[.pointer none, .pointer none, .pointer none, .pointer none, .pointer none, .pointer none] 44)).setRow w2.heap.size O1.a) w2.heap.size O1.a 44) := ⟨g3, rr⟩
  clear g3 rr
  go_upto_region 3 with (refine wpList_store_row rfl 44 _ _ rfl w2.heap.size O1.a rfl rfl 44 #[.pointer none, .pointer none, .pointer none, .pointer none, .pointer none, .pointer none] z8 size_both rfl (bo_one O1) ?_)
  obtain ⟨g3, r8⟩ := GG.out
  clear GG z8
  obtain ⟨w3, hw3⟩ : ∃ q, q = (w2.alloc (.cells #[.pointer none, .pointer none, .pointer none, .pointer none, .pointer none, .pointer none] 44)).setRow w2.heap.size O1.a := ⟨_, rfl⟩
  rw [← hw3] at g3 r8 ⊢
  clear hw3
  have m1 := hB1.m.keep0 g3
  have L3 : Hid (w2.heap.size < w3.heap.size) := r8.lt
  replace g2 := g2.trans g3
  replace hP1 := hP1.keep g2
  replace hQ1 := hQ1.keep g2
  replace rx := rx.keep g2 (fun h => h)
  replace rc := rc.keep g2 (fun h => h)
  replace f0 := f0.trans g2
  clear g2 g3 hB1
  obtain ⟨g8, hg8⟩ : ∃ q, q = w2.heap.size := ⟨_, rfl⟩
  rw [← hg8] at r8 ⊢
  have H8 : Hid (g8 = w2.heap.size) := hg8
  clear hg8
  obtain ⟨x0, x1, x2, x3, x4⟩ : w3.cell? ⟨gx, 0, none⟩ = some (.slice a0 len cap) ∧ w3.cell? ⟨gx, 1, none⟩ = some (.slice a1 len1 cap1) ∧ w3.cell? ⟨gx, 2, none⟩ = some (.bool g) ∧ w3.cell? ⟨gx, 3, none⟩ = some (.int .i64 vm) ∧ w3.cell? ⟨gx, 4, none⟩ = some (.int .i64 se) := ⟨rx.cell 0, rx.cell 1, rx.cell 2, rx.cell 3, rx.cell 4⟩
  go_wp2_with fail
  refine (made_any w3 a0 a1 len cap len1 cap1 g vm se P Q HL.out.1 HL.out.2 hP1 hQ1).mono ?_
  rintro e w4 ⟨O2, rfl, g2, hB2⟩
  clear x0 x1 x2 x3 x4 hP1 hQ1
  rw [← hMM] at hB2
  have II2 : Hid (∀ k, (O2.B.s k ∨ k = O2.B.p) → w3.heap.size ≤ k ∧ k < w4.heap.size) := hB2.in
  have z10 := row_alloc w4 #[.pointer none, .pointer none, .pointer none, .pointer none, .pointer none, .pointer none] 44
  have g3 : Fr none' w4 ((w4.alloc (.cells #[.pointer none, .pointer none, .pointer none, .pointer none, .pointer none, .pointer none] 44)).setRow w4.heap.size O2.a) := ((Fr.refl none' w4).alloc _).newer (fr_row _ w4.heap.size _) (Nat.le_refl _)
  have rr : Row ((w4.alloc (.cells #[.pointer none, .pointer none, .pointer none, .pointer none, .pointer none, .pointer none] 44)).setRow w4.heap.size O2.a) w4.heap.size O2.a 44 := z10.setRow
  have GG : Hid (Fr none' w4 ((w4.alloc (.cells #[.pointer none, .pointer none, .pointer none, .pointer none, .pointer none, .pointer none] 44)).setRow w4.heap.size O2.a) ∧ Row ((w4.alloc (.cells #[.pointer none, .pointer none, .pointer none, .pointer none, .pointer none, .pointer none] 44)).setRow w4.heap.size O2.a) w4.heap.size O2.a 44) := ⟨g3, rr⟩
  clear g3 rr
  rcases hmy.out with u0 | ⟨u0, u60⟩
  · go_wp2_with (refine wpList_store_row rfl 44 _ _ rfl w4.heap.size O2.a rfl rfl 44 #[.pointer none, .pointer none, .pointer none, .pointer none, .pointer none, .pointer none] z10 size_both rfl (bo_one O2) ?_)
    go_ret
    exact ⟨rfl, (f0.trans g2).trans GG.out.1⟩
  · go_wp2_with (refine wpList_store_row rfl 44 _ _ rfl w4.heap.size O2.a rfl rfl 44 #[.pointer none, .pointer none, .pointer none, .pointer none, .pointer none, .pointer none] z10 size_both rfl (bo_one O2) ?_)
    go_ret
    exact ⟨rfl, (f0.trans g2).trans GG.out.1⟩

end Go.Proofs.YtcpjlpgphfhonaaGreat

/- CpuOpen -/
namespace Go.Proofs.YtcpjlpgphfhonaaGreat
open Go.ChangeShapes Go.WideShapes Go.ChangeAt Go.RowKit Go.Deep

theorem cells_pu : Tryz.prog.cellsOf 96 = 6 := by kernel_rfl
theorem cells_wo : Tryz.prog.cellsOf 99 = 2 := by kernel_rfl
theorem cells_pus : Tryz.prog.cellsOf 22 = 1 := by kernel_rfl
theorem cells_wos : Tryz.prog.cellsOf 23 = 1 := by kernel_rfl
theorem cells_world : Tryz.prog.cellsOf 25 = 5 := by kernel_rfl
theorem cells_cpu : Tryz.prog.cellsOf 30 = 25 := by kernel_rfl
theorem cells_a16 : Tryz.prog.cellsOf 27 = 16 := by kernel_rfl
theorem cells_a8 : Tryz.prog.cellsOf 28 = 8 := by kernel_rfl

set_option maxRecDepth 100000 in
theorem pu_cells {H : Type} {enc : TypeId × Value → H} {W : World} {n : Nat} {cs : List Value} {y : DataW H × List MemPlace} (h : DataW.trod enc Tryz.prog W 0 (fun _ => true) true n 96 cs = some y) :
    ∃ q : Pu, cs = [.int .i64 q.t, .int .i64 q.i, .bool q.v, .bool q.l, .int .i64 q.r, .int .i64 q.f] := by
  obtain ⟨xs, n', _, _, hl, hxl, hf⟩ := DataW.trod_struct Tryz.underlying96 h
  rw [cells_pu] at hl
  have hxl' : xs.length = 3 := hxl
  have g0 : DataW.trod enc Tryz.prog W 0 (fun _ => true) true n' 3 ((cs.drop 0).take (Tryz.prog.cellsOf 3)) = xs[0]? := hf 0 _ rfl
  have g1 : DataW.trod enc Tryz.prog W 0 (fun _ => true) true n' 3 ((cs.drop 1).take (Tryz.prog.cellsOf 3)) = xs[1]? := hf 1 _ rfl
  have g2 : DataW.trod enc Tryz.prog W 0 (fun _ => true) true n' 76 ((cs.drop 2).take (Tryz.prog.cellsOf 76)) = xs[2]? := hf 2 _ rfl
  rw [cells_int, field_one 0 (by omega), List.getElem?_eq_getElem (by omega)] at g0
  rw [cells_int, field_one 1 (by omega), List.getElem?_eq_getElem (by omega)] at g1
  rw [cells_ent, List.getElem?_eq_getElem (by omega)] at g2
  obtain ⟨t, e0, _, _⟩ := DataW.trod_int Tryz.underlying3 g0
  obtain ⟨i, e1, _, _⟩ := DataW.trod_int Tryz.underlying3 g1
  obtain ⟨v, l, r, f, e2⟩ := ent_cells g2
  simp only [List.cons.injEq, and_true] at e0 e1
  refine ⟨⟨t, i, v, l, r, f⟩, ?_⟩
  match cs, hl with
  | [c0, c1, c2, c3, c4, c5], _ =>
    simp only [List.getElem_cons_zero, List.getElem_cons_succ] at e0 e1
    simp only [List.drop_succ_cons, List.drop_zero, List.take_succ_cons, List.take_zero] at e2
    rw [e0, e1, e2]

set_option maxRecDepth 100000 in
theorem wo_cells {H : Type} {enc : TypeId × Value → H} {W : World} {n : Nat} {cs : List Value} {y : DataW H × List MemPlace} (h : DataW.trod enc Tryz.prog W 0 (fun _ => true) true n 99 cs = some y) :
    ∃ q : Wo, cs = [.int .i64 q.a, .int .u32 (q.w : Int)] ∧ q.a ≤ 9223372036854775807 ∧ q.w < 4294967296 := by
  obtain ⟨xs, n', _, _, hl, hxl, hf⟩ := DataW.trod_struct Tryz.underlying99 h
  rw [cells_wo] at hl
  have hxl' : xs.length = 2 := hxl
  have g0 : DataW.trod enc Tryz.prog W 0 (fun _ => true) true n' 3 ((cs.drop 0).take (Tryz.prog.cellsOf 3)) = xs[0]? := hf 0 _ rfl
  have g1 : DataW.trod enc Tryz.prog W 0 (fun _ => true) true n' 26 ((cs.drop 1).take (Tryz.prog.cellsOf 26)) = xs[1]? := hf 1 _ rfl
  rw [cells_int, field_one 0 (by omega), List.getElem?_eq_getElem (by omega)] at g0
  rw [cells_u32, field_one 1 (by omega), List.getElem?_eq_getElem (by omega)] at g1
  obtain ⟨a, e0, _, wa⟩ := DataW.trod_int Tryz.underlying3 g0
  obtain ⟨x, e1, _, wx⟩ := DataW.trod_int Tryz.underlying26 g1
  have hb := bounds_u32 wx
  have ha := bounds_i64 wa
  obtain ⟨x, rfl⟩ := Int.eq_ofNat_of_zero_le hb.1
  simp only [List.cons.injEq, and_true] at e0 e1
  refine ⟨⟨a, x⟩, ?_, ha.2, show x < 4294967296 by omega⟩
  match cs, hl with
  | [c0, c1], _ =>
    simp only [List.getElem_cons_zero, List.getElem_cons_succ] at e0 e1
    rw [e0, e1]

theorem pus_of {W : World} {a0 : Option Addr} {len : Nat} (h : ∀ k, k < len → ∃ b o q, a0 = some ⟨b, o, none⟩ ∧ PuIs W b (o + k * 6) q) : ∃ P, Pus W a0 len P := by
  have h' : ∀ k, ∃ q, k < len → ∃ b o, a0 = some ⟨b, o, none⟩ ∧ PuIs W b (o + k * 6) q := fun k => by
    by_cases hk : k < len
    · obtain ⟨b, o, q, e, hq⟩ := h k hk
      exact ⟨q, fun _ => ⟨b, o, e, hq⟩⟩
    · exact ⟨⟨0, 0, false, false, 0, 0⟩, fun hh => absurd hh hk⟩
  exact ⟨fun k => Classical.choose (h' k), fun k hk => Classical.choose_spec (h' k) hk⟩
theorem wos_of {W : World} {a0 : Option Addr} {len : Nat} (h : ∀ k, k < len → ∃ b o q, a0 = some ⟨b, o, none⟩ ∧ WoIs W b (o + k * 2) q) : ∃ P, Wos W a0 len P := by
  have h' : ∀ k, ∃ q, k < len → ∃ b o, a0 = some ⟨b, o, none⟩ ∧ WoIs W b (o + k * 2) q := fun k => by
    by_cases hk : k < len
    · obtain ⟨b, o, q, e, hq⟩ := h k hk
      exact ⟨q, fun _ => ⟨b, o, e, hq⟩⟩
    · exact ⟨⟨0, 0⟩, fun hh => absurd hh hk⟩
  exact ⟨fun k => Classical.choose (h' k), fun k hk => Classical.choose_spec (h' k) hk⟩

set_option maxRecDepth 100000 in
theorem pus_any {H : Type} {enc : TypeId × Value → H} {W : World} {fuel : Nat} {v : Value} {y : DataW H × List MemPlace} (hf : DataW.trod enc Tryz.prog W 0 (fun _ => true) true fuel 22 [v] = some y) :
    ∃ a0 len cap, v = .slice a0 len cap ∧ len ≤ 9223372036854775807 ∧ ∃ P, Pus W a0 len P := by
  rcases open_slice Tryz.underlying22 hf with ⟨hcs, _⟩ | ⟨a, l, c, m, n, D, Pl, hcs, _, hl, hm, hmm, hx, hel⟩
  · simp only [List.cons.injEq, and_true] at hcs
    subst hcs
    exact ⟨_, _, _, rfl, by omega, fun _ => ⟨0, 0, false, false, 0, 0⟩, fun k hk => by omega⟩
  · simp only [List.cons.injEq, and_true] at hcs
    subst hcs
    have hmm' : m = c := by simpa using hmm
    subst hmm'
    refine ⟨_, _, _, rfl, by simp only [maxLen] at hm; omega, pus_of fun k hk => ?_⟩
    rw [cells_pu] at hel
    obtain ⟨b, o, spot⟩ := a
    have hspot : spot = none := by
      obtain ⟨cs', h1, _⟩ := hel 0 (by omega)
      obtain ⟨_, hlen, hc⟩ := World.cells?_some h1
      have := hc 0 (by omega)
      rw [List.getElem?_eq_getElem (by omega)] at this
      simpa [Addr.add] using World.cell?_spot this
    subst hspot
    obtain ⟨cs', h1, h2⟩ := hel k (by omega)
    obtain ⟨_, hlen, hc⟩ := World.cells?_some h1
    obtain ⟨q, e⟩ := pu_cells h2
    have hcell : ∀ j, j < 6 → W.cell? ⟨b, o + k * 6 + j, none⟩ = cs'[j]? := fun j hj => by have := hc j hj; rwa [add_lit', add_lit'] at this
    rw [e] at hcell
    exact ⟨b, o, q, rfl, hcell 0 (by omega), hcell 1 (by omega), hcell 2 (by omega), hcell 3 (by omega), hcell 4 (by omega), hcell 5 (by omega)⟩

set_option maxRecDepth 100000 in
theorem wos_any {H : Type} {enc : TypeId × Value → H} {W : World} {fuel : Nat} {v : Value} {y : DataW H × List MemPlace} (hf : DataW.trod enc Tryz.prog W 0 (fun _ => true) true fuel 23 [v] = some y) :
    ∃ a0 len cap, v = .slice a0 len cap ∧ len ≤ 9223372036854775807 ∧ ∃ P, Wos W a0 len P := by
  rcases open_slice Tryz.underlying23 hf with ⟨hcs, _⟩ | ⟨a, l, c, m, n, D, Pl, hcs, _, hl, hm, hmm, hx, hel⟩
  · simp only [List.cons.injEq, and_true] at hcs
    subst hcs
    exact ⟨_, _, _, rfl, by omega, fun _ => ⟨0, 0⟩, fun k hk => by omega⟩
  · simp only [List.cons.injEq, and_true] at hcs
    subst hcs
    have hmm' : m = c := by simpa using hmm
    subst hmm'
    refine ⟨_, _, _, rfl, by simp only [maxLen] at hm; omega, wos_of fun k hk => ?_⟩
    rw [cells_wo] at hel
    obtain ⟨b, o, spot⟩ := a
    have hspot : spot = none := by
      obtain ⟨cs', h1, _⟩ := hel 0 (by omega)
      obtain ⟨_, hlen, hc⟩ := World.cells?_some h1
      have := hc 0 (by omega)
      rw [List.getElem?_eq_getElem (by omega)] at this
      simpa [Addr.add] using World.cell?_spot this
    subst hspot
    obtain ⟨cs', h1, h2⟩ := hel k (by omega)
    obtain ⟨_, hlen, hc⟩ := World.cells?_some h1
    obtain ⟨q, e, hb1, hb2⟩ := wo_cells h2
    have hcell : ∀ j, j < 2 → W.cell? ⟨b, o + k * 2 + j, none⟩ = cs'[j]? := fun j hj => by have := hc j hj; rwa [add_lit', add_lit'] at this
    rw [e] at hcell
    exact ⟨b, o, q, rfl, hcell 0 (by omega), hcell 1 (by omega), hb1, hb2⟩

set_option maxRecDepth 100000 in
/-- A world that came in. -/
theorem world_open {H : Type} {enc : TypeId × Value → H} {W : World} {r : Reach} {b0 : Nat} {x : Value} {d : DataW H} {ps : List MemPlace} (hv : Value.okWide Tryz.prog W r b0 25 x) (h : DataW.Trod enc Tryz.prog W 0 (fun _ => true) true 25 x d ps) :
    ∃ (a0 a1 : Option Addr) (len cap len1 cap1 : Nat) (g : Bool) (vm se : Int) (P : Nat → Pu) (Q : Nat → Wo), x = .agg #[.slice a0 len cap, .slice a1 len1 cap1, .bool g, .int .i64 vm, .int .i64 se] ∧ len ≤ 9223372036854775807 ∧ len1 ≤ 9223372036854775807 ∧ Pus W a0 len P ∧ Wos W a1 len1 Q := by
  obtain ⟨csa, rfl, _⟩ := okWide_struct Tryz.underlying25 hv
  obtain ⟨fuel, hf0⟩ := h
  have hf1 : DataW.trod enc Tryz.prog W 0 (fun _ => true) true fuel 25 csa.toList = some (d, ps) := by simpa [Value.cells] using hf0
  generalize hcs : csa.toList = cs at hf1
  obtain ⟨xs, n', _, _, hl, hxl, hf⟩ := DataW.trod_struct Tryz.underlying25 hf1
  rw [cells_world] at hl
  have hxl' : xs.length = 5 := hxl
  have g0 : DataW.trod enc Tryz.prog W 0 (fun _ => true) true n' 22 ((cs.drop 0).take (Tryz.prog.cellsOf 22)) = xs[0]? := hf 0 _ rfl
  have g1 : DataW.trod enc Tryz.prog W 0 (fun _ => true) true n' 23 ((cs.drop 1).take (Tryz.prog.cellsOf 23)) = xs[1]? := hf 1 _ rfl
  have g2 : DataW.trod enc Tryz.prog W 0 (fun _ => true) true n' 4 ((cs.drop 2).take (Tryz.prog.cellsOf 4)) = xs[2]? := hf 2 _ rfl
  have g3 : DataW.trod enc Tryz.prog W 0 (fun _ => true) true n' 3 ((cs.drop 3).take (Tryz.prog.cellsOf 3)) = xs[3]? := hf 3 _ rfl
  have g4 : DataW.trod enc Tryz.prog W 0 (fun _ => true) true n' 3 ((cs.drop 4).take (Tryz.prog.cellsOf 3)) = xs[4]? := hf 4 _ rfl
  rw [cells_pus, field_one 0 (by omega), List.getElem?_eq_getElem (by omega)] at g0
  rw [cells_wos, field_one 1 (by omega), List.getElem?_eq_getElem (by omega)] at g1
  rw [cells_bool, field_one 2 (by omega), List.getElem?_eq_getElem (by omega)] at g2
  rw [cells_int, field_one 3 (by omega), List.getElem?_eq_getElem (by omega)] at g3
  rw [cells_int, field_one 4 (by omega), List.getElem?_eq_getElem (by omega)] at g4
  obtain ⟨a0, len, cap, e0, hl0, P, hP⟩ := pus_any g0
  obtain ⟨a1, len1, cap1, e1, hl1, Q, hQ⟩ := wos_any g1
  obtain ⟨g, e2, _⟩ := DataW.trod_bool Tryz.underlying4 g2
  obtain ⟨vm, e3, _, _⟩ := DataW.trod_int Tryz.underlying3 g3
  obtain ⟨se, e4, _, _⟩ := DataW.trod_int Tryz.underlying3 g4
  simp only [List.cons.injEq, and_true] at e2 e3 e4
  refine ⟨a0, a1, len, cap, len1, cap1, g, vm, se, P, Q, ?_, hl0, hl1, hP, hQ⟩
  have e' : cs = [.slice a0 len cap, .slice a1 len1 cap1, .bool g, .int .i64 vm, .int .i64 se] := by
    match cs, hl with
    | [c0, c1, c2, c3, c4], _ =>
      simp only [List.getElem_cons_zero, List.getElem_cons_succ] at e0 e1 e2 e3 e4
      rw [e0, e1, e2, e3, e4]
  rw [show csa = csa.toList.toArray by simp, hcs, e']

theorem words_of {cs : List Value} {n : Nat} (h : ∀ k, k < n → ∃ q : Int, cs[k]? = some (.int .u32 q) ∧ 0 ≤ q ∧ q ≤ 4294967295) : ∃ g : Nat → Nat, (∀ k, g k < 4294967296) ∧ ∀ k, k < n → cs[k]? = some (.int .u32 ((g k : Nat) : Int)) := by
  have h' : ∀ k, ∃ m : Nat, m < 4294967296 ∧ (k < n → cs[k]? = some (.int .u32 (m : Int))) := fun k => by
    by_cases hk : k < n
    · obtain ⟨q, e, h0, h1⟩ := h k hk
      exact ⟨q.toNat, by omega, fun _ => by rw [e, Int.toNat_of_nonneg h0]⟩
    · exact ⟨0, by decide, fun hh => absurd hh hk⟩
  exact ⟨fun k => Classical.choose (h' k), fun k => (Classical.choose_spec (h' k)).1, fun k hk => (Classical.choose_spec (h' k)).2 hk⟩

set_option maxRecDepth 100000 in
/-- A thread's state that came in. -/
theorem cpu_open {H : Type} {enc : TypeId × Value → H} {W : World} {r : Reach} {b0 : Nat} {x : Value} {d : DataW H} {ps : List MemPlace} (hv : Value.okWide Tryz.prog W r b0 30 x) (h : DataW.Trod enc Tryz.prog W 0 (fun _ => true) true 30 x d ps) :
    ∃ c : Cp, x = .agg (cpA c) ∧ c.Ok := by
  obtain ⟨csa, rfl, _⟩ := okWide_struct Tryz.underlying30 hv
  obtain ⟨fuel, hf0⟩ := h
  have hf1 : DataW.trod enc Tryz.prog W 0 (fun _ => true) true fuel 30 csa.toList = some (d, ps) := by simpa [Value.cells] using hf0
  generalize hcs : csa.toList = cs at hf1
  obtain ⟨xs, n', _, _, hl, hxl, hf⟩ := DataW.trod_struct Tryz.underlying30 hf1
  rw [cells_cpu] at hl
  have hxl' : xs.length = 3 := hxl
  have g0 : DataW.trod enc Tryz.prog W 0 (fun _ => true) true n' 27 ((cs.drop 0).take (Tryz.prog.cellsOf 27)) = xs[0]? := hf 0 _ rfl
  have g1 : DataW.trod enc Tryz.prog W 0 (fun _ => true) true n' 3 ((cs.drop 16).take (Tryz.prog.cellsOf 3)) = xs[1]? := hf 1 _ rfl
  have g2 : DataW.trod enc Tryz.prog W 0 (fun _ => true) true n' 28 ((cs.drop 17).take (Tryz.prog.cellsOf 28)) = xs[2]? := hf 2 _ rfl
  rw [cells_a16, List.getElem?_eq_getElem (by omega)] at g0
  rw [cells_int, field_one 16 (by omega), List.getElem?_eq_getElem (by omega)] at g1
  rw [cells_a8, List.getElem?_eq_getElem (by omega)] at g2
  obtain ⟨pc, e1, _, _⟩ := DataW.trod_int Tryz.underlying3 g1
  obtain ⟨ys, m, _, _, hl0, hy0, hel⟩ := DataW.trod_array Tryz.underlying27 g0
  obtain ⟨zs, m', _, _, hl2, hz0, hel2⟩ := DataW.trod_array Tryz.underlying28 g2
  obtain ⟨R, hR, eR⟩ := words_of (cs := cs) (n := 16) (fun k hk => by
    have e := hel k hk
    rw [cells_u32, Nat.mul_one, List.drop_zero, field_one k (by simp; omega)] at e
    rw [List.getElem?_eq_getElem (by omega)] at e
    obtain ⟨q, e1, _, wq⟩ := DataW.trod_int Tryz.underlying26 e
    simp only [List.cons.injEq, and_true, List.getElem_take] at e1
    have hb := bounds_u32 wq
    exact ⟨q, by rw [List.getElem?_eq_getElem (by omega), e1], by omega, by omega⟩)
  obtain ⟨S, hS, eS⟩ := words_of (cs := cs.drop 17) (n := 8) (fun k hk => by
    have e := hel2 k hk
    rw [cells_u32, Nat.mul_one, field_one k (by simp; omega), List.getElem?_eq_getElem (by omega)] at e
    obtain ⟨q, e1, _, wq⟩ := DataW.trod_int Tryz.underlying26 e
    simp only [List.cons.injEq, and_true, List.getElem_take] at e1
    have hb := bounds_u32 wq
    exact ⟨q, by rw [List.getElem?_eq_getElem (by simp; omega), e1], by omega, by omega⟩)
  simp only [List.cons.injEq, and_true] at e1
  refine ⟨⟨R, pc, S⟩, ?_, ⟨hR, hS⟩⟩
  have e' : cs = cpL ⟨R, pc, S⟩ := by
    refine cpL_ext hl eR ?_ ?_
    · rw [List.getElem?_eq_getElem (by omega), e1]
    · intro k hk
      have := eS k hk
      rw [List.getElem?_drop] at this
      exact this
  rw [show csa = csa.toList.toArray by simp, hcs, e']
  rfl

end Go.Proofs.YtcpjlpgphfhonaaGreat

/- CpuRunsProof -/
namespace Go.Proofs.YtcpjlpgphfhonaaGreat
open Go.ChangeShapes Go.WideShapes Go.ChangeAt Go.RowKit Go.Deep

theorem runs_any (w : World) (a0 a1 : Option Addr) (len cap len1 cap1 : Nat) (g : Bool) (vm se : Int) (P : Nat → Pu) (Q : Nat → Wo) (hl : len ≤ 9223372036854775807) (hl1 : len1 ≤ 9223372036854775807) (hP : Pus w a0 len P) (hQ : Wos w a1 len1 Q) (c : Cp) (hok : c.Ok) (many : Int) :
    Calls Tryz.prog 7 #[.agg #[.slice a0 len cap, .slice a1 len1 cap1, .bool g, .int .i64 vm, .int .i64 se], .agg (cpA c), .int .i64 many] w fun e w' => e = .returned (.bool true) ∧ Below w.heap.size w w' := by
  have h : Calls Tryz.prog 7 #[.agg #[.slice a0 len cap, .slice a1 len1 cap1, .bool g, .int .i64 vm, .int .i64 se], .agg (cpA c), .int .i64 many] w fun e w' => e = .returned (.bool true) ∧ Fr none' w w' := by
    by_cases h0 : many < 0
    · exact runs_out w a0 a1 len cap len1 cap1 g vm se P Q hl hl1 hP hQ c many (Or.inl (decide_eq_true h0))
    · by_cases h1 : 60 < many
      · exact runs_out w a0 a1 len cap len1 cap1 g vm se P Q hl hl1 hP hQ c many (Or.inr ⟨decide_eq_false h0, decide_eq_true h1⟩)
      · obtain ⟨m, rfl⟩ : ∃ m : Nat, many = (m : Int) := ⟨many.toNat, by omega⟩
        exact runs_walk w a0 a1 len cap len1 cap1 g vm se P Q hl hl1 hP hQ c hok m (by omega)
  exact h.mono fun _ _ ⟨he, hf⟩ => ⟨he, hf.below (Nat.le_refl _) (fun _ h => h.elim)⟩

set_option maxRecDepth 100000 in
theorem runs_lifted (os : Os) (started : os.Started) (H : Type) (enc : TypeId × Value → H) :
    ReturnsInHanded {} Tryz.checked os 7 .any (Rows.cpuRunsSpec.pre6 enc Tryz.prog Tryz.f7 Rows.cpuRunsRow.domain false) (Rows.cpuRunsSpec.post enc Tryz.prog Tryz.f7 false true false false) := by
  refine returnsInHanded_of_change (C := Tryz.checked) own_knob started (by kernel_rfl) Tryz.func7
    (ChangeSpec.witness6 (enc := enc) (C := Tryz.checked) false ⟨#[], #[.agg #[.slice none 0 0, .slice none 0 0, .bool false, .int .i64 0, .int .i64 0], .agg #[.int .u32 0, .int .u32 0, .int .u32 0, .int .u32 0, .int .u32 0, .int .u32 0, .int .u32 0, .int .u32 0, .int .u32 0, .int .u32 0, .int .u32 0, .int .u32 0, .int .u32 0, .int .u32 0, .int .u32 0, .int .u32 0, .int .i64 0, .int .u32 0, .int .u32 0, .int .u32 0, .int .u32 0, .int .u32 0, .int .u32 0, .int .u32 0, .int .u32 0], .int .i64 0], []⟩ 8 (by kernel_rfl) (by kernel_rfl) (by kernel_rfl) (by kernel_rfl)) ?_
  intro W base args ds gs before hval0 hW hcnd _
  have hval : ∀ (j : Nat) t v, Tryz.f7.params[j]? = some t → args[j]? = some v → Value.okWide Tryz.prog W .any base t v := hval0
  have hW' := hW
  obtain ⟨p, q, hA0, hV, rfl, hfz, hnd⟩ := hW
  have hA : DataW.TrodAll enc Tryz.prog W 0 (fun _ => true) true Tryz.f7.params.toList args.toList ds p := hA0
  rw [Tryz.params7] at hA hval
  obtain ⟨v0, vs0, d0, ds0, p0, q0, hargs, rfl, rfl, h0, r0⟩ := trodAll_cons hA
  obtain ⟨v1, vs1, d1, ds1, p1, q1, rfl, rfl, rfl, h1, r1⟩ := trodAll_cons r0
  obtain ⟨v2, vs2, d2, ds2, p2, q2, rfl, rfl, rfl, h2, r2⟩ := trodAll_cons r1
  obtain ⟨rfl, rfl, rfl⟩ := trodAll_nil r2
  obtain rfl : args = #[v0, v1, v2] := by cases args; simp_all
  obtain ⟨rfl, rfl⟩ := trodVars_none hV
  have k0 := h0
  have lt0 : ∀ x ∈ p0, x.block < W.heap.size := by obtain ⟨m, hm⟩ := k0; exact DataW.trod_lt m _ _ _ hm
  obtain ⟨a0, a1, len, cap, len1, cap1, gg, vm, se, P, Q, rfl, hl0, hl1, hP, hQ⟩ := world_open (hval 0 25 v0 rfl rfl) h0
  have k1 := h1
  have lt1 : ∀ x ∈ p1, x.block < W.heap.size := by obtain ⟨m, hm⟩ := k1; exact DataW.trod_lt m _ _ _ hm
  obtain ⟨c1, rfl, hok1⟩ := cpu_open (hval 1 30 v1 rfl rfl) h1
  obtain ⟨a2, rfl, rfl, rfl, w2⟩ := open_int Tryz.underlying3 (hval 2 3 v2 rfl rfl) h2
  clear hA0 hval0
  refine (runs_any W a0 a1 len cap len1 cap1 gg vm se P Q hl0 hl1 hP hQ c1 hok1 a2).mono fun e W' ⟨he, bel⟩ => ?_
  subst he
  exact ⟨_, rfl, _, _, _, [], _, [], hW', trodAll_mk1 (shut_bool Tryz.underlying4 _), (trodAll_cons_mk (Below.trod laid_out (by kernel_rfl) (of_decide_eq_true (by kernel_rfl)) k0 bel lt0) (trodAll_cons_mk (Below.trod laid_out (by kernel_rfl) (of_decide_eq_true (by kernel_rfl)) k1 bel lt1) (trodAll_cons_mk (shut_int Tryz.underlying3 w2) trodAll_mk0))), rfl, bel.frame _, fun h => by cases h⟩

theorem cpuRuns_holds : Rows.CpuRunsSaid :=
  OpenClaim.holds_of_wide 7 Tryz.f7 rfl rfl rfl rfl rfl rfl rfl ⟨rfl, rfl, rfl, rfl, rfl⟩ rfl rfl rfl rfl rfl (by kernel_rfl) Tryz.func7 (by kernel_rfl)
    (of_decide_eq_true (by kernel_rfl)) (by unfold Func.isWrapper; first | (rw [if_pos (by decide +kernel)]; kernel_rfl) | (rw [if_neg (by decide +kernel)]; exact ⟨rfl, rfl⟩))
    (fun os started H enc _ => runs_lifted os started H enc)
#print axioms cpuRuns_holds

end Go.Proofs.YtcpjlpgphfhonaaGreat

