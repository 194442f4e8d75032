/-
  Proved: the statement CpuReckonsSaid: for every operation, every sixteen registers and every four numbers the law CpuReckons of the Go text returns true, and each argument reads afterwards as it read before. No condition but the form's own.
-/
import Derived.Test.YtpdkefihhbnmeaaGreatCpuJb
import Derived.Test.YtpdkefihhbnmeaaGreatTwin
import Derived.Test.YtpdkefihhbnmeaaGreatRefMem
import Derived.Test.YtpdkefihhbnmeaaGreatRefMore
import Derived.Test.YtpdkefihhbnmeaaGreatCpuJc
import Derived.Deep.CutBlock
import Derived.ChangeKeysEq
import Derived.Deep.CutRange
import Derived.Test.YtpdkefihhbnmeaaGreatEntOpen
/- CpuMade -/
namespace Go.Proofs.YtpdkefihhbnmeaaGreat
open Go.RowKit

structure Pu where (t i : Int) (v l : Bool) (r f : Int)
structure Wo where (a : Int) (w : Nat)

structure PuIs (w : World) (b o : Nat) (q : Pu) : Prop where
  c0 : w.cell? ⟨b, o, none⟩ = some (.int .i64 q.t)
  c1 : w.cell? ⟨b, o + 1, none⟩ = some (.int .i64 q.i)
  c2 : w.cell? ⟨b, o + 2, none⟩ = some (.bool q.v)
  c3 : w.cell? ⟨b, o + 3, none⟩ = some (.bool q.l)
  c4 : w.cell? ⟨b, o + 4, none⟩ = some (.int .i64 q.r)
  c5 : w.cell? ⟨b, o + 5, none⟩ = some (.int .i64 q.f)
structure WoIs (w : World) (b o : Nat) (q : Wo) : Prop where
  c0 : w.cell? ⟨b, o, none⟩ = some (.int .i64 q.a)
  c1 : w.cell? ⟨b, o + 1, none⟩ = some (.int .u32 (q.w : Int))
  small : q.a ≤ 9223372036854775807
  word : q.w < 4294967296
theorem PuIs.keep {S : Nat → Prop} {w w' : World} {b o : Nat} {q : Pu} (h : PuIs w b o q) (k : Fr S w w') (hs : ¬ S b) : PuIs w' b o q :=
  ⟨cell_keep k h.c0 hs, cell_keep k h.c1 hs, cell_keep k h.c2 hs, cell_keep k h.c3 hs, cell_keep k h.c4 hs, cell_keep k h.c5 hs⟩
theorem WoIs.keep {S : Nat → Prop} {w w' : World} {b o : Nat} {q : Wo} (h : WoIs w b o q) (k : Fr S w w') (hs : ¬ S b) : WoIs w' b o q :=
  ⟨cell_keep k h.c0 hs, cell_keep k h.c1 hs, h.small, h.word⟩
def Pus (w : World) (a0 : Option Addr) (len : Nat) (P : Nat → Pu) : Prop := ∀ k, k < len → ∃ b o, a0 = some ⟨b, o, none⟩ ∧ PuIs w b (o + k * 6) (P k)
def Wos (w : World) (a0 : Option Addr) (len : Nat) (Q : Nat → Wo) : Prop := ∀ k, k < len → ∃ b o, a0 = some ⟨b, o, none⟩ ∧ WoIs w b (o + k * 2) (Q k)
theorem Pus.keep {w w' : World} {a0 : Option Addr} {len : Nat} {P : Nat → Pu} (h : Pus w a0 len P) (f : Fr none' w w') : Pus w' a0 len P := fun k hk => by
  obtain ⟨b, o, e, q⟩ := h k hk
  exact ⟨b, o, e, q.keep f (fun h => h)⟩
theorem Wos.keep {w w' : World} {a0 : Option Addr} {len : Nat} {P : Nat → Wo} (h : Wos w a0 len P) (f : Fr none' w w') : Wos w' a0 len P := fun k hk => by
  obtain ⟨b, o, e, q⟩ := h k hk
  exact ⟨b, o, e, q.keep f (fun h => h)⟩

/-- The bytes behind so many entries; then behind so many words. -/
def pB (P : Nat → Pu) : Nat → List UInt8
  | 0 => List.replicate (64 * 16) 0
  | n + 1 => putB (pB P n) (P n).t (P n).i 16 (P n).v (P n).l (P n).r (P n).f
def wB (bs : List UInt8) (Q : Nat → Wo) : Nat → List UInt8
  | 0 => bs
  | n + 1 => storeB (wB bs Q n) (Q n).a 4 16 (Q n).w

/-- The program's machine and the document's. -/
structure Bo where
  B : Bm
  pr : Nat
  br : Nat
  bu : Nat
  vr : Option Nat
def M0 (bs : List UInt8) (g : Bool) : Mc := ⟨bs, fun _ => zl, 0, 0, if g = true then some (zeroV 4) else none⟩
theorem M0_few (bs : List UInt8) (g : Bool) : (M0 bs g).few 0 := ⟨Int.le_refl 0, Int.le_refl 0, by show (0 : Int) + 0 ≤ 0; omega, good_zero, uniq_zero⟩
def IsRvO (w : World) : Option Nat → Option Vg → Prop
  | some b, some S => IsRv w b S
  | none, none => True
  | _, _ => False
structure IsBo (w : World) (n : Nat) (O : Bo) (M : Mc) : Prop where
  m : IsMc w O.B 16 M
  r : IsRef w O.pr O.br 16 M.bs
  t : IsTref w O.bu M.T M.fo M.mi
  v : IsRvO w O.vr M.V
  new : ∀ k, (O.B.s k ∨ k = O.B.p) → n ≤ k
  newr : n ≤ O.pr ∧ n ≤ O.br ∧ n ≤ O.bu ∧ ∀ b, O.vr = some b → n ≤ b
  ap : ∀ k, (O.B.s k ∨ k = O.B.p) → k ≠ O.pr ∧ k ≠ O.br ∧ k ≠ O.bu ∧ ∀ b, O.vr = some b → k ≠ b
  apr : O.pr ≠ O.bu ∧ O.br ≠ O.bu ∧ ∀ b, O.vr = some b → b ≠ O.pr ∧ b ≠ O.br ∧ b ≠ O.bu
def Bo.a (O : Bo) : Array Value := #[.pointer (some ⟨O.B.p, 0, none⟩), .pointer (some ⟨O.B.bt, 0, none⟩), ptrV (O.B.v.map Bk.b), .pointer (some ⟨O.pr, 0, none⟩), .pointer (some ⟨O.bu, 0, none⟩), ptrV O.vr]

theorem size_both : (Tryz.prog.info? 44).map (·.size) = some 6 := by kernel_rfl
theorem ret_both {fn : Func} {p q : Tmp} {tmps : Array Value} {g : Nat} {cs : Array Value} {w : World} (h : fn.results = #[.cell p 44, .tmp q]) (hp : tmps.getD p undef = .pointer (some ⟨g, 0, none⟩)) (hr : Row w g cs 44) (hs : cs.size = 6) :
    (results fn tmps).run Tryz.prog w = .ok (.tuple #[.agg cs, tmps.getD q undef]) w := by
  have hl : (loadVar 44 ⟨g, 0, none⟩).run Tryz.prog w = .ok (.agg cs) w := by
    have := run_loadVar_mid (P := Tryz.prog) w g 0 44 cs.toList _ (range_row' hr) Tryz.underlying44 rfl (by rw [Array.length_toList, hs]; exact size_both)
    simpa using this
  have hp' : tmps[p]?.getD undef = .pointer (some ⟨g, 0, none⟩) := by simpa using hp
  simp only [results, h]
  simp [Result.andThen, hp', asAddr, hl]

theorem cells6 {w : World} {g : Nat} {c0 c1 c2 c3 c4 c5 : Value} {t : TypeId} (h : Row w g #[c0, c1, c2, c3, c4, c5] t) : w.cell? ⟨g, 0, none⟩ = some c0 ∧ w.cell? ⟨g, 1, none⟩ = some c1 ∧ w.cell? ⟨g, 2, none⟩ = some c2 ∧ w.cell? ⟨g, 3, none⟩ = some c3 ∧ w.cell? ⟨g, 4, none⟩ = some c4 ∧ w.cell? ⟨g, 5, none⟩ = some c5 := ⟨h.cell 0, h.cell 1, h.cell 2, h.cell 3, h.cell 4, h.cell 5⟩
theorem frozen6 {w : World} {g : Nat} {cs : Array Value} {t : TypeId} (h : Row w g cs t) : w.frozen? ⟨g, 0, none⟩ = false ∧ w.frozen? ⟨g, 1, none⟩ = false ∧ w.frozen? ⟨g, 2, none⟩ = false ∧ w.frozen? ⟨g, 3, none⟩ = false ∧ w.frozen? ⟨g, 4, none⟩ = false ∧ w.frozen? ⟨g, 5, none⟩ = false := ⟨h.frozen 0, h.frozen 1, h.frozen 2, h.frozen 3, h.frozen 4, h.frozen 5⟩
theorem row_set6 {w : World} {g : Nat} {c0 c1 c2 c3 c4 c5 : Value} {t : TypeId} (h : Row w g #[c0, c1, c2, c3, c4, c5] t) (v0 v1 v2 v3 v4 v5 : Value) : Row ((((((w.setCell ⟨g, 0, none⟩ v0).setCell ⟨g, 1, none⟩ v1).setCell ⟨g, 2, none⟩ v2).setCell ⟨g, 3, none⟩ v3).setCell ⟨g, 4, none⟩ v4).setCell ⟨g, 5, none⟩ v5) g #[v0, v1, v2, v3, v4, v5] t := by
  simpa using ((((((h.setCell 0 v0).setCell 1 v1).setCell 2 v2).setCell 3 v3).setCell 4 v4).setCell 5 v5)
theorem fr_own6 (w : World) (g : Nat) (v0 v1 v2 v3 v4 v5 : Value) : Fr (at' g) w ((((((w.setCell ⟨g, 0, none⟩ v0).setCell ⟨g, 1, none⟩ v1).setCell ⟨g, 2, none⟩ v2).setCell ⟨g, 3, none⟩ v3).setCell ⟨g, 4, none⟩ v4).setCell ⟨g, 5, none⟩ v5) := fr_set w g 5 _ (fr_set w g 4 _ (fr_set w g 3 _ (fr_set w g 2 _ (fr_set w g 1 _ (fr_set w g 0 _ (Fr.refl _ w))))))

set_option maxHeartbeats 8000000 in
set_option maxRecDepth 100000 in
theorem made_any (w : World) (a0 a1 : Option Addr) (len cap len1 cap1 : Nat) (g : Bool) (vm se : Int) (P : Nat → Pu) (Q : Nat → Wo) (hl : len ≤ 9223372036854775807) (hl1 : len1 ≤ 9223372036854775807) (hP : Pus w a0 len P) (hQ : Wos w a1 len1 Q) :
    Calls Tryz.prog 10 #[.agg #[.slice a0 len cap, .slice a1 len1 cap1, .bool g, .int .i64 vm, .int .i64 se]] w fun e w' => ∃ O : Bo, e = .returned (.tuple #[.agg O.a, .bool true]) ∧ Fr none' w w' ∧ IsBo w' w.heap.size O (M0 (wB (pB P (min len 100)) Q (min len1 300)) g) := by
  have rx := (row_alloc w #[.slice a0 len cap, .slice a1 len1 cap1, .bool g, .int .i64 vm, .int .i64 se] 25).alloc (.cells #[.pointer none, .pointer none, .pointer none, .pointer none, .pointer none, .pointer none] 44)
  have rr := row_at (W := w.alloc (.cells #[.slice a0 len cap, .slice a1 len1 cap1, .bool g, .int .i64 vm, .int .i64 se] 25)) (n := w.heap.size + 1) (cs := #[.pointer none, .pointer none, .pointer none, .pointer none, .pointer none, .pointer none]) (t := 44) (by simp)
  have f0 := ((Fr.refl none' w).alloc (.cells #[.slice a0 len cap, .slice a1 len1 cap1, .bool g, .int .i64 vm, .int .i64 se] 25)).alloc (.cells #[.pointer none, .pointer none, .pointer none, .pointer none, .pointer none, .pointer none] 44)
  obtain ⟨v0, hv0⟩ : ∃ v0, v0 = (w.alloc (.cells #[.slice a0 len cap, .slice a1 len1 cap1, .bool g, .int .i64 vm, .int .i64 se] 25)).alloc (.cells #[.pointer none, .pointer none, .pointer none, .pointer none, .pointer none, .pointer none] 44) := ⟨_, rfl⟩
  have hsz : Hid (v0.heap.size = w.heap.size + 2) := by show _ = _; rw [hv0]; simp
  rw [← hv0] at rx rr f0
  have HP : Hid (Pus w a0 len P) := hP
  have HQ : Hid (Wos w a1 len1 Q) := hQ
  clear hP hQ
  go_enter Tryz.func10, Tryz.ntmps10
  go_wp2_with fail
  rw [← hv0]
  clear hv0
  obtain ⟨gx, hgx⟩ : ∃ q, q = w.heap.size := ⟨_, rfl⟩
  obtain ⟨gr, hgr⟩ : ∃ q, q = w.heap.size + 1 := ⟨_, rfl⟩
  rw [← hgr] at rr ⊢
  rw [← hgx] at rx ⊢
  have HG : Hid (gx = w.heap.size ∧ gr = w.heap.size + 1) := ⟨hgx, hgr⟩
  clear hgx hgr
  refine (new_any _ _ ⟨by decide, by decide⟩).mono ?_
  rintro e w1 ⟨rfl, f1, r1⟩
  go_wp2_with fail
  refine (rnew_any _ _ ⟨by decide, by decide⟩).mono ?_
  rintro e w2 ⟨rfl, f2, r2⟩
  have TW0 : Twin w2 v0.heap.size (v0.heap.size + 1) v0.heap.size (w1.heap.size + 1) w1.heap.size 16 (List.replicate (64 * 16) 0) := twin_new (Nat.le_refl _) r1 f2 r2
  have HW : Hid (v0.heap.size + 1 < w1.heap.size) := r1.head.lt
  replace f1 := f1.trans f2
  replace f0 := f0.trans f1
  replace rx := rx.keep f1 (fun h => h)
  replace rr := rr.keep f1 (fun h => h)
  clear f1 f2 r1 r2
  obtain ⟨pm, hpm⟩ : ∃ q, q = v0.heap.size + 1 := ⟨_, rfl⟩
  obtain ⟨bm, hbm⟩ : ∃ q, q = v0.heap.size := ⟨_, rfl⟩
  obtain ⟨pr, hpr⟩ : ∃ q, q = w1.heap.size + 1 := ⟨_, rfl⟩
  obtain ⟨br, hbr⟩ : ∃ q, q = w1.heap.size := ⟨_, rfl⟩
  rw [← hpm, ← hpr, ← hbr, ← hbm] at TW0
  rw [← hpm, ← hpr]
  have HA : Hid (w.heap.size + 2 ≤ bm ∧ bm < pm ∧ pm < br ∧ br < pr) := (show _ ∧ _ from ⟨by have := hsz.out; omega, by omega, by have := HW.out; omega, by omega⟩)
  clear hpm hbm hpr hbr HW hsz
  replace TW0 : Twin w2 w.heap.size pm bm pr br 16 (List.replicate (64 * 16) 0) := ⟨TW0.ram, TW0.ref, TW0.d1, TW0.d2, TW0.d3, by have := HA.out; omega⟩
  go_wp2_with fail
  refine (tnew_any _).mono ?_
  rintro e w3 ⟨bt, rfl, hbt, f3, hT⟩
  have HT : Hid (pr < bt) := Nat.lt_of_lt_of_le TW0.ref.head.lt hbt
  replace TW0 := TW0.keep0 f3
  replace f0 := f0.trans f3
  replace rx := rx.keep f3 (fun h => h)
  replace rr := rr.keep f3 (fun h => h)
  clear f3 hbt
  go_upto_block 0 with fail
  go_cut [9] from 36 to 86 (fun s wx => Fr none' w wx ∧ Twin wx w.heap.size pm bm pr br 16 (pB P (min len 100)) ∧ Row wx gx #[.slice a0 len cap, .slice a1 len1 cap1, .bool g, .int .i64 vm, .int .i64 se] 25 ∧ Row wx gr #[.pointer none, .pointer none, .pointer none, .pointer none, .pointer none, .pointer none] 44 ∧ IsTlb wx bt (fun _ => zl) 0 0)
  case first =>
    go_wp2_with fail
    go_loopw [9] (fun i wr => ∃ k : Nat, k ≤ len ∧ k ≤ 100 ∧ i = .int .i64 k ∧ Fr none' w wr ∧ Twin wr w.heap.size pm bm pr br 16 (pB P k) ∧ Row wr gx #[.slice a0 len cap, .slice a1 len1 cap1, .bool g, .int .i64 vm, .int .i64 se] 25 ∧ Row wr gr #[.pointer none, .pointer none, .pointer none, .pointer none, .pointer none, .pointer none] 44 ∧ IsTlb wr bt (fun _ => zl) 0 0) (fun i _ => 100 - (intOf i).toNat)
    case atStart => exact ⟨0, by omega, by omega, rfl, f0, TW0, rx, rr, hT⟩
    case round =>
      clear f0 TW0 rx rr hT
      obtain ⟨k, hk, hk2, rfl, fk, TW, rx, rr, hT⟩ := hrel
      have x0 : wr.cell? ⟨gx, 0, none⟩ = some (.slice a0 len cap) := rx.cell 0
      by_cases hlt : k < len
      · by_cases hlt2 : k < 100
        · obtain ⟨b, o, rfl, pk⟩ := HP.out k hlt
          have hbl := cell_lt pk.c0
          replace hbl : Hid (b < w.heap.size) := hbl
          replace pk := pk.keep fk (fun h => h)
          have i1 : 0 ≤ (k : Int) ∧ (k : Int) < (len : Int) := by omega
          have uk1 : decide ((k : Int) < (len : Int)) = true := decide_eq_true (by omega)
          have uk2 : decide ((k : Int) < 100) = true := decide_eq_true (by omega)
          have nb : b ≠ bm ∧ b ≠ br := by have := hbl.out; have := HA.out; omega
          have ng : gx ≠ bm ∧ gx ≠ br ∧ gr ≠ bm ∧ gr ≠ br := by have := HG.out; have := HA.out; omega
          have nt : bt ≠ bm ∧ bt ≠ br := by have := HT.out; have := HA.out; omega
          have HNN : Hid ((b ≠ bm ∧ b ≠ br) ∧ (gx ≠ bm ∧ gx ≠ br ∧ gr ≠ bm ∧ gr ≠ br) ∧ (bt ≠ bm ∧ bt ≠ br)) := ⟨nb, ng, nt⟩
          clear nb ng nt
          go_wp2_with fail
          clear x0
          have dm := TW.ram.drew
          go_region_held3 (fun w' => w'.cell? ⟨gx, 0, none⟩ = some (.slice (some ⟨b, o, none⟩) len cap) ∧ w'.cell? ⟨b, o + k * 6, none⟩ = some (.int .i64 (P k).t) ∧ w'.cell? ⟨b, o + k * 6 + 1, none⟩ = some (.int .i64 (P k).i) ∧ w'.cell? ⟨b, o + k * 6 + 2, none⟩ = some (.bool (P k).v) ∧ w'.cell? ⟨b, o + k * 6 + 3, none⟩ = some (.bool (P k).l) ∧ w'.cell? ⟨b, o + k * 6 + 4, none⟩ = some (.int .i64 (P k).r) ∧ w'.cell? ⟨b, o + k * 6 + 5, none⟩ = some (.int .i64 (P k).f)) (first | with_reducible exact ⟨rx.cell 0, pk.c0, pk.c1, pk.c2, pk.c3, pk.c4, pk.c5⟩ | exact ⟨rx.cell 0, pk.c0, pk.c1, pk.c2, pk.c3, pk.c4, pk.c5⟩) (first | (go_at_call 32; refine (put_any _ _ _ _ _ _ _ _ _ _ _ dm).mono ?_; rintro e w1' ⟨rfl, f1, q1⟩; replace f1 := rs_drew f1; replace pk := pk.keep f1 HNN.out.1.1; replace rx := rx.keep f1 HNN.out.2.1.1))
          clear dm
          have q0 := TW.ref.keep f1 TW.d2 (fun e => TW.d3 e.symm)
          go_wp2_with fail
          have dr := q0.drew
          go_region_held3 (fun w' => w'.cell? ⟨gx, 0, none⟩ = some (.slice (some ⟨b, o, none⟩) len cap) ∧ w'.cell? ⟨b, o + k * 6, none⟩ = some (.int .i64 (P k).t) ∧ w'.cell? ⟨b, o + k * 6 + 1, none⟩ = some (.int .i64 (P k).i) ∧ w'.cell? ⟨b, o + k * 6 + 2, none⟩ = some (.bool (P k).v) ∧ w'.cell? ⟨b, o + k * 6 + 3, none⟩ = some (.bool (P k).l) ∧ w'.cell? ⟨b, o + k * 6 + 4, none⟩ = some (.int .i64 (P k).r) ∧ w'.cell? ⟨b, o + k * 6 + 5, none⟩ = some (.int .i64 (P k).f)) (first | with_reducible exact ⟨rx.cell 0, pk.c0, pk.c1, pk.c2, pk.c3, pk.c4, pk.c5⟩ | exact ⟨rx.cell 0, pk.c0, pk.c1, pk.c2, pk.c3, pk.c4, pk.c5⟩) (first | (go_at_call 33; refine (rput_any _ _ _ _ _ _ _ _ _ _ _ dr).mono ?_; rintro e w2' ⟨rfl, f2, q2⟩; replace f2 := rs_drew f2; replace pk := pk.keep f2 HNN.out.1.2; replace rx := rx.keep f2 HNN.out.2.1.2.1))
          clear dr
          obtain ⟨TW2, ff⟩ := TW.step f1 q1 f2 q2
          replace fk := fk.own ff TW.lo.2.1 TW.lo.2.2.2
          replace rr := (rr.keep f1 HNN.out.2.1.2.2.1).keep f2 HNN.out.2.1.2.2.2
          replace hT := (hT.keep f1 HNN.out.2.2.1).keep f2 HNN.out.2.2.2
          clear f1 f2 q0 q1 q2 ff TW
          go_wp2_with fail
          go_roundw
          case rel => exact ⟨k + 1, by omega, by omega, by go_num, fk, TW2, rx, rr, hT⟩
          case measure => simp [intOf]; omega
        · obtain rfl : k = 100 := by omega
          have uk1 : decide (((100 : Nat) : Int) < (len : Int)) = true := decide_eq_true (by omega)
          have x0' : wr.cell? ⟨gx, 0, none⟩ = some (.slice a0 len cap) := x0
          go_wp2_with fail
          go_meet
          exact ⟨fk, by rw [Nat.min_eq_right (by omega)]; exact TW, rx, rr, hT⟩
      · obtain rfl : k = len := by omega
        go_wp2_with fail
        go_meet
        exact ⟨fk, by rw [Nat.min_eq_left (by omega)]; exact TW, rx, rr, hT⟩
  case rest =>
  obtain ⟨f0, TW0, rx, rr, hT⟩ := hcut
  obtain ⟨bs0, hbs0⟩ : ∃ q, q = pB P (min len 100) := ⟨_, rfl⟩
  rw [← hbs0] at TW0
  have HBS : Hid (bs0 = pB P (min len 100)) := hbs0
  clear hbs0
  go_upto_block 2 with fail
  go_cut [10] from 87 to 125 (fun s wx => Fr none' w wx ∧ Twin wx w.heap.size pm bm pr br 16 (wB bs0 Q (min len1 300)) ∧ Row wx gx #[.slice a0 len cap, .slice a1 len1 cap1, .bool g, .int .i64 vm, .int .i64 se] 25 ∧ Row wx gr #[.pointer none, .pointer none, .pointer none, .pointer none, .pointer none, .pointer none] 44 ∧ IsTlb wx bt (fun _ => zl) 0 0)
  case first =>
    go_wp2_with fail
    go_loopw [10] (fun i wr => ∃ k : Nat, k ≤ len1 ∧ k ≤ 300 ∧ i = .int .i64 k ∧ Fr none' w wr ∧ Twin wr w.heap.size pm bm pr br 16 (wB bs0 Q k) ∧ Row wr gx #[.slice a0 len cap, .slice a1 len1 cap1, .bool g, .int .i64 vm, .int .i64 se] 25 ∧ Row wr gr #[.pointer none, .pointer none, .pointer none, .pointer none, .pointer none, .pointer none] 44 ∧ IsTlb wr bt (fun _ => zl) 0 0) (fun i _ => 300 - (intOf i).toNat)
    case atStart => exact ⟨0, by omega, by omega, rfl, f0, TW0, rx, rr, hT⟩
    case round =>
      clear f0 TW0 rx rr hT
      obtain ⟨k, hk, hk2, rfl, fk, TW, rx, rr, hT⟩ := hrel
      have x0 : wr.cell? ⟨gx, 1, none⟩ = some (.slice a1 len1 cap1) := rx.cell 1
      by_cases hlt : k < len1
      · by_cases hlt2 : k < 300
        · obtain ⟨b, o, rfl, pk⟩ := HQ.out k hlt
          have hbl := cell_lt pk.c0
          replace hbl : Hid (b < w.heap.size) := hbl
          replace pk := pk.keep fk (fun h => h)
          have i1 : 0 ≤ (k : Int) ∧ (k : Int) < (len1 : Int) := by omega
          have uk1 : decide ((k : Int) < (len1 : Int)) = true := decide_eq_true (by omega)
          have uk2 : decide ((k : Int) < 300) = true := decide_eq_true (by omega)
          have nb : b ≠ bm ∧ b ≠ br := by have := hbl.out; have := HA.out; omega
          have ng : gx ≠ bm ∧ gx ≠ br ∧ gr ≠ bm ∧ gr ≠ br := by have := HG.out; have := HA.out; omega
          have nt : bt ≠ bm ∧ bt ≠ br := by have := HT.out; have := HA.out; omega
          have HNN : Hid ((b ≠ bm ∧ b ≠ br) ∧ (gx ≠ bm ∧ gx ≠ br ∧ gr ≠ bm ∧ gr ≠ br) ∧ (bt ≠ bm ∧ bt ≠ br)) := ⟨nb, ng, nt⟩
          clear nb ng nt
          go_wp2_with fail
          clear x0
          have dm := TW.ram.drew
          go_region_held3 (fun w' => w'.cell? ⟨gx, 1, none⟩ = some (.slice (some ⟨b, o, none⟩) len1 cap1) ∧ w'.cell? ⟨b, o + k * 2, none⟩ = some (.int .i64 (Q k).a) ∧ w'.cell? ⟨b, o + k * 2 + 1, none⟩ = some (.int .u32 ((Q k).w : Int))) (first | with_reducible exact ⟨rx.cell 1, pk.c0, pk.c1⟩ | exact ⟨rx.cell 1, pk.c0, pk.c1⟩) (first | (go_at_call 34; refine (store_any _ _ _ _ _ (Q k).a 4 (Q k).w dm pk.small pk.word).mono ?_; rintro e w1' ⟨rfl, f1, q1⟩; replace f1 := rs_drew f1; replace pk := pk.keep f1 HNN.out.1.1; replace rx := rx.keep f1 HNN.out.2.1.1))
          clear dm
          have q0 := TW.ref.keep f1 TW.d2 (fun e => TW.d3 e.symm)
          go_wp2_with fail
          have dr := q0.drew
          go_region_held3 (fun w' => w'.cell? ⟨gx, 1, none⟩ = some (.slice (some ⟨b, o, none⟩) len1 cap1) ∧ w'.cell? ⟨b, o + k * 2, none⟩ = some (.int .i64 (Q k).a) ∧ w'.cell? ⟨b, o + k * 2 + 1, none⟩ = some (.int .u32 ((Q k).w : Int))) (first | with_reducible exact ⟨rx.cell 1, pk.c0, pk.c1⟩ | exact ⟨rx.cell 1, pk.c0, pk.c1⟩) (first | (go_at_call 35; refine (rstore_any _ _ _ _ _ (Q k).a 4 (Q k).w dr pk.word).mono ?_; rintro e w2' ⟨rfl, f2, q2⟩; replace f2 := rs_drew f2; replace pk := pk.keep f2 HNN.out.1.2; replace rx := rx.keep f2 HNN.out.2.1.2.1))
          clear dr
          obtain ⟨TW2, ff⟩ := TW.step f1 q1 f2 q2
          replace fk := fk.own ff TW.lo.2.1 TW.lo.2.2.2
          replace rr := (rr.keep f1 HNN.out.2.1.2.2.1).keep f2 HNN.out.2.1.2.2.2
          replace hT := (hT.keep f1 HNN.out.2.2.1).keep f2 HNN.out.2.2.2
          clear f1 f2 q0 q1 q2 ff TW
          go_wp2_with fail
          go_roundw
          case rel => exact ⟨k + 1, by omega, by omega, by go_num, fk, TW2, rx, rr, hT⟩
          case measure => simp [intOf]; omega
        · obtain rfl : k = 300 := by omega
          have uk1 : decide (((300 : Nat) : Int) < (len1 : Int)) = true := decide_eq_true (by omega)
          have x0' : wr.cell? ⟨gx, 1, none⟩ = some (.slice a1 len1 cap1) := x0
          go_wp2_with fail
          go_meet
          exact ⟨fk, by rw [Nat.min_eq_right (by omega)]; exact TW, rx, rr, hT⟩
      · obtain rfl : k = len1 := by omega
        go_wp2_with fail
        go_meet
        exact ⟨fk, by rw [Nat.min_eq_left (by omega)]; exact TW, rx, rr, hT⟩
  case rest =>
  obtain ⟨f0, TW0, rx, rr, hT⟩ := hcut
  obtain ⟨bu, hbu⟩ : ∃ q, q = wc.heap.size := ⟨_, rfl⟩
  obtain ⟨gs, hgs⟩ : ∃ q, q = wc.heap.size + 1 := ⟨_, rfl⟩
  have HU : Hid (bt < bu ∧ gs = bu + 1 ∧ gr < bu) := (show _ ∧ _ from ⟨by rw [hbu]; exact hT.lt, by omega, by rw [hbu]; exact rr.lt⟩)
  have q1 := ((Fr.refl none' wc).alloc (.cells #[.int .i64 0, .int .i64 0, .int .i64 0, .int .i64 0, .int .i64 0, .int .i64 0, .int .i64 0, .int .i64 0, .int .i64 0, .int .i64 0, .int .i64 0, .int .i64 0, .int .i64 0, .int .i64 0, .int .i64 0, .int .i64 0, .int .i64 0, .int .i64 0, .int .i64 0, .int .i64 0, .int .i64 0, .int .i64 0, .int .i64 0, .int .i64 0, .int .i64 0, .int .i64 0, .int .i64 0, .int .i64 0, .int .i64 0, .int .i64 0, .int .i64 0, .int .i64 0, .int .i64 0, .int .i64 0, .int .i64 0, .int .i64 0, .int .i64 0, .int .i64 0, .int .i64 0, .int .i64 0, .int .i64 0, .int .i64 0] 102)).alloc (.cells #[.pointer (some ⟨pm, 0, none⟩), .pointer (some ⟨bt, 0, none⟩), .pointer none, .pointer (some ⟨pr, 0, none⟩), .pointer (some ⟨bu, 0, none⟩), .pointer none] 44)
  have hU : IsTref ((wc.alloc (.cells #[.int .i64 0, .int .i64 0, .int .i64 0, .int .i64 0, .int .i64 0, .int .i64 0, .int .i64 0, .int .i64 0, .int .i64 0, .int .i64 0, .int .i64 0, .int .i64 0, .int .i64 0, .int .i64 0, .int .i64 0, .int .i64 0, .int .i64 0, .int .i64 0, .int .i64 0, .int .i64 0, .int .i64 0, .int .i64 0, .int .i64 0, .int .i64 0, .int .i64 0, .int .i64 0, .int .i64 0, .int .i64 0, .int .i64 0, .int .i64 0, .int .i64 0, .int .i64 0, .int .i64 0, .int .i64 0, .int .i64 0, .int .i64 0, .int .i64 0, .int .i64 0, .int .i64 0, .int .i64 0, .int .i64 0, .int .i64 0] 102)).alloc (.cells #[.pointer (some ⟨pm, 0, none⟩), .pointer (some ⟨bt, 0, none⟩), .pointer none, .pointer (some ⟨pr, 0, none⟩), .pointer (some ⟨bu, 0, none⟩), .pointer none] 44)) bu (fun _ => zl) 0 0 := by rw [hbu]; exact (buf_zero _ _).alloc _
  have rs : Row ((wc.alloc (.cells #[.int .i64 0, .int .i64 0, .int .i64 0, .int .i64 0, .int .i64 0, .int .i64 0, .int .i64 0, .int .i64 0, .int .i64 0, .int .i64 0, .int .i64 0, .int .i64 0, .int .i64 0, .int .i64 0, .int .i64 0, .int .i64 0, .int .i64 0, .int .i64 0, .int .i64 0, .int .i64 0, .int .i64 0, .int .i64 0, .int .i64 0, .int .i64 0, .int .i64 0, .int .i64 0, .int .i64 0, .int .i64 0, .int .i64 0, .int .i64 0, .int .i64 0, .int .i64 0, .int .i64 0, .int .i64 0, .int .i64 0, .int .i64 0, .int .i64 0, .int .i64 0, .int .i64 0, .int .i64 0, .int .i64 0, .int .i64 0] 102)).alloc (.cells #[.pointer (some ⟨pm, 0, none⟩), .pointer (some ⟨bt, 0, none⟩), .pointer none, .pointer (some ⟨pr, 0, none⟩), .pointer (some ⟨bu, 0, none⟩), .pointer none] 44)) gs #[.pointer (some ⟨pm, 0, none⟩), .pointer (some ⟨bt, 0, none⟩), .pointer none, .pointer (some ⟨pr, 0, none⟩), .pointer (some ⟨bu, 0, none⟩), .pointer none] 44 := row_at (by rw [hgs]; simp)
  rw [hbu] at q1 hU rs
  go_upto_region 17 with fail
  obtain ⟨v5, hv5⟩ : ∃ v5, v5 = (wc.alloc (.cells #[.int .i64 0, .int .i64 0, .int .i64 0, .int .i64 0, .int .i64 0, .int .i64 0, .int .i64 0, .int .i64 0, .int .i64 0, .int .i64 0, .int .i64 0, .int .i64 0, .int .i64 0, .int .i64 0, .int .i64 0, .int .i64 0, .int .i64 0, .int .i64 0, .int .i64 0, .int .i64 0, .int .i64 0, .int .i64 0, .int .i64 0, .int .i64 0, .int .i64 0, .int .i64 0, .int .i64 0, .int .i64 0, .int .i64 0, .int .i64 0, .int .i64 0, .int .i64 0, .int .i64 0, .int .i64 0, .int .i64 0, .int .i64 0, .int .i64 0, .int .i64 0, .int .i64 0, .int .i64 0, .int .i64 0, .int .i64 0] 102)).alloc (.cells #[.pointer (some ⟨pm, 0, none⟩), .pointer (some ⟨bt, 0, none⟩), .pointer none, .pointer (some ⟨pr, 0, none⟩), .pointer (some ⟨wc.heap.size, 0, none⟩), .pointer none] 44) := ⟨_, rfl⟩
  rw [← hv5] at q1 hU rs ⊢
  rw [← hgs]
  rw [← hbu] at hU rs ⊢
  clear hv5 hbu hgs
  replace f0 := f0.trans q1
  replace TW0 := TW0.keep0 q1
  replace rx := rx.keep q1 (fun h => h)
  replace rr := rr.keep q1 (fun h => h)
  replace hT := hT.keep q1 (fun h => h)
  clear q1
  have c2 : v5.cell? ⟨gx, 2, none⟩ = some (.bool g) := rx.cell 2
  have HAll : Hid (w.heap.size + 2 ≤ bm ∧ bm < pm ∧ pm < br ∧ br < pr ∧ pr < bt ∧ bt < bu ∧ gs = bu + 1 ∧ gr = w.heap.size + 1 ∧ gx = w.heap.size) := (show _ ∧ _ from by have := HA.out; have := HT.out; have := HU.out; have := HG.out; omega)
  clear HA HT HU HG HP HQ
  cases g with
  | false =>
    obtain ⟨s0, s1, s2, s3, s4, s5⟩ := cells6 rs
    obtain ⟨r0, r1, r2, r3, r4, r5⟩ := cells6 rr
    obtain ⟨z0, z1, z2, z3, z4, z5⟩ := frozen6 rr
    go_wp2_with fail
    refine bodyPost_ret (ret_both rfl rfl (row_set6 rr _ _ _ _ _ _) rfl) rfl ?_
    have q := fr_own6 v5 gr (.pointer (some ⟨pm, 0, none⟩)) (.pointer (some ⟨bt, 0, none⟩)) (.pointer none) (.pointer (some ⟨pr, 0, none⟩)) (.pointer (some ⟨bu, 0, none⟩)) (.pointer none)
    have hh := HAll.out
    have TW3 := TW0.keep q (show pm ≠ gr by omega) (show bm ≠ gr by omega) (show pr ≠ gr by omega) (show br ≠ gr by omega)
    rw [HBS.out] at TW3
    refine ⟨⟨⟨pm, bm, bt, none⟩, pr, br, bu, none⟩, rfl, f0.newer q (by omega), ⟨⟨TW3.ram, hT.keep q (show bt ≠ gr by omega), trivial, by show pm ≠ bt; omega, by show bm ≠ bt; omega, by show pm ≠ bm; omega, fun e => e, fun e => e, fun e => e⟩, TW3.ref, hU.keep q (show bu ≠ gr by omega), trivial, fun k hk => ?_, ⟨by show _ ≤ pr; omega, by show _ ≤ br; omega, by show _ ≤ bu; omega, fun _ h => by cases h⟩, fun k hk => ?_, ⟨by show pr ≠ bu; omega, by show br ≠ bu; omega, fun _ h => by cases h⟩⟩⟩
    · have hk' : k = bm ∨ k = bt ∨ k = pm := by rcases hk with (h | h | h) | h; exact Or.inl h; exact Or.inr (Or.inl h); exact h.elim; exact Or.inr (Or.inr h)
      omega
    · have hk' : k = bm ∨ k = bt ∨ k = pm := by rcases hk with (h | h | h) | h; exact Or.inl h; exact Or.inr (Or.inl h); exact h.elim; exact Or.inr (Or.inr h)
      exact ⟨by show k ≠ pr; omega, by show k ≠ br; omega, by show k ≠ bu; omega, fun _ h => by cases h⟩
  | true =>
    go_wp2_with fail
    refine (v_new_ok _ 4 (by decide)).mono ?_
    rintro e v6 ⟨b, rfl, hbn, f6, hV⟩
    have HV1 : Hid (∀ k, b.s k → gs < k ∧ k < v6.heap.size) := fun k hk => ⟨Nat.lt_of_lt_of_le rs.lt (hbn k hk), hV.lt k hk⟩
    replace f0 := f0.trans f6
    replace TW0 := TW0.keep0 f6
    replace rr := rr.keep f6 (fun h => h)
    replace rs := rs.keep f6 (fun h => h)
    replace hT := hT.keep f6 (fun h => h)
    replace hU := hU.keep f6 (fun h => h)
    clear f6 hbn rx c2
    go_wp2_with fail
    refine (v_rnew_ok _ 4 (by decide)).mono ?_
    rintro e v7 ⟨vr, rfl, hvn, f7, hRV⟩
    have HV2 : Hid (∀ k, b.s k → gs < k ∧ k < vr) := fun k hk => ⟨(HV1.out k hk).1, Nat.lt_of_lt_of_le (HV1.out k hk).2 hvn⟩
    have HV3 : Hid (gs < vr) := Nat.lt_of_lt_of_le rs.lt hvn
    replace f0 := f0.trans f7
    replace TW0 := TW0.keep0 f7
    replace rr := rr.keep f7 (fun h => h)
    replace rs := rs.keep f7 (fun h => h)
    replace hT := hT.keep f7 (fun h => h)
    replace hU := hU.keep f7 (fun h => h)
    replace hV := hV.keep0 f7
    clear f7 hvn HV1
    obtain ⟨s0, s1, s2, s3, s4, s5⟩ := cells6 rs
    obtain ⟨y0, y1, y2, y3, y4, y5⟩ := frozen6 rs
    obtain ⟨r0, r1, r2, r3, r4, r5⟩ := cells6 rr
    obtain ⟨z0, z1, z2, z3, z4, z5⟩ := frozen6 rr
    have ngs : gs ≠ gr := by have := HAll.out; omega
    go_wp2_with fail
    have q1 : Fr (at' gs) v7 ((v7.setCell ⟨gs, 2, none⟩ (.pointer (some ⟨b.b, 0, none⟩))).setCell ⟨gs, 5, none⟩ (.pointer (some ⟨vr, 0, none⟩))) := fr_set v7 gs 5 _ (fr_set v7 gs 2 _ (Fr.refl _ v7))
    have rr1 := rr.keep q1 (show gr ≠ gs from Ne.symm ngs)
    obtain ⟨v8, hv8⟩ : ∃ v8, v8 = (v7.setCell ⟨gs, 2, none⟩ (.pointer (some ⟨b.b, 0, none⟩))).setCell ⟨gs, 5, none⟩ (.pointer (some ⟨vr, 0, none⟩)) := ⟨_, rfl⟩
    rw [← hv8] at q1 rr1 ⊢
    clear hv8
    refine bodyPost_ret (ret_both rfl rfl (row_set6 rr1 _ _ _ _ _ _) rfl) rfl ?_
    have q2 := fr_own6 v8 gr (.pointer (some ⟨pm, 0, none⟩)) (.pointer (some ⟨bt, 0, none⟩)) (.pointer (some ⟨b.b, 0, none⟩)) (.pointer (some ⟨pr, 0, none⟩)) (.pointer (some ⟨bu, 0, none⟩)) (.pointer (some ⟨vr, 0, none⟩))
    have hh := HAll.out
    have h3 := HV3.out
    have hs2 := HV2.out
    have TW3 := (TW0.keep q1 (show pm ≠ gs by omega) (show bm ≠ gs by omega) (show pr ≠ gs by omega) (show br ≠ gs by omega)).keep q2 (show pm ≠ gr by omega) (show bm ≠ gr by omega) (show pr ≠ gr by omega) (show br ≠ gr by omega)
    rw [HBS.out] at TW3
    refine ⟨⟨⟨pm, bm, bt, some b⟩, pr, br, bu, some vr⟩, rfl, (f0.newer q1 (by omega)).newer q2 (by omega), ⟨⟨TW3.ram, (hT.keep q1 (show bt ≠ gs by omega)).keep q2 (show bt ≠ gr by omega), ?_, by show pm ≠ bt; omega, by show bm ≠ bt; omega, by show pm ≠ bm; omega, fun e => by have := hs2 pm e; omega, fun e => by have := hs2 bm e; omega, fun e => by have := hs2 bt e; omega⟩, TW3.ref, (hU.keep q1 (show bu ≠ gs by omega)).keep q2 (show bu ≠ gr by omega), ?_, fun k hk => ?_, ⟨by show _ ≤ pr; omega, by show _ ≤ br; omega, by show _ ≤ bu; omega, fun b' h => by cases h; omega⟩, fun k hk => ?_, ⟨by show pr ≠ bu; omega, by show br ≠ bu; omega, fun b' h => by cases h; exact ⟨by show vr ≠ pr; omega, by show vr ≠ br; omega, by show vr ≠ bu; omega⟩⟩⟩⟩
    · exact (hV.keep q1 (fun k hk e => by have e' : k = gs := e; have := hs2 k hk; omega)).keep q2 (fun k hk e => by have e' : k = gr := e; have := hs2 k hk; omega)
    · exact (hRV.keep q1 (show vr ≠ gs by omega)).keep q2 (show vr ≠ gr by omega)
    · have hk' : (k = bm ∨ k = bt ∨ k = pm) ∨ b.s k := by rcases hk with (h | h | h) | h; exact Or.inl (Or.inl h); exact Or.inl (Or.inr (Or.inl h)); exact Or.inr h; exact Or.inl (Or.inr (Or.inr h))
      rcases hk' with hk' | hk'
      · omega
      · have := hs2 k hk'; omega
    · have hk' : (k = bm ∨ k = bt ∨ k = pm) ∨ b.s k := by rcases hk with (h | h | h) | h; exact Or.inl (Or.inl h); exact Or.inl (Or.inr (Or.inl h)); exact Or.inr h; exact Or.inl (Or.inr (Or.inr h))
      rcases hk' with hk' | hk'
      · exact ⟨by show k ≠ pr; omega, by show k ≠ br; omega, by show k ≠ bu; omega, fun b' h => by cases h; omega⟩
      · have := hs2 k hk'
        exact ⟨by show k ≠ pr; omega, by show k ≠ br; omega, by show k ≠ bu; omega, fun b' h => by cases h; omega⟩

end Go.Proofs.YtpdkefihhbnmeaaGreat

/- CpuExample -/
namespace Go.Proofs.YtpdkefihhbnmeaaGreat
open Go.RowKit

theorem size_world : (Tryz.prog.info? 25).map (·.size) = some 5 := by kernel_rfl
theorem ret_world {fn : Func} {p : Tmp} {tmps : Array Value} {g : Nat} {cs : Array Value} {w : World} (h : fn.results = #[.cell p 25]) (hp : tmps.getD p undef = .pointer (some ⟨g, 0, none⟩)) (hr : Row w g cs 25) (hs : cs.size = 5) :
    (results fn tmps).run Tryz.prog w = .ok (.agg cs) w :=
  results_cell_row h tmps w g _ cs (0, 0) _ hp hr Tryz.underlying25 rfl (by rw [hs]; exact size_world)
theorem size_entry : (Tryz.prog.info? 76).map (·.size) = some 4 := by kernel_rfl
theorem ret_entry {fn : Func} {p : Tmp} {tmps : Array Value} {g : Nat} {cs : Array Value} {w : World} (h : fn.results = #[.cell p 76]) (hp : tmps.getD p undef = .pointer (some ⟨g, 0, none⟩)) (hr : Row w g cs 76) (hs : cs.size = 4) :
    (results fn tmps).run Tryz.prog w = .ok (.agg cs) w :=
  results_cell_row h tmps w g _ cs (0, 0) _ hp hr Tryz.underlying76 rfl (by rw [hs]; exact size_entry)

theorem leaf_any (w : World) (f r : Int) : Calls Tryz.prog 68 #[.int .i64 f, .int .i64 r] w fun e w' => e = .returned (.agg #[.bool true, .bool true, .int .i64 r, .int .i64 f]) ∧ Fr none' w w' := by
  go_enter Tryz.func68, Tryz.ntmps68
  go_wp2_with fail
  refine bodyPost_ret (ret_entry rfl rfl (row_alloc _ _ _) rfl) rfl ?_
  exact ⟨rfl, (Fr.refl _ w).alloc _⟩

def exP : Nat → Pu
  | 0 => ⟨3, 0, true, false, 0, 4⟩
  | 1 => ⟨4, 0, true, true, 5, 1⟩
  | _ => ⟨4, 1, true, true, 3, 2⟩
def exQ (W : Nat) : Nat → Wo
  | 0 => ⟨64, W⟩
  | _ => ⟨128, 77⟩
/-- The example's memory. -/
def exB (W : Nat) : List UInt8 := wB (pB exP 3) (exQ W) 2

set_option maxHeartbeats 4000000 in
set_option maxRecDepth 100000 in
theorem example_any (w : World) (o a b c i : Int) (g : Bool) (W : Nat) (hW : i_encW o a b c i = W) (hWl : W < 4294967296) :
    Calls Tryz.prog 28 #[.agg #[.int .i64 o, .int .i64 a, .int .i64 b, .int .i64 c, .int .i64 i], .bool g] w fun e w' => ∃ a0 a1, e = .returned (.agg #[.slice a0 3 3, .slice a1 2 2, .bool g, .int .i64 1, .int .i64 3]) ∧ Fr none' w w' ∧ Pus w' a0 3 exP ∧ Wos w' a1 2 (exQ W) := by
  have hE := fun w1 => i_enc_any o a b c i w1
  rw [hW] at hE
  have f0 := ((Fr.refl none' w).alloc (.cells #[.int .i64 o, .int .i64 a, .int .i64 b, .int .i64 c, .int .i64 i] 83)).alloc (.cells #[.slice none 0 0, .slice none 0 0, .bool false, .int .i64 0, .int .i64 0] 25)
  have rr := row_at (W := w.alloc (.cells #[.int .i64 o, .int .i64 a, .int .i64 b, .int .i64 c, .int .i64 i] 83)) (n := w.heap.size + 1) (cs := #[.slice none 0 0, .slice none 0 0, .bool false, .int .i64 0, .int .i64 0]) (t := 25) (by simp)
  clear hW
  go_enter Tryz.func28, Tryz.ntmps28
  go_wp2_with fail
  refine (hE _).mono ?_
  rintro e v1 ⟨rfl, g1⟩
  replace f0 := f0.trans g1
  replace rr := rr.keep g1 (fun h => h)
  clear g1 hE
  go_wp2_with fail
  refine (leaf_any _ _ _).mono ?_
  rintro e v2 ⟨rfl, g2⟩
  replace f0 := f0.trans g2
  replace rr := rr.keep g2 (fun h => h)
  clear g2
  go_wp2_with fail
  refine (leaf_any _ _ _).mono ?_
  rintro e v3 ⟨rfl, g3⟩
  replace f0 := f0.trans g3
  replace rr := rr.keep g3 (fun h => h)
  clear g3
  have hlt := rr.lt
  have HG : Hid (w.heap.size + 1 < v3.heap.size) := hlt
  clear hlt
  have f4 := (f0.alloc (.cells #[.int .i64 3, .int .i64 0, .bool true, .bool false, .int .i64 0, .int .i64 4, .int .i64 4, .int .i64 0, .bool true, .bool true, .int .i64 5, .int .i64 1, .int .i64 4, .int .i64 1, .bool true, .bool true, .int .i64 3, .int .i64 2] 93)).alloc (.cells #[.int .i64 64, .int .u32 (W : Int), .int .i64 128, .int .u32 77] 97)
  have rr2 := (rr.alloc (.cells #[.int .i64 3, .int .i64 0, .bool true, .bool false, .int .i64 0, .int .i64 4, .int .i64 4, .int .i64 0, .bool true, .bool true, .int .i64 5, .int .i64 1, .int .i64 4, .int .i64 1, .bool true, .bool true, .int .i64 3, .int .i64 2] 93)).alloc (.cells #[.int .i64 64, .int .u32 (W : Int), .int .i64 128, .int .u32 77] 97)
  have rp := (row_alloc v3 #[.int .i64 3, .int .i64 0, .bool true, .bool false, .int .i64 0, .int .i64 4, .int .i64 4, .int .i64 0, .bool true, .bool true, .int .i64 5, .int .i64 1, .int .i64 4, .int .i64 1, .bool true, .bool true, .int .i64 3, .int .i64 2] 93).alloc (.cells #[.int .i64 64, .int .u32 (W : Int), .int .i64 128, .int .u32 77] 97)
  have rw' := row_at (W := v3.alloc (.cells #[.int .i64 3, .int .i64 0, .bool true, .bool false, .int .i64 0, .int .i64 4, .int .i64 4, .int .i64 0, .bool true, .bool true, .int .i64 5, .int .i64 1, .int .i64 4, .int .i64 1, .bool true, .bool true, .int .i64 3, .int .i64 2] 93)) (n := v3.heap.size + 1) (cs := #[.int .i64 64, .int .u32 (W : Int), .int .i64 128, .int .u32 77]) (t := 97) (by simp)
  obtain ⟨z0, z1, z2, z3, z4⟩ := frozen5 rr2
  obtain ⟨x0, x1, x2, x3, x4⟩ := cells5 rr2
  go_wp2_with fail
  obtain ⟨v4, hv4⟩ : ∃ v4, v4 = (v3.alloc (.cells #[.int .i64 3, .int .i64 0, .bool true, .bool false, .int .i64 0, .int .i64 4, .int .i64 4, .int .i64 0, .bool true, .bool true, .int .i64 5, .int .i64 1, .int .i64 4, .int .i64 1, .bool true, .bool true, .int .i64 3, .int .i64 2] 93)).alloc (.cells #[.int .i64 64, .int .u32 (W : Int), .int .i64 128, .int .u32 77] 97) := ⟨_, rfl⟩
  rw [← hv4] at rr2 rp rw' f4 ⊢
  clear hv4 x0 x1 x2 x3 x4 z0 z1 z2 z3 z4
  refine bodyPost_ret (ret_world rfl rfl (row_set5' rr2 _ _ _ _ _) rfl) rfl ?_
  have q := fr_own5 v4 (w.heap.size + 1) (.slice (some ⟨v3.heap.size, 0, none⟩) 3 3) (.slice (some ⟨v3.heap.size + 1, 0, none⟩) 2 2) (.bool g) (.int .i64 1) (.int .i64 3)
  have hp := rp.keep q (show v3.heap.size ≠ w.heap.size + 1 by have := HG.out; omega)
  have hw := rw'.keep q (show v3.heap.size + 1 ≠ w.heap.size + 1 by have := HG.out; omega)
  refine ⟨_, _, rfl, f4.newer q (by omega), fun k hk => ?_, fun k hk => ?_⟩
  · have hk3 : k = 0 ∨ k = 1 ∨ k = 2 := by omega
    rcases hk3 with rfl | rfl | rfl
    · exact ⟨_, _, rfl, hp.cell 0, hp.cell 1, hp.cell 2, hp.cell 3, hp.cell 4, hp.cell 5⟩
    · exact ⟨_, _, rfl, hp.cell 6, hp.cell 7, hp.cell 8, hp.cell 9, hp.cell 10, hp.cell 11⟩
    · exact ⟨_, _, rfl, hp.cell 12, hp.cell 13, hp.cell 14, hp.cell 15, hp.cell 16, hp.cell 17⟩
  · have hk2 : k = 0 ∨ k = 1 := by omega
    rcases hk2 with rfl | rfl
    · exact ⟨_, _, rfl, hw.cell 0, hw.cell 1, (by decide : (64 : Int) ≤ 9223372036854775807), hWl⟩
    · exact ⟨_, _, rfl, hw.cell 2, hw.cell 3, (by decide : (128 : Int) ≤ 9223372036854775807), (by decide : (77 : Nat) < 4294967296)⟩

/-- The example, made. -/
theorem exmade_any (w : World) (a0 a1 : Option Addr) (g : Bool) (W : Nat) (hP : Pus w a0 3 exP) (hQ : Wos w a1 2 (exQ W)) :
    Calls Tryz.prog 10 #[.agg #[.slice a0 3 3, .slice a1 2 2, .bool g, .int .i64 1, .int .i64 3]] w fun e w' => ∃ O : Bo, e = .returned (.tuple #[.agg O.a, .bool true]) ∧ Fr none' w w' ∧ IsBo w' w.heap.size O (M0 (exB W) g) :=
  made_any w a0 a1 3 3 2 2 g 1 3 exP (exQ W) (by decide) (by decide) hP hQ

end Go.Proofs.YtpdkefihhbnmeaaGreat

/- CpuAwake -/
namespace Go.Proofs.YtpdkefihhbnmeaaGreat
open Go.RowKit

theorem cpA_eq (c : Cp) : cpA c = #[.int .u32 ((c.r 0 : Nat) : Int), .int .u32 ((c.r 1 : Nat) : Int), .int .u32 ((c.r 2 : Nat) : Int), .int .u32 ((c.r 3 : Nat) : Int), .int .u32 ((c.r 4 : Nat) : Int), .int .u32 ((c.r 5 : Nat) : Int), .int .u32 ((c.r 6 : Nat) : Int), .int .u32 ((c.r 7 : Nat) : Int), .int .u32 ((c.r 8 : Nat) : Int), .int .u32 ((c.r 9 : Nat) : Int), .int .u32 ((c.r 10 : Nat) : Int), .int .u32 ((c.r 11 : Nat) : Int), .int .u32 ((c.r 12 : Nat) : Int), .int .u32 ((c.r 13 : Nat) : Int), .int .u32 ((c.r 14 : Nat) : Int), .int .u32 ((c.r 15 : Nat) : Int), .int .i64 c.pc, .int .u32 ((c.s 0 : Nat) : Int), .int .u32 ((c.s 1 : Nat) : Int), .int .u32 ((c.s 2 : Nat) : Int), .int .u32 ((c.s 3 : Nat) : Int), .int .u32 ((c.s 4 : Nat) : Int), .int .u32 ((c.s 5 : Nat) : Int), .int .u32 ((c.s 6 : Nat) : Int), .int .u32 ((c.s 7 : Nat) : Int)] := rfl
theorem zcA_eq : cpA zc = #[.int .u32 0, .int .u32 0, .int .u32 0, .int .u32 0, .int .u32 0, .int .u32 0, .int .u32 0, .int .u32 0, .int .u32 0, .int .u32 0, .int .u32 0, .int .u32 0, .int .u32 0, .int .u32 0, .int .u32 0, .int .u32 0, .int .i64 0, .int .u32 0, .int .u32 0, .int .u32 0, .int .u32 0, .int .u32 0, .int .u32 0, .int .u32 0, .int .u32 0] := rfl
theorem inA_eq : cpA (zc.setR 1 64) = #[.int .u32 0, .int .u32 64, .int .u32 0, .int .u32 0, .int .u32 0, .int .u32 0, .int .u32 0, .int .u32 0, .int .u32 0, .int .u32 0, .int .u32 0, .int .u32 0, .int .u32 0, .int .u32 0, .int .u32 0, .int .u32 0, .int .i64 0, .int .u32 0, .int .u32 0, .int .u32 0, .int .u32 0, .int .u32 0, .int .u32 0, .int .u32 0, .int .u32 0] := rfl
theorem cells25 {w : World} {g : Nat} {c0 c1 c2 c3 c4 c5 c6 c7 c8 c9 c10 c11 c12 c13 c14 c15 c16 c17 c18 c19 c20 c21 c22 c23 c24 : Value} {t : TypeId} (h : Row w g #[c0, c1, c2, c3, c4, c5, c6, c7, c8, c9, c10, c11, c12, c13, c14, c15, c16, c17, c18, c19, c20, c21, c22, c23, c24] t) : w.cell? ⟨g, 0, none⟩ = some c0 ∧ w.cell? ⟨g, 1, none⟩ = some c1 ∧ w.cell? ⟨g, 2, none⟩ = some c2 ∧ w.cell? ⟨g, 3, none⟩ = some c3 ∧ w.cell? ⟨g, 4, none⟩ = some c4 ∧ w.cell? ⟨g, 5, none⟩ = some c5 ∧ w.cell? ⟨g, 6, none⟩ = some c6 ∧ w.cell? ⟨g, 7, none⟩ = some c7 ∧ w.cell? ⟨g, 8, none⟩ = some c8 ∧ w.cell? ⟨g, 9, none⟩ = some c9 ∧ w.cell? ⟨g, 10, none⟩ = some c10 ∧ w.cell? ⟨g, 11, none⟩ = some c11 ∧ w.cell? ⟨g, 12, none⟩ = some c12 ∧ w.cell? ⟨g, 13, none⟩ = some c13 ∧ w.cell? ⟨g, 14, none⟩ = some c14 ∧ w.cell? ⟨g, 15, none⟩ = some c15 ∧ w.cell? ⟨g, 16, none⟩ = some c16 ∧ w.cell? ⟨g, 17, none⟩ = some c17 ∧ w.cell? ⟨g, 18, none⟩ = some c18 ∧ w.cell? ⟨g, 19, none⟩ = some c19 ∧ w.cell? ⟨g, 20, none⟩ = some c20 ∧ w.cell? ⟨g, 21, none⟩ = some c21 ∧ w.cell? ⟨g, 22, none⟩ = some c22 ∧ w.cell? ⟨g, 23, none⟩ = some c23 ∧ w.cell? ⟨g, 24, none⟩ = some c24 := ⟨h.cell 0, h.cell 1, h.cell 2, h.cell 3, h.cell 4, h.cell 5, h.cell 6, h.cell 7, h.cell 8, h.cell 9, h.cell 10, h.cell 11, h.cell 12, h.cell 13, h.cell 14, h.cell 15, h.cell 16, h.cell 17, h.cell 18, h.cell 19, h.cell 20, h.cell 21, h.cell 22, h.cell 23, h.cell 24⟩

/-- Step of the example's machine, told cell by cell. -/
theorem exStep (w : World) (B : Bm) (bs : List UInt8) (g : Bool) (c : Cp) (A : Array Value) (hA : cpA c = A) (hok : c.Ok) (hM : IsMc w B 16 (M0 bs g)) :
    Calls Tryz.prog 11 #[.agg #[.pointer (some ⟨B.p, 0, none⟩), .pointer (some ⟨B.bt, 0, none⟩), ptrV (B.v.map Bk.b)], .agg A, .int .i64 1, .int .i64 3, .int .i64 0] w fun e w' => ∃ (c' : Cp) (T : Tr), c' = (stepR 16 (M0 bs g) c 1 3 0).2.1 ∧ T = (stepR 16 (M0 bs g) c 1 3 0).2.2 ∧ e = .returned (.tuple #[.agg #[.int .u32 ((c'.r 0 : Nat) : Int), .int .u32 ((c'.r 1 : Nat) : Int), .int .u32 ((c'.r 2 : Nat) : Int), .int .u32 ((c'.r 3 : Nat) : Int), .int .u32 ((c'.r 4 : Nat) : Int), .int .u32 ((c'.r 5 : Nat) : Int), .int .u32 ((c'.r 6 : Nat) : Int), .int .u32 ((c'.r 7 : Nat) : Int), .int .u32 ((c'.r 8 : Nat) : Int), .int .u32 ((c'.r 9 : Nat) : Int), .int .u32 ((c'.r 10 : Nat) : Int), .int .u32 ((c'.r 11 : Nat) : Int), .int .u32 ((c'.r 12 : Nat) : Int), .int .u32 ((c'.r 13 : Nat) : Int), .int .u32 ((c'.r 14 : Nat) : Int), .int .u32 ((c'.r 15 : Nat) : Int), .int .i64 c'.pc, .int .u32 ((c'.s 0 : Nat) : Int), .int .u32 ((c'.s 1 : Nat) : Int), .int .u32 ((c'.s 2 : Nat) : Int), .int .u32 ((c'.s 3 : Nat) : Int), .int .u32 ((c'.s 4 : Nat) : Int), .int .u32 ((c'.s 5 : Nat) : Int), .int .u32 ((c'.s 6 : Nat) : Int), .int .u32 ((c'.s 7 : Nat) : Int)], .agg #[.int .i64 T.ca, .int .i64 T.nu, .int .i64 T.ad, .int .i64 T.f.k, .int .i64 T.f.s, .int .i64 T.f.l, .bool T.f.wk, .int .i64 T.f.p]]) ∧ Fr B.s w w' ∧ IsMc w' B 16 (stepR 16 (M0 bs g) c 1 3 0).1 := by
  subst hA
  exact (Step_any w B 16 (M0 bs g) c hok 1 3 0 hM (M0_few bs g) (by decide)).mono (fun e w' ⟨a, f, m, _⟩ => ⟨_, _, rfl, rfl, a, f, m⟩)

/-- A machine that others leave alone. -/
theorem isMc_far {w w' : World} {B C : Bm} {nf : Nat} {M : Mc} (h : IsMc w B nf M) (f : Fr C.s w w') (h1 : ∀ k, (B.s k ∨ k = B.p) → ¬ C.s k) : IsMc w' B nf M :=
  h.keep f (h1 _ (Or.inr rfl)) (h1 _ (Or.inl (Or.inl rfl))) (h1 _ (Or.inl (Or.inr (Or.inl rfl)))) (fun k hk => h1 k (Or.inl (Or.inr (Or.inr hk))))

theorem enc_a : i_encW 1 1 0 0 300 = ((17826092 : Nat) : Int) := by decide +kernel
theorem tr_a : (stepR 16 (M0 (exB 17826092) false) zc 1 3 0).2.2.ca = 0 ∧ (stepR 16 (M0 (exB 17826092) false) zc 1 3 0).2.2.nu = 0 ∧ (stepR 16 (M0 (exB 17826092) false) zc 1 3 0).2.2.ad = 0 ∧ (stepR 16 (M0 (exB 17826092) false) zc 1 3 0).2.2.f.k = 0 ∧ (stepR 16 (M0 (exB 17826092) false) zc 1 3 0).2.2.f.s = 0 ∧ (stepR 16 (M0 (exB 17826092) false) zc 1 3 0).2.2.f.l = 0 ∧ (stepR 16 (M0 (exB 17826092) false) zc 1 3 0).2.2.f.wk = false ∧ (stepR 16 (M0 (exB 17826092) false) zc 1 3 0).2.2.f.p = 0 := by decide +kernel
theorem re_a : (stepR 16 (M0 (exB 17826092) false) zc 1 3 0).2.1.r 1 = 300 ∧ (stepR 16 (M0 (exB 17826092) false) zc 1 3 0).2.1.pc = 4 := by decide +kernel
theorem enc_b : i_encW 7 2 1 0 0 = ((119603200 : Nat) : Int) := by decide +kernel
theorem tr_b : (stepR 16 (M0 (exB 119603200) false) (zc.setR 1 64) 1 3 0).2.2.ca = 0 ∧ (stepR 16 (M0 (exB 119603200) false) (zc.setR 1 64) 1 3 0).2.2.nu = 0 ∧ (stepR 16 (M0 (exB 119603200) false) (zc.setR 1 64) 1 3 0).2.2.ad = 0 ∧ (stepR 16 (M0 (exB 119603200) false) (zc.setR 1 64) 1 3 0).2.2.f.k = 0 ∧ (stepR 16 (M0 (exB 119603200) false) (zc.setR 1 64) 1 3 0).2.2.f.s = 0 ∧ (stepR 16 (M0 (exB 119603200) false) (zc.setR 1 64) 1 3 0).2.2.f.l = 0 ∧ (stepR 16 (M0 (exB 119603200) false) (zc.setR 1 64) 1 3 0).2.2.f.wk = false ∧ (stepR 16 (M0 (exB 119603200) false) (zc.setR 1 64) 1 3 0).2.2.f.p = 0 := by decide +kernel
theorem re_b : (stepR 16 (M0 (exB 119603200) false) (zc.setR 1 64) 1 3 0).2.1.r 2 = 77 := by decide +kernel
theorem enc_c : i_encW 17 0 0 0 3 = ((285212675 : Nat) : Int) := by decide +kernel
theorem tr_c : (stepR 16 (M0 (exB 285212675) false) zc 1 3 0).2.2.ca = 8 ∧ (stepR 16 (M0 (exB 285212675) false) zc 1 3 0).2.2.nu = 285212675 ∧ (stepR 16 (M0 (exB 285212675) false) zc 1 3 0).2.2.ad = 0 ∧ (stepR 16 (M0 (exB 285212675) false) zc 1 3 0).2.2.f.k = 0 ∧ (stepR 16 (M0 (exB 285212675) false) zc 1 3 0).2.2.f.s = 0 ∧ (stepR 16 (M0 (exB 285212675) false) zc 1 3 0).2.2.f.l = 0 ∧ (stepR 16 (M0 (exB 285212675) false) zc 1 3 0).2.2.f.wk = false ∧ (stepR 16 (M0 (exB 285212675) false) zc 1 3 0).2.2.f.p = 0 := by decide +kernel
theorem enc_d : i_encW 17 0 0 0 3 = ((285212675 : Nat) : Int) := by decide +kernel
theorem tr_d : (stepR 16 (M0 (exB 285212675) true) zc 1 3 0).2.2.ca = 5 ∧ (stepR 16 (M0 (exB 285212675) true) zc 1 3 0).2.2.nu = 3 ∧ (stepR 16 (M0 (exB 285212675) true) zc 1 3 0).2.2.ad = 0 ∧ (stepR 16 (M0 (exB 285212675) true) zc 1 3 0).2.2.f.k = 0 ∧ (stepR 16 (M0 (exB 285212675) true) zc 1 3 0).2.2.f.s = 0 ∧ (stepR 16 (M0 (exB 285212675) true) zc 1 3 0).2.2.f.l = 0 ∧ (stepR 16 (M0 (exB 285212675) true) zc 1 3 0).2.2.f.wk = false ∧ (stepR 16 (M0 (exB 285212675) true) zc 1 3 0).2.2.f.p = 0 := by decide +kernel

theorem exmade_f (w : World) (a0 a1 : Option Addr) (W : Nat) (hP : Pus w a0 3 exP) (hQ : Wos w a1 2 (exQ W)) :
    Calls Tryz.prog 10 #[.agg #[.slice a0 3 3, .slice a1 2 2, .bool false, .int .i64 1, .int .i64 3]] w fun e w' => ∃ O : Bo, O.B.v = none ∧ e = .returned (.tuple #[.agg #[.pointer (some ⟨O.B.p, 0, none⟩), .pointer (some ⟨O.B.bt, 0, none⟩), .pointer none, .pointer (some ⟨O.pr, 0, none⟩), .pointer (some ⟨O.bu, 0, none⟩), .pointer none], .bool true]) ∧ Fr none' w w' ∧ IsBo w' w.heap.size O (M0 (exB W) false) := by
  refine (exmade_any w a0 a1 false W hP hQ).mono ?_
  rintro e w' ⟨O, rfl, f, h⟩
  have h1 := h.m.vg
  have h2 := h.v
  obtain ⟨⟨p, bf, bt, v⟩, pr, br, bu, vr⟩ := O
  cases v with
  | none =>
    cases vr with
    | none => exact ⟨_, rfl, rfl, f, h⟩
    | some b => exact h2.elim
  | some b => exact h1.elim
theorem exmade_t (w : World) (a0 a1 : Option Addr) (W : Nat) (hP : Pus w a0 3 exP) (hQ : Wos w a1 2 (exQ W)) :
    Calls Tryz.prog 10 #[.agg #[.slice a0 3 3, .slice a1 2 2, .bool true, .int .i64 1, .int .i64 3]] w fun e w' => ∃ (O : Bo) (b : Bk) (vr : Nat), O.B.v = some b ∧ e = .returned (.tuple #[.agg #[.pointer (some ⟨O.B.p, 0, none⟩), .pointer (some ⟨O.B.bt, 0, none⟩), .pointer (some ⟨b.b, 0, none⟩), .pointer (some ⟨O.pr, 0, none⟩), .pointer (some ⟨O.bu, 0, none⟩), .pointer (some ⟨vr, 0, none⟩)], .bool true]) ∧ Fr none' w w' ∧ IsBo w' w.heap.size O (M0 (exB W) true) := by
  refine (exmade_any w a0 a1 true W hP hQ).mono ?_
  rintro e w' ⟨O, rfl, f, h⟩
  have h1 := h.m.vg
  have h2 := h.v
  obtain ⟨⟨p, bf, bt, v⟩, pr, br, bu, vr⟩ := O
  cases v with
  | none => exact h1.elim
  | some b =>
    cases vr with
    | none => exact h2.elim
    | some vr => exact ⟨_, b, vr, rfl, rfl, f, h⟩
theorem ne_new' {a b : Nat} (h : a < b) : ¬ at' a b := fun e => by have e' : b = a := e; omega
theorem IsBo.in {w : World} {n : Nat} {O : Bo} {M : Mc} (h : IsBo w n O M) : ∀ k, (O.B.s k ∨ k = O.B.p) → n ≤ k ∧ k < w.heap.size := fun k hk => ⟨h.new k hk, h.m.ltp k hk⟩

theorem exS_a (w : World) (B : Bm) (hv : B.v = none) (hM : IsMc w B 16 (M0 (exB 17826092) false)) :
    Calls Tryz.prog 11 #[.agg #[.pointer (some ⟨B.p, 0, none⟩), .pointer (some ⟨B.bt, 0, none⟩), .pointer none], .agg #[.int .u32 0, .int .u32 0, .int .u32 0, .int .u32 0, .int .u32 0, .int .u32 0, .int .u32 0, .int .u32 0, .int .u32 0, .int .u32 0, .int .u32 0, .int .u32 0, .int .u32 0, .int .u32 0, .int .u32 0, .int .u32 0, .int .i64 0, .int .u32 0, .int .u32 0, .int .u32 0, .int .u32 0, .int .u32 0, .int .u32 0, .int .u32 0, .int .u32 0], .int .i64 1, .int .i64 3, .int .i64 0] w fun e w' => ∃ A : Array Value, A.size = 25 ∧ A.all (·.oneCell') = true ∧ (A[1]? = some (.int .u32 300) ∧ A[16]? = some (.int .i64 4)) ∧ e = .returned (.tuple #[.agg A, .agg #[.int .i64 0, .int .i64 0, .int .i64 0, .int .i64 0, .int .i64 0, .int .i64 0, .bool false, .int .i64 0]]) ∧ Fr B.s w w' := by
  have h := exStep w B (exB 17826092) false zc _ zcA_eq zc_ok hM
  rw [hv] at h
  refine h.mono ?_
  rintro e w' ⟨c', T, hc, hT, rfl, f, _⟩
  obtain ⟨h1, h2, h3, h4, h5, h6, h7, h8⟩ := tr_a
  rw [← hT] at h1 h2 h3 h4 h5 h6 h7 h8
  obtain ⟨r1, r2⟩ := re_a
  rw [← hc] at r1 r2
  refine ⟨cpA c', cpA_size c', cpA_one c', ⟨by rw [cpA_get, cpL_r c' (by decide), r1]; rfl, by rw [cpA_get, cpL_pc, r2]⟩, ?_, f⟩
  rw [h1, h2, h3, h4, h5, h6, h7, h8]
  rfl

theorem exS_b (w : World) (B : Bm) (hv : B.v = none) (hM : IsMc w B 16 (M0 (exB 119603200) false)) :
    Calls Tryz.prog 11 #[.agg #[.pointer (some ⟨B.p, 0, none⟩), .pointer (some ⟨B.bt, 0, none⟩), .pointer none], .agg #[.int .u32 0, .int .u32 64, .int .u32 0, .int .u32 0, .int .u32 0, .int .u32 0, .int .u32 0, .int .u32 0, .int .u32 0, .int .u32 0, .int .u32 0, .int .u32 0, .int .u32 0, .int .u32 0, .int .u32 0, .int .u32 0, .int .i64 0, .int .u32 0, .int .u32 0, .int .u32 0, .int .u32 0, .int .u32 0, .int .u32 0, .int .u32 0, .int .u32 0], .int .i64 1, .int .i64 3, .int .i64 0] w fun e w' => ∃ A : Array Value, A.size = 25 ∧ A.all (·.oneCell') = true ∧ (A[2]? = some (.int .u32 77) ∧ True) ∧ e = .returned (.tuple #[.agg A, .agg #[.int .i64 0, .int .i64 0, .int .i64 0, .int .i64 0, .int .i64 0, .int .i64 0, .bool false, .int .i64 0]]) ∧ Fr B.s w w' := by
  have h := exStep w B (exB 119603200) false (zc.setR 1 64) _ inA_eq (zc_ok.setR 1 (by decide)) hM
  rw [hv] at h
  refine h.mono ?_
  rintro e w' ⟨c', T, hc, hT, rfl, f, _⟩
  obtain ⟨h1, h2, h3, h4, h5, h6, h7, h8⟩ := tr_b
  rw [← hT] at h1 h2 h3 h4 h5 h6 h7 h8
  have r1 := re_b
  rw [← hc] at r1
  refine ⟨cpA c', cpA_size c', cpA_one c', ⟨by rw [cpA_get, cpL_r c' (by decide), r1]; rfl, trivial⟩, ?_, f⟩
  rw [h1, h2, h3, h4, h5, h6, h7, h8]
  rfl

theorem exS_c (w : World) (B : Bm) (hv : B.v = none) (hM : IsMc w B 16 (M0 (exB 285212675) false)) :
    Calls Tryz.prog 11 #[.agg #[.pointer (some ⟨B.p, 0, none⟩), .pointer (some ⟨B.bt, 0, none⟩), .pointer none], .agg #[.int .u32 0, .int .u32 0, .int .u32 0, .int .u32 0, .int .u32 0, .int .u32 0, .int .u32 0, .int .u32 0, .int .u32 0, .int .u32 0, .int .u32 0, .int .u32 0, .int .u32 0, .int .u32 0, .int .u32 0, .int .u32 0, .int .i64 0, .int .u32 0, .int .u32 0, .int .u32 0, .int .u32 0, .int .u32 0, .int .u32 0, .int .u32 0, .int .u32 0], .int .i64 1, .int .i64 3, .int .i64 0] w fun e w' => ∃ A : Array Value, A.size = 25 ∧ A.all (·.oneCell') = true ∧ (True ∧ True) ∧ e = .returned (.tuple #[.agg A, .agg #[.int .i64 8, .int .i64 285212675, .int .i64 0, .int .i64 0, .int .i64 0, .int .i64 0, .bool false, .int .i64 0]]) ∧ Fr B.s w w' := by
  have h := exStep w B (exB 285212675) false zc _ zcA_eq zc_ok hM
  rw [hv] at h
  refine h.mono ?_
  rintro e w' ⟨c', T, hc, hT, rfl, f, _⟩
  obtain ⟨h1, h2, h3, h4, h5, h6, h7, h8⟩ := tr_c
  rw [← hT] at h1 h2 h3 h4 h5 h6 h7 h8
  clear hc
  skip
  refine ⟨cpA c', cpA_size c', cpA_one c', ⟨trivial, trivial⟩, ?_, f⟩
  rw [h1, h2, h3, h4, h5, h6, h7, h8]
  rfl

theorem exS_d (w : World) (B : Bm) (b : Bk) (hv : B.v = some b) (hM : IsMc w B 16 (M0 (exB 285212675) true)) :
    Calls Tryz.prog 11 #[.agg #[.pointer (some ⟨B.p, 0, none⟩), .pointer (some ⟨B.bt, 0, none⟩), .pointer (some ⟨b.b, 0, none⟩)], .agg #[.int .u32 0, .int .u32 0, .int .u32 0, .int .u32 0, .int .u32 0, .int .u32 0, .int .u32 0, .int .u32 0, .int .u32 0, .int .u32 0, .int .u32 0, .int .u32 0, .int .u32 0, .int .u32 0, .int .u32 0, .int .u32 0, .int .i64 0, .int .u32 0, .int .u32 0, .int .u32 0, .int .u32 0, .int .u32 0, .int .u32 0, .int .u32 0, .int .u32 0], .int .i64 1, .int .i64 3, .int .i64 0] w fun e w' => ∃ A : Array Value, A.size = 25 ∧ A.all (·.oneCell') = true ∧ (True ∧ True) ∧ e = .returned (.tuple #[.agg A, .agg #[.int .i64 5, .int .i64 3, .int .i64 0, .int .i64 0, .int .i64 0, .int .i64 0, .bool false, .int .i64 0]]) ∧ Fr B.s w w' := by
  have h := exStep w B (exB 285212675) true zc _ zcA_eq zc_ok hM
  rw [hv] at h
  refine h.mono ?_
  rintro e w' ⟨c', T, hc, hT, rfl, f, _⟩
  obtain ⟨h1, h2, h3, h4, h5, h6, h7, h8⟩ := tr_d
  rw [← hT] at h1 h2 h3 h4 h5 h6 h7 h8
  clear hc
  skip
  refine ⟨cpA c', cpA_size c', cpA_one c', ⟨trivial, trivial⟩, ?_, f⟩
  rw [h1, h2, h3, h4, h5, h6, h7, h8]
  rfl

set_option maxRecDepth 100000 in
set_option maxHeartbeats 16000000 in
theorem awake_any (w : World) : Calls Tryz.prog 9 #[] w fun e w' => e = .returned (.bool true) ∧ Fr none' w w' := by
  have hz : ∀ w, Sem.run Tryz.prog (zeroValue 30) w = .ok (.agg (cpA zc)) w := zero_cpu
  have f0 := Fr.refl none' w
  go_enter Tryz.func9, Tryz.ntmps9
  go_wp2_with fail
  refine (example_any _ 1 1 0 0 300 false 17826092 enc_a (by decide)).mono ?_
  rintro e xa ⟨sa, qa, rfl, g1, hP, hQ⟩
  replace f0 := f0.trans g1
  have KK : Hid (w.heap.size ≤ xa.heap.size) := f0.size
  have La : Hid (True) := trivial
  clear g1
  go_wp2_with fail
  refine (exmade_f _ _ _ 17826092 hP hQ).mono ?_
  rintro e ya ⟨Oa, va, rfl, g2, hB⟩
  replace f0 := f0.trans g2
  have Ia : Hid (∀ k, (Oa.B.s k ∨ k = Oa.B.p) → xa.heap.size ≤ k ∧ k < ya.heap.size) := hB.in
  have Ja : Hid (xa.heap.size ≤ ya.heap.size) := g2.size
  have Ha := hB.m.keep0 ((Fr.refl none' ya).alloc (.cells #[.pointer (some ⟨Oa.B.p, 0, none⟩), .pointer (some ⟨Oa.B.bt, 0, none⟩), .pointer none, .pointer (some ⟨Oa.pr, 0, none⟩), .pointer (some ⟨Oa.bu, 0, none⟩), .pointer none] 44))
  have ra := row_alloc ya #[.pointer (some ⟨Oa.B.p, 0, none⟩), .pointer (some ⟨Oa.B.bt, 0, none⟩), .pointer none, .pointer (some ⟨Oa.pr, 0, none⟩), .pointer (some ⟨Oa.bu, 0, none⟩), .pointer none] 44
  have g3 := (Fr.refl none' ya).alloc (.cells #[.pointer (some ⟨Oa.B.p, 0, none⟩), .pointer (some ⟨Oa.B.bt, 0, none⟩), .pointer none, .pointer (some ⟨Oa.pr, 0, none⟩), .pointer (some ⟨Oa.bu, 0, none⟩), .pointer none] 44)
  replace f0 := f0.trans g3
  clear g2 hB hP hQ g3
  go_upto_region 2 with fail
  obtain ⟨ua, hu⟩ : ∃ u, u = ya.alloc (.cells #[.pointer (some ⟨Oa.B.p, 0, none⟩), .pointer (some ⟨Oa.B.bt, 0, none⟩), .pointer none, .pointer (some ⟨Oa.pr, 0, none⟩), .pointer (some ⟨Oa.bu, 0, none⟩), .pointer none] 44) := ⟨_, rfl⟩
  rw [← hu] at Ha ra f0 ⊢
  clear hu
  obtain ⟨ga, hg⟩ : ∃ q, q = ya.heap.size := ⟨_, rfl⟩
  rw [← hg] at ra Ia Ja ⊢
  clear hg
  go_wp2_with fail
  refine (example_any _ 7 2 1 0 0 false 119603200 enc_b (by decide)).mono ?_
  rintro e xb ⟨sb, qb, rfl, g1, hP, hQ⟩
  replace Ha := Ha.keep0 g1
  replace ra := ra.keep g1 (fun h => h)
  replace f0 := f0.trans g1
  skip
  have Lb : Hid (ga < xb.heap.size) := ra.lt
  clear g1
  go_wp2_with fail
  refine (exmade_f _ _ _ 119603200 hP hQ).mono ?_
  rintro e yb ⟨Ob, vb, rfl, g2, hB⟩
  replace Ha := Ha.keep0 g2
  replace ra := ra.keep g2 (fun h => h)
  replace f0 := f0.trans g2
  have Ib : Hid (∀ k, (Ob.B.s k ∨ k = Ob.B.p) → xb.heap.size ≤ k ∧ k < yb.heap.size) := hB.in
  have Jb' : Hid (xb.heap.size ≤ yb.heap.size) := g2.size
  have Hb := hB.m.keep0 ((Fr.refl none' yb).alloc (.cells #[.pointer (some ⟨Ob.B.p, 0, none⟩), .pointer (some ⟨Ob.B.bt, 0, none⟩), .pointer none, .pointer (some ⟨Ob.pr, 0, none⟩), .pointer (some ⟨Ob.bu, 0, none⟩), .pointer none] 44))
  have rb := row_alloc yb #[.pointer (some ⟨Ob.B.p, 0, none⟩), .pointer (some ⟨Ob.B.bt, 0, none⟩), .pointer none, .pointer (some ⟨Ob.pr, 0, none⟩), .pointer (some ⟨Ob.bu, 0, none⟩), .pointer none] 44
  have g3 := (Fr.refl none' yb).alloc (.cells #[.pointer (some ⟨Ob.B.p, 0, none⟩), .pointer (some ⟨Ob.B.bt, 0, none⟩), .pointer none, .pointer (some ⟨Ob.pr, 0, none⟩), .pointer (some ⟨Ob.bu, 0, none⟩), .pointer none] 44)
  replace Ha := Ha.keep0 g3
  replace ra := ra.keep g3 (fun h => h)
  replace f0 := f0.trans g3
  clear g2 hB hP hQ g3
  go_upto_region 3 with fail
  obtain ⟨ub, hu⟩ : ∃ u, u = yb.alloc (.cells #[.pointer (some ⟨Ob.B.p, 0, none⟩), .pointer (some ⟨Ob.B.bt, 0, none⟩), .pointer none, .pointer (some ⟨Ob.pr, 0, none⟩), .pointer (some ⟨Ob.bu, 0, none⟩), .pointer none] 44) := ⟨_, rfl⟩
  rw [← hu] at Hb rb f0 Ha ra ⊢
  clear hu
  obtain ⟨gb, hg⟩ : ∃ q, q = yb.heap.size := ⟨_, rfl⟩
  rw [← hg] at rb Ib Jb' ⊢
  clear hg
  go_wp2_with fail
  refine (example_any _ 17 0 0 0 3 false 285212675 enc_c (by decide)).mono ?_
  rintro e xc ⟨sc, qc, rfl, g1, hP, hQ⟩
  replace Ha := Ha.keep0 g1
  replace ra := ra.keep g1 (fun h => h)
  replace Hb := Hb.keep0 g1
  replace rb := rb.keep g1 (fun h => h)
  replace f0 := f0.trans g1
  skip
  have Lc : Hid (gb < xc.heap.size) := rb.lt
  clear g1
  go_wp2_with fail
  refine (exmade_f _ _ _ 285212675 hP hQ).mono ?_
  rintro e yc ⟨Oc, vc, rfl, g2, hB⟩
  replace Ha := Ha.keep0 g2
  replace ra := ra.keep g2 (fun h => h)
  replace Hb := Hb.keep0 g2
  replace rb := rb.keep g2 (fun h => h)
  replace f0 := f0.trans g2
  have Ic : Hid (∀ k, (Oc.B.s k ∨ k = Oc.B.p) → xc.heap.size ≤ k ∧ k < yc.heap.size) := hB.in
  have Jc : Hid (xc.heap.size ≤ yc.heap.size) := g2.size
  have Hc := hB.m.keep0 ((Fr.refl none' yc).alloc (.cells #[.pointer (some ⟨Oc.B.p, 0, none⟩), .pointer (some ⟨Oc.B.bt, 0, none⟩), .pointer none, .pointer (some ⟨Oc.pr, 0, none⟩), .pointer (some ⟨Oc.bu, 0, none⟩), .pointer none] 44))
  have rc := row_alloc yc #[.pointer (some ⟨Oc.B.p, 0, none⟩), .pointer (some ⟨Oc.B.bt, 0, none⟩), .pointer none, .pointer (some ⟨Oc.pr, 0, none⟩), .pointer (some ⟨Oc.bu, 0, none⟩), .pointer none] 44
  have g3 := (Fr.refl none' yc).alloc (.cells #[.pointer (some ⟨Oc.B.p, 0, none⟩), .pointer (some ⟨Oc.B.bt, 0, none⟩), .pointer none, .pointer (some ⟨Oc.pr, 0, none⟩), .pointer (some ⟨Oc.bu, 0, none⟩), .pointer none] 44)
  replace Ha := Ha.keep0 g3
  replace ra := ra.keep g3 (fun h => h)
  replace Hb := Hb.keep0 g3
  replace rb := rb.keep g3 (fun h => h)
  replace f0 := f0.trans g3
  clear g2 hB hP hQ g3
  go_upto_region 4 with fail
  obtain ⟨uc, hu⟩ : ∃ u, u = yc.alloc (.cells #[.pointer (some ⟨Oc.B.p, 0, none⟩), .pointer (some ⟨Oc.B.bt, 0, none⟩), .pointer none, .pointer (some ⟨Oc.pr, 0, none⟩), .pointer (some ⟨Oc.bu, 0, none⟩), .pointer none] 44) := ⟨_, rfl⟩
  rw [← hu] at Hc rc f0 Ha ra Hb rb ⊢
  clear hu
  obtain ⟨gc, hg⟩ : ∃ q, q = yc.heap.size := ⟨_, rfl⟩
  rw [← hg] at rc Ic Jc ⊢
  clear hg
  go_wp2_with fail
  refine (example_any _ 17 0 0 0 3 true 285212675 enc_d (by decide)).mono ?_
  rintro e xd ⟨sd, qd, rfl, g1, hP, hQ⟩
  replace Ha := Ha.keep0 g1
  replace ra := ra.keep g1 (fun h => h)
  replace Hb := Hb.keep0 g1
  replace rb := rb.keep g1 (fun h => h)
  replace Hc := Hc.keep0 g1
  replace rc := rc.keep g1 (fun h => h)
  replace f0 := f0.trans g1
  skip
  have Ld : Hid (gc < xd.heap.size) := rc.lt
  clear g1
  go_wp2_with fail
  refine (exmade_t _ _ _ 285212675 hP hQ).mono ?_
  rintro e yd ⟨Od, bd, vrd, vd, rfl, g2, hB⟩
  replace Ha := Ha.keep0 g2
  replace ra := ra.keep g2 (fun h => h)
  replace Hb := Hb.keep0 g2
  replace rb := rb.keep g2 (fun h => h)
  replace Hc := Hc.keep0 g2
  replace rc := rc.keep g2 (fun h => h)
  replace f0 := f0.trans g2
  have Id : Hid (∀ k, (Od.B.s k ∨ k = Od.B.p) → xd.heap.size ≤ k ∧ k < yd.heap.size) := hB.in
  have Jd : Hid (xd.heap.size ≤ yd.heap.size) := g2.size
  have Hd := hB.m.keep0 ((Fr.refl none' yd).alloc (.cells #[.pointer (some ⟨Od.B.p, 0, none⟩), .pointer (some ⟨Od.B.bt, 0, none⟩), .pointer (some ⟨bd.b, 0, none⟩), .pointer (some ⟨Od.pr, 0, none⟩), .pointer (some ⟨Od.bu, 0, none⟩), .pointer (some ⟨vrd, 0, none⟩)] 44))
  have rd := row_alloc yd #[.pointer (some ⟨Od.B.p, 0, none⟩), .pointer (some ⟨Od.B.bt, 0, none⟩), .pointer (some ⟨bd.b, 0, none⟩), .pointer (some ⟨Od.pr, 0, none⟩), .pointer (some ⟨Od.bu, 0, none⟩), .pointer (some ⟨vrd, 0, none⟩)] 44
  have g3 := (Fr.refl none' yd).alloc (.cells #[.pointer (some ⟨Od.B.p, 0, none⟩), .pointer (some ⟨Od.B.bt, 0, none⟩), .pointer (some ⟨bd.b, 0, none⟩), .pointer (some ⟨Od.pr, 0, none⟩), .pointer (some ⟨Od.bu, 0, none⟩), .pointer (some ⟨vrd, 0, none⟩)] 44)
  replace Ha := Ha.keep0 g3
  replace ra := ra.keep g3 (fun h => h)
  replace Hb := Hb.keep0 g3
  replace rb := rb.keep g3 (fun h => h)
  replace Hc := Hc.keep0 g3
  replace rc := rc.keep g3 (fun h => h)
  replace f0 := f0.trans g3
  clear g2 hB hP hQ g3
  go_upto_region 5 with fail
  obtain ⟨ud, hu⟩ : ∃ u, u = yd.alloc (.cells #[.pointer (some ⟨Od.B.p, 0, none⟩), .pointer (some ⟨Od.B.bt, 0, none⟩), .pointer (some ⟨bd.b, 0, none⟩), .pointer (some ⟨Od.pr, 0, none⟩), .pointer (some ⟨Od.bu, 0, none⟩), .pointer (some ⟨vrd, 0, none⟩)] 44) := ⟨_, rfl⟩
  rw [← hu] at Hd rd f0 Ha ra Hb rb Hc rc ⊢
  clear hu
  obtain ⟨gd, hg⟩ : ∃ q, q = yd.heap.size := ⟨_, rfl⟩
  rw [← hg] at rd Id Jd ⊢
  clear hg
  have LL : Hid (w.heap.size ≤ xa.heap.size ∧ xa.heap.size ≤ ga ∧ ga < xb.heap.size ∧ xb.heap.size ≤ gb ∧ gb < xc.heap.size ∧ xc.heap.size ≤ gc ∧ gc < xd.heap.size ∧ xd.heap.size ≤ gd) := (show _ ∧ _ from ⟨KK.out, Ja.out, Lb.out, Jb'.out, Lc.out, Jc.out, Ld.out, Jd.out⟩)
  obtain ⟨k0, k1, k2, k3, k4, k5⟩ := cells6 ra
  go_wp2_with fail
  refine (exS_a _ Oa.B va Ha).mono ?_
  rintro e wza ⟨Aa, asa, aoa, afa, rfl, g1⟩
  have AFa : Hid (Aa[1]? = some (.int .u32 300) ∧ Aa[16]? = some (.int .i64 4)) := afa
  clear k0 k1 k2 k3 k4 k5 Ha afa
  replace ra := ra.keep g1 (fun e => by have h1 := Ia.out ga (Or.inl e); have h2 := LL.out; omega)
  replace rb := rb.keep g1 (fun e => by have h1 := Ia.out gb (Or.inl e); have h2 := LL.out; omega)
  replace rc := rc.keep g1 (fun e => by have h1 := Ia.out gc (Or.inl e); have h2 := LL.out; omega)
  replace rd := rd.keep g1 (fun e => by have h1 := Ia.out gd (Or.inl e); have h2 := LL.out; omega)
  replace Hb := isMc_far Hb g1 (fun k hk e => by have h1 := Ia.out k (Or.inl e); have h2 := Ib.out k hk; have h3 := LL.out; omega)
  replace Hc := isMc_far Hc g1 (fun k hk e => by have h1 := Ia.out k (Or.inl e); have h2 := Ic.out k hk; have h3 := LL.out; omega)
  replace Hd := isMc_far Hd g1 (fun k hk e => by have h1 := Ia.out k (Or.inl e); have h2 := Id.out k hk; have h3 := LL.out; omega)
  replace f0 : Fr none' w wza := ⟨g1.os.trans f0.os, g1.tape.trans f0.tape, g1.output.trans f0.output, Nat.le_trans f0.size g1.size, fun k hk hn => by
    rw [g1.block k (Nat.lt_of_lt_of_le hk f0.size) (fun e => by have h1 := Ia.out k (Or.inl e); have h2 := LL.out; omega)]; exact f0.block k hk hn⟩
  have pc0 : Row ((wza.alloc (.cells (cpA zc) 30)).alloc (.cells #[.int .i64 0, .int .i64 0, .int .i64 0, .int .i64 0, .int .i64 0, .int .i64 0, .bool false, .int .i64 0] 52)) wza.heap.size (cpA zc) 30 := (row_alloc wza (cpA zc) 30).alloc _
  have pt0 : Row ((wza.alloc (.cells (cpA zc) 30)).alloc (.cells #[.int .i64 0, .int .i64 0, .int .i64 0, .int .i64 0, .int .i64 0, .int .i64 0, .bool false, .int .i64 0] 52)) (wza.heap.size + 1) #[.int .i64 0, .int .i64 0, .int .i64 0, .int .i64 0, .int .i64 0, .int .i64 0, .bool false, .int .i64 0] 52 := row_at (by simp)
  have pt1 := pt0.keep (fr_row _ wza.heap.size Aa) (ne_new' (Nat.lt_succ_self _))
  have ls : (Tryz.prog.info? 30).map (·.size) = some Aa.size := by rw [asa]; exact size_cpu
  have lo : (cpA zc).size = Aa.size := by rw [asa]; exact cpA_size zc
  have lz : gd < wza.heap.size := rd.lt
  have g2 : Fr none' wza ((((wza.alloc (.cells (cpA zc) 30)).alloc (.cells #[.int .i64 0, .int .i64 0, .int .i64 0, .int .i64 0, .int .i64 0, .int .i64 0, .bool false, .int .i64 0] 52)).setRow wza.heap.size Aa).setRow (wza.heap.size + 1) #[.int .i64 0, .int .i64 0, .int .i64 0, .int .i64 0, .int .i64 0, .int .i64 0, .bool false, .int .i64 0]) := (((((Fr.refl none' wza).alloc _).alloc _).newer (fr_row _ wza.heap.size Aa) (Nat.le_refl _))).newer (fr_row _ (wza.heap.size + 1) _) (Nat.le_succ _)
  have pca : Row ((((wza.alloc (.cells (cpA zc) 30)).alloc (.cells #[.int .i64 0, .int .i64 0, .int .i64 0, .int .i64 0, .int .i64 0, .int .i64 0, .bool false, .int .i64 0] 52)).setRow wza.heap.size Aa).setRow (wza.heap.size + 1) #[.int .i64 0, .int .i64 0, .int .i64 0, .int .i64 0, .int .i64 0, .int .i64 0, .bool false, .int .i64 0]) wza.heap.size Aa 30 := (pc0.setRow).keep (fr_row _ (wza.heap.size + 1) _) (ne_new (Nat.lt_succ_self _))
  have pta : Row ((((wza.alloc (.cells (cpA zc) 30)).alloc (.cells #[.int .i64 0, .int .i64 0, .int .i64 0, .int .i64 0, .int .i64 0, .int .i64 0, .bool false, .int .i64 0] 52)).setRow wza.heap.size Aa).setRow (wza.heap.size + 1) #[.int .i64 0, .int .i64 0, .int .i64 0, .int .i64 0, .int .i64 0, .int .i64 0, .bool false, .int .i64 0]) (wza.heap.size + 1) #[.int .i64 0, .int .i64 0, .int .i64 0, .int .i64 0, .int .i64 0, .int .i64 0, .bool false, .int .i64 0] 52 := pt1.setRow
  have GG : Hid (Fr none' wza ((((wza.alloc (.cells (cpA zc) 30)).alloc (.cells #[.int .i64 0, .int .i64 0, .int .i64 0, .int .i64 0, .int .i64 0, .int .i64 0, .bool false, .int .i64 0] 52)).setRow wza.heap.size Aa).setRow (wza.heap.size + 1) #[.int .i64 0, .int .i64 0, .int .i64 0, .int .i64 0, .int .i64 0, .int .i64 0, .bool false, .int .i64 0]) ∧ Row ((((wza.alloc (.cells (cpA zc) 30)).alloc (.cells #[.int .i64 0, .int .i64 0, .int .i64 0, .int .i64 0, .int .i64 0, .int .i64 0, .bool false, .int .i64 0] 52)).setRow wza.heap.size Aa).setRow (wza.heap.size + 1) #[.int .i64 0, .int .i64 0, .int .i64 0, .int .i64 0, .int .i64 0, .int .i64 0, .bool false, .int .i64 0]) wza.heap.size Aa 30 ∧ Row ((((wza.alloc (.cells (cpA zc) 30)).alloc (.cells #[.int .i64 0, .int .i64 0, .int .i64 0, .int .i64 0, .int .i64 0, .int .i64 0, .bool false, .int .i64 0] 52)).setRow wza.heap.size Aa).setRow (wza.heap.size + 1) #[.int .i64 0, .int .i64 0, .int .i64 0, .int .i64 0, .int .i64 0, .int .i64 0, .bool false, .int .i64 0]) (wza.heap.size + 1) #[.int .i64 0, .int .i64 0, .int .i64 0, .int .i64 0, .int .i64 0, .int .i64 0, .bool false, .int .i64 0] 52) := ⟨g2, pca, pta⟩
  clear g1 g2 pca pta pt0
  go_upto_region 8 with (first | refine wpList_store_row rfl 30 _ _ rfl wza.heap.size Aa rfl rfl 30 (cpA zc) pc0 ls lo aoa ?_ | refine wpList_store_row rfl 52 _ _ rfl (wza.heap.size + 1) #[.int .i64 0, .int .i64 0, .int .i64 0, .int .i64 0, .int .i64 0, .int .i64 0, .bool false, .int .i64 0] rfl rfl 52 #[.int .i64 0, .int .i64 0, .int .i64 0, .int .i64 0, .int .i64 0, .int .i64 0, .bool false, .int .i64 0] pt1 size_trap rfl (by simp [Value.oneCell']) ?_)
  clear pc0 pt1 ls lo
  obtain ⟨g2, pca, pta⟩ := GG.out
  clear GG
  replace ra := ra.keep g2 (fun h => h)
  replace rb := rb.keep g2 (fun h => h)
  replace rc := rc.keep g2 (fun h => h)
  replace rd := rd.keep g2 (fun h => h)
  replace Hb := Hb.keep0 g2
  replace Hc := Hc.keep0 g2
  replace Hd := Hd.keep0 g2
  replace f0 := f0.trans g2
  clear g2
  obtain ⟨ta, ht⟩ : ∃ u, u = ((((wza.alloc (.cells (cpA zc) 30)).alloc (.cells #[.int .i64 0, .int .i64 0, .int .i64 0, .int .i64 0, .int .i64 0, .int .i64 0, .bool false, .int .i64 0] 52)).setRow wza.heap.size Aa).setRow (wza.heap.size + 1) #[.int .i64 0, .int .i64 0, .int .i64 0, .int .i64 0, .int .i64 0, .int .i64 0, .bool false, .int .i64 0]) := ⟨_, rfl⟩
  rw [← ht] at f0 pca pta ra rb rc rd  Hb Hc Hd ⊢
  clear ht
  obtain ⟨hca, hh1⟩ : ∃ q, q = wza.heap.size := ⟨_, rfl⟩
  obtain ⟨hta, hh2⟩ : ∃ q, q = wza.heap.size + 1 := ⟨_, rfl⟩
  rw [← hh2] at pta ⊢
  rw [← hh1] at pca lz ⊢
  have Pca : Hid (gd < hca) := lz
  have Pta : Hid (gd < hta) := (show gd < hta by omega)
  clear hh1 hh2 lz
  have lz : gd < ta.heap.size := rd.lt
  have pi0 := row_alloc ta (cpA zc) 30
  have pi1 : Row ((ta.alloc (.cells (cpA zc) 30)).setRow ta.heap.size #[.int .u32 0, .int .u32 0, .int .u32 0, .int .u32 0, .int .u32 0, .int .u32 0, .int .u32 0, .int .u32 0, .int .u32 0, .int .u32 0, .int .u32 0, .int .u32 0, .int .u32 0, .int .u32 0, .int .u32 0, .int .u32 0, .int .i64 0, .int .u32 0, .int .u32 0, .int .u32 0, .int .u32 0, .int .u32 0, .int .u32 0, .int .u32 0, .int .u32 0]) ta.heap.size #[.int .u32 0, .int .u32 0, .int .u32 0, .int .u32 0, .int .u32 0, .int .u32 0, .int .u32 0, .int .u32 0, .int .u32 0, .int .u32 0, .int .u32 0, .int .u32 0, .int .u32 0, .int .u32 0, .int .u32 0, .int .u32 0, .int .i64 0, .int .u32 0, .int .u32 0, .int .u32 0, .int .u32 0, .int .u32 0, .int .u32 0, .int .u32 0, .int .u32 0] 30 := pi0.setRow
  have g2 : Fr none' ta (((ta.alloc (.cells (cpA zc) 30)).setRow ta.heap.size #[.int .u32 0, .int .u32 0, .int .u32 0, .int .u32 0, .int .u32 0, .int .u32 0, .int .u32 0, .int .u32 0, .int .u32 0, .int .u32 0, .int .u32 0, .int .u32 0, .int .u32 0, .int .u32 0, .int .u32 0, .int .u32 0, .int .i64 0, .int .u32 0, .int .u32 0, .int .u32 0, .int .u32 0, .int .u32 0, .int .u32 0, .int .u32 0, .int .u32 0]).setCell ⟨ta.heap.size, 1, none⟩ (.int .u32 64)) := (((Fr.refl none' ta).alloc _).newer (fr_row _ ta.heap.size _) (Nat.le_refl _)).newer (fr_set _ ta.heap.size 1 _ (Fr.refl _ _)) (Nat.le_refl _)
  have pin : Row (((ta.alloc (.cells (cpA zc) 30)).setRow ta.heap.size #[.int .u32 0, .int .u32 0, .int .u32 0, .int .u32 0, .int .u32 0, .int .u32 0, .int .u32 0, .int .u32 0, .int .u32 0, .int .u32 0, .int .u32 0, .int .u32 0, .int .u32 0, .int .u32 0, .int .u32 0, .int .u32 0, .int .i64 0, .int .u32 0, .int .u32 0, .int .u32 0, .int .u32 0, .int .u32 0, .int .u32 0, .int .u32 0, .int .u32 0]).setCell ⟨ta.heap.size, 1, none⟩ (.int .u32 64)) ta.heap.size #[.int .u32 0, .int .u32 64, .int .u32 0, .int .u32 0, .int .u32 0, .int .u32 0, .int .u32 0, .int .u32 0, .int .u32 0, .int .u32 0, .int .u32 0, .int .u32 0, .int .u32 0, .int .u32 0, .int .u32 0, .int .u32 0, .int .i64 0, .int .u32 0, .int .u32 0, .int .u32 0, .int .u32 0, .int .u32 0, .int .u32 0, .int .u32 0, .int .u32 0] 30 := pi1.setCell 1 (.int .u32 64)
  have GG : Hid (Fr none' ta (((ta.alloc (.cells (cpA zc) 30)).setRow ta.heap.size #[.int .u32 0, .int .u32 0, .int .u32 0, .int .u32 0, .int .u32 0, .int .u32 0, .int .u32 0, .int .u32 0, .int .u32 0, .int .u32 0, .int .u32 0, .int .u32 0, .int .u32 0, .int .u32 0, .int .u32 0, .int .u32 0, .int .i64 0, .int .u32 0, .int .u32 0, .int .u32 0, .int .u32 0, .int .u32 0, .int .u32 0, .int .u32 0, .int .u32 0]).setCell ⟨ta.heap.size, 1, none⟩ (.int .u32 64)) ∧ Row (((ta.alloc (.cells (cpA zc) 30)).setRow ta.heap.size #[.int .u32 0, .int .u32 0, .int .u32 0, .int .u32 0, .int .u32 0, .int .u32 0, .int .u32 0, .int .u32 0, .int .u32 0, .int .u32 0, .int .u32 0, .int .u32 0, .int .u32 0, .int .u32 0, .int .u32 0, .int .u32 0, .int .i64 0, .int .u32 0, .int .u32 0, .int .u32 0, .int .u32 0, .int .u32 0, .int .u32 0, .int .u32 0, .int .u32 0]).setCell ⟨ta.heap.size, 1, none⟩ (.int .u32 64)) ta.heap.size #[.int .u32 0, .int .u32 64, .int .u32 0, .int .u32 0, .int .u32 0, .int .u32 0, .int .u32 0, .int .u32 0, .int .u32 0, .int .u32 0, .int .u32 0, .int .u32 0, .int .u32 0, .int .u32 0, .int .u32 0, .int .u32 0, .int .i64 0, .int .u32 0, .int .u32 0, .int .u32 0, .int .u32 0, .int .u32 0, .int .u32 0, .int .u32 0, .int .u32 0] 30) := ⟨g2, pin⟩
  clear g2 pin
  have pj1 : ((ta.alloc (.cells (cpA zc) 30)).setRow ta.heap.size #[.int .u32 0, .int .u32 0, .int .u32 0, .int .u32 0, .int .u32 0, .int .u32 0, .int .u32 0, .int .u32 0, .int .u32 0, .int .u32 0, .int .u32 0, .int .u32 0, .int .u32 0, .int .u32 0, .int .u32 0, .int .u32 0, .int .i64 0, .int .u32 0, .int .u32 0, .int .u32 0, .int .u32 0, .int .u32 0, .int .u32 0, .int .u32 0, .int .u32 0]).cell? ⟨ta.heap.size, 1, none⟩ = some (.int .u32 0) := pi1.cell 1
  have pj2 : ((ta.alloc (.cells (cpA zc) 30)).setRow ta.heap.size #[.int .u32 0, .int .u32 0, .int .u32 0, .int .u32 0, .int .u32 0, .int .u32 0, .int .u32 0, .int .u32 0, .int .u32 0, .int .u32 0, .int .u32 0, .int .u32 0, .int .u32 0, .int .u32 0, .int .u32 0, .int .u32 0, .int .i64 0, .int .u32 0, .int .u32 0, .int .u32 0, .int .u32 0, .int .u32 0, .int .u32 0, .int .u32 0, .int .u32 0]).frozen? ⟨ta.heap.size, 1, none⟩ = false := pi1.frozen 1
  clear pi1
  go_upto_region 10 with (refine wpList_store_row rfl 30 _ _ rfl ta.heap.size #[.int .u32 0, .int .u32 0, .int .u32 0, .int .u32 0, .int .u32 0, .int .u32 0, .int .u32 0, .int .u32 0, .int .u32 0, .int .u32 0, .int .u32 0, .int .u32 0, .int .u32 0, .int .u32 0, .int .u32 0, .int .u32 0, .int .i64 0, .int .u32 0, .int .u32 0, .int .u32 0, .int .u32 0, .int .u32 0, .int .u32 0, .int .u32 0, .int .u32 0] rfl rfl 30 (cpA zc) pi0 size_cpu rfl (by simp [Value.oneCell']) ?_)
  clear pi0 pj1 pj2
  obtain ⟨g2, pin⟩ := GG.out
  clear GG
  replace ra := ra.keep g2 (fun h => h)
  replace rb := rb.keep g2 (fun h => h)
  replace rc := rc.keep g2 (fun h => h)
  replace rd := rd.keep g2 (fun h => h)
  replace pca := pca.keep g2 (fun h => h)
  replace pta := pta.keep g2 (fun h => h)
  replace Hb := Hb.keep0 g2
  replace Hc := Hc.keep0 g2
  replace Hd := Hd.keep0 g2
  replace f0 := f0.trans g2
  clear g2
  obtain ⟨ti, ht⟩ : ∃ u, u = (((ta.alloc (.cells (cpA zc) 30)).setRow ta.heap.size #[.int .u32 0, .int .u32 0, .int .u32 0, .int .u32 0, .int .u32 0, .int .u32 0, .int .u32 0, .int .u32 0, .int .u32 0, .int .u32 0, .int .u32 0, .int .u32 0, .int .u32 0, .int .u32 0, .int .u32 0, .int .u32 0, .int .i64 0, .int .u32 0, .int .u32 0, .int .u32 0, .int .u32 0, .int .u32 0, .int .u32 0, .int .u32 0, .int .u32 0]).setCell ⟨ta.heap.size, 1, none⟩ (.int .u32 64)) := ⟨_, rfl⟩
  rw [← ht] at f0 pin ra rb rc rd pca pta Hb Hc Hd ⊢
  clear ht
  obtain ⟨gin, hh1⟩ : ∃ q, q = ta.heap.size := ⟨_, rfl⟩
  rw [← hh1] at pin lz ⊢
  clear hh1 lz
  have pinc : ∀ j v, (#[.int .u32 0, .int .u32 64, .int .u32 0, .int .u32 0, .int .u32 0, .int .u32 0, .int .u32 0, .int .u32 0, .int .u32 0, .int .u32 0, .int .u32 0, .int .u32 0, .int .u32 0, .int .u32 0, .int .u32 0, .int .u32 0, .int .i64 0, .int .u32 0, .int .u32 0, .int .u32 0, .int .u32 0, .int .u32 0, .int .u32 0, .int .u32 0, .int .u32 0] : Array Value)[j]? = some v → ti.cell? ⟨gin, j, none⟩ = some v := fun j v hv => (pin.cell j).trans hv
  obtain ⟨k0, k1, k2, k3, k4, k5⟩ := cells6 rb
  go_wp2_with (refine wpList_load_part rfl 30 _ rfl gin rfl #[.int .u32 0, .int .u32 64, .int .u32 0, .int .u32 0, .int .u32 0, .int .u32 0, .int .u32 0, .int .u32 0, .int .u32 0, .int .u32 0, .int .u32 0, .int .u32 0, .int .u32 0, .int .u32 0, .int .u32 0, .int .u32 0, .int .i64 0, .int .u32 0, .int .u32 0, .int .u32 0, .int .u32 0, .int .u32 0, .int .u32 0, .int .u32 0, .int .u32 0] _ pinc Tryz.underlying30 rfl size_cpu ?_)
  refine (exS_b _ Ob.B vb Hb).mono ?_
  rintro e wzb ⟨Ab, asb, aob, afb, rfl, g1⟩
  have AFb : Hid (Ab[2]? = some (.int .u32 77) ∧ True) := afb
  clear k0 k1 k2 k3 k4 k5 Hb afb
  replace ra := ra.keep g1 (fun e => by have h1 := Ib.out ga (Or.inl e); have h2 := LL.out; omega)
  replace rb := rb.keep g1 (fun e => by have h1 := Ib.out gb (Or.inl e); have h2 := LL.out; omega)
  replace rc := rc.keep g1 (fun e => by have h1 := Ib.out gc (Or.inl e); have h2 := LL.out; omega)
  replace rd := rd.keep g1 (fun e => by have h1 := Ib.out gd (Or.inl e); have h2 := LL.out; omega)
  replace pca := pca.keep g1 (fun e => by have h1 := Ib.out _ (Or.inl e); have h2 := LL.out; have h3 := Pca.out; omega)
  replace pta := pta.keep g1 (fun e => by have h1 := Ib.out _ (Or.inl e); have h2 := LL.out; have h3 := Pta.out; omega)
  replace Hc := isMc_far Hc g1 (fun k hk e => by have h1 := Ib.out k (Or.inl e); have h2 := Ic.out k hk; have h3 := LL.out; omega)
  replace Hd := isMc_far Hd g1 (fun k hk e => by have h1 := Ib.out k (Or.inl e); have h2 := Id.out k hk; have h3 := LL.out; omega)
  replace f0 : Fr none' w wzb := ⟨g1.os.trans f0.os, g1.tape.trans f0.tape, g1.output.trans f0.output, Nat.le_trans f0.size g1.size, fun k hk hn => by
    rw [g1.block k (Nat.lt_of_lt_of_le hk f0.size) (fun e => by have h1 := Ib.out k (Or.inl e); have h2 := LL.out; omega)]; exact f0.block k hk hn⟩
  have pc0 : Row ((wzb.alloc (.cells (cpA zc) 30)).alloc (.cells #[.int .i64 0, .int .i64 0, .int .i64 0, .int .i64 0, .int .i64 0, .int .i64 0, .bool false, .int .i64 0] 52)) wzb.heap.size (cpA zc) 30 := (row_alloc wzb (cpA zc) 30).alloc _
  have pt0 : Row ((wzb.alloc (.cells (cpA zc) 30)).alloc (.cells #[.int .i64 0, .int .i64 0, .int .i64 0, .int .i64 0, .int .i64 0, .int .i64 0, .bool false, .int .i64 0] 52)) (wzb.heap.size + 1) #[.int .i64 0, .int .i64 0, .int .i64 0, .int .i64 0, .int .i64 0, .int .i64 0, .bool false, .int .i64 0] 52 := row_at (by simp)
  have pt1 := pt0.keep (fr_row _ wzb.heap.size Ab) (ne_new' (Nat.lt_succ_self _))
  have ls : (Tryz.prog.info? 30).map (·.size) = some Ab.size := by rw [asb]; exact size_cpu
  have lo : (cpA zc).size = Ab.size := by rw [asb]; exact cpA_size zc
  have lz : gd < wzb.heap.size := rd.lt
  have g2 : Fr none' wzb ((((wzb.alloc (.cells (cpA zc) 30)).alloc (.cells #[.int .i64 0, .int .i64 0, .int .i64 0, .int .i64 0, .int .i64 0, .int .i64 0, .bool false, .int .i64 0] 52)).setRow wzb.heap.size Ab).setRow (wzb.heap.size + 1) #[.int .i64 0, .int .i64 0, .int .i64 0, .int .i64 0, .int .i64 0, .int .i64 0, .bool false, .int .i64 0]) := (((((Fr.refl none' wzb).alloc _).alloc _).newer (fr_row _ wzb.heap.size Ab) (Nat.le_refl _))).newer (fr_row _ (wzb.heap.size + 1) _) (Nat.le_succ _)
  have pcb : Row ((((wzb.alloc (.cells (cpA zc) 30)).alloc (.cells #[.int .i64 0, .int .i64 0, .int .i64 0, .int .i64 0, .int .i64 0, .int .i64 0, .bool false, .int .i64 0] 52)).setRow wzb.heap.size Ab).setRow (wzb.heap.size + 1) #[.int .i64 0, .int .i64 0, .int .i64 0, .int .i64 0, .int .i64 0, .int .i64 0, .bool false, .int .i64 0]) wzb.heap.size Ab 30 := (pc0.setRow).keep (fr_row _ (wzb.heap.size + 1) _) (ne_new (Nat.lt_succ_self _))
  have ptb : Row ((((wzb.alloc (.cells (cpA zc) 30)).alloc (.cells #[.int .i64 0, .int .i64 0, .int .i64 0, .int .i64 0, .int .i64 0, .int .i64 0, .bool false, .int .i64 0] 52)).setRow wzb.heap.size Ab).setRow (wzb.heap.size + 1) #[.int .i64 0, .int .i64 0, .int .i64 0, .int .i64 0, .int .i64 0, .int .i64 0, .bool false, .int .i64 0]) (wzb.heap.size + 1) #[.int .i64 0, .int .i64 0, .int .i64 0, .int .i64 0, .int .i64 0, .int .i64 0, .bool false, .int .i64 0] 52 := pt1.setRow
  have GG : Hid (Fr none' wzb ((((wzb.alloc (.cells (cpA zc) 30)).alloc (.cells #[.int .i64 0, .int .i64 0, .int .i64 0, .int .i64 0, .int .i64 0, .int .i64 0, .bool false, .int .i64 0] 52)).setRow wzb.heap.size Ab).setRow (wzb.heap.size + 1) #[.int .i64 0, .int .i64 0, .int .i64 0, .int .i64 0, .int .i64 0, .int .i64 0, .bool false, .int .i64 0]) ∧ Row ((((wzb.alloc (.cells (cpA zc) 30)).alloc (.cells #[.int .i64 0, .int .i64 0, .int .i64 0, .int .i64 0, .int .i64 0, .int .i64 0, .bool false, .int .i64 0] 52)).setRow wzb.heap.size Ab).setRow (wzb.heap.size + 1) #[.int .i64 0, .int .i64 0, .int .i64 0, .int .i64 0, .int .i64 0, .int .i64 0, .bool false, .int .i64 0]) wzb.heap.size Ab 30 ∧ Row ((((wzb.alloc (.cells (cpA zc) 30)).alloc (.cells #[.int .i64 0, .int .i64 0, .int .i64 0, .int .i64 0, .int .i64 0, .int .i64 0, .bool false, .int .i64 0] 52)).setRow wzb.heap.size Ab).setRow (wzb.heap.size + 1) #[.int .i64 0, .int .i64 0, .int .i64 0, .int .i64 0, .int .i64 0, .int .i64 0, .bool false, .int .i64 0]) (wzb.heap.size + 1) #[.int .i64 0, .int .i64 0, .int .i64 0, .int .i64 0, .int .i64 0, .int .i64 0, .bool false, .int .i64 0] 52) := ⟨g2, pcb, ptb⟩
  clear g1 g2 pcb ptb pt0
  go_upto_region 11 with (first | refine wpList_store_row rfl 30 _ _ rfl wzb.heap.size Ab rfl rfl 30 (cpA zc) pc0 ls lo aob ?_ | refine wpList_store_row rfl 52 _ _ rfl (wzb.heap.size + 1) #[.int .i64 0, .int .i64 0, .int .i64 0, .int .i64 0, .int .i64 0, .int .i64 0, .bool false, .int .i64 0] rfl rfl 52 #[.int .i64 0, .int .i64 0, .int .i64 0, .int .i64 0, .int .i64 0, .int .i64 0, .bool false, .int .i64 0] pt1 size_trap rfl (by simp [Value.oneCell']) ?_)
  clear pc0 pt1 ls lo
  obtain ⟨g2, pcb, ptb⟩ := GG.out
  clear GG
  replace ra := ra.keep g2 (fun h => h)
  replace rb := rb.keep g2 (fun h => h)
  replace rc := rc.keep g2 (fun h => h)
  replace rd := rd.keep g2 (fun h => h)
  replace pca := pca.keep g2 (fun h => h)
  replace pta := pta.keep g2 (fun h => h)
  replace Hc := Hc.keep0 g2
  replace Hd := Hd.keep0 g2
  replace f0 := f0.trans g2
  clear g2
  obtain ⟨tb, ht⟩ : ∃ u, u = ((((wzb.alloc (.cells (cpA zc) 30)).alloc (.cells #[.int .i64 0, .int .i64 0, .int .i64 0, .int .i64 0, .int .i64 0, .int .i64 0, .bool false, .int .i64 0] 52)).setRow wzb.heap.size Ab).setRow (wzb.heap.size + 1) #[.int .i64 0, .int .i64 0, .int .i64 0, .int .i64 0, .int .i64 0, .int .i64 0, .bool false, .int .i64 0]) := ⟨_, rfl⟩
  rw [← ht] at f0 pcb ptb ra rb rc rd pca pta Hc Hd ⊢
  clear ht
  obtain ⟨hcb, hh1⟩ : ∃ q, q = wzb.heap.size := ⟨_, rfl⟩
  obtain ⟨htb, hh2⟩ : ∃ q, q = wzb.heap.size + 1 := ⟨_, rfl⟩
  rw [← hh2] at ptb ⊢
  rw [← hh1] at pcb lz ⊢
  have Pcb : Hid (gd < hcb) := lz
  have Ptb : Hid (gd < htb) := (show gd < htb by omega)
  clear hh1 hh2 lz
  clear pinc pin
  obtain ⟨k0, k1, k2, k3, k4, k5⟩ := cells6 rc
  go_wp2_with fail
  refine (exS_c _ Oc.B vc Hc).mono ?_
  rintro e wzc ⟨Ac, asc, aoc, afc, rfl, g1⟩
  have AFc : Hid (True ∧ True) := afc
  clear k0 k1 k2 k3 k4 k5 Hc afc
  replace ra := ra.keep g1 (fun e => by have h1 := Ic.out ga (Or.inl e); have h2 := LL.out; omega)
  replace rb := rb.keep g1 (fun e => by have h1 := Ic.out gb (Or.inl e); have h2 := LL.out; omega)
  replace rc := rc.keep g1 (fun e => by have h1 := Ic.out gc (Or.inl e); have h2 := LL.out; omega)
  replace rd := rd.keep g1 (fun e => by have h1 := Ic.out gd (Or.inl e); have h2 := LL.out; omega)
  replace pca := pca.keep g1 (fun e => by have h1 := Ic.out _ (Or.inl e); have h2 := LL.out; have h3 := Pca.out; omega)
  replace pta := pta.keep g1 (fun e => by have h1 := Ic.out _ (Or.inl e); have h2 := LL.out; have h3 := Pta.out; omega)
  replace pcb := pcb.keep g1 (fun e => by have h1 := Ic.out _ (Or.inl e); have h2 := LL.out; have h3 := Pcb.out; omega)
  replace ptb := ptb.keep g1 (fun e => by have h1 := Ic.out _ (Or.inl e); have h2 := LL.out; have h3 := Ptb.out; omega)
  replace Hd := isMc_far Hd g1 (fun k hk e => by have h1 := Ic.out k (Or.inl e); have h2 := Id.out k hk; have h3 := LL.out; omega)
  replace f0 : Fr none' w wzc := ⟨g1.os.trans f0.os, g1.tape.trans f0.tape, g1.output.trans f0.output, Nat.le_trans f0.size g1.size, fun k hk hn => by
    rw [g1.block k (Nat.lt_of_lt_of_le hk f0.size) (fun e => by have h1 := Ic.out k (Or.inl e); have h2 := LL.out; omega)]; exact f0.block k hk hn⟩
  have pc0 : Row ((wzc.alloc (.cells (cpA zc) 30)).alloc (.cells #[.int .i64 0, .int .i64 0, .int .i64 0, .int .i64 0, .int .i64 0, .int .i64 0, .bool false, .int .i64 0] 52)) wzc.heap.size (cpA zc) 30 := (row_alloc wzc (cpA zc) 30).alloc _
  have pt0 : Row ((wzc.alloc (.cells (cpA zc) 30)).alloc (.cells #[.int .i64 0, .int .i64 0, .int .i64 0, .int .i64 0, .int .i64 0, .int .i64 0, .bool false, .int .i64 0] 52)) (wzc.heap.size + 1) #[.int .i64 0, .int .i64 0, .int .i64 0, .int .i64 0, .int .i64 0, .int .i64 0, .bool false, .int .i64 0] 52 := row_at (by simp)
  have pt1 := pt0.keep (fr_row _ wzc.heap.size Ac) (ne_new' (Nat.lt_succ_self _))
  have ls : (Tryz.prog.info? 30).map (·.size) = some Ac.size := by rw [asc]; exact size_cpu
  have lo : (cpA zc).size = Ac.size := by rw [asc]; exact cpA_size zc
  have lz : gd < wzc.heap.size := rd.lt
  have g2 : Fr none' wzc ((((wzc.alloc (.cells (cpA zc) 30)).alloc (.cells #[.int .i64 0, .int .i64 0, .int .i64 0, .int .i64 0, .int .i64 0, .int .i64 0, .bool false, .int .i64 0] 52)).setRow wzc.heap.size Ac).setRow (wzc.heap.size + 1) #[.int .i64 8, .int .i64 285212675, .int .i64 0, .int .i64 0, .int .i64 0, .int .i64 0, .bool false, .int .i64 0]) := (((((Fr.refl none' wzc).alloc _).alloc _).newer (fr_row _ wzc.heap.size Ac) (Nat.le_refl _))).newer (fr_row _ (wzc.heap.size + 1) _) (Nat.le_succ _)
  have pcc : Row ((((wzc.alloc (.cells (cpA zc) 30)).alloc (.cells #[.int .i64 0, .int .i64 0, .int .i64 0, .int .i64 0, .int .i64 0, .int .i64 0, .bool false, .int .i64 0] 52)).setRow wzc.heap.size Ac).setRow (wzc.heap.size + 1) #[.int .i64 8, .int .i64 285212675, .int .i64 0, .int .i64 0, .int .i64 0, .int .i64 0, .bool false, .int .i64 0]) wzc.heap.size Ac 30 := (pc0.setRow).keep (fr_row _ (wzc.heap.size + 1) _) (ne_new (Nat.lt_succ_self _))
  have ptc : Row ((((wzc.alloc (.cells (cpA zc) 30)).alloc (.cells #[.int .i64 0, .int .i64 0, .int .i64 0, .int .i64 0, .int .i64 0, .int .i64 0, .bool false, .int .i64 0] 52)).setRow wzc.heap.size Ac).setRow (wzc.heap.size + 1) #[.int .i64 8, .int .i64 285212675, .int .i64 0, .int .i64 0, .int .i64 0, .int .i64 0, .bool false, .int .i64 0]) (wzc.heap.size + 1) #[.int .i64 8, .int .i64 285212675, .int .i64 0, .int .i64 0, .int .i64 0, .int .i64 0, .bool false, .int .i64 0] 52 := pt1.setRow
  have GG : Hid (Fr none' wzc ((((wzc.alloc (.cells (cpA zc) 30)).alloc (.cells #[.int .i64 0, .int .i64 0, .int .i64 0, .int .i64 0, .int .i64 0, .int .i64 0, .bool false, .int .i64 0] 52)).setRow wzc.heap.size Ac).setRow (wzc.heap.size + 1) #[.int .i64 8, .int .i64 285212675, .int .i64 0, .int .i64 0, .int .i64 0, .int .i64 0, .bool false, .int .i64 0]) ∧ Row ((((wzc.alloc (.cells (cpA zc) 30)).alloc (.cells #[.int .i64 0, .int .i64 0, .int .i64 0, .int .i64 0, .int .i64 0, .int .i64 0, .bool false, .int .i64 0] 52)).setRow wzc.heap.size Ac).setRow (wzc.heap.size + 1) #[.int .i64 8, .int .i64 285212675, .int .i64 0, .int .i64 0, .int .i64 0, .int .i64 0, .bool false, .int .i64 0]) wzc.heap.size Ac 30 ∧ Row ((((wzc.alloc (.cells (cpA zc) 30)).alloc (.cells #[.int .i64 0, .int .i64 0, .int .i64 0, .int .i64 0, .int .i64 0, .int .i64 0, .bool false, .int .i64 0] 52)).setRow wzc.heap.size Ac).setRow (wzc.heap.size + 1) #[.int .i64 8, .int .i64 285212675, .int .i64 0, .int .i64 0, .int .i64 0, .int .i64 0, .bool false, .int .i64 0]) (wzc.heap.size + 1) #[.int .i64 8, .int .i64 285212675, .int .i64 0, .int .i64 0, .int .i64 0, .int .i64 0, .bool false, .int .i64 0] 52) := ⟨g2, pcc, ptc⟩
  clear g1 g2 pcc ptc pt0
  go_upto_region 12 with (first | refine wpList_store_row rfl 30 _ _ rfl wzc.heap.size Ac rfl rfl 30 (cpA zc) pc0 ls lo aoc ?_ | refine wpList_store_row rfl 52 _ _ rfl (wzc.heap.size + 1) #[.int .i64 8, .int .i64 285212675, .int .i64 0, .int .i64 0, .int .i64 0, .int .i64 0, .bool false, .int .i64 0] rfl rfl 52 #[.int .i64 0, .int .i64 0, .int .i64 0, .int .i64 0, .int .i64 0, .int .i64 0, .bool false, .int .i64 0] pt1 size_trap rfl (by simp [Value.oneCell']) ?_)
  clear pc0 pt1 ls lo
  obtain ⟨g2, pcc, ptc⟩ := GG.out
  clear GG
  replace ra := ra.keep g2 (fun h => h)
  replace rb := rb.keep g2 (fun h => h)
  replace rc := rc.keep g2 (fun h => h)
  replace rd := rd.keep g2 (fun h => h)
  replace pca := pca.keep g2 (fun h => h)
  replace pta := pta.keep g2 (fun h => h)
  replace pcb := pcb.keep g2 (fun h => h)
  replace ptb := ptb.keep g2 (fun h => h)
  replace Hd := Hd.keep0 g2
  replace f0 := f0.trans g2
  clear g2
  obtain ⟨tc, ht⟩ : ∃ u, u = ((((wzc.alloc (.cells (cpA zc) 30)).alloc (.cells #[.int .i64 0, .int .i64 0, .int .i64 0, .int .i64 0, .int .i64 0, .int .i64 0, .bool false, .int .i64 0] 52)).setRow wzc.heap.size Ac).setRow (wzc.heap.size + 1) #[.int .i64 8, .int .i64 285212675, .int .i64 0, .int .i64 0, .int .i64 0, .int .i64 0, .bool false, .int .i64 0]) := ⟨_, rfl⟩
  rw [← ht] at f0 pcc ptc ra rb rc rd pca pta pcb ptb Hd ⊢
  clear ht
  obtain ⟨hcc, hh1⟩ : ∃ q, q = wzc.heap.size := ⟨_, rfl⟩
  obtain ⟨htc, hh2⟩ : ∃ q, q = wzc.heap.size + 1 := ⟨_, rfl⟩
  rw [← hh2] at ptc ⊢
  rw [← hh1] at pcc lz ⊢
  have Pcc : Hid (gd < hcc) := lz
  have Ptc : Hid (gd < htc) := (show gd < htc by omega)
  clear hh1 hh2 lz
  obtain ⟨k0, k1, k2, k3, k4, k5⟩ := cells6 rd
  go_wp2_with fail
  refine (exS_d _ Od.B bd vd Hd).mono ?_
  rintro e wzd ⟨Ad, asd, aod, afd, rfl, g1⟩
  have AFd : Hid (True ∧ True) := afd
  clear k0 k1 k2 k3 k4 k5 Hd afd
  replace ra := ra.keep g1 (fun e => by have h1 := Id.out ga (Or.inl e); have h2 := LL.out; omega)
  replace rb := rb.keep g1 (fun e => by have h1 := Id.out gb (Or.inl e); have h2 := LL.out; omega)
  replace rc := rc.keep g1 (fun e => by have h1 := Id.out gc (Or.inl e); have h2 := LL.out; omega)
  replace rd := rd.keep g1 (fun e => by have h1 := Id.out gd (Or.inl e); have h2 := LL.out; omega)
  replace pca := pca.keep g1 (fun e => by have h1 := Id.out _ (Or.inl e); have h2 := LL.out; have h3 := Pca.out; omega)
  replace pta := pta.keep g1 (fun e => by have h1 := Id.out _ (Or.inl e); have h2 := LL.out; have h3 := Pta.out; omega)
  replace pcb := pcb.keep g1 (fun e => by have h1 := Id.out _ (Or.inl e); have h2 := LL.out; have h3 := Pcb.out; omega)
  replace ptb := ptb.keep g1 (fun e => by have h1 := Id.out _ (Or.inl e); have h2 := LL.out; have h3 := Ptb.out; omega)
  replace pcc := pcc.keep g1 (fun e => by have h1 := Id.out _ (Or.inl e); have h2 := LL.out; have h3 := Pcc.out; omega)
  replace ptc := ptc.keep g1 (fun e => by have h1 := Id.out _ (Or.inl e); have h2 := LL.out; have h3 := Ptc.out; omega)
  replace f0 : Fr none' w wzd := ⟨g1.os.trans f0.os, g1.tape.trans f0.tape, g1.output.trans f0.output, Nat.le_trans f0.size g1.size, fun k hk hn => by
    rw [g1.block k (Nat.lt_of_lt_of_le hk f0.size) (fun e => by have h1 := Id.out k (Or.inl e); have h2 := LL.out; omega)]; exact f0.block k hk hn⟩
  have pc0 : Row ((wzd.alloc (.cells (cpA zc) 30)).alloc (.cells #[.int .i64 0, .int .i64 0, .int .i64 0, .int .i64 0, .int .i64 0, .int .i64 0, .bool false, .int .i64 0] 52)) wzd.heap.size (cpA zc) 30 := (row_alloc wzd (cpA zc) 30).alloc _
  have pt0 : Row ((wzd.alloc (.cells (cpA zc) 30)).alloc (.cells #[.int .i64 0, .int .i64 0, .int .i64 0, .int .i64 0, .int .i64 0, .int .i64 0, .bool false, .int .i64 0] 52)) (wzd.heap.size + 1) #[.int .i64 0, .int .i64 0, .int .i64 0, .int .i64 0, .int .i64 0, .int .i64 0, .bool false, .int .i64 0] 52 := row_at (by simp)
  have pt1 := pt0.keep (fr_row _ wzd.heap.size Ad) (ne_new' (Nat.lt_succ_self _))
  have ls : (Tryz.prog.info? 30).map (·.size) = some Ad.size := by rw [asd]; exact size_cpu
  have lo : (cpA zc).size = Ad.size := by rw [asd]; exact cpA_size zc
  have lz : gd < wzd.heap.size := rd.lt
  have g2 : Fr none' wzd ((((wzd.alloc (.cells (cpA zc) 30)).alloc (.cells #[.int .i64 0, .int .i64 0, .int .i64 0, .int .i64 0, .int .i64 0, .int .i64 0, .bool false, .int .i64 0] 52)).setRow wzd.heap.size Ad).setRow (wzd.heap.size + 1) #[.int .i64 5, .int .i64 3, .int .i64 0, .int .i64 0, .int .i64 0, .int .i64 0, .bool false, .int .i64 0]) := (((((Fr.refl none' wzd).alloc _).alloc _).newer (fr_row _ wzd.heap.size Ad) (Nat.le_refl _))).newer (fr_row _ (wzd.heap.size + 1) _) (Nat.le_succ _)
  have pcd : Row ((((wzd.alloc (.cells (cpA zc) 30)).alloc (.cells #[.int .i64 0, .int .i64 0, .int .i64 0, .int .i64 0, .int .i64 0, .int .i64 0, .bool false, .int .i64 0] 52)).setRow wzd.heap.size Ad).setRow (wzd.heap.size + 1) #[.int .i64 5, .int .i64 3, .int .i64 0, .int .i64 0, .int .i64 0, .int .i64 0, .bool false, .int .i64 0]) wzd.heap.size Ad 30 := (pc0.setRow).keep (fr_row _ (wzd.heap.size + 1) _) (ne_new (Nat.lt_succ_self _))
  have ptd : Row ((((wzd.alloc (.cells (cpA zc) 30)).alloc (.cells #[.int .i64 0, .int .i64 0, .int .i64 0, .int .i64 0, .int .i64 0, .int .i64 0, .bool false, .int .i64 0] 52)).setRow wzd.heap.size Ad).setRow (wzd.heap.size + 1) #[.int .i64 5, .int .i64 3, .int .i64 0, .int .i64 0, .int .i64 0, .int .i64 0, .bool false, .int .i64 0]) (wzd.heap.size + 1) #[.int .i64 5, .int .i64 3, .int .i64 0, .int .i64 0, .int .i64 0, .int .i64 0, .bool false, .int .i64 0] 52 := pt1.setRow
  have GG : Hid (Fr none' wzd ((((wzd.alloc (.cells (cpA zc) 30)).alloc (.cells #[.int .i64 0, .int .i64 0, .int .i64 0, .int .i64 0, .int .i64 0, .int .i64 0, .bool false, .int .i64 0] 52)).setRow wzd.heap.size Ad).setRow (wzd.heap.size + 1) #[.int .i64 5, .int .i64 3, .int .i64 0, .int .i64 0, .int .i64 0, .int .i64 0, .bool false, .int .i64 0]) ∧ Row ((((wzd.alloc (.cells (cpA zc) 30)).alloc (.cells #[.int .i64 0, .int .i64 0, .int .i64 0, .int .i64 0, .int .i64 0, .int .i64 0, .bool false, .int .i64 0] 52)).setRow wzd.heap.size Ad).setRow (wzd.heap.size + 1) #[.int .i64 5, .int .i64 3, .int .i64 0, .int .i64 0, .int .i64 0, .int .i64 0, .bool false, .int .i64 0]) wzd.heap.size Ad 30 ∧ Row ((((wzd.alloc (.cells (cpA zc) 30)).alloc (.cells #[.int .i64 0, .int .i64 0, .int .i64 0, .int .i64 0, .int .i64 0, .int .i64 0, .bool false, .int .i64 0] 52)).setRow wzd.heap.size Ad).setRow (wzd.heap.size + 1) #[.int .i64 5, .int .i64 3, .int .i64 0, .int .i64 0, .int .i64 0, .int .i64 0, .bool false, .int .i64 0]) (wzd.heap.size + 1) #[.int .i64 5, .int .i64 3, .int .i64 0, .int .i64 0, .int .i64 0, .int .i64 0, .bool false, .int .i64 0] 52) := ⟨g2, pcd, ptd⟩
  clear g1 g2 pcd ptd pt0
  go_upto_region 13 with (first | refine wpList_store_row rfl 30 _ _ rfl wzd.heap.size Ad rfl rfl 30 (cpA zc) pc0 ls lo aod ?_ | refine wpList_store_row rfl 52 _ _ rfl (wzd.heap.size + 1) #[.int .i64 5, .int .i64 3, .int .i64 0, .int .i64 0, .int .i64 0, .int .i64 0, .bool false, .int .i64 0] rfl rfl 52 #[.int .i64 0, .int .i64 0, .int .i64 0, .int .i64 0, .int .i64 0, .int .i64 0, .bool false, .int .i64 0] pt1 size_trap rfl (by simp [Value.oneCell']) ?_)
  clear pc0 pt1 ls lo
  obtain ⟨g2, pcd, ptd⟩ := GG.out
  clear GG
  replace ra := ra.keep g2 (fun h => h)
  replace rb := rb.keep g2 (fun h => h)
  replace rc := rc.keep g2 (fun h => h)
  replace rd := rd.keep g2 (fun h => h)
  replace pca := pca.keep g2 (fun h => h)
  replace pta := pta.keep g2 (fun h => h)
  replace pcb := pcb.keep g2 (fun h => h)
  replace ptb := ptb.keep g2 (fun h => h)
  replace pcc := pcc.keep g2 (fun h => h)
  replace ptc := ptc.keep g2 (fun h => h)
  replace f0 := f0.trans g2
  clear g2
  obtain ⟨td, ht⟩ : ∃ u, u = ((((wzd.alloc (.cells (cpA zc) 30)).alloc (.cells #[.int .i64 0, .int .i64 0, .int .i64 0, .int .i64 0, .int .i64 0, .int .i64 0, .bool false, .int .i64 0] 52)).setRow wzd.heap.size Ad).setRow (wzd.heap.size + 1) #[.int .i64 5, .int .i64 3, .int .i64 0, .int .i64 0, .int .i64 0, .int .i64 0, .bool false, .int .i64 0]) := ⟨_, rfl⟩
  rw [← ht] at f0 pcd ptd ra rb rc rd pca pta pcb ptb pcc ptc  ⊢
  clear ht
  obtain ⟨hcd, hh1⟩ : ∃ q, q = wzd.heap.size := ⟨_, rfl⟩
  obtain ⟨htd, hh2⟩ : ∃ q, q = wzd.heap.size + 1 := ⟨_, rfl⟩
  rw [← hh2] at ptd ⊢
  rw [← hh1] at pcd lz ⊢
  have Pcd : Hid (gd < hcd) := lz
  have Ptd : Hid (gd < htd) := (show gd < htd by omega)
  clear hh1 hh2 lz
  have w1 := (pca.cell 1).trans AFa.out.1
  have w2 := (pca.cell 16).trans AFa.out.2
  have w3 := (pcb.cell 2).trans AFb.out.1
  clear pca pcb pcc pcd AFa AFb AFc AFd ra rb rc rd
  obtain ⟨ma0, ma1, ma2, ma3, ma4, ma5, ma6, ma7⟩ := cells8 pta
  obtain ⟨mb0, mb1, mb2, mb3, mb4, mb5, mb6, mb7⟩ := cells8 ptb
  obtain ⟨mc0, mc1, mc2, mc3, mc4, mc5, mc6, mc7⟩ := cells8 ptc
  obtain ⟨md0, md1, md2, md3, md4, md5, md6, md7⟩ := cells8 ptd
  go_wp2_with fail
  go_ret
  exact ⟨rfl, f0⟩

end Go.Proofs.YtpdkefihhbnmeaaGreat

/- CpuExPure -/
namespace Go.Proofs.YtpdkefihhbnmeaaGreat
open Go.RowKit

theorem ex_fetch (W : Nat) : nested (exB W) 16 (-1) 3 0 4 = ⟨1, 5, f0⟩ := by kernel_rfl
theorem ex_bytes (W : Nat) : ((exB W).drop 64).take 4 = bytesOf 4 W := by kernel_rfl
theorem ex_word (W : Nat) (hW : W < 4294967296) : loadV (exB W) 64 4 16 = (W : Int) := by
  have h : errOf 64 4 16 = 0 := by decide
  unfold loadV
  rw [if_pos h]
  show ((numOf (((exB W).drop 64).take 4) : Nat) : Int) = _
  rw [ex_bytes, numOf_bytesOf, Nat.mod_eq_of_lt (by simpa using hW)]

theorem ex_idx (page : Int) : idx (fun _ => zl) 1 0 page 8 = -1 := idx_none (fun j _ => by unfold hit; simp [zl, emp, leq])

/-- The machine behind the fetch; the work behind it. -/
def exM (W : Nat) (g : Bool) : Mc := rcM (M0 (exB W) g) 16 1 0 (-1) 3 0 4 0
def exX (W : Nat) (c : Cp) : Wk := ⟨0, 0, none, 1, 0, -1, 3, 0, 0, W, (dOp (W : Int)).toNat, (dA (W : Int)).toNat, (dB (W : Int)).toNat, (dC (W : Int)).toNat, (dI (W : Int)).toNat, c.setP 4⟩

theorem ex_reach (W : Nat) (g : Bool) : rcF (M0 (exB W) g) 16 1 0 (-1) 3 0 4 = f0 ∧ rcP (M0 (exB W) g) 16 1 0 (-1) 3 0 4 = 64 := by
  have hi : hitR (M0 (exB W) g).T 1 0 0 4 = false := by
    show hitR (fun _ => zl) 1 0 0 4 = false
    unfold hitR
    rw [ex_idx]
    rfl
  have hx : reachX (M0 (exB W) g).bs 16 (M0 (exB W) g).T 1 0 (-1) 3 0 4 = f0 := by
    unfold reachX
    rw [if_neg (by rw [hi]; decide)]
    show (nested (exB W) 16 (-1) 3 0 4).ft = f0
    rw [ex_fetch]
  have hf : reachF (M0 (exB W) g).bs 16 (M0 (exB W) g).T 1 0 (-1) 3 0 4 = 1 := by
    unfold reachF
    rw [if_neg (by rw [hi]; decide)]
    show (nested (exB W) 16 (-1) 3 0 4).fr = 1
    rw [ex_fetch]
  have h1 : rcF (M0 (exB W) g) 16 1 0 (-1) 3 0 4 = f0 := by
    unfold rcF
    show (if (reachX (M0 (exB W) g).bs 16 (M0 (exB W) g).T 1 0 (-1) 3 0 4).k ≠ 0 then _ else if ((16 : Nat) : Int) ≤ reachF (M0 (exB W) g).bs 16 (M0 (exB W) g).T 1 0 (-1) 3 0 4 then _ else f0) = f0
    rw [hx, hf]
    rfl
  refine ⟨h1, ?_⟩
  unfold rcP
  rw [h1]
  show (if f0.k ≠ 0 then 0 else reachF (M0 (exB W) g).bs 16 (M0 (exB W) g).T 1 0 (-1) 3 0 4 * 64 + 0 % 64) = 64
  rw [hf]
  rfl

theorem ex_step (W : Nat) (hW : W < 4294967296) (hd : i_decOk (W : Int) = true) (g : Bool) (c : Cp) (hp : c.pc = 0) (hf : spF g c = -1) (ha : spA g c = 0) (hg : isG (exX W c).op = false ∨ g = true) :
    stepR 16 (M0 (exB W) g) c 1 3 0 = ((exec 16 (exM W g) (exX W c)).1, stC c (exec 16 (exM W g) (exX W c)), (exec 16 (exM W g) (exX W c)).2.2) := by
  have hb : ¬ c.bad := by unfold Cp.bad; rw [hp]; decide
  have hv : (M0 (exB W) g).V.isSome = g := by cases g <;> rfl
  have hw : wkP g c 1 3 0 = ⟨0, 0, none, 1, 0, -1, 3, 0, 0, 0, 0, 0, 0, 0, 0, c.setP 4⟩ := by unfold wkP; rw [hf, ha, hp]; rfl
  have hfx : fX 16 (M0 (exB W) g) (wkP g c 1 3 0) = ⟨0, 0, none, 1, 0, -1, 3, 0, 0, W, 0, 0, 0, 0, 0, c.setP 4⟩ := by
    rw [hw]
    unfold fX
    show ({ p := 0, t := 0, v := none, vm := 1, sd := 0, fi := -1, se := 3, ix := 0, pc := 0, wd := (loadV (exB W) (rcP (M0 (exB W) g) 16 1 0 (-1) 3 0 4) 4 16).toNat, op := 0, a := 0, b := 0, c := 0, imm := 0, z := c.setP 4 } : Wk) = _
    rw [(ex_reach W g).2, ex_word W hW, Int.toNat_natCast]
  have hD : doR 16 (M0 (exB W) g) (wkP g c 1 3 0) = exec 16 (exM W g) (exX W c) := by
    unfold doR
    rw [hfx, hw]
    show (if (rcF (M0 (exB W) g) 16 1 0 (-1) 3 0 4).k ≠ 0 then _ else if i_decOk (W : Int) = false then _ else if isG (exX W c).op = true ∧ (M0 (exB W) g).V = none then _ else exec 16 (exM W g) (exX W c)) = _
    rw [(ex_reach W g).1, if_neg (by decide), if_neg (by rw [hd]; decide), if_neg ?_]
    rintro ⟨h1, h2⟩
    rcases hg with hg | hg
    · rw [hg] at h1; exact absurd h1 (by decide)
    · subst hg; exact absurd h2 (by intro h; cases h)
  unfold stepR
  rw [if_neg hb, hv, hD]

/-- States held against each other. -/
def ceq (c d : Cp) : Bool := (List.range 16).all (fun i => ((c.r i : Nat) : Int) == ((d.r i : Nat) : Int)) && (c.pc == d.pc && (List.range 8).all (fun i => ((c.s i : Nat) : Int) == ((d.s i : Nat) : Int)))
theorem ceq_self (c : Cp) : ceq c c = true := by simp [ceq]

theorem part_u32 {xs : Array Value} {i : Nat} {x : Int} (h : xs[i]? = some (.int .u32 x)) (w : World) : (part 26 xs i).run Tryz.prog w = .ok (.int .u32 x) w := by
  simp [part, isAgg, run_underlying Tryz.underlying26, h]

theorem eqItems_u32 (d : Nat) (xs ys : Array Value) (f g : Nat → Int) (w : World) : ∀ is : List Nat, (∀ i ∈ is, xs[i]? = some (.int .u32 (f i)) ∧ ys[i]? = some (.int .u32 (g i))) → (Op.eqItems (d + 1) 26 1 xs ys is).run Tryz.prog w = .ok (is.all (fun i => f i == g i)) w
  | [], _ => by simp [Op.eqItems]
  | i :: is, h => by
    have h1 := h i (by simp)
    have ih := eqItems_u32 d xs ys f g w is (fun j hj => h j (by simp [hj]))
    have p1 := part_u32 (i := i * 1) (by rw [Nat.mul_one]; exact h1.1) w
    have p2 := part_u32 (i := i * 1) (by rw [Nat.mul_one]; exact h1.2) w
    simp only [Op.eqItems, Sem.run_bind, p1, p2, Result.andThen_ok, run_equalIn_int w d 26 .u32 .u32 (f i) (g i) Tryz.underlying26]
    cases hh : (f i == g i) with
    | false => simp [hh]
    | true => simp [hh, ih]

theorem cells_u32 : Tryz.prog.cellsOf 26 = 1 := by kernel_rfl
theorem info_u32 : ∃ i, Tryz.prog.info? 26 = some i := by
  have h : (Tryz.prog.info? 26).isSome = true := by kernel_rfl
  exact Option.isSome_iff_exists.1 h

theorem eq_regs (c d : Cp) (w : World) : (Op.equalIn 9999 27 (.agg #[.int .u32 ((c.r 0 : Nat) : Int), .int .u32 ((c.r 1 : Nat) : Int), .int .u32 ((c.r 2 : Nat) : Int), .int .u32 ((c.r 3 : Nat) : Int), .int .u32 ((c.r 4 : Nat) : Int), .int .u32 ((c.r 5 : Nat) : Int), .int .u32 ((c.r 6 : Nat) : Int), .int .u32 ((c.r 7 : Nat) : Int), .int .u32 ((c.r 8 : Nat) : Int), .int .u32 ((c.r 9 : Nat) : Int), .int .u32 ((c.r 10 : Nat) : Int), .int .u32 ((c.r 11 : Nat) : Int), .int .u32 ((c.r 12 : Nat) : Int), .int .u32 ((c.r 13 : Nat) : Int), .int .u32 ((c.r 14 : Nat) : Int), .int .u32 ((c.r 15 : Nat) : Int)]) (.agg #[.int .u32 ((d.r 0 : Nat) : Int), .int .u32 ((d.r 1 : Nat) : Int), .int .u32 ((d.r 2 : Nat) : Int), .int .u32 ((d.r 3 : Nat) : Int), .int .u32 ((d.r 4 : Nat) : Int), .int .u32 ((d.r 5 : Nat) : Int), .int .u32 ((d.r 6 : Nat) : Int), .int .u32 ((d.r 7 : Nat) : Int), .int .u32 ((d.r 8 : Nat) : Int), .int .u32 ((d.r 9 : Nat) : Int), .int .u32 ((d.r 10 : Nat) : Int), .int .u32 ((d.r 11 : Nat) : Int), .int .u32 ((d.r 12 : Nat) : Int), .int .u32 ((d.r 13 : Nat) : Int), .int .u32 ((d.r 14 : Nat) : Int), .int .u32 ((d.r 15 : Nat) : Int)])).run Tryz.prog w = .ok ((List.range 16).all (fun i => ((c.r i : Nat) : Int) == ((d.r i : Nat) : Int))) w := by
  obtain ⟨i, hi⟩ := info_u32
  rw [show (9999 : Nat) = 9998 + 1 by rfl, run_equalIn_array w 9998 _ _ Tryz.underlying27 hi, cells_u32]
  refine eqItems_u32 9997 _ _ (fun i => ((c.r i : Nat) : Int)) (fun i => ((d.r i : Nat) : Int)) w _ (fun j hj => ?_)
  have hj' : j < 16 := List.mem_range.1 hj
  have : j = 0 ∨ j = 1 ∨ j = 2 ∨ j = 3 ∨ j = 4 ∨ j = 5 ∨ j = 6 ∨ j = 7 ∨ j = 8 ∨ j = 9 ∨ j = 10 ∨ j = 11 ∨ j = 12 ∨ j = 13 ∨ j = 14 ∨ j = 15 := by omega
  rcases this with rfl | rfl | rfl | rfl | rfl | rfl | rfl | rfl | rfl | rfl | rfl | rfl | rfl | rfl | rfl | rfl <;> exact ⟨rfl, rfl⟩
theorem eq_syss (c d : Cp) (w : World) : (Op.equalIn 9999 28 (.agg #[.int .u32 ((c.s 0 : Nat) : Int), .int .u32 ((c.s 1 : Nat) : Int), .int .u32 ((c.s 2 : Nat) : Int), .int .u32 ((c.s 3 : Nat) : Int), .int .u32 ((c.s 4 : Nat) : Int), .int .u32 ((c.s 5 : Nat) : Int), .int .u32 ((c.s 6 : Nat) : Int), .int .u32 ((c.s 7 : Nat) : Int)]) (.agg #[.int .u32 ((d.s 0 : Nat) : Int), .int .u32 ((d.s 1 : Nat) : Int), .int .u32 ((d.s 2 : Nat) : Int), .int .u32 ((d.s 3 : Nat) : Int), .int .u32 ((d.s 4 : Nat) : Int), .int .u32 ((d.s 5 : Nat) : Int), .int .u32 ((d.s 6 : Nat) : Int), .int .u32 ((d.s 7 : Nat) : Int)])).run Tryz.prog w = .ok ((List.range 8).all (fun i => ((c.s i : Nat) : Int) == ((d.s i : Nat) : Int))) w := by
  obtain ⟨i, hi⟩ := info_u32
  rw [show (9999 : Nat) = 9998 + 1 by rfl, run_equalIn_array w 9998 _ _ Tryz.underlying28 hi, cells_u32]
  refine eqItems_u32 9997 _ _ (fun i => ((c.s i : Nat) : Int)) (fun i => ((d.s i : Nat) : Int)) w _ (fun j hj => ?_)
  have hj' : j < 8 := List.mem_range.1 hj
  have : j = 0 ∨ j = 1 ∨ j = 2 ∨ j = 3 ∨ j = 4 ∨ j = 5 ∨ j = 6 ∨ j = 7 := by omega
  rcases this with rfl | rfl | rfl | rfl | rfl | rfl | rfl | rfl <;> exact ⟨rfl, rfl⟩

set_option maxHeartbeats 2000000 in
theorem neq_cpu (c d : Cp) (w : World) : (binOp .neq 30 (.agg (cpA c)) (.agg (cpA d))).run Tryz.prog w = .ok (.bool !(ceq c d)) w := by
  have h1 := eq_regs c d
  have h2 := eq_syss c d
  unfold ceq
  obtain ⟨x, hx⟩ : ∃ x, (List.range 16).all (fun i => ((c.r i : Nat) : Int) == ((d.r i : Nat) : Int)) = x := ⟨_, rfl⟩
  obtain ⟨y, hy⟩ : ∃ y, (List.range 8).all (fun i => ((c.s i : Nat) : Int) == ((d.s i : Nat) : Int)) = y := ⟨_, rfl⟩
  rw [hx] at h1 ⊢
  rw [hy] at h2 ⊢
  rw [cpA_eq, cpA_eq]
  clear hx hy
  cases x <;> cases y <;> cases hp : (c.pc == d.pc) <;> simp [go_sem, h1, h2, hp]
set_option maxHeartbeats 2000000 in
theorem eql_cpu (c d : Cp) (w : World) : (binOp .eql 30 (.agg (cpA c)) (.agg (cpA d))).run Tryz.prog w = .ok (.bool (ceq c d)) w := by
  have h1 := eq_regs c d
  have h2 := eq_syss c d
  unfold ceq
  obtain ⟨x, hx⟩ : ∃ x, (List.range 16).all (fun i => ((c.r i : Nat) : Int) == ((d.r i : Nat) : Int)) = x := ⟨_, rfl⟩
  obtain ⟨y, hy⟩ : ∃ y, (List.range 8).all (fun i => ((c.s i : Nat) : Int) == ((d.s i : Nat) : Int)) = y := ⟨_, rfl⟩
  rw [hx] at h1 ⊢
  rw [hy] at h2 ⊢
  rw [cpA_eq, cpA_eq]
  clear hx hy
  cases x <;> cases y <;> cases hp : (c.pc == d.pc) <;> simp [go_sem, h1, h2, hp]

end Go.Proofs.YtpdkefihhbnmeaaGreat

/- CpuSysP -/
namespace Go.Proofs.YtpdkefihhbnmeaaGreat
open Go.RowKit

def cin (w : Nat) : Cp := (zc.setR 2 w).setS 6 77
theorem cin_ok {w : Nat} (h : w < 4294967296) : (cin w).Ok := (zc_ok.setR 2 h).setS 6 (by decide)
def W1 (n : Nat) : Nat := 335675392 + n
def W2 (n : Nat) : Nat := 321912832 + n
theorem enc1 {n : Nat} (h : n < 65536) : i_encW 20 0 2 0 (n : Int) = (W1 n : Int) := by
  have hr : rightI 20 0 2 0 (n : Int) = true := by
    simp [rightI, kf, hA, hB, hC, hI, fld]
    omega
  unfold i_encW
  rw [if_pos hr]
  unfold wordI W1
  omega
theorem enc2 {n : Nat} (h : n < 65536) : i_encW 19 3 0 0 (n : Int) = (W2 n : Int) := by
  have hr : rightI 19 3 0 0 (n : Int) = true := by
    simp [rightI, kf, hA, hB, hC, hI, fld]
    omega
  unfold i_encW
  rw [if_pos hr]
  unfold wordI W2
  omega

theorem dec1 {n : Nat} (h : n < 65536) : i_decOk (W1 n : Int) = true ∧ dOp (W1 n : Int) = 20 ∧ dA (W1 n : Int) = 0 ∧ dB (W1 n : Int) = 2 ∧ dC (W1 n : Int) = 0 ∧ dI (W1 n : Int) = n := by
  have hr : rightI 20 0 2 0 (n : Int) = true := by
    simp [rightI, kf, hA, hB, hC, hI, fld]
    omega
  have hw : (W1 n : Int) = wordI 20 0 2 0 (n : Int) := by unfold W1 wordI; omega
  obtain ⟨h1, h2, h3, h4, h5, h6⟩ := i_dec_back hr
  rw [hw]
  refine ⟨?_, h1, h2, h3, h4, h5⟩
  cases hd : i_decOk (wordI 20 0 2 0 (n : Int)) with
  | true => rfl
  | false => unfold dE at h6; rw [if_neg (by rw [hd]; decide)] at h6; exact absurd h6 (by decide)
theorem dec2 {n : Nat} (h : n < 65536) : i_decOk (W2 n : Int) = true ∧ dOp (W2 n : Int) = 19 ∧ dA (W2 n : Int) = 3 ∧ dB (W2 n : Int) = 0 ∧ dC (W2 n : Int) = 0 ∧ dI (W2 n : Int) = n := by
  have hr : rightI 19 3 0 0 (n : Int) = true := by
    simp [rightI, kf, hA, hB, hC, hI, fld]
    omega
  have hw : (W2 n : Int) = wordI 19 3 0 0 (n : Int) := by unfold W2 wordI; omega
  obtain ⟨h1, h2, h3, h4, h5, h6⟩ := i_dec_back hr
  rw [hw]
  refine ⟨?_, h1, h2, h3, h4, h5⟩
  cases hd : i_decOk (wordI 19 3 0 0 (n : Int)) with
  | true => rfl
  | false => unfold dE at h6; rw [if_neg (by rw [hd]; decide)] at h6; exact absurd h6 (by decide)

theorem exX1 {n : Nat} (h : n < 65536) (c : Cp) : exX (W1 n) c = ⟨0, 0, none, 1, 0, -1, 3, 0, 0, W1 n, 20, 0, 2, 0, n, c.setP 4⟩ := by
  obtain ⟨_, h1, h2, h3, h4, h5⟩ := dec1 h
  unfold exX
  rw [h1, h2, h3, h4, h5, Int.toNat_natCast]
  rfl
theorem exX2 {n : Nat} (h : n < 65536) (c : Cp) : exX (W2 n) c = ⟨0, 0, none, 1, 0, -1, 3, 0, 0, W2 n, 19, 3, 0, 0, n, c.setP 4⟩ := by
  obtain ⟨_, h1, h2, h3, h4, h5⟩ := dec2 h
  unfold exX
  rw [h1, h2, h3, h4, h5, Int.toNat_natCast]
  rfl

theorem sp_low {c : Cp} (h : c.s 0 = 0) : spF true c = -1 ∧ spA true c = 0 := by
  unfold spF spA
  rw [h]
  exact ⟨rfl, rfl⟩

theorem sys1_hi {n w : Nat} (h : n < 65536) (hn : 5 < n) : (stepR 16 (M0 (exB (W1 n)) true) (cin w) 1 3 0).2.1 = cin w ∧ (stepR 16 (M0 (exB (W1 n)) true) (cin w) 1 3 0).2.2 = ⟨7, n, 0, f0⟩ := by
  rw [ex_step (W1 n) (by unfold W1; omega) (dec1 h).1 true (cin w) rfl (sp_low rfl).1 (sp_low rfl).2 (Or.inr rfl), exX1 h]
  have e : exec 16 (exM (W1 n) true) ⟨0, 0, none, 1, 0, -1, 3, 0, 0, W1 n, 20, 0, 2, 0, n, (cin w).setP 4⟩ = (wrM (exM (W1 n) true) (exM (W1 n) true).S ⟨0, 0, none, 1, 0, -1, 3, 0, 0, W1 n, 20, 0, 2, 0, n, (cin w).setP 4⟩, wrX ⟨0, 0, none, 1, 0, -1, 3, 0, 0, W1 n, 20, 0, 2, 0, n, (cin w).setP 4⟩, wrT ⟨0, 0, none, 1, 0, -1, 3, 0, 0, W1 n, 20, 0, 2, 0, n, (cin w).setP 4⟩) := rfl
  have ht : wrT ⟨0, 0, none, 1, 0, -1, 3, 0, 0, W1 n, 20, 0, 2, 0, n, (cin w).setP 4⟩ = ⟨7, n, 0, f0⟩ := if_pos (show (5 : Int) < (n : Int) by omega)
  rw [e]
  refine ⟨?_, ht⟩
  show (if (wrT ⟨0, 0, none, 1, 0, -1, 3, 0, 0, W1 n, 20, 0, 2, 0, n, (cin w).setP 4⟩).ca = 0 ∨ (wrT ⟨0, 0, none, 1, 0, -1, 3, 0, 0, W1 n, 20, 0, 2, 0, n, (cin w).setP 4⟩).ca = 10 then _ else cin w) = cin w
  rw [ht]
  rfl
theorem sys1_lo {n w : Nat} (h : n ≤ 5) : (stepR 16 (M0 (exB (W1 n)) true) (cin w) 1 3 0).2.1 = ((cin w).setP 4).setS n w ∧ (stepR 16 (M0 (exB (W1 n)) true) (cin w) 1 3 0).2.2 = t0 := by
  rw [ex_step (W1 n) (by unfold W1; omega) (dec1 (by omega)).1 true (cin w) rfl (sp_low rfl).1 (sp_low rfl).2 (Or.inr rfl), exX1 (by omega)]
  have e : exec 16 (exM (W1 n) true) ⟨0, 0, none, 1, 0, -1, 3, 0, 0, W1 n, 20, 0, 2, 0, n, (cin w).setP 4⟩ = (wrM (exM (W1 n) true) (exM (W1 n) true).S ⟨0, 0, none, 1, 0, -1, 3, 0, 0, W1 n, 20, 0, 2, 0, n, (cin w).setP 4⟩, wrX ⟨0, 0, none, 1, 0, -1, 3, 0, 0, W1 n, 20, 0, 2, 0, n, (cin w).setP 4⟩, wrT ⟨0, 0, none, 1, 0, -1, 3, 0, 0, W1 n, 20, 0, 2, 0, n, (cin w).setP 4⟩) := rfl
  have ht : wrT ⟨0, 0, none, 1, 0, -1, 3, 0, 0, W1 n, 20, 0, 2, 0, n, (cin w).setP 4⟩ = t0 := if_neg (show ¬ (5 : Int) < (n : Int) by omega)
  have hx : wrX ⟨0, 0, none, 1, 0, -1, 3, 0, 0, W1 n, 20, 0, 2, 0, n, (cin w).setP 4⟩ = ⟨0, 0, none, 1, 0, -1, 3, 0, 0, W1 n, 20, 0, 2, 0, n, ((cin w).setP 4).setS n w⟩ := if_neg (show ¬ (5 : Int) < (n : Int) by omega)
  rw [e]
  refine ⟨?_, ht⟩
  show (if (wrT ⟨0, 0, none, 1, 0, -1, 3, 0, 0, W1 n, 20, 0, 2, 0, n, (cin w).setP 4⟩).ca = 0 ∨ (wrT ⟨0, 0, none, 1, 0, -1, 3, 0, 0, W1 n, 20, 0, 2, 0, n, (cin w).setP 4⟩).ca = 10 then (wrX ⟨0, 0, none, 1, 0, -1, 3, 0, 0, W1 n, 20, 0, 2, 0, n, (cin w).setP 4⟩).z else cin w) = _
  rw [ht, hx]
  rfl
theorem sys2_hi {n : Nat} (h : n < 65536) (hn : 6 < n) (c : Cp) (hp : c.pc = 0) (hs : c.s 0 = 0) : (stepR 16 (M0 (exB (W2 n)) true) c 1 3 0).2.1 = c ∧ (stepR 16 (M0 (exB (W2 n)) true) c 1 3 0).2.2 = ⟨7, n, 0, f0⟩ := by
  rw [ex_step (W2 n) (by unfold W2; omega) (dec2 h).1 true c hp (sp_low hs).1 (sp_low hs).2 (Or.inr rfl), exX2 h]
  have e : exec 16 (exM (W2 n) true) ⟨0, 0, none, 1, 0, -1, 3, 0, 0, W2 n, 19, 3, 0, 0, n, c.setP 4⟩ = (exM (W2 n) true, rdX ⟨0, 0, none, 1, 0, -1, 3, 0, 0, W2 n, 19, 3, 0, 0, n, c.setP 4⟩, rdT ⟨0, 0, none, 1, 0, -1, 3, 0, 0, W2 n, 19, 3, 0, 0, n, c.setP 4⟩) := rfl
  have ht : rdT ⟨0, 0, none, 1, 0, -1, 3, 0, 0, W2 n, 19, 3, 0, 0, n, c.setP 4⟩ = ⟨7, n, 0, f0⟩ := if_pos (show (6 : Int) < (n : Int) by omega)
  rw [e]
  refine ⟨?_, ht⟩
  show (if (rdT ⟨0, 0, none, 1, 0, -1, 3, 0, 0, W2 n, 19, 3, 0, 0, n, c.setP 4⟩).ca = 0 ∨ (rdT ⟨0, 0, none, 1, 0, -1, 3, 0, 0, W2 n, 19, 3, 0, 0, n, c.setP 4⟩).ca = 10 then _ else c) = c
  rw [ht]
  rfl
theorem sys2_lo {n : Nat} (h : n ≤ 6) (c : Cp) (hp : c.pc = 0) (hs : c.s 0 = 0) : (stepR 16 (M0 (exB (W2 n)) true) c 1 3 0).2.1 = (c.setP 4).setR 3 (c.s n) ∧ (stepR 16 (M0 (exB (W2 n)) true) c 1 3 0).2.2 = t0 := by
  rw [ex_step (W2 n) (by unfold W2; omega) (dec2 (by omega)).1 true c hp (sp_low hs).1 (sp_low hs).2 (Or.inr rfl), exX2 (by omega)]
  have e : exec 16 (exM (W2 n) true) ⟨0, 0, none, 1, 0, -1, 3, 0, 0, W2 n, 19, 3, 0, 0, n, c.setP 4⟩ = (exM (W2 n) true, rdX ⟨0, 0, none, 1, 0, -1, 3, 0, 0, W2 n, 19, 3, 0, 0, n, c.setP 4⟩, rdT ⟨0, 0, none, 1, 0, -1, 3, 0, 0, W2 n, 19, 3, 0, 0, n, c.setP 4⟩) := rfl
  have ht : rdT ⟨0, 0, none, 1, 0, -1, 3, 0, 0, W2 n, 19, 3, 0, 0, n, c.setP 4⟩ = t0 := if_neg (show ¬ (6 : Int) < (n : Int) by omega)
  have hx : rdX ⟨0, 0, none, 1, 0, -1, 3, 0, 0, W2 n, 19, 3, 0, 0, n, c.setP 4⟩ = ⟨0, 0, none, 1, 0, -1, 3, 0, 0, W2 n, 19, 3, 0, 0, n, (c.setP 4).setR 3 (c.s n)⟩ := if_neg (show ¬ (6 : Int) < (n : Int) by omega)
  rw [e]
  refine ⟨?_, ht⟩
  show (if (rdT ⟨0, 0, none, 1, 0, -1, 3, 0, 0, W2 n, 19, 3, 0, 0, n, c.setP 4⟩).ca = 0 ∨ (rdT ⟨0, 0, none, 1, 0, -1, 3, 0, 0, W2 n, 19, 3, 0, 0, n, c.setP 4⟩).ca = 10 then (rdX ⟨0, 0, none, 1, 0, -1, 3, 0, 0, W2 n, 19, 3, 0, 0, n, c.setP 4⟩).z else c) = _
  rw [ht, hx]
  rfl

end Go.Proofs.YtpdkefihhbnmeaaGreat

/- CpuSystemA -/
namespace Go.Proofs.YtpdkefihhbnmeaaGreat
open Go.RowKit

/-- Step of a guest's example, what it leaves said outright. -/
theorem exSt (w : World) (B : Bm) (b : Bk) (bs : List UInt8) (c c' : Cp) (t : Tr) (T : Array Value) (hv : B.v = some b) (hok : c.Ok) (hM : IsMc w B 16 (M0 bs true)) (hc : (stepR 16 (M0 bs true) c 1 3 0).2.1 = c' ∧ (stepR 16 (M0 bs true) c 1 3 0).2.2 = t) (hT : trL t = T) :
    Calls Tryz.prog 11 #[.agg #[.pointer (some ⟨B.p, 0, none⟩), .pointer (some ⟨B.bt, 0, none⟩), .pointer (some ⟨b.b, 0, none⟩)], .agg (cpA c), .int .i64 1, .int .i64 3, .int .i64 0] w fun e w' => e = .returned (.tuple #[.agg (cpA c'), .agg T]) ∧ Fr B.s w w' := by
  have h := Step_any w B 16 (M0 bs true) c hok 1 3 0 hM (M0_few bs true) (by decide)
  rw [hv, hc.1, hc.2, hT] at h
  exact h.mono (fun e w' ⟨a, f, _, o⟩ => ⟨a, f⟩)

theorem isMc_at {w w' : World} {B : Bm} {g : Nat} {nf : Nat} {M : Mc} (h : IsMc w B nf M) (f : Fr (at' g) w w') (h1 : ∀ k, (B.s k ∨ k = B.p) → k ≠ g) : IsMc w' B nf M :=
  h.keep f (h1 _ (Or.inr rfl)) (h1 _ (Or.inl (Or.inl rfl))) (h1 _ (Or.inl (Or.inr (Or.inl rfl)))) (fun k hk => h1 k (Or.inl (Or.inr (Or.inr hk))))

theorem load_partG {P : Program} {ops : Array Oper} {rest : List Oper} {o : Oper} {a : Act} {w : World} {Q : Exit → Act → World → Prop} (hgd : Region.wanted o (yielded ops a.tmps) = true) (ty : TypeId) (x : Operand) (ho : o.op = .load ty x)
    (g : Nat) (hx : a.eval x = .pointer (some ⟨g, 0, none⟩)) (cs : Array Value) (d : TypeDesc) (hc : ∀ j v, cs[j]? = some v → w.cell? ⟨g, j, none⟩ = some v)
    (hu : P.underlying ty = some d) (hd : (match d with | .struct _ | .array _ _ => true | _ => false) = true) (hi : (P.info? ty).map (·.size) = some cs.size)
    (h : wpList P ops Q rest (a.put o.dst (.agg cs)) w) : wpList P ops Q (o :: rest) a w := by
  refine BigFrame.wpList_want hgd fun K hK => ?_
  have hl : (loadCells ⟨g, 0, none⟩ cs.toList.length).run P w = .ok cs.toList.toArray w :=
    run_loadCells_list (P := P) w ⟨g, 0, none⟩ cs.toList (fun j v hv => by
      rw [add_lit', Nat.zero_add]
      exact hc j v (by simpa using hv))
  have hv : (loadVar ty ⟨g, 0, none⟩).run P w = .ok (.agg cs) w := by
    cases hq : P.info? ty with
    | none => simp [hq] at hi
    | some i =>
      have hs : i.size = cs.size := by simpa [hq] using hi
      have hagg : (isAgg ty).run P w = .ok true w := by
        unfold isAgg
        rw [Sem.run_bind, run_underlying hu w]
        cases d <;> simp_all
      simp only [Array.length_toList, Array.toArray_toList] at hl
      simp [loadVar, Sem.run_bind, hagg, sizeOf, typeInfo, hq, hs, hl]
  unfold Oper.wp execOp
  simp only [ho, hx, Instr.loadAt, Instr.sureAddr, Sem.run_bind, Sem.run_pure, Result.andThen_ok, hv]
  exact hK _ _ h

theorem cpA_setP (c : Cp) (x : Int) : (cpA c).setIfInBounds 16 (.int .i64 x) = cpA (c.setP x) := rfl
theorem cpA_set0 (c : Cp) : (cpA c).setIfInBounds 17 (.int .u32 0) = cpA (c.setS 0 0) := rfl
theorem cinA (x : Nat) : ((#[.int .u32 0, .int .u32 0, .int .u32 0, .int .u32 0, .int .u32 0, .int .u32 0, .int .u32 0, .int .u32 0, .int .u32 0, .int .u32 0, .int .u32 0, .int .u32 0, .int .u32 0, .int .u32 0, .int .u32 0, .int .u32 0, .int .i64 0, .int .u32 0, .int .u32 0, .int .u32 0, .int .u32 0, .int .u32 0, .int .u32 0, .int .u32 0, .int .u32 0] : Array Value).setIfInBounds 2 (.int .u32 (x : Int))).setIfInBounds 23 (.int .u32 77) = cpA (cin x) := rfl
theorem cp_at {w : World} {g : Nat} {c : Cp} {t : TypeId} (h : Row w g (cpA c) t) : ∀ j v, (cpA c)[j]? = some v → w.cell? ⟨g, j, none⟩ = some v := fun j _ hv => (h.cell j).trans hv

end Go.Proofs.YtpdkefihhbnmeaaGreat

/- CpuReckP -/
namespace Go.Proofs.YtpdkefihhbnmeaaGreat
open Go.RowKit

/-- What is reckoned. -/
def rk (o i x y : Nat) : Nat := if o = 1 then i else if o = 2 then gAdd x y else if o = 3 then gSub x y else if o = 4 then gAnd x y else if o = 5 then gXor x y else gShl x y
def WR (o a b c i : Nat) : Nat := ((o * 16 + a) * 16 + b) * 65536 + c + i

theorem right1 {a i : Nat} (ha : a < 16) (hi : i < 65536) : rightI (1 : Nat) (a : Int) (0 : Nat) (0 : Nat) (i : Int) = true := by
  simp [rightI, kf, hA, hB, hC, hI, fld]
  omega
theorem right2 {o a b c : Nat} (h1 : 2 ≤ o) (h2 : o ≤ 6) (ha : a < 16) (hb : b < 16) (hc : c < 16) : rightI (o : Int) (a : Int) (b : Int) (c : Int) (0 : Nat) = true := by
  have hk : kf (o : Int) = 2 := by
    unfold kf
    rw [if_neg (by omega), if_pos (by omega)]
  unfold rightI
  rw [hk]
  simp [hA, hB, hC, hI, fld]
  omega

theorem wr_word (o a b c i : Nat) : ((WR o a b c i : Nat) : Int) = wordI o a b c i := by unfold WR wordI; omega
theorem encR {o a b c i : Nat} (h : rightI (o : Int) a b c i = true) : i_encW o a b c i = (WR o a b c i : Int) := by
  unfold i_encW
  rw [if_pos h, wr_word]
theorem decR {o a b c i : Nat} (h : rightI (o : Int) a b c i = true) : i_decOk (WR o a b c i : Int) = true := by
  obtain ⟨h1, h2, h3, h4, h5, h6⟩ := i_dec_back h
  rw [wr_word]
  cases hd : i_decOk (wordI o a b c i) with
  | true => rfl
  | false => unfold dE at h6; rw [if_neg (by rw [hd]; decide)] at h6; exact absurd h6 (by decide)
theorem exXR {o a b c i : Nat} (h : rightI (o : Int) a b c i = true) (z : Cp) : exX (WR o a b c i) z = ⟨0, 0, none, 1, 0, -1, 3, 0, 0, WR o a b c i, o, a, b, c, i, z.setP 4⟩ := by
  obtain ⟨h1, h2, h3, h4, h5, h6⟩ := i_dec_back h
  unfold exX
  rw [wr_word, h1, h2, h3, h4, h5]
  simp only [Int.toNat_natCast]

theorem exec_1 {nf : Nat} {M : Mc} {X : Wk} (h : X.op = 1) : exec nf M X = (M, X.setZ (X.z.setR X.a X.imm), t0) := by
  unfold exec
  rw [h]
  rfl
theorem rk_1 (i x y : Nat) : rk 1 i x y = i := by unfold rk; rw [if_pos rfl]
theorem exec_2 {nf : Nat} {M : Mc} {X : Wk} (h : X.op = 2) : exec nf M X = (M, X.setZ (X.z.setR X.a (gAdd (X.z.r X.b) (X.z.r X.c))), t0) := by
  unfold exec
  rw [h]
  rfl
theorem rk_2 (i x y : Nat) : rk 2 i x y = gAdd x y := by unfold rk; rw [if_neg (by decide), if_pos rfl]
theorem exec_3 {nf : Nat} {M : Mc} {X : Wk} (h : X.op = 3) : exec nf M X = (M, X.setZ (X.z.setR X.a (gSub (X.z.r X.b) (X.z.r X.c))), t0) := by
  unfold exec
  rw [h]
  rfl
theorem rk_3 (i x y : Nat) : rk 3 i x y = gSub x y := by unfold rk; rw [if_neg (by decide), if_neg (by decide), if_pos rfl]
theorem exec_4 {nf : Nat} {M : Mc} {X : Wk} (h : X.op = 4) : exec nf M X = (M, X.setZ (X.z.setR X.a (gAnd (X.z.r X.b) (X.z.r X.c))), t0) := by
  unfold exec
  rw [h]
  rfl
theorem rk_4 (i x y : Nat) : rk 4 i x y = gAnd x y := by unfold rk; rw [if_neg (by decide), if_neg (by decide), if_neg (by decide), if_pos rfl]
theorem exec_5 {nf : Nat} {M : Mc} {X : Wk} (h : X.op = 5) : exec nf M X = (M, X.setZ (X.z.setR X.a (gXor (X.z.r X.b) (X.z.r X.c))), t0) := by
  unfold exec
  rw [h]
  rfl
theorem rk_5 (i x y : Nat) : rk 5 i x y = gXor x y := by unfold rk; rw [if_neg (by decide), if_neg (by decide), if_neg (by decide), if_neg (by decide), if_pos rfl]
theorem exec_6 {nf : Nat} {M : Mc} {X : Wk} (h : X.op = 6) : exec nf M X = (M, X.setZ (X.z.setR X.a (gShl (X.z.r X.b) (X.z.r X.c))), t0) := by
  unfold exec
  rw [h]
  rfl
theorem rk_6 (i x y : Nat) : rk 6 i x y = gShl x y := by unfold rk; rw [if_neg (by decide), if_neg (by decide), if_neg (by decide), if_neg (by decide), if_neg (by decide)]
theorem exec_rk {nf : Nat} {M : Mc} {X : Wk} (h1 : 1 ≤ X.op) (h6 : X.op ≤ 6) : exec nf M X = (M, X.setZ (X.z.setR X.a (rk X.op X.imm (X.z.r X.b) (X.z.r X.c))), t0) := by
  have h : X.op = 1 ∨ X.op = 2 ∨ X.op = 3 ∨ X.op = 4 ∨ X.op = 5 ∨ X.op = 6 := by omega
  rcases h with h | h | h | h | h | h
  · rw [exec_1 h, h, rk_1]
  · rw [exec_2 h, h, rk_2]
  · rw [exec_3 h, h, rk_3]
  · rw [exec_4 h, h, rk_4]
  · rw [exec_5 h, h, rk_5]
  · rw [exec_6 h, h, rk_6]

theorem reck_step {o a b c i : Nat} (h : rightI (o : Int) a b c i = true) (h1 : 1 ≤ o) (h6 : o ≤ 6) (hW : WR o a b c i < 4294967296) (z : Cp) (hp : z.pc = 0) :
    (stepR 16 (M0 (exB (WR o a b c i)) false) z 1 3 0).2.1 = (z.setP 4).setR a (rk o i (z.r b) (z.r c)) ∧ (stepR 16 (M0 (exB (WR o a b c i)) false) z 1 3 0).2.2 = t0 := by
  have e := exXR h z
  have eo : (exX (WR o a b c i) z).op = o := by rw [e]
  have ea : (exX (WR o a b c i) z).a = a := by rw [e]
  have eb : (exX (WR o a b c i) z).b = b := by rw [e]
  have ec : (exX (WR o a b c i) z).c = c := by rw [e]
  have ei : (exX (WR o a b c i) z).imm = i := by rw [e]
  have ez : (exX (WR o a b c i) z).z = z.setP 4 := by rw [e]
  have hg : isG (exX (WR o a b c i) z).op = false := by
    rw [eo]
    unfold isG
    simp
    omega
  have hs := ex_step (WR o a b c i) hW (decR h) false z hp (by unfold spF; rw [if_neg (by simp)]) (by unfold spA; rw [if_neg (by simp)]) (Or.inl hg)
  have hx := exec_rk (nf := 16) (M := exM (WR o a b c i) false) (X := exX (WR o a b c i) z) (by rw [eo]; exact h1) (by rw [eo]; exact h6)
  rw [eo, ea, eb, ec, ei, ez] at hx
  rw [hs, hx]
  refine ⟨?_, rfl⟩
  show stC z (exM (WR o a b c i) false, (exX (WR o a b c i) z).setZ ((z.setP 4).setR a (rk o i ((z.setP 4).r b) ((z.setP 4).r c))), t0) = _
  unfold stC
  refine (if_pos (Or.inl ?_)).trans ?_
  · rfl
  · rfl

end Go.Proofs.YtpdkefihhbnmeaaGreat

/- CpuReckA -/
namespace Go.Proofs.YtpdkefihhbnmeaaGreat
open Go.RowKit

/-- Sixteen registers, as cells. -/
def rgA (r : Nat → Nat) : Array Value := ((List.range 16).map (fun i => Value.int .u32 ((r i : Nat) : Int))).toArray

/-- The registers alone. -/
def rcp (r : Nat → Nat) : Cp := ⟨r, 0, fun _ => 0⟩
theorem rcp_ok {r : Nat → Nat} (h : ∀ k, r k < 4294967296) : (rcp r).Ok := ⟨h, fun _ => (by decide : (0 : Nat) < 4294967296)⟩
theorem build_regs (r : Nat → Nat) (w : World) : Sem.run Tryz.prog (Instr.build 30 #[(0, .agg (rgA r))]) w = .ok (.agg (cpA (rcp r))) w := by kernel_rfl
theorem wpList_regs {ops : Array Oper} {rest : List Oper} {o : Oper} {a : Act} {w : World} {Q : Exit → Act → World → Prop} {r : Nat → Nat} (hgd : o.guard = none) (x : Operand) (ho : o.op = .build 30 #[(0, x)]) (hx : a.eval x = .agg (rgA r))
    (h : wpList Tryz.prog ops Q rest (a.put o.dst (.agg (cpA (rcp r)))) w) : wpList Tryz.prog ops Q (o :: rest) a w := by
  refine wpList_plain hgd fun K hK => ?_
  have hb := build_regs r w
  unfold Oper.wp
  simp [execOp, ho, hx, hb, Result.andThen]
  exact hK _ _ h
theorem exSf (w : World) (B : Bm) (bs : List UInt8) (c c' : Cp) (t : Tr) (T : Array Value) (hv : B.v = none) (hok : c.Ok) (hM : IsMc w B 16 (M0 bs false)) (hc : (stepR 16 (M0 bs false) c 1 3 0).2.1 = c' ∧ (stepR 16 (M0 bs false) c 1 3 0).2.2 = t) (hT : trL t = T) :
    Calls Tryz.prog 11 #[.agg #[.pointer (some ⟨B.p, 0, none⟩), .pointer (some ⟨B.bt, 0, none⟩), .pointer none], .agg (cpA c), .int .i64 1, .int .i64 3, .int .i64 0] w fun e w' => e = .returned (.tuple #[.agg (cpA c'), .agg T]) ∧ Fr B.s w w' := by
  have h := Step_any w B 16 (M0 bs false) c hok 1 3 0 hM (M0_few bs false) (by decide)
  rw [hv, hc.1, hc.2, hT] at h
  exact h.mono (fun e w' ⟨a, f, _, o⟩ => ⟨a, f⟩)

theorem size_regs {r : Nat → Nat} : (Tryz.prog.info? 27).map (·.size) = some (rgA r).size := by
  have h : (rgA r).size = 16 := by simp [rgA]
  have e : (Tryz.prog.info? 27).map (·.size) = some 16 := by kernel_rfl
  rw [h, e]

theorem cpA_setR (c : Cp) {a : Nat} (h : a < 16) (v : Nat) : (cpA c).setIfInBounds a (.int .u32 (v : Int)) = cpA (c.setR a v) :=
  match a, h with
  | 0, _ | 1, _ | 2, _ | 3, _ | 4, _ | 5, _ | 6, _ | 7, _ | 8, _ | 9, _ | 10, _ | 11, _ | 12, _ | 13, _ | 14, _ | 15, _ => rfl
  | k + 16, h => absurd h (by omega)
theorem rgA_at (r : Nat → Nat) {k : Nat} (h : k < 16) : (rgA r)[k]? = some (.int .u32 ((r k : Nat) : Int)) := by simp [rgA, h]

end Go.Proofs.YtpdkefihhbnmeaaGreat

/- CpuReckOne -/
namespace Go.Proofs.YtpdkefihhbnmeaaGreat
open Go.RowKit

set_option maxRecDepth 100000 in
set_option maxHeartbeats 16000000 in
theorem reck_one (w : World) (o a b c i : Nat) (r : Nat → Nat) (hr : ∀ k, r k < 4294967296) (ho : o = 1) (ha : a ≤ 15) (hb : b ≤ 15) (hc : c ≤ 15) (hi : i ≤ 65535) :
    Calls Tryz.prog 7 #[.int .i64 (o : Int), .agg (rgA r), .int .i64 (a : Int), .int .i64 (b : Int), .int .i64 (c : Int), .int .i64 (i : Int)] w fun e w' => e = .returned (.bool true) ∧ Fr none' w w' := by
  have u1 : decide ((o : Int) < 1) = false := decide_eq_false (by omega)
  have u2 : decide (6 < (o : Int)) = false := decide_eq_false (by omega)
  have u3 : decide ((a : Int) < 0) = false := decide_eq_false (by omega)
  have u4 : decide (15 < (a : Int)) = false := decide_eq_false (by omega)
  have u5 : decide ((b : Int) < 0) = false := decide_eq_false (by omega)
  have u6 : decide (15 < (b : Int)) = false := decide_eq_false (by omega)
  have u7 : decide ((c : Int) < 0) = false := decide_eq_false (by omega)
  have u8 : decide (15 < (c : Int)) = false := decide_eq_false (by omega)
  have u9 : decide ((i : Int) < 0) = false := decide_eq_false (by omega)
  have u10 : decide (65535 < (i : Int)) = false := decide_eq_false (by omega)
  have t1 : ((o : Int) == 1) = true := by simp; omega
  have hz : ∀ w, Sem.run Tryz.prog (zeroValue 30) w = .ok (.agg (cpA zc)) w := zero_cpu
  have R0 := row_alloc w (rgA r) 27
  have f0 := (Fr.refl none' w).alloc (.cells (rgA r) 27)
  go_enter Tryz.func7, Tryz.ntmps7
  go_wp2_with fail
  refine (awake_any _).mono ?_
  rintro e w1 ⟨rfl, g1⟩
  replace f0 := f0.trans g1
  replace R0 := R0.keep g1 (fun h => h)
  clear g1
  have HRB : Hid (∀ k, r k < 4294967296) := hr
  have HW : Hid (i_encW (o : Int) (a : Int) 0 0 (i : Int) = ((WR o a 0 0 i) : Nat) ∧ (WR o a 0 0 i) < 4294967296 ∧ rightI (o : Int) (a : Int) 0 0 (i : Int) = true) := (show _ ∧ _ ∧ _ from by
    have hR : rightI (o : Int) (a : Int) 0 0 (i : Int) = true := by have e : o = 1 := ho; subst e; exact right1 (by omega) (by omega)
    refine ⟨?_, ?_, hR⟩
    · exact encR hR
    · unfold WR; omega)
  have HO : Hid (o = 1) := ho
  clear hr ho
  go_wp2_with fail
  refine (example_any _ (o : Int) (a : Int) 0 0 (i : Int) false _ HW.out.1 HW.out.2.1).mono ?_
  rintro e w2 ⟨s0, s1, rfl, g2, hP, hQ⟩
  have gA := ((Fr.refl none' w1).alloc (.cells #[.int .i64 (o : Int), .int .i64 (a : Int), .int .i64 0, .int .i64 0, .int .i64 (i : Int)] 83)).trans g2
  replace f0 := f0.trans gA
  replace R0 := R0.keep gA (fun h => h)
  have HL : Hid (w.heap.size < w2.heap.size) := R0.lt
  clear gA g2
  go_wp2_with fail
  refine (exmade_f _ _ _ (WR o a 0 0 i) hP hQ).mono ?_
  rintro e w3 ⟨O, hv, rfl, g3, hB⟩
  replace f0 := f0.trans g3
  replace R0 := R0.keep g3 (fun h => h)
  have II : Hid (∀ k, (O.B.s k ∨ k = O.B.p) → w2.heap.size ≤ k ∧ k < w3.heap.size) := hB.in
  have H1 := hB.m.keep0 ((Fr.refl none' w3).alloc (.cells #[.pointer (some ⟨O.B.p, 0, none⟩), .pointer (some ⟨O.B.bt, 0, none⟩), .pointer none, .pointer (some ⟨O.pr, 0, none⟩), .pointer (some ⟨O.bu, 0, none⟩), .pointer none] 44))
  have r1 := row_alloc w3 #[.pointer (some ⟨O.B.p, 0, none⟩), .pointer (some ⟨O.B.bt, 0, none⟩), .pointer none, .pointer (some ⟨O.pr, 0, none⟩), .pointer (some ⟨O.bu, 0, none⟩), .pointer none] 44
  have g4 := (Fr.refl none' w3).alloc (.cells #[.pointer (some ⟨O.B.p, 0, none⟩), .pointer (some ⟨O.B.bt, 0, none⟩), .pointer none, .pointer (some ⟨O.pr, 0, none⟩), .pointer (some ⟨O.bu, 0, none⟩), .pointer none] 44)
  replace f0 := f0.trans g4
  replace R0 := R0.keep g4 (fun h => h)
  clear g3 g4 hB hP hQ
  go_upto_region 10 with fail
  obtain ⟨w4, hw4⟩ : ∃ u, u = w3.alloc (.cells #[.pointer (some ⟨O.B.p, 0, none⟩), .pointer (some ⟨O.B.bt, 0, none⟩), .pointer none, .pointer (some ⟨O.pr, 0, none⟩), .pointer (some ⟨O.bu, 0, none⟩), .pointer none] 44) := ⟨_, rfl⟩
  obtain ⟨g, hg⟩ : ∃ g, g = w3.heap.size := ⟨_, rfl⟩
  rw [← hw4] at f0 R0 H1 r1 ⊢
  rw [← hg] at r1 II ⊢
  clear hw4 hg
  obtain ⟨G, hG⟩ : ∃ G, G = w.heap.size := ⟨_, rfl⟩
  rw [← hG] at R0 HL ⊢
  have HG : Hid (G = w.heap.size) := hG
  clear hG
  go_step
  refine wpList_load_part rfl 27 _ rfl G rfl (rgA r) _ (fun j v hv => (R0.cell j).trans hv) Tryz.underlying27 rfl size_regs ?_
  refine wpList_regs rfl (.tmp 82) rfl rfl ?_
  have pi0 := row_alloc w4 (cpA zc) 30
  have ls := size_cpA (rcp r)
  have lo : (cpA zc).size = (cpA (rcp r)).size := by rw [cpA_size, cpA_size]
  have ao := cpA_one (rcp r)
  have lz : g < w4.heap.size := r1.lt
  have g5 : Fr none' w4 ((w4.alloc (.cells (cpA zc) 30)).setRow w4.heap.size (cpA (rcp r))) := ((Fr.refl none' w4).alloc _).newer (fr_row _ w4.heap.size _) (Nat.le_refl _)
  have pin : Row ((w4.alloc (.cells (cpA zc) 30)).setRow w4.heap.size (cpA (rcp r))) w4.heap.size (cpA (rcp r)) 30 := pi0.setRow
  have GG : Hid (Fr none' w4 ((w4.alloc (.cells (cpA zc) 30)).setRow w4.heap.size (cpA (rcp r))) ∧ Row ((w4.alloc (.cells (cpA zc) 30)).setRow w4.heap.size (cpA (rcp r))) w4.heap.size (cpA (rcp r)) 30) := ⟨g5, pin⟩
  clear g5 pin
  go_upto_region 11 with (refine wpList_store_row rfl 30 _ _ rfl w4.heap.size (cpA (rcp r)) rfl rfl 30 (cpA zc) pi0 ls lo ao ?_)
  clear pi0 ls lo ao
  obtain ⟨g5, pin⟩ := GG.out
  clear GG
  replace R0 := R0.keep g5 (fun h => h)
  replace r1 := r1.keep g5 (fun h => h)
  replace H1 := H1.keep0 g5
  replace f0 := f0.trans g5
  clear g5
  obtain ⟨ti, ht⟩ : ∃ u, u = (w4.alloc (.cells (cpA zc) 30)).setRow w4.heap.size (cpA (rcp r)) := ⟨_, rfl⟩
  rw [← ht] at f0 pin R0 r1 H1 ⊢
  clear ht
  obtain ⟨gin, hh1⟩ : ∃ q, q = w4.heap.size := ⟨_, rfl⟩
  rw [← hh1] at pin lz ⊢
  clear hh1
  have LL : Hid (G < w2.heap.size ∧ g < gin) := (show _ ∧ _ from ⟨HL.out, lz⟩)
  clear lz HL
  have pinc := cp_at pin
  obtain ⟨k0, k1, k2, k3, k4, k5⟩ := cells6 r1
  go_wp2_with (refine wpList_load_part rfl 30 _ rfl gin rfl (cpA (rcp r)) _ pinc Tryz.underlying30 rfl (size_cpA (rcp r)) ?_)
  clear pinc
  obtain ⟨c1, hc1⟩ : ∃ c1, c1 = ((rcp r).setP 4).setR a (rk o i (r 0) (r 0)) := ⟨_, rfl⟩
  have hst := reck_step (o := o) (a := a) (b := 0) (c := 0) (i := i) HW.out.2.2 (by have := HO.out; omega) (by have := HO.out; omega) HW.out.2.1 (rcp r) rfl
  refine (exSf _ O.B (exB (WR o a 0 0 i)) (rcp r) c1 _root_.Go.Proofs.YtpdkefihhbnmeaaGreat.t0 #[.int .i64 0, .int .i64 0, .int .i64 0, .int .i64 0, .int .i64 0, .int .i64 0, .bool false, .int .i64 0] hv (rcp_ok HRB.out) H1 (by rw [hc1]; exact hst) rfl).mono ?_
  rintro e wz ⟨rfl, g1⟩
  have HC1 : Hid (c1 = ((rcp r).setP 4).setR a (rk o i (r 0) (r 0))) := hc1
  clear k0 k1 k2 k3 k4 k5 H1 r1 hst hc1
  replace R0 := R0.keep g1 (fun e => by have h1 := II.out G (Or.inl e); have h2 := LL.out; omega)
  replace pin := pin.keep g1 (fun e => by have h1 := II.out gin (Or.inl e); have h2 := LL.out; omega)
  replace f0 : Fr none' w wz := ⟨g1.os.trans f0.os, g1.tape.trans f0.tape, g1.output.trans f0.output, Nat.le_trans f0.size g1.size, fun k hk hn => by
    rw [g1.block k (Nat.lt_of_lt_of_le hk f0.size) (fun e => by have h1 := II.out k (Or.inl e); have h2 := LL.out; have h3 := HG.out; omega)]; exact f0.block k hk hn⟩
  have pc0 : Row ((wz.alloc (.cells (cpA zc) 30)).alloc (.cells #[.int .i64 0, .int .i64 0, .int .i64 0, .int .i64 0, .int .i64 0, .int .i64 0, .bool false, .int .i64 0] 52)) wz.heap.size (cpA zc) 30 := (row_alloc wz (cpA zc) 30).alloc _
  have pt0 : Row ((wz.alloc (.cells (cpA zc) 30)).alloc (.cells #[.int .i64 0, .int .i64 0, .int .i64 0, .int .i64 0, .int .i64 0, .int .i64 0, .bool false, .int .i64 0] 52)) (wz.heap.size + 1) #[.int .i64 0, .int .i64 0, .int .i64 0, .int .i64 0, .int .i64 0, .int .i64 0, .bool false, .int .i64 0] 52 := row_at (by simp)
  have pt1 := pt0.keep (fr_row _ wz.heap.size (cpA c1)) (ne_new' (Nat.lt_succ_self _))
  have ls := size_cpA c1
  have lo : (cpA zc).size = (cpA c1).size := by rw [cpA_size, cpA_size]
  have ao := cpA_one c1
  have lz : gin < wz.heap.size := pin.lt
  have g2 : Fr none' wz ((((wz.alloc (.cells (cpA zc) 30)).alloc (.cells #[.int .i64 0, .int .i64 0, .int .i64 0, .int .i64 0, .int .i64 0, .int .i64 0, .bool false, .int .i64 0] 52)).setRow wz.heap.size (cpA c1)).setRow (wz.heap.size + 1) #[.int .i64 0, .int .i64 0, .int .i64 0, .int .i64 0, .int .i64 0, .int .i64 0, .bool false, .int .i64 0]) := (((((Fr.refl none' wz).alloc _).alloc _).newer (fr_row _ wz.heap.size (cpA c1)) (Nat.le_refl _))).newer (fr_row _ (wz.heap.size + 1) _) (Nat.le_succ _)
  have pc1 : Row ((((wz.alloc (.cells (cpA zc) 30)).alloc (.cells #[.int .i64 0, .int .i64 0, .int .i64 0, .int .i64 0, .int .i64 0, .int .i64 0, .bool false, .int .i64 0] 52)).setRow wz.heap.size (cpA c1)).setRow (wz.heap.size + 1) #[.int .i64 0, .int .i64 0, .int .i64 0, .int .i64 0, .int .i64 0, .int .i64 0, .bool false, .int .i64 0]) wz.heap.size (cpA c1) 30 := (pc0.setRow).keep (fr_row _ (wz.heap.size + 1) _) (ne_new (Nat.lt_succ_self _))
  have ptt : Row ((((wz.alloc (.cells (cpA zc) 30)).alloc (.cells #[.int .i64 0, .int .i64 0, .int .i64 0, .int .i64 0, .int .i64 0, .int .i64 0, .bool false, .int .i64 0] 52)).setRow wz.heap.size (cpA c1)).setRow (wz.heap.size + 1) #[.int .i64 0, .int .i64 0, .int .i64 0, .int .i64 0, .int .i64 0, .int .i64 0, .bool false, .int .i64 0]) (wz.heap.size + 1) #[.int .i64 0, .int .i64 0, .int .i64 0, .int .i64 0, .int .i64 0, .int .i64 0, .bool false, .int .i64 0] 52 := pt1.setRow
  have GG : Hid (Fr none' wz ((((wz.alloc (.cells (cpA zc) 30)).alloc (.cells #[.int .i64 0, .int .i64 0, .int .i64 0, .int .i64 0, .int .i64 0, .int .i64 0, .bool false, .int .i64 0] 52)).setRow wz.heap.size (cpA c1)).setRow (wz.heap.size + 1) #[.int .i64 0, .int .i64 0, .int .i64 0, .int .i64 0, .int .i64 0, .int .i64 0, .bool false, .int .i64 0]) ∧ Row ((((wz.alloc (.cells (cpA zc) 30)).alloc (.cells #[.int .i64 0, .int .i64 0, .int .i64 0, .int .i64 0, .int .i64 0, .int .i64 0, .bool false, .int .i64 0] 52)).setRow wz.heap.size (cpA c1)).setRow (wz.heap.size + 1) #[.int .i64 0, .int .i64 0, .int .i64 0, .int .i64 0, .int .i64 0, .int .i64 0, .bool false, .int .i64 0]) wz.heap.size (cpA c1) 30 ∧ Row ((((wz.alloc (.cells (cpA zc) 30)).alloc (.cells #[.int .i64 0, .int .i64 0, .int .i64 0, .int .i64 0, .int .i64 0, .int .i64 0, .bool false, .int .i64 0] 52)).setRow wz.heap.size (cpA c1)).setRow (wz.heap.size + 1) #[.int .i64 0, .int .i64 0, .int .i64 0, .int .i64 0, .int .i64 0, .int .i64 0, .bool false, .int .i64 0]) (wz.heap.size + 1) #[.int .i64 0, .int .i64 0, .int .i64 0, .int .i64 0, .int .i64 0, .int .i64 0, .bool false, .int .i64 0] 52) := ⟨g2, pc1, ptt⟩
  clear g1 g2 pc1 ptt pt0
  go_upto_region 12 with (first | refine wpList_store_row rfl 30 _ _ rfl wz.heap.size (cpA c1) rfl rfl 30 (cpA zc) pc0 ls lo ao ?_ | refine wpList_store_row rfl 52 _ _ rfl (wz.heap.size + 1) #[.int .i64 0, .int .i64 0, .int .i64 0, .int .i64 0, .int .i64 0, .int .i64 0, .bool false, .int .i64 0] rfl rfl 52 #[.int .i64 0, .int .i64 0, .int .i64 0, .int .i64 0, .int .i64 0, .int .i64 0, .bool false, .int .i64 0] pt1 size_trap rfl (by simp [Value.oneCell']) ?_)
  clear pc0 pt1 ls lo ao
  obtain ⟨g2, pc1, ptt⟩ := GG.out
  clear GG
  replace R0 := R0.keep g2 (fun h => h)
  replace pin := pin.keep g2 (fun h => h)
  replace f0 := f0.trans g2
  clear g2
  obtain ⟨t1', ht⟩ : ∃ u, u = ((((wz.alloc (.cells (cpA zc) 30)).alloc (.cells #[.int .i64 0, .int .i64 0, .int .i64 0, .int .i64 0, .int .i64 0, .int .i64 0, .bool false, .int .i64 0] 52)).setRow wz.heap.size (cpA c1)).setRow (wz.heap.size + 1) #[.int .i64 0, .int .i64 0, .int .i64 0, .int .i64 0, .int .i64 0, .int .i64 0, .bool false, .int .i64 0]) := ⟨_, rfl⟩
  rw [← ht] at f0 pc1 ptt R0 pin ⊢
  clear ht
  obtain ⟨hc1, hh1⟩ : ∃ q, q = wz.heap.size := ⟨_, rfl⟩
  obtain ⟨ht1, hh2⟩ : ∃ q, q = wz.heap.size + 1 := ⟨_, rfl⟩
  rw [← hh2] at ptt ⊢
  rw [← hh1] at pc1 lz ⊢
  have LL2 : Hid (gin < hc1 ∧ hc1 < ht1) := (show _ ∧ _ by omega)
  clear hh1 hh2 lz
  obtain ⟨x, hx⟩ : ∃ x, x = r b := ⟨_, rfl⟩
  obtain ⟨y, hy⟩ : ∃ y, y = r c := ⟨_, rfl⟩
  have cb : t1'.cell? ⟨G, b, none⟩ = some (.int .u32 ((x : Nat) : Int)) := by rw [R0.cell, rgA_at r (by omega), hx]
  have cc : t1'.cell? ⟨G, c, none⟩ = some (.int .u32 ((y : Nat) : Int)) := by rw [R0.cell, rgA_at r (by omega), hy]
  have HXY : Hid (x = r b ∧ y = r c) := ⟨hx, hy⟩
  have hx1 : x < 4294967296 := by rw [hx]; exact HRB.out b
  have hy1 : y < 4294967296 := by rw [hy]; exact HRB.out c
  have i1 : 0 ≤ (b : Int) ∧ (b : Int) < 16 := by omega
  have i2 : 0 ≤ (c : Int) ∧ (c : Int) < 16 := by omega
  clear hx hy
  obtain ⟨v, hvv⟩ : ∃ v, v = (rk o i (r 0) (r 0)) := ⟨_, rfl⟩
  have HVV : Hid (v = (rk o i (r 0) (r 0))) := hvv
  clear hvv
  go_upto_block 0 with fail
  clear cb cc
  go_cut [22] from 100 to 125 (fun z wx => z = .int .u32 ((v : Nat) : Int) ∧ wx = t1')
  case first =>
    have s2 : ((o : Int) == 2) = false := by have := HO.out; simp; omega
    have s3 : ((o : Int) == 3) = false := by have := HO.out; simp; omega
    have s4 : ((o : Int) == 4) = false := by have := HO.out; simp; omega
    have s5 : ((o : Int) == 5) = false := by have := HO.out; simp; omega
    have s6 : ((o : Int) == 6) = false := by have := HO.out; simp; omega
    have HE : Hid (v = i) := (show _ = _ from by rw [HVV.out, HO.out, rk_1])
    go_wp2_with fail
    go_meet
    exact ⟨by rw [HE.out], rfl⟩
  case rest =>
  obtain ⟨rfl, hw⟩ := hcut
  replace hw := hw.symm
  subst hw
  have i3 : 0 ≤ (a : Int) ∧ (a : Int) < 16 := by omega
  have q1 : t1'.cell? ⟨gin, a, none⟩ = some (.int .u32 ((r a : Nat) : Int)) := by rw [pin.cell, cpA_get, cpL_r _ (by omega)]; rfl
  have q2 := pin.frozen a
  have q3 : t1'.cell? ⟨gin, 16, none⟩ = some (.int .i64 0) := by rw [pin.cell, cpA_get, cpL_pc]; rfl
  have q4 := pin.frozen 16
  have g2 : Fr (at' gin) t1' ((t1'.setCell ⟨gin, a, none⟩ (.int .u32 ((v : Nat) : Int))).setCell ⟨gin, 16, none⟩ (.int .i64 4)) := fr_set _ gin 16 _ (fr_set _ gin a _ (Fr.refl _ _))
  have pk : Row ((t1'.setCell ⟨gin, a, none⟩ (.int .u32 ((v : Nat) : Int))).setCell ⟨gin, 16, none⟩ (.int .i64 4)) gin (cpA c1) 30 := by
    have := (pin.setCell a (.int .u32 ((v : Nat) : Int))).setCell 16 (.int .i64 4)
    rw [cpA_setR _ (by omega), cpA_setP] at this
    rw [HC1.out, ← HVV.out]
    exact this
  have GG : Hid (Fr (at' gin) t1' ((t1'.setCell ⟨gin, a, none⟩ (.int .u32 ((v : Nat) : Int))).setCell ⟨gin, 16, none⟩ (.int .i64 4)) ∧ Row ((t1'.setCell ⟨gin, a, none⟩ (.int .u32 ((v : Nat) : Int))).setCell ⟨gin, 16, none⟩ (.int .i64 4)) gin (cpA c1) 30) := ⟨g2, pk⟩
  clear g2 pk
  go_upto_region 28 with fail
  clear q1 q2 q3 q4
  obtain ⟨g2, pk⟩ := GG.out
  clear GG pin R0
  replace pc1 := pc1.keep g2 (ne_new' (by have := LL2.out; omega))
  replace ptt := ptt.keep g2 (ne_new' (by have := LL2.out; omega))
  replace f0 := f0.newer g2 (by have h1 := LL.out; have h2 := HG.out; have h3 := II.out O.B.p (Or.inr rfl); omega)
  clear g2
  obtain ⟨tt, ht⟩ : ∃ u, u = (t1'.setCell ⟨gin, a, none⟩ (.int .u32 ((v : Nat) : Int))).setCell ⟨gin, 16, none⟩ (.int .i64 4) := ⟨_, rfl⟩
  rw [← ht] at f0 pk pc1 ptt ⊢
  clear ht
  obtain ⟨q0, q1, q2, q3, q4, q5, q6, q7⟩ := cells8 ptt
  have hne : ∀ w, Sem.run Tryz.prog (binOp .eql 30 (.agg (cpA c1)) (.agg (cpA c1))) w = .ok (.bool true) w := fun w => by rw [eql_cpu, ceq_self]
  go_wp2_with (refine load_partG rfl 30 _ rfl _ rfl _ _ (by first | exact cp_at pc1 | exact cp_at pk) Tryz.underlying30 rfl (by exact size_cpA _) ?_)
  go_ret
  exact ⟨rfl, f0⟩

end Go.Proofs.YtpdkefihhbnmeaaGreat

/- CpuReckTwo -/
namespace Go.Proofs.YtpdkefihhbnmeaaGreat
open Go.RowKit

set_option maxRecDepth 100000 in
set_option maxHeartbeats 16000000 in
theorem reck_two (w : World) (o a b c i : Nat) (r : Nat → Nat) (hr : ∀ k, r k < 4294967296) (ho : 2 ≤ o ∧ o ≤ 6) (ha : a ≤ 15) (hb : b ≤ 15) (hc : c ≤ 15) (hi : i ≤ 65535) :
    Calls Tryz.prog 7 #[.int .i64 (o : Int), .agg (rgA r), .int .i64 (a : Int), .int .i64 (b : Int), .int .i64 (c : Int), .int .i64 (i : Int)] w fun e w' => e = .returned (.bool true) ∧ Fr none' w w' := by
  have u1 : decide ((o : Int) < 1) = false := decide_eq_false (by omega)
  have u2 : decide (6 < (o : Int)) = false := decide_eq_false (by omega)
  have u3 : decide ((a : Int) < 0) = false := decide_eq_false (by omega)
  have u4 : decide (15 < (a : Int)) = false := decide_eq_false (by omega)
  have u5 : decide ((b : Int) < 0) = false := decide_eq_false (by omega)
  have u6 : decide (15 < (b : Int)) = false := decide_eq_false (by omega)
  have u7 : decide ((c : Int) < 0) = false := decide_eq_false (by omega)
  have u8 : decide (15 < (c : Int)) = false := decide_eq_false (by omega)
  have u9 : decide ((i : Int) < 0) = false := decide_eq_false (by omega)
  have u10 : decide (65535 < (i : Int)) = false := decide_eq_false (by omega)
  have t1 : ((o : Int) == 1) = false := by simp; omega
  have hz : ∀ w, Sem.run Tryz.prog (zeroValue 30) w = .ok (.agg (cpA zc)) w := zero_cpu
  have R0 := row_alloc w (rgA r) 27
  have f0 := (Fr.refl none' w).alloc (.cells (rgA r) 27)
  go_enter Tryz.func7, Tryz.ntmps7
  go_wp2_with fail
  refine (awake_any _).mono ?_
  rintro e w1 ⟨rfl, g1⟩
  replace f0 := f0.trans g1
  replace R0 := R0.keep g1 (fun h => h)
  clear g1
  have HRB : Hid (∀ k, r k < 4294967296) := hr
  have HW : Hid (i_encW (o : Int) (a : Int) (b : Int) (c : Int) 0 = ((WR o a b c 0) : Nat) ∧ (WR o a b c 0) < 4294967296 ∧ rightI (o : Int) (a : Int) (b : Int) (c : Int) 0 = true) := (show _ ∧ _ ∧ _ from by
    have hR : rightI (o : Int) (a : Int) (b : Int) (c : Int) 0 = true := right2 ho.1 ho.2 (by omega) (by omega) (by omega)
    refine ⟨?_, ?_, hR⟩
    · exact encR hR
    · unfold WR; omega)
  have HO : Hid (2 ≤ o ∧ o ≤ 6) := ho
  clear hr ho
  go_wp2_with fail
  refine (example_any _ (o : Int) (a : Int) (b : Int) (c : Int) 0 false _ HW.out.1 HW.out.2.1).mono ?_
  rintro e w2 ⟨s0, s1, rfl, g2, hP, hQ⟩
  have gA := ((Fr.refl none' w1).alloc (.cells #[.int .i64 (o : Int), .int .i64 (a : Int), .int .i64 (b : Int), .int .i64 (c : Int), .int .i64 0] 83)).trans g2
  replace f0 := f0.trans gA
  replace R0 := R0.keep gA (fun h => h)
  have HL : Hid (w.heap.size < w2.heap.size) := R0.lt
  clear gA g2
  go_wp2_with fail
  refine (exmade_f _ _ _ (WR o a b c 0) hP hQ).mono ?_
  rintro e w3 ⟨O, hv, rfl, g3, hB⟩
  replace f0 := f0.trans g3
  replace R0 := R0.keep g3 (fun h => h)
  have II : Hid (∀ k, (O.B.s k ∨ k = O.B.p) → w2.heap.size ≤ k ∧ k < w3.heap.size) := hB.in
  have H1 := hB.m.keep0 ((Fr.refl none' w3).alloc (.cells #[.pointer (some ⟨O.B.p, 0, none⟩), .pointer (some ⟨O.B.bt, 0, none⟩), .pointer none, .pointer (some ⟨O.pr, 0, none⟩), .pointer (some ⟨O.bu, 0, none⟩), .pointer none] 44))
  have r1 := row_alloc w3 #[.pointer (some ⟨O.B.p, 0, none⟩), .pointer (some ⟨O.B.bt, 0, none⟩), .pointer none, .pointer (some ⟨O.pr, 0, none⟩), .pointer (some ⟨O.bu, 0, none⟩), .pointer none] 44
  have g4 := (Fr.refl none' w3).alloc (.cells #[.pointer (some ⟨O.B.p, 0, none⟩), .pointer (some ⟨O.B.bt, 0, none⟩), .pointer none, .pointer (some ⟨O.pr, 0, none⟩), .pointer (some ⟨O.bu, 0, none⟩), .pointer none] 44)
  replace f0 := f0.trans g4
  replace R0 := R0.keep g4 (fun h => h)
  clear g3 g4 hB hP hQ
  go_upto_region 10 with fail
  obtain ⟨w4, hw4⟩ : ∃ u, u = w3.alloc (.cells #[.pointer (some ⟨O.B.p, 0, none⟩), .pointer (some ⟨O.B.bt, 0, none⟩), .pointer none, .pointer (some ⟨O.pr, 0, none⟩), .pointer (some ⟨O.bu, 0, none⟩), .pointer none] 44) := ⟨_, rfl⟩
  obtain ⟨g, hg⟩ : ∃ g, g = w3.heap.size := ⟨_, rfl⟩
  rw [← hw4] at f0 R0 H1 r1 ⊢
  rw [← hg] at r1 II ⊢
  clear hw4 hg
  obtain ⟨G, hG⟩ : ∃ G, G = w.heap.size := ⟨_, rfl⟩
  rw [← hG] at R0 HL ⊢
  have HG : Hid (G = w.heap.size) := hG
  clear hG
  go_step
  refine wpList_load_part rfl 27 _ rfl G rfl (rgA r) _ (fun j v hv => (R0.cell j).trans hv) Tryz.underlying27 rfl size_regs ?_
  refine wpList_regs rfl (.tmp 82) rfl rfl ?_
  have pi0 := row_alloc w4 (cpA zc) 30
  have ls := size_cpA (rcp r)
  have lo : (cpA zc).size = (cpA (rcp r)).size := by rw [cpA_size, cpA_size]
  have ao := cpA_one (rcp r)
  have lz : g < w4.heap.size := r1.lt
  have g5 : Fr none' w4 ((w4.alloc (.cells (cpA zc) 30)).setRow w4.heap.size (cpA (rcp r))) := ((Fr.refl none' w4).alloc _).newer (fr_row _ w4.heap.size _) (Nat.le_refl _)
  have pin : Row ((w4.alloc (.cells (cpA zc) 30)).setRow w4.heap.size (cpA (rcp r))) w4.heap.size (cpA (rcp r)) 30 := pi0.setRow
  have GG : Hid (Fr none' w4 ((w4.alloc (.cells (cpA zc) 30)).setRow w4.heap.size (cpA (rcp r))) ∧ Row ((w4.alloc (.cells (cpA zc) 30)).setRow w4.heap.size (cpA (rcp r))) w4.heap.size (cpA (rcp r)) 30) := ⟨g5, pin⟩
  clear g5 pin
  go_upto_region 11 with (refine wpList_store_row rfl 30 _ _ rfl w4.heap.size (cpA (rcp r)) rfl rfl 30 (cpA zc) pi0 ls lo ao ?_)
  clear pi0 ls lo ao
  obtain ⟨g5, pin⟩ := GG.out
  clear GG
  replace R0 := R0.keep g5 (fun h => h)
  replace r1 := r1.keep g5 (fun h => h)
  replace H1 := H1.keep0 g5
  replace f0 := f0.trans g5
  clear g5
  obtain ⟨ti, ht⟩ : ∃ u, u = (w4.alloc (.cells (cpA zc) 30)).setRow w4.heap.size (cpA (rcp r)) := ⟨_, rfl⟩
  rw [← ht] at f0 pin R0 r1 H1 ⊢
  clear ht
  obtain ⟨gin, hh1⟩ : ∃ q, q = w4.heap.size := ⟨_, rfl⟩
  rw [← hh1] at pin lz ⊢
  clear hh1
  have LL : Hid (G < w2.heap.size ∧ g < gin) := (show _ ∧ _ from ⟨HL.out, lz⟩)
  clear lz HL
  have pinc := cp_at pin
  obtain ⟨k0, k1, k2, k3, k4, k5⟩ := cells6 r1
  go_wp2_with (refine wpList_load_part rfl 30 _ rfl gin rfl (cpA (rcp r)) _ pinc Tryz.underlying30 rfl (size_cpA (rcp r)) ?_)
  clear pinc
  obtain ⟨c1, hc1⟩ : ∃ c1, c1 = ((rcp r).setP 4).setR a (rk o 0 (r b) (r c)) := ⟨_, rfl⟩
  have hst := reck_step (o := o) (a := a) (b := b) (c := c) (i := 0) HW.out.2.2 (by have := HO.out; omega) (by have := HO.out; omega) HW.out.2.1 (rcp r) rfl
  refine (exSf _ O.B (exB (WR o a b c 0)) (rcp r) c1 _root_.Go.Proofs.YtpdkefihhbnmeaaGreat.t0 #[.int .i64 0, .int .i64 0, .int .i64 0, .int .i64 0, .int .i64 0, .int .i64 0, .bool false, .int .i64 0] hv (rcp_ok HRB.out) H1 (by rw [hc1]; exact hst) rfl).mono ?_
  rintro e wz ⟨rfl, g1⟩
  have HC1 : Hid (c1 = ((rcp r).setP 4).setR a (rk o 0 (r b) (r c))) := hc1
  clear k0 k1 k2 k3 k4 k5 H1 r1 hst hc1
  replace R0 := R0.keep g1 (fun e => by have h1 := II.out G (Or.inl e); have h2 := LL.out; omega)
  replace pin := pin.keep g1 (fun e => by have h1 := II.out gin (Or.inl e); have h2 := LL.out; omega)
  replace f0 : Fr none' w wz := ⟨g1.os.trans f0.os, g1.tape.trans f0.tape, g1.output.trans f0.output, Nat.le_trans f0.size g1.size, fun k hk hn => by
    rw [g1.block k (Nat.lt_of_lt_of_le hk f0.size) (fun e => by have h1 := II.out k (Or.inl e); have h2 := LL.out; have h3 := HG.out; omega)]; exact f0.block k hk hn⟩
  have pc0 : Row ((wz.alloc (.cells (cpA zc) 30)).alloc (.cells #[.int .i64 0, .int .i64 0, .int .i64 0, .int .i64 0, .int .i64 0, .int .i64 0, .bool false, .int .i64 0] 52)) wz.heap.size (cpA zc) 30 := (row_alloc wz (cpA zc) 30).alloc _
  have pt0 : Row ((wz.alloc (.cells (cpA zc) 30)).alloc (.cells #[.int .i64 0, .int .i64 0, .int .i64 0, .int .i64 0, .int .i64 0, .int .i64 0, .bool false, .int .i64 0] 52)) (wz.heap.size + 1) #[.int .i64 0, .int .i64 0, .int .i64 0, .int .i64 0, .int .i64 0, .int .i64 0, .bool false, .int .i64 0] 52 := row_at (by simp)
  have pt1 := pt0.keep (fr_row _ wz.heap.size (cpA c1)) (ne_new' (Nat.lt_succ_self _))
  have ls := size_cpA c1
  have lo : (cpA zc).size = (cpA c1).size := by rw [cpA_size, cpA_size]
  have ao := cpA_one c1
  have lz : gin < wz.heap.size := pin.lt
  have g2 : Fr none' wz ((((wz.alloc (.cells (cpA zc) 30)).alloc (.cells #[.int .i64 0, .int .i64 0, .int .i64 0, .int .i64 0, .int .i64 0, .int .i64 0, .bool false, .int .i64 0] 52)).setRow wz.heap.size (cpA c1)).setRow (wz.heap.size + 1) #[.int .i64 0, .int .i64 0, .int .i64 0, .int .i64 0, .int .i64 0, .int .i64 0, .bool false, .int .i64 0]) := (((((Fr.refl none' wz).alloc _).alloc _).newer (fr_row _ wz.heap.size (cpA c1)) (Nat.le_refl _))).newer (fr_row _ (wz.heap.size + 1) _) (Nat.le_succ _)
  have pc1 : Row ((((wz.alloc (.cells (cpA zc) 30)).alloc (.cells #[.int .i64 0, .int .i64 0, .int .i64 0, .int .i64 0, .int .i64 0, .int .i64 0, .bool false, .int .i64 0] 52)).setRow wz.heap.size (cpA c1)).setRow (wz.heap.size + 1) #[.int .i64 0, .int .i64 0, .int .i64 0, .int .i64 0, .int .i64 0, .int .i64 0, .bool false, .int .i64 0]) wz.heap.size (cpA c1) 30 := (pc0.setRow).keep (fr_row _ (wz.heap.size + 1) _) (ne_new (Nat.lt_succ_self _))
  have ptt : Row ((((wz.alloc (.cells (cpA zc) 30)).alloc (.cells #[.int .i64 0, .int .i64 0, .int .i64 0, .int .i64 0, .int .i64 0, .int .i64 0, .bool false, .int .i64 0] 52)).setRow wz.heap.size (cpA c1)).setRow (wz.heap.size + 1) #[.int .i64 0, .int .i64 0, .int .i64 0, .int .i64 0, .int .i64 0, .int .i64 0, .bool false, .int .i64 0]) (wz.heap.size + 1) #[.int .i64 0, .int .i64 0, .int .i64 0, .int .i64 0, .int .i64 0, .int .i64 0, .bool false, .int .i64 0] 52 := pt1.setRow
  have GG : Hid (Fr none' wz ((((wz.alloc (.cells (cpA zc) 30)).alloc (.cells #[.int .i64 0, .int .i64 0, .int .i64 0, .int .i64 0, .int .i64 0, .int .i64 0, .bool false, .int .i64 0] 52)).setRow wz.heap.size (cpA c1)).setRow (wz.heap.size + 1) #[.int .i64 0, .int .i64 0, .int .i64 0, .int .i64 0, .int .i64 0, .int .i64 0, .bool false, .int .i64 0]) ∧ Row ((((wz.alloc (.cells (cpA zc) 30)).alloc (.cells #[.int .i64 0, .int .i64 0, .int .i64 0, .int .i64 0, .int .i64 0, .int .i64 0, .bool false, .int .i64 0] 52)).setRow wz.heap.size (cpA c1)).setRow (wz.heap.size + 1) #[.int .i64 0, .int .i64 0, .int .i64 0, .int .i64 0, .int .i64 0, .int .i64 0, .bool false, .int .i64 0]) wz.heap.size (cpA c1) 30 ∧ Row ((((wz.alloc (.cells (cpA zc) 30)).alloc (.cells #[.int .i64 0, .int .i64 0, .int .i64 0, .int .i64 0, .int .i64 0, .int .i64 0, .bool false, .int .i64 0] 52)).setRow wz.heap.size (cpA c1)).setRow (wz.heap.size + 1) #[.int .i64 0, .int .i64 0, .int .i64 0, .int .i64 0, .int .i64 0, .int .i64 0, .bool false, .int .i64 0]) (wz.heap.size + 1) #[.int .i64 0, .int .i64 0, .int .i64 0, .int .i64 0, .int .i64 0, .int .i64 0, .bool false, .int .i64 0] 52) := ⟨g2, pc1, ptt⟩
  clear g1 g2 pc1 ptt pt0
  go_upto_region 12 with (first | refine wpList_store_row rfl 30 _ _ rfl wz.heap.size (cpA c1) rfl rfl 30 (cpA zc) pc0 ls lo ao ?_ | refine wpList_store_row rfl 52 _ _ rfl (wz.heap.size + 1) #[.int .i64 0, .int .i64 0, .int .i64 0, .int .i64 0, .int .i64 0, .int .i64 0, .bool false, .int .i64 0] rfl rfl 52 #[.int .i64 0, .int .i64 0, .int .i64 0, .int .i64 0, .int .i64 0, .int .i64 0, .bool false, .int .i64 0] pt1 size_trap rfl (by simp [Value.oneCell']) ?_)
  clear pc0 pt1 ls lo ao
  obtain ⟨g2, pc1, ptt⟩ := GG.out
  clear GG
  replace R0 := R0.keep g2 (fun h => h)
  replace pin := pin.keep g2 (fun h => h)
  replace f0 := f0.trans g2
  clear g2
  obtain ⟨t1', ht⟩ : ∃ u, u = ((((wz.alloc (.cells (cpA zc) 30)).alloc (.cells #[.int .i64 0, .int .i64 0, .int .i64 0, .int .i64 0, .int .i64 0, .int .i64 0, .bool false, .int .i64 0] 52)).setRow wz.heap.size (cpA c1)).setRow (wz.heap.size + 1) #[.int .i64 0, .int .i64 0, .int .i64 0, .int .i64 0, .int .i64 0, .int .i64 0, .bool false, .int .i64 0]) := ⟨_, rfl⟩
  rw [← ht] at f0 pc1 ptt R0 pin ⊢
  clear ht
  obtain ⟨hc1, hh1⟩ : ∃ q, q = wz.heap.size := ⟨_, rfl⟩
  obtain ⟨ht1, hh2⟩ : ∃ q, q = wz.heap.size + 1 := ⟨_, rfl⟩
  rw [← hh2] at ptt ⊢
  rw [← hh1] at pc1 lz ⊢
  have LL2 : Hid (gin < hc1 ∧ hc1 < ht1) := (show _ ∧ _ by omega)
  clear hh1 hh2 lz
  obtain ⟨x, hx⟩ : ∃ x, x = r b := ⟨_, rfl⟩
  obtain ⟨y, hy⟩ : ∃ y, y = r c := ⟨_, rfl⟩
  have cb : t1'.cell? ⟨G, b, none⟩ = some (.int .u32 ((x : Nat) : Int)) := by rw [R0.cell, rgA_at r (by omega), hx]
  have cc : t1'.cell? ⟨G, c, none⟩ = some (.int .u32 ((y : Nat) : Int)) := by rw [R0.cell, rgA_at r (by omega), hy]
  have HXY : Hid (x = r b ∧ y = r c) := ⟨hx, hy⟩
  have hx1 : x < 4294967296 := by rw [hx]; exact HRB.out b
  have hy1 : y < 4294967296 := by rw [hy]; exact HRB.out c
  have i1 : 0 ≤ (b : Int) ∧ (b : Int) < 16 := by omega
  have i2 : 0 ≤ (c : Int) ∧ (c : Int) < 16 := by omega
  clear hx hy
  obtain ⟨v, hvv⟩ : ∃ v, v = (rk o 0 (r b) (r c)) := ⟨_, rfl⟩
  have HVV : Hid (v = (rk o 0 (r b) (r c))) := hvv
  clear hvv
  go_upto_block 0 with fail
  clear cb cc
  go_cut [22] from 100 to 125 (fun z wx => z = .int .u32 ((v : Nat) : Int) ∧ wx = t1')
  case first =>
    have hk : o = 2 ∨ o = 3 ∨ o = 4 ∨ o = 5 ∨ o = 6 := by have := HO.out; omega
    rcases hk with hk | hk | hk | hk | hk
    · have s2 : ((o : Int) == 2) = true := by simp; omega
      have HE : Hid (v = gAdd x y) := (show _ = _ from by rw [HVV.out, hk, rk_2, HXY.out.1, HXY.out.2])
      clear hk
      go_wp2_with fail
      go_meet
      refine ⟨congrArg (Value.int .u32) ?_, rfl⟩
      rw [HE.out]; unfold gAdd; omega
    · have s2 : ((o : Int) == 2) = false := by simp; omega
      have s3 : ((o : Int) == 3) = true := by simp; omega
      have HE : Hid (v = gSub x y) := (show _ = _ from by rw [HVV.out, hk, rk_3, HXY.out.1, HXY.out.2])
      clear hk
      go_wp2_with fail
      go_meet
      refine ⟨congrArg (Value.int .u32) ?_, rfl⟩
      rw [HE.out]; unfold gSub; omega
    · have s2 : ((o : Int) == 2) = false := by simp; omega
      have s3 : ((o : Int) == 3) = false := by simp; omega
      have s4 : ((o : Int) == 4) = true := by simp; omega
      have HE : Hid (v = gAnd x y) := (show _ = _ from by rw [HVV.out, hk, rk_4, HXY.out.1, HXY.out.2])
      clear hk
      have e1 := u32_and_nat x y hx1 hy1
      go_wp2_with fail
      go_meet
      exact ⟨by rw [HE.out]; rfl, rfl⟩
    · have s2 : ((o : Int) == 2) = false := by simp; omega
      have s3 : ((o : Int) == 3) = false := by simp; omega
      have s4 : ((o : Int) == 4) = false := by simp; omega
      have s5 : ((o : Int) == 5) = true := by simp; omega
      have HE : Hid (v = gXor x y) := (show _ = _ from by rw [HVV.out, hk, rk_5, HXY.out.1, HXY.out.2])
      clear hk
      have e1 := u32_xor_nat x y hx1 hy1
      go_wp2_with fail
      go_meet
      exact ⟨by rw [HE.out]; rfl, rfl⟩
    · have s2 : ((o : Int) == 2) = false := by simp; omega
      have s3 : ((o : Int) == 3) = false := by simp; omega
      have s4 : ((o : Int) == 4) = false := by simp; omega
      have s5 : ((o : Int) == 5) = false := by simp; omega
      have s6 : ((o : Int) == 6) = true := by simp; omega
      have HE : Hid (v = gShl x y) := (show _ = _ from by rw [HVV.out, hk, rk_6, HXY.out.1, HXY.out.2])
      clear hk
      go_wp2_with fail
      go_meet
      exact ⟨by rw [HE.out]; rfl, rfl⟩
  case rest =>
  obtain ⟨rfl, hw⟩ := hcut
  replace hw := hw.symm
  subst hw
  have i3 : 0 ≤ (a : Int) ∧ (a : Int) < 16 := by omega
  have q1 : t1'.cell? ⟨gin, a, none⟩ = some (.int .u32 ((r a : Nat) : Int)) := by rw [pin.cell, cpA_get, cpL_r _ (by omega)]; rfl
  have q2 := pin.frozen a
  have q3 : t1'.cell? ⟨gin, 16, none⟩ = some (.int .i64 0) := by rw [pin.cell, cpA_get, cpL_pc]; rfl
  have q4 := pin.frozen 16
  have g2 : Fr (at' gin) t1' ((t1'.setCell ⟨gin, a, none⟩ (.int .u32 ((v : Nat) : Int))).setCell ⟨gin, 16, none⟩ (.int .i64 4)) := fr_set _ gin 16 _ (fr_set _ gin a _ (Fr.refl _ _))
  have pk : Row ((t1'.setCell ⟨gin, a, none⟩ (.int .u32 ((v : Nat) : Int))).setCell ⟨gin, 16, none⟩ (.int .i64 4)) gin (cpA c1) 30 := by
    have := (pin.setCell a (.int .u32 ((v : Nat) : Int))).setCell 16 (.int .i64 4)
    rw [cpA_setR _ (by omega), cpA_setP] at this
    rw [HC1.out, ← HVV.out]
    exact this
  have GG : Hid (Fr (at' gin) t1' ((t1'.setCell ⟨gin, a, none⟩ (.int .u32 ((v : Nat) : Int))).setCell ⟨gin, 16, none⟩ (.int .i64 4)) ∧ Row ((t1'.setCell ⟨gin, a, none⟩ (.int .u32 ((v : Nat) : Int))).setCell ⟨gin, 16, none⟩ (.int .i64 4)) gin (cpA c1) 30) := ⟨g2, pk⟩
  clear g2 pk
  go_upto_region 28 with fail
  clear q1 q2 q3 q4
  obtain ⟨g2, pk⟩ := GG.out
  clear GG pin R0
  replace pc1 := pc1.keep g2 (ne_new' (by have := LL2.out; omega))
  replace ptt := ptt.keep g2 (ne_new' (by have := LL2.out; omega))
  replace f0 := f0.newer g2 (by have h1 := LL.out; have h2 := HG.out; have h3 := II.out O.B.p (Or.inr rfl); omega)
  clear g2
  obtain ⟨tt, ht⟩ : ∃ u, u = (t1'.setCell ⟨gin, a, none⟩ (.int .u32 ((v : Nat) : Int))).setCell ⟨gin, 16, none⟩ (.int .i64 4) := ⟨_, rfl⟩
  rw [← ht] at f0 pk pc1 ptt ⊢
  clear ht
  obtain ⟨q0, q1, q2, q3, q4, q5, q6, q7⟩ := cells8 ptt
  have hne : ∀ w, Sem.run Tryz.prog (binOp .eql 30 (.agg (cpA c1)) (.agg (cpA c1))) w = .ok (.bool true) w := fun w => by rw [eql_cpu, ceq_self]
  go_wp2_with (refine load_partG rfl 30 _ rfl _ rfl _ _ (by first | exact cp_at pc1 | exact cp_at pk) Tryz.underlying30 rfl (by exact size_cpA _) ?_)
  go_ret
  exact ⟨rfl, f0⟩

end Go.Proofs.YtpdkefihhbnmeaaGreat

/- CpuReckOut -/
namespace Go.Proofs.YtpdkefihhbnmeaaGreat
open Go.RowKit

set_option maxRecDepth 100000 in
set_option maxHeartbeats 4000000 in
theorem reck_out0 (w : World) (o a b c i : Int) (r : Nat → Nat)  (h0 : o < 1) :
    Calls Tryz.prog 7 #[.int .i64 o, .agg (rgA r), .int .i64 a, .int .i64 b, .int .i64 c, .int .i64 i] w fun e w' => e = .returned (.bool true) ∧ Fr none' w w' := by
  have u0 : decide (o < 1) = true := decide_eq_true h0
  clear h0
  have f0 := (Fr.refl none' w).alloc (.cells (rgA r) 27)
  go_enter Tryz.func7, Tryz.ntmps7
  go_wp2_with fail
  refine (awake_any _).mono ?_
  rintro e w1 ⟨rfl, g1⟩
  replace f0 := f0.trans g1
  clear g1
  go_wp2_with fail
  go_ret
  exact ⟨rfl, f0⟩

set_option maxRecDepth 100000 in
set_option maxHeartbeats 4000000 in
theorem reck_out1 (w : World) (o a b c i : Int) (r : Nat → Nat) (h0 : ¬ (o < 1)) (h1 : 6 < o) :
    Calls Tryz.prog 7 #[.int .i64 o, .agg (rgA r), .int .i64 a, .int .i64 b, .int .i64 c, .int .i64 i] w fun e w' => e = .returned (.bool true) ∧ Fr none' w w' := by
  have u0 : decide (o < 1) = false := decide_eq_false h0
  have u1 : decide (6 < o) = true := decide_eq_true h1
  clear h0 h1
  have f0 := (Fr.refl none' w).alloc (.cells (rgA r) 27)
  go_enter Tryz.func7, Tryz.ntmps7
  go_wp2_with fail
  refine (awake_any _).mono ?_
  rintro e w1 ⟨rfl, g1⟩
  replace f0 := f0.trans g1
  clear g1
  go_wp2_with fail
  go_ret
  exact ⟨rfl, f0⟩

set_option maxRecDepth 100000 in
set_option maxHeartbeats 4000000 in
theorem reck_out2 (w : World) (o a b c i : Int) (r : Nat → Nat) (h0 : ¬ (o < 1)) (h1 : ¬ (6 < o)) (h2 : a < 0) :
    Calls Tryz.prog 7 #[.int .i64 o, .agg (rgA r), .int .i64 a, .int .i64 b, .int .i64 c, .int .i64 i] w fun e w' => e = .returned (.bool true) ∧ Fr none' w w' := by
  have u0 : decide (o < 1) = false := decide_eq_false h0
  have u1 : decide (6 < o) = false := decide_eq_false h1
  have u2 : decide (a < 0) = true := decide_eq_true h2
  clear h0 h1 h2
  have f0 := (Fr.refl none' w).alloc (.cells (rgA r) 27)
  go_enter Tryz.func7, Tryz.ntmps7
  go_wp2_with fail
  refine (awake_any _).mono ?_
  rintro e w1 ⟨rfl, g1⟩
  replace f0 := f0.trans g1
  clear g1
  go_wp2_with fail
  go_ret
  exact ⟨rfl, f0⟩

set_option maxRecDepth 100000 in
set_option maxHeartbeats 4000000 in
theorem reck_out3 (w : World) (o a b c i : Int) (r : Nat → Nat) (h0 : ¬ (o < 1)) (h1 : ¬ (6 < o)) (h2 : ¬ (a < 0)) (h3 : 15 < a) :
    Calls Tryz.prog 7 #[.int .i64 o, .agg (rgA r), .int .i64 a, .int .i64 b, .int .i64 c, .int .i64 i] w fun e w' => e = .returned (.bool true) ∧ Fr none' w w' := by
  have u0 : decide (o < 1) = false := decide_eq_false h0
  have u1 : decide (6 < o) = false := decide_eq_false h1
  have u2 : decide (a < 0) = false := decide_eq_false h2
  have u3 : decide (15 < a) = true := decide_eq_true h3
  clear h0 h1 h2 h3
  have f0 := (Fr.refl none' w).alloc (.cells (rgA r) 27)
  go_enter Tryz.func7, Tryz.ntmps7
  go_wp2_with fail
  refine (awake_any _).mono ?_
  rintro e w1 ⟨rfl, g1⟩
  replace f0 := f0.trans g1
  clear g1
  go_wp2_with fail
  go_ret
  exact ⟨rfl, f0⟩

set_option maxRecDepth 100000 in
set_option maxHeartbeats 4000000 in
theorem reck_out4 (w : World) (o a b c i : Int) (r : Nat → Nat) (h0 : ¬ (o < 1)) (h1 : ¬ (6 < o)) (h2 : ¬ (a < 0)) (h3 : ¬ (15 < a)) (h4 : b < 0) :
    Calls Tryz.prog 7 #[.int .i64 o, .agg (rgA r), .int .i64 a, .int .i64 b, .int .i64 c, .int .i64 i] w fun e w' => e = .returned (.bool true) ∧ Fr none' w w' := by
  have u0 : decide (o < 1) = false := decide_eq_false h0
  have u1 : decide (6 < o) = false := decide_eq_false h1
  have u2 : decide (a < 0) = false := decide_eq_false h2
  have u3 : decide (15 < a) = false := decide_eq_false h3
  have u4 : decide (b < 0) = true := decide_eq_true h4
  clear h0 h1 h2 h3 h4
  have f0 := (Fr.refl none' w).alloc (.cells (rgA r) 27)
  go_enter Tryz.func7, Tryz.ntmps7
  go_wp2_with fail
  refine (awake_any _).mono ?_
  rintro e w1 ⟨rfl, g1⟩
  replace f0 := f0.trans g1
  clear g1
  go_wp2_with fail
  go_ret
  exact ⟨rfl, f0⟩

set_option maxRecDepth 100000 in
set_option maxHeartbeats 4000000 in
theorem reck_out5 (w : World) (o a b c i : Int) (r : Nat → Nat) (h0 : ¬ (o < 1)) (h1 : ¬ (6 < o)) (h2 : ¬ (a < 0)) (h3 : ¬ (15 < a)) (h4 : ¬ (b < 0)) (h5 : 15 < b) :
    Calls Tryz.prog 7 #[.int .i64 o, .agg (rgA r), .int .i64 a, .int .i64 b, .int .i64 c, .int .i64 i] w fun e w' => e = .returned (.bool true) ∧ Fr none' w w' := by
  have u0 : decide (o < 1) = false := decide_eq_false h0
  have u1 : decide (6 < o) = false := decide_eq_false h1
  have u2 : decide (a < 0) = false := decide_eq_false h2
  have u3 : decide (15 < a) = false := decide_eq_false h3
  have u4 : decide (b < 0) = false := decide_eq_false h4
  have u5 : decide (15 < b) = true := decide_eq_true h5
  clear h0 h1 h2 h3 h4 h5
  have f0 := (Fr.refl none' w).alloc (.cells (rgA r) 27)
  go_enter Tryz.func7, Tryz.ntmps7
  go_wp2_with fail
  refine (awake_any _).mono ?_
  rintro e w1 ⟨rfl, g1⟩
  replace f0 := f0.trans g1
  clear g1
  go_wp2_with fail
  go_ret
  exact ⟨rfl, f0⟩

set_option maxRecDepth 100000 in
set_option maxHeartbeats 4000000 in
theorem reck_out6 (w : World) (o a b c i : Int) (r : Nat → Nat) (h0 : ¬ (o < 1)) (h1 : ¬ (6 < o)) (h2 : ¬ (a < 0)) (h3 : ¬ (15 < a)) (h4 : ¬ (b < 0)) (h5 : ¬ (15 < b)) (h6 : c < 0) :
    Calls Tryz.prog 7 #[.int .i64 o, .agg (rgA r), .int .i64 a, .int .i64 b, .int .i64 c, .int .i64 i] w fun e w' => e = .returned (.bool true) ∧ Fr none' w w' := by
  have u0 : decide (o < 1) = false := decide_eq_false h0
  have u1 : decide (6 < o) = false := decide_eq_false h1
  have u2 : decide (a < 0) = false := decide_eq_false h2
  have u3 : decide (15 < a) = false := decide_eq_false h3
  have u4 : decide (b < 0) = false := decide_eq_false h4
  have u5 : decide (15 < b) = false := decide_eq_false h5
  have u6 : decide (c < 0) = true := decide_eq_true h6
  clear h0 h1 h2 h3 h4 h5 h6
  have f0 := (Fr.refl none' w).alloc (.cells (rgA r) 27)
  go_enter Tryz.func7, Tryz.ntmps7
  go_wp2_with fail
  refine (awake_any _).mono ?_
  rintro e w1 ⟨rfl, g1⟩
  replace f0 := f0.trans g1
  clear g1
  go_wp2_with fail
  go_ret
  exact ⟨rfl, f0⟩

set_option maxRecDepth 100000 in
set_option maxHeartbeats 4000000 in
theorem reck_out7 (w : World) (o a b c i : Int) (r : Nat → Nat) (h0 : ¬ (o < 1)) (h1 : ¬ (6 < o)) (h2 : ¬ (a < 0)) (h3 : ¬ (15 < a)) (h4 : ¬ (b < 0)) (h5 : ¬ (15 < b)) (h6 : ¬ (c < 0)) (h7 : 15 < c) :
    Calls Tryz.prog 7 #[.int .i64 o, .agg (rgA r), .int .i64 a, .int .i64 b, .int .i64 c, .int .i64 i] w fun e w' => e = .returned (.bool true) ∧ Fr none' w w' := by
  have u0 : decide (o < 1) = false := decide_eq_false h0
  have u1 : decide (6 < o) = false := decide_eq_false h1
  have u2 : decide (a < 0) = false := decide_eq_false h2
  have u3 : decide (15 < a) = false := decide_eq_false h3
  have u4 : decide (b < 0) = false := decide_eq_false h4
  have u5 : decide (15 < b) = false := decide_eq_false h5
  have u6 : decide (c < 0) = false := decide_eq_false h6
  have u7 : decide (15 < c) = true := decide_eq_true h7
  clear h0 h1 h2 h3 h4 h5 h6 h7
  have f0 := (Fr.refl none' w).alloc (.cells (rgA r) 27)
  go_enter Tryz.func7, Tryz.ntmps7
  go_wp2_with fail
  refine (awake_any _).mono ?_
  rintro e w1 ⟨rfl, g1⟩
  replace f0 := f0.trans g1
  clear g1
  go_wp2_with fail
  go_ret
  exact ⟨rfl, f0⟩

set_option maxRecDepth 100000 in
set_option maxHeartbeats 4000000 in
theorem reck_out8 (w : World) (o a b c i : Int) (r : Nat → Nat) (h0 : ¬ (o < 1)) (h1 : ¬ (6 < o)) (h2 : ¬ (a < 0)) (h3 : ¬ (15 < a)) (h4 : ¬ (b < 0)) (h5 : ¬ (15 < b)) (h6 : ¬ (c < 0)) (h7 : ¬ (15 < c)) (h8 : i < 0) :
    Calls Tryz.prog 7 #[.int .i64 o, .agg (rgA r), .int .i64 a, .int .i64 b, .int .i64 c, .int .i64 i] w fun e w' => e = .returned (.bool true) ∧ Fr none' w w' := by
  have u0 : decide (o < 1) = false := decide_eq_false h0
  have u1 : decide (6 < o) = false := decide_eq_false h1
  have u2 : decide (a < 0) = false := decide_eq_false h2
  have u3 : decide (15 < a) = false := decide_eq_false h3
  have u4 : decide (b < 0) = false := decide_eq_false h4
  have u5 : decide (15 < b) = false := decide_eq_false h5
  have u6 : decide (c < 0) = false := decide_eq_false h6
  have u7 : decide (15 < c) = false := decide_eq_false h7
  have u8 : decide (i < 0) = true := decide_eq_true h8
  clear h0 h1 h2 h3 h4 h5 h6 h7 h8
  have f0 := (Fr.refl none' w).alloc (.cells (rgA r) 27)
  go_enter Tryz.func7, Tryz.ntmps7
  go_wp2_with fail
  refine (awake_any _).mono ?_
  rintro e w1 ⟨rfl, g1⟩
  replace f0 := f0.trans g1
  clear g1
  go_wp2_with fail
  go_ret
  exact ⟨rfl, f0⟩

set_option maxRecDepth 100000 in
set_option maxHeartbeats 4000000 in
theorem reck_out9 (w : World) (o a b c i : Int) (r : Nat → Nat) (h0 : ¬ (o < 1)) (h1 : ¬ (6 < o)) (h2 : ¬ (a < 0)) (h3 : ¬ (15 < a)) (h4 : ¬ (b < 0)) (h5 : ¬ (15 < b)) (h6 : ¬ (c < 0)) (h7 : ¬ (15 < c)) (h8 : ¬ (i < 0)) (h9 : 65535 < i) :
    Calls Tryz.prog 7 #[.int .i64 o, .agg (rgA r), .int .i64 a, .int .i64 b, .int .i64 c, .int .i64 i] w fun e w' => e = .returned (.bool true) ∧ Fr none' w w' := by
  have u0 : decide (o < 1) = false := decide_eq_false h0
  have u1 : decide (6 < o) = false := decide_eq_false h1
  have u2 : decide (a < 0) = false := decide_eq_false h2
  have u3 : decide (15 < a) = false := decide_eq_false h3
  have u4 : decide (b < 0) = false := decide_eq_false h4
  have u5 : decide (15 < b) = false := decide_eq_false h5
  have u6 : decide (c < 0) = false := decide_eq_false h6
  have u7 : decide (15 < c) = false := decide_eq_false h7
  have u8 : decide (i < 0) = false := decide_eq_false h8
  have u9 : decide (65535 < i) = true := decide_eq_true h9
  clear h0 h1 h2 h3 h4 h5 h6 h7 h8 h9
  have f0 := (Fr.refl none' w).alloc (.cells (rgA r) 27)
  go_enter Tryz.func7, Tryz.ntmps7
  go_wp2_with fail
  refine (awake_any _).mono ?_
  rintro e w1 ⟨rfl, g1⟩
  replace f0 := f0.trans g1
  clear g1
  go_wp2_with fail
  go_ret
  exact ⟨rfl, f0⟩

end Go.Proofs.YtpdkefihhbnmeaaGreat

/- CpuReckProof -/
namespace Go.Proofs.YtpdkefihhbnmeaaGreat
open Go.ChangeShapes Go.WideShapes Go.ChangeAt Go.RowKit Go.Deep

theorem cells_regs : Tryz.prog.cellsOf 27 = 16 := by kernel_rfl
set_option maxRecDepth 100000 in
theorem okWide_regs {W : World} {r : Reach} {b0 : Nat} {x : Value} (h : Value.okWide Tryz.prog W r b0 27 x) : ∃ cs, x = .agg cs := by
  simp only [Value.okWide, Tryz.underlying27] at h
  obtain ⟨cs, h1, _⟩ := h
  exact ⟨cs, h1⟩
set_option maxRecDepth 100000 in
theorem regs_open {H : Type} {enc : TypeId × Value → H} {W : World} {r : Reach} {b0 : Nat} {x : Value} {d : DataW H} {ps : List MemPlace} (hv : Value.okWide Tryz.prog W r b0 27 x) (h : DataW.Trod enc Tryz.prog W 0 (fun _ => true) true 27 x d ps) :
    ∃ g : Nat → Nat, x = .agg (rgA g) ∧ ∀ k, g k < 4294967296 := by
  obtain ⟨cs, rfl⟩ := okWide_regs hv
  obtain ⟨fuel, hf⟩ := h
  have hf' : DataW.trod enc Tryz.prog W 0 (fun _ => true) true fuel 27 cs.toList = some (d, ps) := by simpa [Value.cells] using hf
  obtain ⟨xs, m, _, _, hl, hxl, hel⟩ := DataW.trod_array Tryz.underlying27 hf'
  rw [cells_regs] at hl
  have key : ∀ k, ∃ n : Nat, n < 4294967296 ∧ (k < 16 → cs.toList[k]? = some (.int .u32 (n : Int))) := fun k => by
    by_cases hk : k < 16
    · have e := hel k hk
      rw [cells_u32, Nat.mul_one, field_one k (by omega), List.getElem?_eq_getElem (by omega)] at e
      obtain ⟨q, e1, _, wq⟩ := DataW.trod_int Tryz.underlying26 e
      simp only [List.cons.injEq, and_true] at e1
      have hb := bounds_u32 wq
      refine ⟨q.toNat, by omega, fun _ => ?_⟩
      rw [List.getElem?_eq_getElem (by omega), e1, Int.toNat_of_nonneg hb.1]
    · exact ⟨0, by decide, fun h => absurd h hk⟩
  refine ⟨fun k => (key k).choose, ?_, fun k => (key k).choose_spec.1⟩
  have e : cs.toList = (List.range 16).map (fun k => Value.int .u32 (((key k).choose : Nat) : Int)) := by
    apply List.ext_getElem?
    intro k
    by_cases hk : k < 16
    · rw [(key k).choose_spec.2 hk]
      simp [hk]
    · rw [List.getElem?_eq_none (by omega), List.getElem?_eq_none (by simp; omega)]
  unfold rgA
  rw [← e]

theorem reck_any (w : World) (o : Int) (r : Nat → Nat) (a b c i : Int) (hr : ∀ k, r k < 4294967296) :
    Calls Tryz.prog 7 #[.int .i64 o, .agg (rgA r), .int .i64 a, .int .i64 b, .int .i64 c, .int .i64 i] w fun e w' => e = .returned (.bool true) ∧ Below w.heap.size w w' := by
  have h : Calls Tryz.prog 7 #[.int .i64 o, .agg (rgA r), .int .i64 a, .int .i64 b, .int .i64 c, .int .i64 i] w fun e w' => e = .returned (.bool true) ∧ Fr none' w w' := by
    by_cases h0 : o < 1
    · exact reck_out0 w o a b c i r h0
    by_cases h1 : 6 < o
    · exact reck_out1 w o a b c i r h0 h1
    by_cases h2 : a < 0
    · exact reck_out2 w o a b c i r h0 h1 h2
    by_cases h3 : 15 < a
    · exact reck_out3 w o a b c i r h0 h1 h2 h3
    by_cases h4 : b < 0
    · exact reck_out4 w o a b c i r h0 h1 h2 h3 h4
    by_cases h5 : 15 < b
    · exact reck_out5 w o a b c i r h0 h1 h2 h3 h4 h5
    by_cases h6 : c < 0
    · exact reck_out6 w o a b c i r h0 h1 h2 h3 h4 h5 h6
    by_cases h7 : 15 < c
    · exact reck_out7 w o a b c i r h0 h1 h2 h3 h4 h5 h6 h7
    by_cases h8 : i < 0
    · exact reck_out8 w o a b c i r h0 h1 h2 h3 h4 h5 h6 h7 h8
    by_cases h9 : 65535 < i
    · exact reck_out9 w o a b c i r h0 h1 h2 h3 h4 h5 h6 h7 h8 h9
    obtain ⟨o, rfl⟩ : ∃ m : Nat, o = (m : Int) := ⟨o.toNat, by omega⟩
    obtain ⟨a, rfl⟩ : ∃ m : Nat, a = (m : Int) := ⟨a.toNat, by omega⟩
    obtain ⟨b, rfl⟩ : ∃ m : Nat, b = (m : Int) := ⟨b.toNat, by omega⟩
    obtain ⟨c, rfl⟩ : ∃ m : Nat, c = (m : Int) := ⟨c.toNat, by omega⟩
    obtain ⟨i, rfl⟩ : ∃ m : Nat, i = (m : Int) := ⟨i.toNat, by omega⟩
    by_cases e : o = 1
    · exact reck_one w o a b c i r hr e (by omega) (by omega) (by omega) (by omega)
    · exact reck_two w o a b c i r hr (by omega) (by omega) (by omega) (by omega) (by omega)
  exact h.mono fun _ _ ⟨he, hf⟩ => ⟨he, hf.below (Nat.le_refl _) (fun _ h => h.elim)⟩

set_option maxRecDepth 100000 in
theorem reck_lifted (os : Os) (started : os.Started) (H : Type) (enc : TypeId × Value → H) :
    ReturnsInHanded {} Tryz.checked os 7 .any (Rows.cpuReckonsSpec.pre6 enc Tryz.prog Tryz.f7 Rows.cpuReckonsRow.domain false) (Rows.cpuReckonsSpec.post enc Tryz.prog Tryz.f7 false true false false) := by
  refine returnsInHanded_of_change (C := Tryz.checked) own_knob started (by kernel_rfl) Tryz.func7
    (ChangeSpec.witness6 (enc := enc) (C := Tryz.checked) false ⟨#[], #[.int .i64 0, .agg #[.int .u32 0, .int .u32 0, .int .u32 0, .int .u32 0, .int .u32 0, .int .u32 0, .int .u32 0, .int .u32 0, .int .u32 0, .int .u32 0, .int .u32 0, .int .u32 0, .int .u32 0, .int .u32 0, .int .u32 0, .int .u32 0], .int .i64 0, .int .i64 0, .int .i64 0, .int .i64 0], []⟩ 8 (by kernel_rfl) (by kernel_rfl) (by kernel_rfl) (by kernel_rfl)) ?_
  intro W base args ds gs before hval0 hW hcnd _
  have hval : ∀ (j : Nat) t v, Tryz.f7.params[j]? = some t → args[j]? = some v → Value.okWide Tryz.prog W .any base t v := hval0
  have hW' := hW
  obtain ⟨p, q, hA0, hV, rfl, hfz, hnd⟩ := hW
  have hA : DataW.TrodAll enc Tryz.prog W 0 (fun _ => true) true Tryz.f7.params.toList args.toList ds p := hA0
  rw [Tryz.params7] at hA hval
  obtain ⟨v0, vs0, d0, ds0, p0, q0, hargs, rfl, rfl, h0, r0⟩ := trodAll_cons hA
  obtain ⟨v1, vs1, d1, ds1, p1, q1, rfl, rfl, rfl, h1, r1⟩ := trodAll_cons r0
  obtain ⟨v2, vs2, d2, ds2, p2, q2, rfl, rfl, rfl, h2, r2⟩ := trodAll_cons r1
  obtain ⟨v3, vs3, d3, ds3, p3, q3, rfl, rfl, rfl, h3, r3⟩ := trodAll_cons r2
  obtain ⟨v4, vs4, d4, ds4, p4, q4, rfl, rfl, rfl, h4, r4⟩ := trodAll_cons r3
  obtain ⟨v5, vs5, d5, ds5, p5, q5, rfl, rfl, rfl, h5, r5⟩ := trodAll_cons r4
  obtain ⟨rfl, rfl, rfl⟩ := trodAll_nil r5
  obtain rfl : args = #[v0, v1, v2, v3, v4, v5] := by cases args; simp_all
  obtain ⟨rfl, rfl⟩ := trodVars_none hV
  obtain ⟨a0, rfl, rfl, rfl, w0⟩ := open_int Tryz.underlying3 (hval 0 3 v0 rfl rfl) h0
  have k1 := h1
  have lt1 : ∀ x ∈ p1, x.block < W.heap.size := by obtain ⟨m, hm⟩ := k1; exact DataW.trod_lt m _ _ _ hm
  obtain ⟨g, rfl, hg⟩ := regs_open (hval 1 27 v1 rfl rfl) h1
  obtain ⟨a2, rfl, rfl, rfl, w2⟩ := open_int Tryz.underlying3 (hval 2 3 v2 rfl rfl) h2
  obtain ⟨a3, rfl, rfl, rfl, w3⟩ := open_int Tryz.underlying3 (hval 3 3 v3 rfl rfl) h3
  obtain ⟨a4, rfl, rfl, rfl, w4⟩ := open_int Tryz.underlying3 (hval 4 3 v4 rfl rfl) h4
  obtain ⟨a5, rfl, rfl, rfl, w5⟩ := open_int Tryz.underlying3 (hval 5 3 v5 rfl rfl) h5
  clear hA0 hval0
  refine (reck_any W a0 g a2 a3 a4 a5 hg).mono fun e W' ⟨he, bel⟩ => ?_
  subst he
  exact ⟨_, rfl, _, _, _, [], _, [], hW', trodAll_mk1 (shut_bool Tryz.underlying4 _), (trodAll_cons_mk (shut_int Tryz.underlying3 w0) (trodAll_cons_mk (Below.trod laid_out (by kernel_rfl) (of_decide_eq_true (by kernel_rfl)) k1 bel lt1) (trodAll_cons_mk (shut_int Tryz.underlying3 w2) (trodAll_cons_mk (shut_int Tryz.underlying3 w3) (trodAll_cons_mk (shut_int Tryz.underlying3 w4) (trodAll_cons_mk (shut_int Tryz.underlying3 w5) trodAll_mk0)))))), rfl, bel.frame _, fun h => by cases h⟩

theorem cpuReckons_holds : Rows.CpuReckonsSaid :=
  OpenClaim.holds_of_wide 7 Tryz.f7 rfl rfl rfl rfl rfl rfl rfl ⟨rfl, rfl, rfl, rfl, rfl⟩ rfl rfl rfl rfl rfl (by kernel_rfl) Tryz.func7 (by kernel_rfl)
    (of_decide_eq_true (by kernel_rfl)) (by unfold Func.isWrapper; first | (rw [if_pos (by decide +kernel)]; kernel_rfl) | (rw [if_neg (by decide +kernel)]; exact ⟨rfl, rfl⟩))
    (fun os started H enc _ => reck_lifted os started H enc)
#print axioms cpuReckons_holds

end Go.Proofs.YtpdkefihhbnmeaaGreat

