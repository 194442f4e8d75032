/-
  The contract of package cpu's Step. No statement is proved here.
-/
import Derived.Test.YtgnoakidjnilpaaGreatCpuKeep
import Derived.Test.YtgnoakidjnilpaaGreatCpuJa
import Derived.Test.YtgnoakidjnilpaaGreatCpuComp
import Derived.Laws.EntriesVeiled
/- CpuBra -/
namespace Go.Proofs.YtgnoakidjnilpaaGreat
open Go.RowKit

set_option maxRecDepth 100000 in
set_option maxHeartbeats 1600000 in
theorem branch1_any (w : World) (B : Bm) (nf bx : Nat) (M : Mc) (X : Wk) (bc fn : Nat) (g : Nat → Nat → Bool) (hc : w.cell? ⟨bc, 0, none⟩ = some (.func (.func fn) #[] #[]))
    (hen : ∀ (args : Array Value) (w1 : World), (callFunc fn args).run Tryz.prog w1 = .ok (.enter fn args) w1)
    (hF : ∀ (a b : Nat) (w1 : World), Calls Tryz.prog fn #[.int .u32 (a : Int), .int .u32 (b : Int)] w1 fun e w' => e = .returned (.bool (g a b)) ∧ w' = w1)
    (h : Jb w B nf bx M X) :
    Calls Tryz.prog 138 #[.pointer (some ⟨bx, 0, none⟩), .pointer (some ⟨bc, 0, none⟩)] w (Aft w B nf bx M { X with z := if g (X.z.r X.a) (X.z.r X.b) = true then X.z.setP X.imm else X.z }) := by
  have hF' := fun w1 => hF (X.z.r X.a) (X.z.r X.b) w1
  have hA := fun n => a_any (w.drewN n) bx X (h.x.drewN n) h.a
  have hB := fun n => b_any (w.drewN n) bx X (h.x.drewN n) h.b
  have HJ : Hid (Jb w B nf bx M X) := h
  clear hF h
  cases hy : g (X.z.r X.a) (X.z.r X.b) with
  | true =>
    rw [hy] at hF'
    go_enter Tryz.func138, Tryz.ntmps138
    go_wp2_with fail
    go_quiet (first | (go_at_call 137; refine Calls.quiet_of (hA _)) | (go_at_call 133; refine Calls.quiet_of (hB _)) | (refine Calls.quiet_of_same (hF' _)))
    go_wp2_with fail
    refine (jump_any _ B nf bx M X (HJ.out.keep0 (fr_drewN _ _))).mono ?_
    rintro e v2 ⟨⟨u, rfl⟩, f2, h2⟩
    go_wp2_with fail
    refine post_void rfl rfl fun u => ?_
    exact ⟨⟨u, rfl⟩, (fr_0 (fr_drewN _ _)).trans f2, h2⟩
  | false =>
    rw [hy] at hF'
    go_enter Tryz.func138, Tryz.ntmps138
    go_wp2_with fail
    go_quiet (first | (go_at_call 137; refine Calls.quiet_of (hA _)) | (go_at_call 133; refine Calls.quiet_of (hB _)) | (refine Calls.quiet_of_same (hF' _)))
    go_wp2_with fail
    refine post_void rfl rfl fun u => ?_
    exact ⟨⟨u, rfl⟩, fr_0 (fr_drewN _ _), HJ.out.keep0 (fr_drewN _ _)⟩

def gAdd (a b : Nat) : Nat := (a + b) % 4294967296
def gSub (a b : Nat) : Nat := (a + 4294967296 - b) % 4294967296
def gAnd (a b : Nat) : Nat := a &&& b
def gXor (a b : Nat) : Nat := a ^^^ b
def gShl (a b : Nat) : Nat := a * 2 ^ (b % 32) % 4294967296

theorem gAdd_lt (a b : Nat) : gAdd a b < 4294967296 := by unfold gAdd; omega
theorem gSub_lt (a b : Nat) : gSub a b < 4294967296 := by unfold gSub; omega
theorem gAnd_lt (a b : Nat) (ha : a < 4294967296) : gAnd a b < 4294967296 := Nat.lt_of_le_of_lt Nat.and_le_left ha
theorem gXor_lt (a b : Nat) (ha : a < 4294967296) (hb : b < 4294967296) : gXor a b < 4294967296 := Nat.xor_lt_two_pow (n := 32) ha hb
theorem gShl_lt (a b : Nat) : gShl a b < 4294967296 := by unfold gShl; omega

theorem ret_u32 {a b : Int} (h : a = b) : Ending.returned (.int .u32 a) = .returned (.int .u32 b) := by rw [h]

set_option maxHeartbeats 400000 in
theorem op1_any (a b : Nat) (w : World) : Calls Tryz.prog 79 #[.int .u32 (a : Int), .int .u32 (b : Int)] w fun e w' => e = .returned (.int .u32 ((gAdd a b : Nat) : Int)) ∧ w' = w := by
  go_enter Tryz.func79, Tryz.ntmps79
  go_wp2_with fail
  go_ret
  exact ⟨ret_u32 (by unfold gAdd; omega), rfl⟩

set_option maxHeartbeats 400000 in
theorem op2_any (a b : Nat) (w : World) (ha : a < 4294967296) (hb : b < 4294967296) : Calls Tryz.prog 80 #[.int .u32 (a : Int), .int .u32 (b : Int)] w fun e w' => e = .returned (.int .u32 ((gSub a b : Nat) : Int)) ∧ w' = w := by
  go_enter Tryz.func80, Tryz.ntmps80
  go_wp2_with fail
  go_ret
  exact ⟨ret_u32 (by unfold gSub; omega), rfl⟩

set_option maxHeartbeats 400000 in
theorem op3_any (a b : Nat) (w : World) (ha : a < 4294967296) (hb : b < 4294967296) : Calls Tryz.prog 81 #[.int .u32 (a : Int), .int .u32 (b : Int)] w fun e w' => e = .returned (.int .u32 ((gAnd a b : Nat) : Int)) ∧ w' = w := by
  have e1 := u32_and_nat a b ha hb
  go_enter Tryz.func81, Tryz.ntmps81
  go_wp2_with fail
  go_ret
  exact ⟨rfl, rfl⟩

set_option maxHeartbeats 400000 in
theorem op4_any (a b : Nat) (w : World) (ha : a < 4294967296) (hb : b < 4294967296) : Calls Tryz.prog 82 #[.int .u32 (a : Int), .int .u32 (b : Int)] w fun e w' => e = .returned (.int .u32 ((gXor a b : Nat) : Int)) ∧ w' = w := by
  have e1 := u32_xor_nat a b ha hb
  go_enter Tryz.func82, Tryz.ntmps82
  go_wp2_with fail
  go_ret
  exact ⟨rfl, rfl⟩

set_option maxHeartbeats 400000 in
theorem op5_any (a b : Nat) (w : World) (_ha : a < 4294967296) (hb : b < 4294967296) : Calls Tryz.prog 83 #[.int .u32 (a : Int), .int .u32 (b : Int)] w fun e w' => e = .returned (.int .u32 ((gShl a b : Nat) : Int)) ∧ w' = w := by
  go_enter Tryz.func83, Tryz.ntmps83
  go_wp2_with fail
  go_ret
  exact ⟨rfl, rfl⟩

set_option maxHeartbeats 400000 in
theorem op6_any (a b : Nat) (w : World) : Calls Tryz.prog 87 #[.int .u32 (a : Int), .int .u32 (b : Int)] w fun e w' => e = .returned (.bool (decide (a = b))) ∧ w' = w := by
  go_enter Tryz.func87, Tryz.ntmps87
  go_wp2_with fail
  go_ret
  exact ⟨ret_bool (by first | rfl | (rw [Bool.eq_iff_iff]; simp; omega)), rfl⟩

set_option maxHeartbeats 400000 in
theorem op7_any (a b : Nat) (w : World) : Calls Tryz.prog 88 #[.int .u32 (a : Int), .int .u32 (b : Int)] w fun e w' => e = .returned (.bool (!decide (a = b))) ∧ w' = w := by
  go_enter Tryz.func88, Tryz.ntmps88
  go_wp2_with fail
  go_ret
  exact ⟨ret_bool (by first | rfl | (rw [Bool.eq_iff_iff]; simp; omega)), rfl⟩

set_option maxHeartbeats 400000 in
theorem op8_any (a b : Nat) (w : World) : Calls Tryz.prog 89 #[.int .u32 (a : Int), .int .u32 (b : Int)] w fun e w' => e = .returned (.bool (decide (a < b))) ∧ w' = w := by
  go_enter Tryz.func89, Tryz.ntmps89
  go_wp2_with fail
  go_ret
  exact ⟨ret_bool (by first | rfl | (rw [Bool.eq_iff_iff]; simp; omega)), rfl⟩

set_option maxRecDepth 100000 in
set_option maxHeartbeats 1600000 in
/-- What call makes: it traps, with the number of the instruction. -/
theorem call1_any (w : World) (B : Bm) (nf bx : Nat) (M : Mc) (X : Wk) (bc : Nat) (ca : Int) (hc : w.cell? ⟨bc, 0, none⟩ = some (.int .i64 ca)) (h : Jb w B nf bx M X) :
    Calls Tryz.prog 139 #[.pointer (some ⟨bx, 0, none⟩), .pointer (some ⟨bc, 0, none⟩)] w (Don w B nf bx M X ⟨ca, X.imm, X.pc, f0⟩) := by
  have f1 := (Fr.refl none' w).alloc (.cells (trL t0) 52)
  have h1 := h.alloc (.cells (trL t0) 52)
  have r1 := row_alloc w (trL t0) 52
  have c1 := cell_keep f1 hc (fun h => h)
  have c14 := h1.x.k14
  have n1 : ¬ at' w.heap.size bc := fun e => by have e' : bc = w.heap.size := e; have := cell_lt hc; have : bc < w.heap.size := this; omega
  have n2 : ¬ at' w.heap.size bx := fun e => by have e' : bx = w.heap.size := e; have := h.x.lt; omega
  have L : Hid (∀ k, B.y bx k → k < w.heap.size) := h.lty
  have HJ : Hid (Jb (w.alloc (.cells (trL t0) 52)) B nf bx M X) := h1
  clear hc h h1
  unfold trL t0 f0 at c1 f1 r1 HJ c14
  go_enter Tryz.func139, Tryz.ntmps139
  go_wp2_with fail
  obtain ⟨v0, hv0⟩ : ∃ v0, v0 = w.alloc (.cells #[.int .i64 0, .int .i64 0, .int .i64 0, .int .i64 0, .int .i64 0, .int .i64 0, .bool false, .int .i64 0] 52) := ⟨_, rfl⟩
  rw [← hv0] at c1 c14 r1 f1 HJ ⊢
  clear hv0
  have e1 : v0.drew.cell? ⟨bc, 0, none⟩ = _ := c1
  have e14 : v0.drew.cell? ⟨bx, 14, none⟩ = _ := c14
  go_region_held3 (fun w' => w'.cell? ⟨bc, 0, none⟩ = some (.int .i64 ca) ∧ w'.cell? ⟨bx, 14, none⟩ = some (.int .i64 (X.imm : Int))) (first | with_reducible exact ⟨c1, c14⟩ | with_reducible exact ⟨e1, e14⟩ | with_reducible exact ⟨d1, d2⟩ | with_reducible exact ⟨cell_keep (fr_own8 _ _ _ _ _ _ _ _ _ _) d1 n1, cell_keep (fr_own8 _ _ _ _ _ _ _ _ _ _) d2 n2⟩) (first
    | (go_at_call 140; refine (wtrap_any _ _ _ _ _ HJ.out.drew.x).mono ?_; rintro e v ⟨rfl, fv⟩; have d1 := cell_keep fv (show v0.drew.cell? _ = _ from c1) (fun h => h); have d2 := cell_keep fv (show v0.drew.cell? _ = _ from c14) (fun h => h); replace r1 := r1.drew.keep fv (fun h => h); obtain ⟨z0, z1, z2, z3, z4, z5, z6, z7⟩ := frozen8 r1; obtain ⟨y0, y1, y2, y3, y4, y5, y6, y7⟩ := cells8 r1; replace f1 := f1.drew.trans fv; replace HJ : Hid (Jb v B nf bx M X) := HJ.out.drew.keep0 fv; clear fv))
  all_goals go_wp2_with fail
  all_goals refine bodyPost_ret (ret_trap rfl rfl (row_set8 r1 _ _ _ _ _ _ _ _) rfl) rfl ?_
  all_goals exact don_end (fr_0 f1) HJ.out (by omega) L.out ⟨ca, X.imm, X.pc, f0⟩ _ _ _ _ _ _ _ _ rfl

end Go.Proofs.YtgnoakidjnilpaaGreat

/- CpuSys -/
namespace Go.Proofs.YtgnoakidjnilpaaGreat
open Go.RowKit

theorem few_mono {M : Mc} {n m : Nat} (h : M.few n) (hm : n ≤ m) : M.few m := ⟨h.fo, h.mi, by have := h.sum; omega, h.good, h.uniq⟩

/-- The guest's interrupts alone have turned. -/
theorem Jb.vgic {w w' : World} {B : Bm} {nf bx : Nat} {M : Mc} {X : Wk} (h : Jb w B nf bx M X) {b : Bk} (hb : B.v = some b) {S : Vg} (q : Chg w b S w') : Jb w' B nf bx { M with V := some S } X := by
  have hg : ∀ k, B.g k ↔ b.s k := fun k => by simp only [Bm.g, hb]
  exact { m := ⟨h.m.ram.keep q.1 (fun e => h.m.e1 ((hg _).2 e)) (fun e => h.m.e2 ((hg _).2 e)), h.m.tlb.keep q.1 (fun e => h.m.e3 ((hg _).2 e)), by rw [hb]; exact q.2, h.m.d1, h.m.d2, h.m.d3, h.m.e1, h.m.e2, h.m.e3⟩
          x := h.x.keep q.1 (fun e => h.f4 ((hg _).2 e)), p := h.p, t := h.t, v := h.v, f1 := h.f1, f2 := h.f2, f3 := h.f3, f4 := h.f4, ok := h.ok, a := h.a, b := h.b, c := h.c, i := h.i, wd := h.wd, pc := h.pc }
theorem fr_g {w w' : World} {B : Bm} {bx : Nat} {b : Bk} (hb : B.v = some b) (f : Fr b.s w w') : Fr (B.x bx) w w' := f.mono (fun k _ h => Or.inl (Or.inr (Or.inr (by simp only [Bm.g, hb]; exact h))))
theorem Jb.isVg {w : World} {B : Bm} {nf bx : Nat} {M : Mc} {X : Wk} (h : Jb w B nf bx M X) {b : Bk} (hb : B.v = some b) {S : Vg} (hV : M.V = some S) : IsVg w b S := by
  have := h.m.vg
  rw [hb, hV] at this
  exact this
theorem Jb.k2v {w : World} {B : Bm} {nf bx : Nat} {M : Mc} {X : Wk} (h : Jb w B nf bx M X) {b : Bk} (hb : B.v = some b) : w.cell? ⟨bx, 2, none⟩ = some (.pointer (some ⟨b.b, 0, none⟩)) := by
  rw [h.x.k2, h.v, hb]; rfl
theorem Jb.k2n {w : World} {B : Bm} {nf bx : Nat} {M : Mc} {X : Wk} (h : Jb w B nf bx M X) (hb : B.v = none) : w.cell? ⟨bx, 2, none⟩ = some (.pointer none) := by
  rw [h.x.k2, h.v, hb]; rfl

set_option maxHeartbeats 400000 in
theorem undef_any (w : World) (B : Bm) (nf bx : Nat) (M : Mc) (X : Wk) (h : Jb w B nf bx M X) : Calls Tryz.prog 129 #[.pointer (some ⟨bx, 0, none⟩)] w (Don w B nf bx M X ⟨8, X.wd, X.pc, f0⟩) := by
  have hw := h.wd
  have e1 : IntKind.i64.wrap (X.wd : Int) = (X.wd : Int) := by rw [IntKind.wrap_i64]; omega
  have f1 := (Fr.refl none' w).alloc (.cells #[.int .i64 0, .int .i64 0, .int .i64 0, .int .i64 0, .int .i64 0, .int .i64 0, .bool false, .int .i64 0] 52)
  have h1 := h.alloc (.cells #[.int .i64 0, .int .i64 0, .int .i64 0, .int .i64 0, .int .i64 0, .int .i64 0, .bool false, .int .i64 0] 52)
  have r1 := row_alloc w #[.int .i64 0, .int .i64 0, .int .i64 0, .int .i64 0, .int .i64 0, .int .i64 0, .bool false, .int .i64 0] 52
  have c9 := h1.x.k9
  have L : Hid (∀ k, B.y bx k → k < w.heap.size) := h.lty
  clear h
  go_enter Tryz.func129, Tryz.ntmps129
  go_wp2_with fail
  refine (wtrap_any _ _ _ _ _ h1.x).mono ?_
  rintro e v ⟨rfl, fv⟩
  replace r1 := r1.keep fv (fun h => h)
  have f2 := f1.trans fv
  have HJ : Hid (Jb v B nf bx M X) := h1.keep0 fv
  clear h1 fv f1 c9
  obtain ⟨x0, x1, x2, x3, x4, x5, x6, x7⟩ := cells8 r1
  obtain ⟨z0, z1, z2, z3, z4, z5, z6, z7⟩ := frozen8 r1
  go_wp2_with fail
  refine bodyPost_ret (ret_trap rfl rfl (row_set8 r1 _ _ _ _ _ _ _ _) rfl) rfl ?_
  exact don_end (fr_0 f2) HJ.out (Nat.le_refl _) L.out ⟨8, X.wd, X.pc, f0⟩ _ _ _ _ _ _ _ _ rfl

/-- mrs. -/
def rdX (X : Wk) : Wk := if (6 : Int) < (X.imm : Int) then X else { X with z := X.z.setR X.a (X.z.s X.imm) }
def rdT (X : Wk) : Tr := if (6 : Int) < (X.imm : Int) then ⟨7, X.imm, X.pc, f0⟩ else t0

set_option maxRecDepth 100000 in
set_option maxHeartbeats 1600000 in
theorem rsys_any (w : World) (B : Bm) (nf bx : Nat) (M : Mc) (X : Wk) (h : Jb w B nf bx M X) : Calls Tryz.prog 94 #[.pointer (some ⟨bx, 0, none⟩)] w (Don w B nf bx M (rdX X) (rdT X)) := by
  have f1 := (Fr.refl none' w).alloc (.cells #[.int .i64 0, .int .i64 0, .int .i64 0, .int .i64 0, .int .i64 0, .int .i64 0, .bool false, .int .i64 0] 52)
  have h1 := h.alloc (.cells #[.int .i64 0, .int .i64 0, .int .i64 0, .int .i64 0, .int .i64 0, .int .i64 0, .bool false, .int .i64 0] 52)
  have r1 := row_alloc w #[.int .i64 0, .int .i64 0, .int .i64 0, .int .i64 0, .int .i64 0, .int .i64 0, .bool false, .int .i64 0] 52
  have c14 := h1.x.k14
  have L : Hid (∀ k, B.y bx k → k < w.heap.size) := h.lty
  clear h
  unfold rdX rdT
  by_cases hi : (6 : Int) < (X.imm : Int)
  · rw [if_pos hi, if_pos hi]
    have u1 : decide ((6 : Int) < (X.imm : Int)) = true := decide_eq_true hi
    go_enter Tryz.func94, Tryz.ntmps94
    go_wp2_with fail
    refine (wtrap_any _ _ _ _ _ h1.x).mono ?_
    rintro e v ⟨rfl, fv⟩
    replace r1 := r1.keep fv (fun h => h)
    have f2 := f1.trans fv
    have HJ : Hid (Jb v B nf bx M X) := h1.keep0 fv
    clear h1 fv f1 c14
    obtain ⟨x0, x1, x2, x3, x4, x5, x6, x7⟩ := cells8 r1
    obtain ⟨z0, z1, z2, z3, z4, z5, z6, z7⟩ := frozen8 r1
    go_wp2_with fail
    refine bodyPost_ret (ret_trap rfl rfl (row_set8 r1 _ _ _ _ _ _ _ _) rfl) rfl ?_
    exact don_end (fr_0 f2) HJ.out (Nat.le_refl _) L.out ⟨7, X.imm, X.pc, f0⟩ _ _ _ _ _ _ _ _ rfl
  · rw [if_neg hi, if_neg hi]
    have u1 : decide ((6 : Int) < (X.imm : Int)) = false := decide_eq_false hi
    have i1 : 0 ≤ (X.imm : Int) ∧ (X.imm : Int) < 8 := by omega
    have cs := h1.x.sys (i := X.imm) (by omega)
    have hsl := h1.ok.s X.imm
    have HJ : Hid (Jb _ B nf bx M X) := h1
    clear hi
    go_enter Tryz.func94, Tryz.ntmps94
    go_wp2_with fail
    obtain ⟨v0, hv0⟩ : ∃ v0, v0 = w.alloc (.cells #[.int .i64 0, .int .i64 0, .int .i64 0, .int .i64 0, .int .i64 0, .int .i64 0, .bool false, .int .i64 0] 52) := ⟨_, rfl⟩
    rw [← hv0] at c14 cs r1 f1 HJ ⊢
    clear hv0 h1
    have e1 : v0.drew.cell? ⟨bx, 14, none⟩ = _ := c14
    have e2 : v0.drew.cell? ⟨bx, 32 + X.imm, none⟩ = _ := cs
    go_region_held3 (fun w' => w'.cell? ⟨bx, 14, none⟩ = some (.int .i64 (X.imm : Int)) ∧ w'.cell? ⟨bx, 32 + X.imm, none⟩ = some (.int .u32 ((X.z.s X.imm : Nat) : Int))) (first | with_reducible exact ⟨c14, cs⟩ | with_reducible exact ⟨e1, e2⟩ | with_reducible exact ⟨k1, k2⟩) (first
      | (go_at_call 131; refine (setA_any _ _ _ _ HJ.out.drew.x HJ.out.a).mono ?_; rintro e v ⟨⟨u, rfl⟩, fv, hx⟩; have k1 := hx.k14; have k2 : v.cell? ⟨bx, 32 + X.imm, none⟩ = some (.int .u32 ((X.z.s X.imm : Nat) : Int)) := hx.sys (i := X.imm) (by omega); have h6 := HJ.out.drew.turn fv hx (HJ.out.ok.setR _ hsl)))
    all_goals have r6 := r1.drew.keep fv (fun e => absurd (L.out _ (Or.inl (Or.inr e))) (by omega))
    all_goals have f7 := (fr_0 (B := B) (bx := bx) f1.drew).trans (fr_x fv)
    all_goals have HK : Hid (Jb v B nf bx M { X with z := X.z.setR X.a (X.z.s X.imm) }) := h6
    all_goals clear hx fv h6 k1 k2 e1 e2
    all_goals obtain ⟨x0, x1, x2, x3, x4, x5, x6, x7⟩ := cells8 r6
    all_goals obtain ⟨z0, z1, z2, z3, z4, z5, z6, z7⟩ := frozen8 r6
    all_goals go_wp2_with fail
    all_goals refine bodyPost_ret (ret_trap rfl rfl (row_set8 r6 _ _ _ _ _ _ _ _) rfl) rfl ?_
    all_goals exact don_end f7 HK.out (Nat.le_refl _) L.out t0 _ _ _ _ _ _ _ _ rfl

theorem ackA_range (S : Vg) : 0 ≤ ackA S ∧ ackA S ≤ 1023 := by
  unfold ackA
  cases h : nextO S with
  | none => exact ⟨by decide, by decide⟩
  | some k =>
    have := next_lt h
    exact ⟨Int.natCast_nonneg k, by show (k : Int) ≤ 1023; omega⟩

set_option maxHeartbeats 400000 in
theorem ackn_any (w : World) (B : Bm) (nf bx : Nat) (M : Mc) (X : Wk) (h : Jb w B nf bx M X) {b : Bk} (hb : B.v = some b) {S : Vg} (hV : M.V = some S) : Calls Tryz.prog 97 #[.pointer (some ⟨bx, 0, none⟩)] w (Aft w B nf bx { M with V := some (ackS S) } { X with z := X.z.setR X.a (ackA S).toNat }) := by
  have c2 := h.k2v hb
  have hA := ack_any w b S (h.isVg hb hV)
  have hr : 0 ≤ ackA S ∧ ackA S ≤ 1023 := ackA_range _
  obtain ⟨y, hy⟩ : ∃ y : Nat, ackA S = y := ⟨(ackA S).toNat, by omega⟩
  rw [hy] at hA hr ⊢
  rw [Int.toNat_natCast]
  have e1 := conv32 y (by omega)
  clear hy
  go_enter Tryz.func97, Tryz.ntmps97
  go_wp2_with fail
  refine hA.mono ?_
  rintro e v ⟨rfl, q⟩
  have h1 := h.vgic hb q
  have f1 := fr_g (bx := bx) hb q.1
  clear h hA c2 q
  go_wp2_with fail
  refine (setA_any _ _ _ _ h1.x h1.a).mono ?_
  rintro e v1 ⟨⟨u, rfl⟩, f, hx⟩
  have h2 := h1.turn f hx (h1.ok.setR _ (by omega))
  go_wp2_with fail
  refine post_void rfl rfl fun u => ?_
  exact ⟨⟨u, rfl⟩, f1.trans (fr_x f), h2⟩

def fgM (M : Mc) (X : Wk) : Mc := { M with T := wipe (fun l => l.v == X.vm && l.a == X.sd) M.T }

set_option maxRecDepth 100000 in
set_option maxHeartbeats 1600000 in
theorem forget1_any (w : World) (B : Bm) (nf bx : Nat) (M : Mc) (X : Wk) (h : Jb w B nf bx M X) : Calls Tryz.prog 99 #[.pointer (some ⟨bx, 0, none⟩)] w (Aft w B nf bx (fgM M X) X) := by
  have hF := flush_asid w.drew B.bt M.T M.fo M.mi X.vm X.sd h.drew.m.tlb
  have c1 : w.cell? ⟨bx, 1, none⟩ = some (.pointer (some ⟨B.bt, 0, none⟩)) := (wcells7 h.x h.p h.t).2.1
  have c3 := h.x.k3
  have c4 := h.x.k4
  have e1 : w.drew.cell? ⟨bx, 1, none⟩ = _ := c1
  have e3 : w.drew.cell? ⟨bx, 3, none⟩ = _ := c3
  have e4 : w.drew.cell? ⟨bx, 4, none⟩ = _ := c4
  have HJ : Hid (Jb w B nf bx M X) := h
  clear h
  go_enter Tryz.func99, Tryz.ntmps99
  go_wp2_with fail
  go_region_held3 (fun w' => w'.cell? ⟨bx, 1, none⟩ = some (.pointer (some ⟨B.bt, 0, none⟩)) ∧ w'.cell? ⟨bx, 3, none⟩ = some (.int .i64 X.vm) ∧ w'.cell? ⟨bx, 4, none⟩ = some (.int .i64 X.sd)) (first | with_reducible exact ⟨c1, c3, c4⟩ | with_reducible exact ⟨e1, e3, e4⟩ | with_reducible exact ⟨k1, k3, k4⟩) (first
    | (go_at_call 145; refine hF.mono ?_; rintro e v ⟨rfl, fv, hT⟩; have k1 := cell_keep fv e1 HJ.out.f3; have k3 := cell_keep fv e3 HJ.out.f3; have k4 := cell_keep fv e4 HJ.out.f3))
  all_goals go_wp2_with fail
  all_goals refine post_void rfl rfl fun u => ?_
  all_goals exact ⟨⟨u, rfl⟩, (fr_0 (Fr.refl none' w).drew).trans (fr_t fv), HJ.out.drew.buf fv hT⟩

end Go.Proofs.YtgnoakidjnilpaaGreat

/- CpuSys2 -/
namespace Go.Proofs.YtgnoakidjnilpaaGreat
open Go.RowKit

/-- msr. -/
def wrX (X : Wk) : Wk := if (5 : Int) < (X.imm : Int) then X else { X with z := X.z.setS X.imm (X.z.r X.b) }
def wrT (X : Wk) : Tr := if (5 : Int) < (X.imm : Int) then ⟨7, X.imm, X.pc, f0⟩ else t0
def wrM (M : Mc) (S : Vg) (X : Wk) : Mc := if (5 : Int) < (X.imm : Int) then M else if (X.imm : Int) = 2 then { M with V := some (masS S ((min (X.z.r X.b) 256 : Nat) : Int)) } else M

theorem min_u (a b : Nat) : (if (b : Int) < (a : Int) then (b : Int) else (a : Int)) = ((min a b : Nat) : Int) := by split <;> omega

set_option maxRecDepth 100000 in
set_option maxHeartbeats 1600000 in
theorem wsys_bad (w : World) (B : Bm) (nf bx : Nat) (M : Mc) (X : Wk) (h : Jb w B nf bx M X) (hi : (5 : Int) < (X.imm : Int)) : Calls Tryz.prog 95 #[.pointer (some ⟨bx, 0, none⟩)] w (Don w B nf bx M X ⟨7, X.imm, X.pc, f0⟩) := by
  have f1 := (Fr.refl none' w).alloc (.cells #[.int .i64 0, .int .i64 0, .int .i64 0, .int .i64 0, .int .i64 0, .int .i64 0, .bool false, .int .i64 0] 52)
  have h1 := h.alloc (.cells #[.int .i64 0, .int .i64 0, .int .i64 0, .int .i64 0, .int .i64 0, .int .i64 0, .bool false, .int .i64 0] 52)
  have r1 := row_alloc w #[.int .i64 0, .int .i64 0, .int .i64 0, .int .i64 0, .int .i64 0, .int .i64 0, .bool false, .int .i64 0] 52
  have L : Hid (∀ k, B.y bx k → k < w.heap.size) := h.lty
  clear h
  have c14 := h1.x.k14
  have u1 : decide ((5 : Int) < (X.imm : Int)) = true := decide_eq_true hi
  clear hi
  go_enter Tryz.func95, Tryz.ntmps95
  go_wp2_with fail
  refine (wtrap_any _ _ _ _ _ h1.x).mono ?_
  rintro e v ⟨rfl, fv⟩
  replace r1 := r1.keep fv (fun h => h)
  have f2 := f1.trans fv
  have HJ : Hid (Jb v B nf bx M X) := h1.keep0 fv
  clear h1 fv f1 c14
  obtain ⟨x0, x1, x2, x3, x4, x5, x6, x7⟩ := cells8 r1
  obtain ⟨z0, z1, z2, z3, z4, z5, z6, z7⟩ := frozen8 r1
  go_wp2_with fail
  refine bodyPost_ret (ret_trap rfl rfl (row_set8 r1 _ _ _ _ _ _ _ _) rfl) rfl ?_
  exact don_end (fr_0 f2) HJ.out (Nat.le_refl _) L.out ⟨7, X.imm, X.pc, f0⟩ _ _ _ _ _ _ _ _ rfl

set_option maxRecDepth 100000 in
set_option maxHeartbeats 1600000 in
theorem wsys_ok (w : World) (B : Bm) (nf bx : Nat) (M : Mc) (X : Wk) (h : Jb w B nf bx M X) {b : Bk} (hb : B.v = some b) {S : Vg} (hV : M.V = some S) (hi : ¬ (5 : Int) < (X.imm : Int)) : Calls Tryz.prog 95 #[.pointer (some ⟨bx, 0, none⟩)] w (Don w B nf bx (if (X.imm : Int) = 2 then { M with V := some (masS S ((min (X.z.r X.b) 256 : Nat) : Int)) } else M) { X with z := X.z.setS X.imm (X.z.r X.b) } t0) := by
  have f1 := (Fr.refl none' w).alloc (.cells #[.int .i64 0, .int .i64 0, .int .i64 0, .int .i64 0, .int .i64 0, .int .i64 0, .bool false, .int .i64 0] 52)
  have h1 := h.alloc (.cells #[.int .i64 0, .int .i64 0, .int .i64 0, .int .i64 0, .int .i64 0, .int .i64 0, .bool false, .int .i64 0] 52)
  have r1 := row_alloc w #[.int .i64 0, .int .i64 0, .int .i64 0, .int .i64 0, .int .i64 0, .int .i64 0, .bool false, .int .i64 0] 52
  have L : Hid (∀ k, B.y bx k → k < w.heap.size) := h.lty
  clear h
  have c14 := h1.x.k14
  have u1 : decide ((5 : Int) < (X.imm : Int)) = false := decide_eq_false hi
  have i1 : 0 ≤ (X.imm : Int) ∧ (X.imm : Int) < 8 := by omega
  have i8 : X.imm < 8 := by omega
  have hrl := h1.ok.r X.b
  obtain ⟨y, hy⟩ : ∃ y : Nat, min (X.z.r X.b) 256 = y := ⟨_, rfl⟩
  have hmn := min_u (X.z.r X.b) 256
  have hmn2 : min ((X.z.r X.b : Nat) : Int) 256 = (y : Int) := by omega
  rw [hy] at hmn ⊢
  have e3 : IntKind.i64.wrap (y : Int) = (y : Int) := by rw [IntKind.wrap_i64]; omega
  have HMN : Hid ((if (256 : Int) < ((X.z.r X.b : Nat) : Int) then (256 : Int) else ((X.z.r X.b : Nat) : Int)) = (y : Int)) := hmn
  have hV2 : ∀ w1 (c : Int), c = (y : Int) → Jb w1 B nf bx M { X with z := X.z.setS X.imm (X.z.r X.b) } → Calls Tryz.prog 141 #[.pointer (some ⟨b.b, 0, none⟩), .int .i64 c] w1 fun e w' => (∃ u, e = .returned u) ∧ Chg w1 b (masS S (y : Int)) w' := fun w1 c hc g => by subst hc; exact (mask_any w1 b S (g.isVg hb hV) _).mono (fun e w' ⟨a, c⟩ => ⟨⟨_, a⟩, c⟩)
  clear hmn hy
  obtain ⟨M2, hM2⟩ : ∃ q, (if (X.imm : Int) = 2 then { M with V := some (masS S (y : Int)) } else M) = q := ⟨_, rfl⟩
  have HM : Hid ((if (X.imm : Int) = 2 then { M with V := some (masS S (y : Int)) } else M) = M2) := hM2
  rw [hM2]
  clear hi hM2
  have HJ : Hid (Jb _ B nf bx M X) := h1
  go_enter Tryz.func95, Tryz.ntmps95
  go_wp2_with fail
  obtain ⟨v0, hv0⟩ : ∃ v0, v0 = w.alloc (.cells #[.int .i64 0, .int .i64 0, .int .i64 0, .int .i64 0, .int .i64 0, .int .i64 0, .bool false, .int .i64 0] 52) := ⟨_, rfl⟩
  rw [← hv0] at c14 r1 f1 HJ ⊢
  clear hv0 h1
  have e1 : v0.drew.cell? ⟨bx, 14, none⟩ = _ := c14
  go_cut [2] from 16 to 27 (fun s wx => s = .pointer (some ⟨w.heap.size, 0, none⟩) ∧ Row wx w.heap.size #[.int .i64 0, .int .i64 0, .int .i64 0, .int .i64 0, .int .i64 0, .int .i64 0, .bool false, .int .i64 0] 52 ∧ Fr (B.x bx) w wx ∧ Hid (Jb wx B nf bx M { X with z := X.z.setS X.imm (X.z.r X.b) }))
  case first =>
    go_region_held3 (fun w' => w'.cell? ⟨bx, 14, none⟩ = some (.int .i64 (X.imm : Int))) (first | with_reducible exact c14 | with_reducible exact e1 | with_reducible exact k1 | with_reducible exact k3) (first
      | (go_at_call 133; refine (b_any _ _ _ HJ.out.drew.x HJ.out.b).mono ?_; rintro e v ⟨rfl, m, rfl⟩; obtain ⟨v, hv, fv⟩ := drewN_new (w := v0.drew) m; rw [← hv]; have hJ := HJ.out.drew.keep0 fv; have k1 := hJ.x.k14; have r5 := r1.drew.keep fv (fun h => h); have f5 := (fr_0 (B := B) (bx := bx) f1.drew).trans (fr_0 fv); have cz := hJ.x.sys i8; have zz := hJ.x.frozen (32 + X.imm); have hx := hJ.x.setS (v := X.z.r X.b) i8; have k3 : (v.setCell ⟨bx, 32 + X.imm, none⟩ (.int .u32 ((X.z.r X.b : Nat) : Int))).cell? ⟨bx, 14, none⟩ = some (.int .i64 (X.imm : Int)) := hx.k14; clear hv fv))
    all_goals go_wp2_with fail
    all_goals go_meet
    all_goals have q := fr_set v bx (32 + X.imm) (.int .u32 ((X.z.r X.b : Nat) : Int)) (Fr.refl _ v)
    all_goals exact ⟨rfl, r5.keep q (fun e => absurd (L.out _ (Or.inl (Or.inr e))) (by omega)), f5.trans (fr_x q), hJ.turn q hx (hJ.ok.setS _ hrl)⟩
  case rest =>
    obtain ⟨rfl, R, fc, HK⟩ := hcut
    clear r1 f1 HJ c14 e1 v0
    have k14 := HK.out.x.k14
    by_cases h2 : (X.imm : Int) = 2
    · have u2 : ((X.imm : Int) == 2) = true := by simp [h2]
      have hM := HM.out
      rw [if_pos h2] at hM
      subst hM
      clear HM h2
      have c2 := HK.out.k2v hb
      have e2 : wc.drew.cell? ⟨bx, 2, none⟩ = _ := c2
      have e4 : IntKind.i64.wrap ((X.z.r X.b : Nat) : Int) = ((X.z.r X.b : Nat) : Int) := by rw [IntKind.wrap_i64]; omega
      have hBB : ∀ w1, Jb w1 B nf bx M { X with z := X.z.setS X.imm (X.z.r X.b) } → Calls Tryz.prog 133 #[.pointer (some ⟨bx, 0, none⟩)] w1 fun e w' => e = .returned (.int .u32 ((X.z.r X.b : Nat) : Int)) ∧ ∃ m, w' = w1.drewN m := fun w1 g => b_any w1 bx { X with z := X.z.setS X.imm (X.z.r X.b) } g.x g.b
      clear hmn2 e3
      rcases Decidable.em ((256 : Int) < ((X.z.r X.b : Nat) : Int)) with hq | hq
      all_goals
        go_wp2_with fail
        go_region_held3 (fun w' => w'.cell? ⟨bx, 2, none⟩ = some (.pointer (some ⟨b.b, 0, none⟩))) (first | with_reducible exact c2 | with_reducible exact e2 | with_reducible exact k1 | with_reducible exact k3) (first
          | (go_at_call 133; refine (hBB _ HK.out.drew).mono ?_; rintro e v ⟨rfl, m, rfl⟩; obtain ⟨v, hv, fv⟩ := drewN_new (w := wc.drew) m; rw [← hv]; have hJ := HK.out.drew.keep0 fv; have k1 := hJ.k2v hb; have r5 := R.drew.keep fv (fun h => h); have f5 := fc.drew.trans (fr_0 fv); clear hv fv)
          | (go_at_call 141; refine (hV2 _ _ (by have hh := HMN.out; first | (rw [hh, IntKind.wrap_i64]; split at hh <;> omega) | (rw [IntKind.wrap_i64]; split at hh <;> omega)) hJ).mono ?_; rintro e v2 ⟨⟨u, rfl⟩, q⟩; have h6 := hJ.vgic hb q; have k3 := h6.k2v hb))
        all_goals have r6 := r5.keep q.1 (fun e => absurd (L.out _ (Or.inl (Or.inl (Or.inr (Or.inr (by simp only [Bm.g, hb]; exact e)))))) (by omega))
        all_goals have f7 := f5.trans (fr_g hb q.1)
        all_goals have HQ : Hid (Jb v2 B nf bx { M with V := some (masS S (y : Int)) } { X with z := X.z.setS X.imm (X.z.r X.b) }) := h6
        all_goals clear hJ h6 f5 q k1 k3
        all_goals obtain ⟨x0, x1, x2, x3, x4, x5, x6, x7⟩ := cells8 r6
        all_goals obtain ⟨z0, z1, z2, z3, z4, z5, z6, z7⟩ := frozen8 r6
        all_goals go_wp2_with fail
        all_goals refine bodyPost_ret (ret_trap rfl rfl (row_set8 r6 _ _ _ _ _ _ _ _) rfl) rfl ?_
        all_goals exact don_end f7 HQ.out (Nat.le_refl _) L.out t0 _ _ _ _ _ _ _ _ rfl
    · have u2 : ((X.imm : Int) == 2) = false := by simp [h2]
      have hM := HM.out
      rw [if_neg h2] at hM
      subst hM
      clear HM h2
      obtain ⟨x0, x1, x2, x3, x4, x5, x6, x7⟩ := cells8 R
      obtain ⟨z0, z1, z2, z3, z4, z5, z6, z7⟩ := frozen8 R
      go_wp2_with fail
      refine bodyPost_ret (ret_trap rfl rfl (row_set8 R _ _ _ _ _ _ _ _) rfl) rfl ?_
      exact don_end fc HK.out (Nat.le_refl _) L.out t0 _ _ _ _ _ _ _ _ rfl

end Go.Proofs.YtgnoakidjnilpaaGreat

/- CpuSys3 -/
namespace Go.Proofs.YtgnoakidjnilpaaGreat
open Go.RowKit

set_option maxRecDepth 100000 in
set_option maxHeartbeats 1600000 in
theorem wait_none (w : World) (B : Bm) (nf bx : Nat) (M : Mc) (X : Wk) (h : Jb w B nf bx M X) (hb : B.v = none) : Calls Tryz.prog 96 #[.pointer (some ⟨bx, 0, none⟩)] w (Don w B nf bx M X ⟨9, 0, X.pc, f0⟩) := by
  have f1 := (Fr.refl none' w).alloc (.cells #[.int .i64 0, .int .i64 0, .int .i64 0, .int .i64 0, .int .i64 0, .int .i64 0, .bool false, .int .i64 0] 52)
  have h1 := h.alloc (.cells #[.int .i64 0, .int .i64 0, .int .i64 0, .int .i64 0, .int .i64 0, .int .i64 0, .bool false, .int .i64 0] 52)
  have r1 := row_alloc w #[.int .i64 0, .int .i64 0, .int .i64 0, .int .i64 0, .int .i64 0, .int .i64 0, .bool false, .int .i64 0] 52
  have L : Hid (∀ k, B.y bx k → k < w.heap.size) := h.lty
  clear h
  have c2 := h1.k2n hb
  go_enter Tryz.func96, Tryz.ntmps96
  go_wp2_with fail
  refine (wtrap_any _ _ _ _ _ h1.x).mono ?_
  rintro e v ⟨rfl, fv⟩
  replace r1 := r1.keep fv (fun h => h)
  have f2 := f1.trans fv
  have HJ : Hid (Jb v B nf bx M X) := h1.keep0 fv
  clear h1 fv f1
  clear c2
  obtain ⟨x0, x1, x2, x3, x4, x5, x6, x7⟩ := cells8 r1
  obtain ⟨z0, z1, z2, z3, z4, z5, z6, z7⟩ := frozen8 r1
  go_wp2_with fail
  refine bodyPost_ret (ret_trap rfl rfl (row_set8 r1 _ _ _ _ _ _ _ _) rfl) rfl ?_
  exact don_end (fr_0 f2) HJ.out (Nat.le_refl _) L.out ⟨9, 0, X.pc, f0⟩ _ _ _ _ _ _ _ _ rfl

set_option maxRecDepth 100000 in
set_option maxHeartbeats 1600000 in
theorem wait_some (w : World) (B : Bm) (nf bx : Nat) (M : Mc) (X : Wk) (h : Jb w B nf bx M X) {b : Bk} (hb : B.v = some b) {S : Vg} (hV : M.V = some S) : Calls Tryz.prog 96 #[.pointer (some ⟨bx, 0, none⟩)] w (Don w B nf bx M X (if (nextO S).isSome = true then t0 else ⟨9, 0, X.pc, f0⟩)) := by
  have f1 := (Fr.refl none' w).alloc (.cells #[.int .i64 0, .int .i64 0, .int .i64 0, .int .i64 0, .int .i64 0, .int .i64 0, .bool false, .int .i64 0] 52)
  have h1 := h.alloc (.cells #[.int .i64 0, .int .i64 0, .int .i64 0, .int .i64 0, .int .i64 0, .int .i64 0, .bool false, .int .i64 0] 52)
  have r1 := row_alloc w #[.int .i64 0, .int .i64 0, .int .i64 0, .int .i64 0, .int .i64 0, .int .i64 0, .bool false, .int .i64 0] 52
  have L : Hid (∀ k, B.y bx k → k < w.heap.size) := h.lty
  clear h
  have c2 := h1.k2v hb
  have hN := fun w1 (g : Jb w1 B nf bx M X) => next_any w1 b S (g.isVg hb hV)
  cases ho : (nextO S).isSome with
  | true =>
    rw [ho] at hN
    rw [if_pos rfl]
    go_enter Tryz.func96, Tryz.ntmps96
    go_wp2_with fail
    refine (hN _ h1).mono ?_
    rintro e v ⟨rfl, fv⟩
    replace r1 := r1.keep fv (fun h => h)
    have f2 := f1.trans fv
    have HJ : Hid (Jb v B nf bx M X) := h1.keep0 fv
    clear h1 fv f1 c2 hN
    obtain ⟨x0, x1, x2, x3, x4, x5, x6, x7⟩ := cells8 r1
    obtain ⟨z0, z1, z2, z3, z4, z5, z6, z7⟩ := frozen8 r1
    go_wp2_with fail
    refine bodyPost_ret (ret_trap rfl rfl (row_set8 r1 _ _ _ _ _ _ _ _) rfl) rfl ?_
    exact don_end (fr_0 f2) HJ.out (Nat.le_refl _) L.out t0 _ _ _ _ _ _ _ _ rfl

  | false =>
    rw [ho] at hN
    rw [if_neg (by decide)]
    go_enter Tryz.func96, Tryz.ntmps96
    go_wp2_with fail
    refine (hN _ h1).mono ?_
    rintro e v' ⟨rfl, fv⟩
    replace r1 := r1.keep fv (fun h => h)
    replace f1 := f1.trans fv
    replace h1 := h1.keep0 fv
    clear fv c2 hN
    go_wp2_with fail
    refine (wtrap_any _ _ _ _ _ h1.x).mono ?_
    rintro e v ⟨rfl, fv⟩
    replace r1 := r1.keep fv (fun h => h)
    have f2 := f1.trans fv
    have HJ : Hid (Jb v B nf bx M X) := h1.keep0 fv
    clear h1 fv f1

    obtain ⟨x0, x1, x2, x3, x4, x5, x6, x7⟩ := cells8 r1
    obtain ⟨z0, z1, z2, z3, z4, z5, z6, z7⟩ := frozen8 r1
    go_wp2_with fail
    refine bodyPost_ret (ret_trap rfl rfl (row_set8 r1 _ _ _ _ _ _ _ _) rfl) rfl ?_
    exact don_end (fr_0 f2) HJ.out (Nat.le_refl _) L.out ⟨9, 0, X.pc, f0⟩ _ _ _ _ _ _ _ _ rfl

set_option maxRecDepth 100000 in
set_option maxHeartbeats 1600000 in
theorem wend_any (w : World) (B : Bm) (nf bx : Nat) (M : Mc) (X : Wk) (h : Jb w B nf bx M X) {b : Bk} (hb : B.v = some b) {S : Vg} (hV : M.V = some S) : Calls Tryz.prog 98 #[.pointer (some ⟨bx, 0, none⟩)] w (Don w B nf bx { M with V := some (endS S ((min (X.z.r X.b) 64 : Nat) : Int)) } X (if endF S ((min (X.z.r X.b) 64 : Nat) : Int) = true then ⟨10, X.z.r X.b, X.pc, f0⟩ else t0)) := by
  have f1 := (Fr.refl none' w).alloc (.cells #[.int .i64 0, .int .i64 0, .int .i64 0, .int .i64 0, .int .i64 0, .int .i64 0, .bool false, .int .i64 0] 52)
  have h1 := h.alloc (.cells #[.int .i64 0, .int .i64 0, .int .i64 0, .int .i64 0, .int .i64 0, .int .i64 0, .bool false, .int .i64 0] 52)
  have r1 := row_alloc w #[.int .i64 0, .int .i64 0, .int .i64 0, .int .i64 0, .int .i64 0, .int .i64 0, .bool false, .int .i64 0] 52
  have L : Hid (∀ k, B.y bx k → k < w.heap.size) := h.lty
  clear h
  have hrl := h1.ok.r X.b
  have HMN : Hid ((if (64 : Int) < ((X.z.r X.b : Nat) : Int) then (64 : Int) else ((X.z.r X.b : Nat) : Int)) = ((min (X.z.r X.b) 64 : Nat) : Int)) := min_u (X.z.r X.b) 64
  have e4 : IntKind.i64.wrap ((X.z.r X.b : Nat) : Int) = ((X.z.r X.b : Nat) : Int) := by rw [IntKind.wrap_i64]; omega
  obtain ⟨y, hy⟩ : ∃ y : Nat, min (X.z.r X.b) 64 = y := ⟨_, rfl⟩
  rw [hy] at HMN ⊢
  clear hy
  have hV2 : ∀ w1 (c : Int), c = (y : Int) → Jb w1 B nf bx M X → Calls Tryz.prog 144 #[.pointer (some ⟨b.b, 0, none⟩), .int .i64 c] w1 fun e w' => e = .returned (.tuple #[.bool (endF S (y : Int)), .int .i64 (endE S (y : Int))]) ∧ Chg w1 b (endS S (y : Int)) w' := fun w1 c hc g => by subst hc; exact end_any w1 b S (g.isVg hb hV) _
  obtain ⟨F, hF⟩ : ∃ F, endF S (y : Int) = F := ⟨_, rfl⟩
  rw [hF] at hV2 ⊢
  obtain ⟨S2, hS2⟩ : ∃ S2, endS S (y : Int) = S2 := ⟨_, rfl⟩
  rw [hS2] at hV2 ⊢
  obtain ⟨E, hE⟩ : ∃ E, endE S (y : Int) = E := ⟨_, rfl⟩
  rw [hE] at hV2
  clear hF hS2 hE
  have c2 := h1.k2v hb
  have HJ : Hid (Jb _ B nf bx M X) := h1
  obtain ⟨T2, hT2⟩ : ∃ q, (if F = true then (⟨10, X.z.r X.b, X.pc, f0⟩ : Tr) else t0) = q := ⟨_, rfl⟩
  have HT : Hid ((if F = true then (⟨10, X.z.r X.b, X.pc, f0⟩ : Tr) else t0) = T2) := hT2
  rw [hT2]
  clear hT2
  go_enter Tryz.func98, Tryz.ntmps98
  go_wp2_with fail
  obtain ⟨v0, hv0⟩ : ∃ v0, v0 = w.alloc (.cells #[.int .i64 0, .int .i64 0, .int .i64 0, .int .i64 0, .int .i64 0, .int .i64 0, .bool false, .int .i64 0] 52) := ⟨_, rfl⟩
  rw [← hv0] at c2 r1 f1 HJ ⊢
  clear hv0 h1
  have e2 : v0.drew.cell? ⟨bx, 2, none⟩ = _ := c2
  go_cut [2, 3] from 5 to 17 (fun s a wx => s = .pointer (some ⟨w.heap.size, 0, none⟩) ∧ a = .bool F ∧ Row wx w.heap.size #[.int .i64 0, .int .i64 0, .int .i64 0, .int .i64 0, .int .i64 0, .int .i64 0, .bool false, .int .i64 0] 52 ∧ Fr (B.x bx) w wx ∧ Hid (Jb wx B nf bx { M with V := some S2 } X))
  case first =>
    rcases Decidable.em ((64 : Int) < ((X.z.r X.b : Nat) : Int)) with hq | hq
    all_goals
      go_region_held3 (fun w' => w'.cell? ⟨bx, 2, none⟩ = some (.pointer (some ⟨b.b, 0, none⟩))) (first | with_reducible exact c2 | with_reducible exact e2 | with_reducible exact k1 | with_reducible exact k3) (first
        | (go_at_call 133; refine (b_any _ _ _ HJ.out.drew.x HJ.out.b).mono ?_; rintro e v ⟨rfl, m, rfl⟩; obtain ⟨v, hv, fv⟩ := drewN_new (w := v0.drew) m; rw [← hv]; have hJ := HJ.out.drew.keep0 fv; have k1 := hJ.k2v hb; have r5 := r1.drew.keep fv (fun h => h); have f5 := (fr_0 (B := B) (bx := bx) f1.drew).trans (fr_0 fv); clear hv fv)
        | (go_at_call 144; refine (hV2 _ _ (by have hh := HMN.out; first | (rw [hh, IntKind.wrap_i64]; split at hh <;> omega) | (rw [IntKind.wrap_i64]; split at hh <;> omega)) hJ).mono ?_; rintro e v2 ⟨rfl, q⟩; have h6 := hJ.vgic hb q; have k3 := h6.k2v hb))
      all_goals go_wp2_with fail
      all_goals go_meet
      all_goals exact ⟨rfl, rfl, r5.keep q.1 (fun e => absurd (L.out _ (Or.inl (Or.inl (Or.inr (Or.inr (by simp only [Bm.g, hb]; exact e)))))) (by omega)), f5.trans (fr_g hb q.1), h6⟩
  case rest =>
    obtain ⟨rfl, rfl, R, fc, HK⟩ := hcut
    clear r1 f1 HJ c2 e2 v0 hV2
    cases F with
    | true =>
      have hT := HT.out
      rw [if_pos rfl] at hT
      subst hT
      go_wp2_with fail
      refine (b_any _ _ _ HK.out.x HK.out.b).mono ?_
      rintro e v' ⟨rfl, m, rfl⟩
      obtain ⟨v', hv, fv⟩ := drewN_new (w := wc) m
      rw [← hv]
      have h1 := HK.out.keep0 fv
      have r1 := R.keep fv (fun h => h)
      have f1 := fc.trans (fr_0 fv)
      clear hv fv HK fc R
      go_wp2_with fail
      refine (wtrap_any _ _ _ _ _ h1.x).mono ?_
      rintro e v ⟨rfl, fv⟩
      replace r1 := r1.keep fv (fun h => h)
      have f2 := f1.trans (fr_0 fv)
      have HJ : Hid (Jb v B nf bx { M with V := some S2 } X) := h1.keep0 fv
      clear h1 fv f1
      obtain ⟨x0, x1, x2, x3, x4, x5, x6, x7⟩ := cells8 r1
      obtain ⟨z0, z1, z2, z3, z4, z5, z6, z7⟩ := frozen8 r1
      go_wp2_with fail
      refine bodyPost_ret (ret_trap rfl rfl (row_set8 r1 _ _ _ _ _ _ _ _) rfl) rfl ?_
      exact don_end f2 HJ.out (Nat.le_refl _) L.out ⟨10, X.z.r X.b, X.pc, f0⟩ _ _ _ _ _ _ _ _ rfl

    | false =>
      have hT := HT.out
      rw [if_neg (by decide)] at hT
      subst hT
      obtain ⟨x0, x1, x2, x3, x4, x5, x6, x7⟩ := cells8 R
      obtain ⟨z0, z1, z2, z3, z4, z5, z6, z7⟩ := frozen8 R
      go_wp2_with fail
      refine bodyPost_ret (ret_trap rfl rfl (row_set8 R _ _ _ _ _ _ _ _) rfl) rfl ?_
      exact don_end fc HK.out (Nat.le_refl _) L.out t0 _ _ _ _ _ _ _ _ rfl

end Go.Proofs.YtgnoakidjnilpaaGreat

/- CpuExec -/
namespace Go.Proofs.YtgnoakidjnilpaaGreat
open Go.RowKit

def Mc.S (M : Mc) : Vg := M.V.getD (zeroV 1)
def isG (k : Nat) : Bool := k == 17 || k == 19 || k == 20 || k == 22 || k == 23 || k == 24
def wfT (M : Mc) (X : Wk) : Tr := match M.V with
  | some S => if (nextO S).isSome = true then t0 else ⟨9, 0, X.pc, f0⟩
  | none => ⟨9, 0, X.pc, f0⟩
def eoT (S : Vg) (X : Wk) : Tr := if endF S ((min (X.z.r X.b) 64 : Nat) : Int) = true then ⟨10, X.z.r X.b, X.pc, f0⟩ else t0

def Wk.setZ (X : Wk) (z : Cp) : Wk := { X with z := z }
def exec (nf : Nat) (M : Mc) (X : Wk) : Mc × Wk × Tr := match X.op with
  | 1 => (M, X.setZ (X.z.setR X.a X.imm), t0)
  | 2 => (M, X.setZ (X.z.setR X.a (gAdd (X.z.r X.b) (X.z.r X.c))), t0)
  | 3 => (M, X.setZ (X.z.setR X.a (gSub (X.z.r X.b) (X.z.r X.c))), t0)
  | 4 => (M, X.setZ (X.z.setR X.a (gAnd (X.z.r X.b) (X.z.r X.c))), t0)
  | 5 => (M, X.setZ (X.z.setR X.a (gXor (X.z.r X.b) (X.z.r X.c))), t0)
  | 6 => (M, X.setZ (X.z.setR X.a (gShl (X.z.r X.b) (X.z.r X.c))), t0)
  | 7 => (dM M nf X 4 1, ldX M nf X 4, dT M nf X 4 1 2)
  | 8 => (stM M nf X 4, X, dT M nf X 4 2 3)
  | 9 => (dM M nf X 1 1, ldX M nf X 1, dT M nf X 1 1 2)
  | 10 => (stM M nf X 1, X, dT M nf X 1 2 3)
  | 11 => (M, X.setZ (if decide (X.z.r X.a = X.z.r X.b) = true then X.z.setP X.imm else X.z), t0)
  | 12 => (M, X.setZ (if (!decide (X.z.r X.a = X.z.r X.b)) = true then X.z.setP X.imm else X.z), t0)
  | 13 => (M, X.setZ (if decide (X.z.r X.a < X.z.r X.b) = true then X.z.setP X.imm else X.z), t0)
  | 14 => (M, X.setZ (X.z.setP X.imm), t0)
  | 15 => (M, X.setZ ((X.z.setR X.a ((X.pc + 4) % 65536).toNat).setP X.imm), t0)
  | 16 => (M, X.setZ (X.z.setP ((X.z.r X.b % 65536 : Nat) : Int)), t0)
  | 17 => (M, X, ⟨5, X.imm, X.pc, f0⟩)
  | 18 => (M, X, ⟨6, X.imm, X.pc, f0⟩)
  | 19 => (M, rdX X, rdT X)
  | 20 => (wrM M M.S X, wrX X, wrT X)
  | 21 => (M, X, wfT M X)
  | 22 => ({ M with V := some (ackS M.S) }, X.setZ (X.z.setR X.a (ackA M.S).toNat), t0)
  | 23 => ({ M with V := some (endS M.S ((min (X.z.r X.b) 64 : Nat) : Int)) }, X, eoT M.S X)
  | 24 => (fgM M X, X, t0)
  | _ => (M, X, t0)

end Go.Proofs.YtgnoakidjnilpaaGreat

/- CpuOps -/
namespace Go.Proofs.YtgnoakidjnilpaaGreat
open Go.RowKit

set_option maxHeartbeats 400000 in
theorem smooth_any (w : World) (fn : Nat) (caps : Array Value) (n : Nat) (hn : w.heap.size = n) : Calls Tryz.prog 76 #[.func (.func fn) #[] caps] w fun e w' => e = .returned (.func (.func 130) #[] #[.pointer (some ⟨n, 0, none⟩)]) ∧ Fr none' w w' ∧ w'.heap.size = n + 1 ∧ Row w' n #[.func (.func fn) #[] caps] 179 := by
  subst hn
  go_enter Tryz.func76, Tryz.ntmps76
  go_wp2_with fail
  go_ret
  exact ⟨rfl, (Fr.refl _ _).alloc _, by simp, row_alloc _ _ _⟩

set_option maxHeartbeats 400000 in
theorem load_mk (w : World) (k : Int) (n : Nat) (hn : w.heap.size = n) : Calls Tryz.prog 84 #[.int .i64 k] w fun e w' => e = .returned (.func (.func 134) #[] #[.pointer (some ⟨n, 0, none⟩)]) ∧ Fr none' w w' ∧ w'.heap.size = n + 1 ∧ Row w' n #[.int .i64 k] 3 := by
  subst hn
  go_enter Tryz.func84, Tryz.ntmps84
  go_wp2_with fail
  go_ret
  exact ⟨rfl, (Fr.refl _ _).alloc _, by simp, row_alloc _ _ _⟩

set_option maxHeartbeats 400000 in
theorem store_mk (w : World) (k : Int) (n : Nat) (hn : w.heap.size = n) : Calls Tryz.prog 85 #[.int .i64 k] w fun e w' => e = .returned (.func (.func 136) #[] #[.pointer (some ⟨n, 0, none⟩)]) ∧ Fr none' w w' ∧ w'.heap.size = n + 1 ∧ Row w' n #[.int .i64 k] 3 := by
  subst hn
  go_enter Tryz.func85, Tryz.ntmps85
  go_wp2_with fail
  go_ret
  exact ⟨rfl, (Fr.refl _ _).alloc _, by simp, row_alloc _ _ _⟩

set_option maxHeartbeats 400000 in
theorem call_mk (w : World) (k : Int) (n : Nat) (hn : w.heap.size = n) : Calls Tryz.prog 93 #[.int .i64 k] w fun e w' => e = .returned (.func (.func 139) #[] #[.pointer (some ⟨n, 0, none⟩)]) ∧ Fr none' w w' ∧ w'.heap.size = n + 1 ∧ Row w' n #[.int .i64 k] 3 := by
  subst hn
  go_enter Tryz.func93, Tryz.ntmps93
  go_wp2_with fail
  go_ret
  exact ⟨rfl, (Fr.refl _ _).alloc _, by simp, row_alloc _ _ _⟩

set_option maxHeartbeats 400000 in
theorem compute_mk (w : World) (fn : Nat) (n : Nat) (hn : w.heap.size = n) : Calls Tryz.prog 78 #[.func (.func fn) #[] #[]] w fun e w' => e = .returned (.func (.func 130) #[] #[.pointer (some ⟨n + 1, 0, none⟩)]) ∧ Fr none' w w' ∧ w'.heap.size = n + 1 + 1 ∧ Row w' n #[.func (.func fn) #[] #[]] 183 ∧ Row w' (n + 1) #[.func (.func 132) #[] #[.pointer (some ⟨n, 0, none⟩)]] 179 := by
  subst hn
  have f1 := (Fr.refl none' w).alloc (.cells #[.func (.func fn) #[] #[]] 183)
  have r1 := row_alloc w #[.func (.func fn) #[] #[]] 183
  go_enter Tryz.func78, Tryz.ntmps78
  go_wp2_with fail
  refine (smooth_any _ _ _ (w.heap.size + 1) (by simp)).mono ?_
  rintro e v ⟨rfl, g, s, r⟩
  replace r1 := r1.keep g (fun h => h)
  have f2 := f1.trans g
  clear f1 g
  go_wp2_with fail
  go_ret
  exact ⟨rfl, f2, s, r1, r⟩

set_option maxHeartbeats 400000 in
theorem branch_mk (w : World) (fn : Nat) (n : Nat) (hn : w.heap.size = n) : Calls Tryz.prog 86 #[.func (.func fn) #[] #[]] w fun e w' => e = .returned (.func (.func 130) #[] #[.pointer (some ⟨n + 1, 0, none⟩)]) ∧ Fr none' w w' ∧ w'.heap.size = n + 1 + 1 ∧ Row w' n #[.func (.func fn) #[] #[]] 186 ∧ Row w' (n + 1) #[.func (.func 138) #[] #[.pointer (some ⟨n, 0, none⟩)]] 179 := by
  subst hn
  have f1 := (Fr.refl none' w).alloc (.cells #[.func (.func fn) #[] #[]] 186)
  have r1 := row_alloc w #[.func (.func fn) #[] #[]] 186
  go_enter Tryz.func86, Tryz.ntmps86
  go_wp2_with fail
  refine (smooth_any _ _ _ (w.heap.size + 1) (by simp)).mono ?_
  rintro e v ⟨rfl, g, s, r⟩
  replace r1 := r1.keep g (fun h => h)
  have f2 := f1.trans g
  clear f1 g
  go_wp2_with fail
  go_ret
  exact ⟨rfl, f2, s, r1, r⟩

/-- The list's cells, if it was made when there were N blocks. -/
def opsA (N : Nat) : Array Value := #[.bool false, .nilFunc, .bool false, .func (.func 130) #[] #[.pointer (some ⟨N, 0, none⟩)], .bool false, .func (.func 130) #[] #[.pointer (some ⟨N + 2, 0, none⟩)], .bool false, .func (.func 130) #[] #[.pointer (some ⟨N + 4, 0, none⟩)], .bool false, .func (.func 130) #[] #[.pointer (some ⟨N + 6, 0, none⟩)], .bool false, .func (.func 130) #[] #[.pointer (some ⟨N + 8, 0, none⟩)], .bool false, .func (.func 130) #[] #[.pointer (some ⟨N + 10, 0, none⟩)], .bool false, .func (.func 134) #[] #[.pointer (some ⟨N + 11, 0, none⟩)], .bool false, .func (.func 136) #[] #[.pointer (some ⟨N + 12, 0, none⟩)], .bool false, .func (.func 134) #[] #[.pointer (some ⟨N + 13, 0, none⟩)], .bool false, .func (.func 136) #[] #[.pointer (some ⟨N + 14, 0, none⟩)], .bool false, .func (.func 130) #[] #[.pointer (some ⟨N + 16, 0, none⟩)], .bool false, .func (.func 130) #[] #[.pointer (some ⟨N + 18, 0, none⟩)], .bool false, .func (.func 130) #[] #[.pointer (some ⟨N + 20, 0, none⟩)], .bool false, .func (.func 130) #[] #[.pointer (some ⟨N + 21, 0, none⟩)], .bool false, .func (.func 130) #[] #[.pointer (some ⟨N + 22, 0, none⟩)], .bool false, .func (.func 130) #[] #[.pointer (some ⟨N + 23, 0, none⟩)], .bool true, .func (.func 139) #[] #[.pointer (some ⟨N + 24, 0, none⟩)], .bool false, .func (.func 139) #[] #[.pointer (some ⟨N + 25, 0, none⟩)], .bool true, .func (.func 94) #[] #[], .bool true, .func (.func 95) #[] #[], .bool false, .func (.func 96) #[] #[], .bool true, .func (.func 130) #[] #[.pointer (some ⟨N + 26, 0, none⟩)], .bool true, .func (.func 98) #[] #[], .bool true, .func (.func 130) #[] #[.pointer (some ⟨N + 27, 0, none⟩)], .bool false, .func (.func 130) #[] #[.pointer (some ⟨N + 28, 0, none⟩)]]

structure Ops (w : World) (N : Nat) : Prop where
  list : Row w (N + 29) (opsA N) 181
  b0 : Row w (N) #[.func (.func 77) #[] #[]] 179
  b1 : Row w (N + 1) #[.func (.func 79) #[] #[]] 183
  b2 : Row w (N + 2) #[.func (.func 132) #[] #[.pointer (some ⟨N + 1, 0, none⟩)]] 179
  b3 : Row w (N + 3) #[.func (.func 80) #[] #[]] 183
  b4 : Row w (N + 4) #[.func (.func 132) #[] #[.pointer (some ⟨N + 3, 0, none⟩)]] 179
  b5 : Row w (N + 5) #[.func (.func 81) #[] #[]] 183
  b6 : Row w (N + 6) #[.func (.func 132) #[] #[.pointer (some ⟨N + 5, 0, none⟩)]] 179
  b7 : Row w (N + 7) #[.func (.func 82) #[] #[]] 183
  b8 : Row w (N + 8) #[.func (.func 132) #[] #[.pointer (some ⟨N + 7, 0, none⟩)]] 179
  b9 : Row w (N + 9) #[.func (.func 83) #[] #[]] 183
  b10 : Row w (N + 10) #[.func (.func 132) #[] #[.pointer (some ⟨N + 9, 0, none⟩)]] 179
  b11 : Row w (N + 11) #[.int .i64 4] 3
  b12 : Row w (N + 12) #[.int .i64 4] 3
  b13 : Row w (N + 13) #[.int .i64 1] 3
  b14 : Row w (N + 14) #[.int .i64 1] 3
  b15 : Row w (N + 15) #[.func (.func 87) #[] #[]] 186
  b16 : Row w (N + 16) #[.func (.func 138) #[] #[.pointer (some ⟨N + 15, 0, none⟩)]] 179
  b17 : Row w (N + 17) #[.func (.func 88) #[] #[]] 186
  b18 : Row w (N + 18) #[.func (.func 138) #[] #[.pointer (some ⟨N + 17, 0, none⟩)]] 179
  b19 : Row w (N + 19) #[.func (.func 89) #[] #[]] 186
  b20 : Row w (N + 20) #[.func (.func 138) #[] #[.pointer (some ⟨N + 19, 0, none⟩)]] 179
  b21 : Row w (N + 21) #[.func (.func 90) #[] #[]] 179
  b22 : Row w (N + 22) #[.func (.func 91) #[] #[]] 179
  b23 : Row w (N + 23) #[.func (.func 92) #[] #[]] 179
  b24 : Row w (N + 24) #[.int .i64 5] 3
  b25 : Row w (N + 25) #[.int .i64 6] 3
  b26 : Row w (N + 26) #[.func (.func 97) #[] #[]] 179
  b27 : Row w (N + 27) #[.func (.func 99) #[] #[]] 179
  b28 : Row w (N + 28) #[.func (.func 100) #[] #[]] 179

theorem Ops.keep {S : Nat → Prop} {w w' : World} {N : Nat} (h : Ops w N) (f : Fr S w w') (hs : ∀ k, N ≤ k → k < N + 30 → ¬ S k) : Ops w' N :=
  ⟨h.list.keep f (hs _ (by omega) (by omega)), h.b0.keep f (hs _ (by omega) (by omega)), h.b1.keep f (hs _ (by omega) (by omega)), h.b2.keep f (hs _ (by omega) (by omega)), h.b3.keep f (hs _ (by omega) (by omega)), h.b4.keep f (hs _ (by omega) (by omega)), h.b5.keep f (hs _ (by omega) (by omega)), h.b6.keep f (hs _ (by omega) (by omega)), h.b7.keep f (hs _ (by omega) (by omega)), h.b8.keep f (hs _ (by omega) (by omega)), h.b9.keep f (hs _ (by omega) (by omega)), h.b10.keep f (hs _ (by omega) (by omega)), h.b11.keep f (hs _ (by omega) (by omega)), h.b12.keep f (hs _ (by omega) (by omega)), h.b13.keep f (hs _ (by omega) (by omega)), h.b14.keep f (hs _ (by omega) (by omega)), h.b15.keep f (hs _ (by omega) (by omega)), h.b16.keep f (hs _ (by omega) (by omega)), h.b17.keep f (hs _ (by omega) (by omega)), h.b18.keep f (hs _ (by omega) (by omega)), h.b19.keep f (hs _ (by omega) (by omega)), h.b20.keep f (hs _ (by omega) (by omega)), h.b21.keep f (hs _ (by omega) (by omega)), h.b22.keep f (hs _ (by omega) (by omega)), h.b23.keep f (hs _ (by omega) (by omega)), h.b24.keep f (hs _ (by omega) (by omega)), h.b25.keep f (hs _ (by omega) (by omega)), h.b26.keep f (hs _ (by omega) (by omega)), h.b27.keep f (hs _ (by omega) (by omega)), h.b28.keep f (hs _ (by omega) (by omega))⟩
theorem Ops.lt {w : World} {N : Nat} (h : Ops w N) : N + 30 ≤ w.heap.size := h.list.lt

def blk (N : Nat) : Nat → Value
  | 0 => .func (.func 77) #[] #[]
  | 1 => .func (.func 79) #[] #[]
  | 2 => .func (.func 132) #[] #[.pointer (some ⟨N + 1, 0, none⟩)]
  | 3 => .func (.func 80) #[] #[]
  | 4 => .func (.func 132) #[] #[.pointer (some ⟨N + 3, 0, none⟩)]
  | 5 => .func (.func 81) #[] #[]
  | 6 => .func (.func 132) #[] #[.pointer (some ⟨N + 5, 0, none⟩)]
  | 7 => .func (.func 82) #[] #[]
  | 8 => .func (.func 132) #[] #[.pointer (some ⟨N + 7, 0, none⟩)]
  | 9 => .func (.func 83) #[] #[]
  | 10 => .func (.func 132) #[] #[.pointer (some ⟨N + 9, 0, none⟩)]
  | 11 => .int .i64 4
  | 12 => .int .i64 4
  | 13 => .int .i64 1
  | 14 => .int .i64 1
  | 15 => .func (.func 87) #[] #[]
  | 16 => .func (.func 138) #[] #[.pointer (some ⟨N + 15, 0, none⟩)]
  | 17 => .func (.func 88) #[] #[]
  | 18 => .func (.func 138) #[] #[.pointer (some ⟨N + 17, 0, none⟩)]
  | 19 => .func (.func 89) #[] #[]
  | 20 => .func (.func 138) #[] #[.pointer (some ⟨N + 19, 0, none⟩)]
  | 21 => .func (.func 90) #[] #[]
  | 22 => .func (.func 91) #[] #[]
  | 23 => .func (.func 92) #[] #[]
  | 24 => .int .i64 5
  | 25 => .int .i64 6
  | 26 => .func (.func 97) #[] #[]
  | 27 => .func (.func 99) #[] #[]
  | 28 => .func (.func 100) #[] #[]
  | _ => .nilFunc
def bty : Nat → TypeId
  | 0 => 179
  | 1 => 183
  | 2 => 179
  | 3 => 183
  | 4 => 179
  | 5 => 183
  | 6 => 179
  | 7 => 183
  | 8 => 179
  | 9 => 183
  | 10 => 179
  | 11 => 3
  | 12 => 3
  | 13 => 3
  | 14 => 3
  | 15 => 186
  | 16 => 179
  | 17 => 186
  | 18 => 179
  | 19 => 186
  | 20 => 179
  | 21 => 179
  | 22 => 179
  | 23 => 179
  | 24 => 3
  | 25 => 3
  | 26 => 179
  | 27 => 179
  | 28 => 179
  | _ => 0
def Pre (w : World) (N k : Nat) : Prop := ∀ j, j < k → Row w (N + j) #[blk N j] (bty j)
theorem pre_step {w w' : World} {N k : Nat} (h : Pre w N k) (f : Fr none' w w') (r : Row w' (N + k) #[blk N k] (bty k)) : Pre w' N (k + 1) := fun j hj => by
  by_cases e : j = k
  · subst e; exact r
  · exact (h j (by omega)).keep f (fun h => h)

set_option maxRecDepth 100000 in
set_option maxHeartbeats 8000000 in
theorem ops_any (w : World) (N : Nat) (hN : w.heap.size = N) : Calls Tryz.prog 38 #[] w fun e w' => e = .returned (.slice (some ⟨N + 29, 0, none⟩) 26 26) ∧ Fr none' w w' ∧ Ops w' N := by
  have f := Fr.refl none' w
  have hp : Hid (Pre w N 0) := fun j hj => absurd hj (by omega)
  have hs : Hid (w.heap.size = N) := hN
  go_enter Tryz.func38, Tryz.ntmps38
  clear hN
  go_wp2_with fail
  refine (smooth_any _ _ _ N hs.out).mono ?_
  rintro e v0 ⟨rfl, g, s, r⟩
  replace hp : Hid (Pre v0 N 1) := pre_step hp.out g r
  replace hs : Hid (v0.heap.size = N + 1) := s
  replace f := f.trans g
  clear g s r 
  go_wp2_with fail
  refine (compute_mk _ _ (N + 1) hs.out).mono ?_
  rintro e v1 ⟨rfl, g, s, r, r'⟩
  replace hp : Hid (Pre v1 N 3) := pre_step (pre_step hp.out g r) (Fr.refl _ _) r'
  replace hs : Hid (v1.heap.size = N + 3) := s
  replace f := f.trans g
  clear g s r r' v0
  go_wp2_with fail
  refine (compute_mk _ _ (N + 3) hs.out).mono ?_
  rintro e v2 ⟨rfl, g, s, r, r'⟩
  replace hp : Hid (Pre v2 N 5) := pre_step (pre_step hp.out g r) (Fr.refl _ _) r'
  replace hs : Hid (v2.heap.size = N + 5) := s
  replace f := f.trans g
  clear g s r r' v1
  go_wp2_with fail
  refine (compute_mk _ _ (N + 5) hs.out).mono ?_
  rintro e v3 ⟨rfl, g, s, r, r'⟩
  replace hp : Hid (Pre v3 N 7) := pre_step (pre_step hp.out g r) (Fr.refl _ _) r'
  replace hs : Hid (v3.heap.size = N + 7) := s
  replace f := f.trans g
  clear g s r r' v2
  go_wp2_with fail
  refine (compute_mk _ _ (N + 7) hs.out).mono ?_
  rintro e v4 ⟨rfl, g, s, r, r'⟩
  replace hp : Hid (Pre v4 N 9) := pre_step (pre_step hp.out g r) (Fr.refl _ _) r'
  replace hs : Hid (v4.heap.size = N + 9) := s
  replace f := f.trans g
  clear g s r r' v3
  go_wp2_with fail
  refine (compute_mk _ _ (N + 9) hs.out).mono ?_
  rintro e v5 ⟨rfl, g, s, r, r'⟩
  replace hp : Hid (Pre v5 N 11) := pre_step (pre_step hp.out g r) (Fr.refl _ _) r'
  replace hs : Hid (v5.heap.size = N + 11) := s
  replace f := f.trans g
  clear g s r r' v4
  go_wp2_with fail
  refine (load_mk _ _ (N + 11) hs.out).mono ?_
  rintro e v6 ⟨rfl, g, s, r⟩
  replace hp : Hid (Pre v6 N 12) := pre_step hp.out g r
  replace hs : Hid (v6.heap.size = N + 12) := s
  replace f := f.trans g
  clear g s r v5
  go_wp2_with fail
  refine (store_mk _ _ (N + 12) hs.out).mono ?_
  rintro e v7 ⟨rfl, g, s, r⟩
  replace hp : Hid (Pre v7 N 13) := pre_step hp.out g r
  replace hs : Hid (v7.heap.size = N + 13) := s
  replace f := f.trans g
  clear g s r v6
  go_wp2_with fail
  refine (load_mk _ _ (N + 13) hs.out).mono ?_
  rintro e v8 ⟨rfl, g, s, r⟩
  replace hp : Hid (Pre v8 N 14) := pre_step hp.out g r
  replace hs : Hid (v8.heap.size = N + 14) := s
  replace f := f.trans g
  clear g s r v7
  go_wp2_with fail
  refine (store_mk _ _ (N + 14) hs.out).mono ?_
  rintro e v9 ⟨rfl, g, s, r⟩
  replace hp : Hid (Pre v9 N 15) := pre_step hp.out g r
  replace hs : Hid (v9.heap.size = N + 15) := s
  replace f := f.trans g
  clear g s r v8
  go_wp2_with fail
  refine (branch_mk _ _ (N + 15) hs.out).mono ?_
  rintro e v10 ⟨rfl, g, s, r, r'⟩
  replace hp : Hid (Pre v10 N 17) := pre_step (pre_step hp.out g r) (Fr.refl _ _) r'
  replace hs : Hid (v10.heap.size = N + 17) := s
  replace f := f.trans g
  clear g s r r' v9
  go_wp2_with fail
  refine (branch_mk _ _ (N + 17) hs.out).mono ?_
  rintro e v11 ⟨rfl, g, s, r, r'⟩
  replace hp : Hid (Pre v11 N 19) := pre_step (pre_step hp.out g r) (Fr.refl _ _) r'
  replace hs : Hid (v11.heap.size = N + 19) := s
  replace f := f.trans g
  clear g s r r' v10
  go_wp2_with fail
  refine (branch_mk _ _ (N + 19) hs.out).mono ?_
  rintro e v12 ⟨rfl, g, s, r, r'⟩
  replace hp : Hid (Pre v12 N 21) := pre_step (pre_step hp.out g r) (Fr.refl _ _) r'
  replace hs : Hid (v12.heap.size = N + 21) := s
  replace f := f.trans g
  clear g s r r' v11
  go_wp2_with fail
  refine (smooth_any _ _ _ (N + 21) hs.out).mono ?_
  rintro e v13 ⟨rfl, g, s, r⟩
  replace hp : Hid (Pre v13 N 22) := pre_step hp.out g r
  replace hs : Hid (v13.heap.size = N + 22) := s
  replace f := f.trans g
  clear g s r v12
  go_wp2_with fail
  refine (smooth_any _ _ _ (N + 22) hs.out).mono ?_
  rintro e v14 ⟨rfl, g, s, r⟩
  replace hp : Hid (Pre v14 N 23) := pre_step hp.out g r
  replace hs : Hid (v14.heap.size = N + 23) := s
  replace f := f.trans g
  clear g s r v13
  go_wp2_with fail
  refine (smooth_any _ _ _ (N + 23) hs.out).mono ?_
  rintro e v15 ⟨rfl, g, s, r⟩
  replace hp : Hid (Pre v15 N 24) := pre_step hp.out g r
  replace hs : Hid (v15.heap.size = N + 24) := s
  replace f := f.trans g
  clear g s r v14
  go_wp2_with fail
  refine (call_mk _ _ (N + 24) hs.out).mono ?_
  rintro e v16 ⟨rfl, g, s, r⟩
  replace hp : Hid (Pre v16 N 25) := pre_step hp.out g r
  replace hs : Hid (v16.heap.size = N + 25) := s
  replace f := f.trans g
  clear g s r v15
  go_wp2_with fail
  refine (call_mk _ _ (N + 25) hs.out).mono ?_
  rintro e v17 ⟨rfl, g, s, r⟩
  replace hp : Hid (Pre v17 N 26) := pre_step hp.out g r
  replace hs : Hid (v17.heap.size = N + 26) := s
  replace f := f.trans g
  clear g s r v16
  go_wp2_with fail
  refine (smooth_any _ _ _ (N + 26) hs.out).mono ?_
  rintro e v18 ⟨rfl, g, s, r⟩
  replace hp : Hid (Pre v18 N 27) := pre_step hp.out g r
  replace hs : Hid (v18.heap.size = N + 27) := s
  replace f := f.trans g
  clear g s r v17
  go_wp2_with fail
  refine (smooth_any _ _ _ (N + 27) hs.out).mono ?_
  rintro e v19 ⟨rfl, g, s, r⟩
  replace hp : Hid (Pre v19 N 28) := pre_step hp.out g r
  replace hs : Hid (v19.heap.size = N + 28) := s
  replace f := f.trans g
  clear g s r v18
  go_wp2_with fail
  refine (smooth_any _ _ _ (N + 28) hs.out).mono ?_
  rintro e v20 ⟨rfl, g, s, r⟩
  replace hp : Hid (Pre v20 N 29) := pre_step hp.out g r
  replace hs : Hid (v20.heap.size = N + 29) := s
  replace f := f.trans g
  clear g s r v19
  go_wp2_with fail
  rw [hs.out]
  go_ret
  have q := (Fr.refl none' v20).alloc (.cells (opsA N) 181)
  have hq : ∀ j, j < 29 → Row (v20.alloc (.cells (opsA N) 181)) (N + j) #[blk N j] (bty j) := fun j hj => (hp.out j hj).keep q (fun h => h)
  have hl : Row (v20.alloc (.cells (opsA N) 181)) (N + 29) (opsA N) 181 := by have := row_alloc v20 (opsA N) 181; rw [hs.out] at this; exact this
  exact ⟨rfl, f.trans q, ⟨hl, hq 0 (by omega), hq 1 (by omega), hq 2 (by omega), hq 3 (by omega), hq 4 (by omega), hq 5 (by omega), hq 6 (by omega), hq 7 (by omega), hq 8 (by omega), hq 9 (by omega), hq 10 (by omega), hq 11 (by omega), hq 12 (by omega), hq 13 (by omega), hq 14 (by omega), hq 15 (by omega), hq 16 (by omega), hq 17 (by omega), hq 18 (by omega), hq 19 (by omega), hq 20 (by omega), hq 21 (by omega), hq 22 (by omega), hq 23 (by omega), hq 24 (by omega), hq 25 (by omega), hq 26 (by omega), hq 27 (by omega), hq 28 (by omega)⟩⟩

end Go.Proofs.YtgnoakidjnilpaaGreat

/- CpuOp -/
namespace Go.Proofs.YtgnoakidjnilpaaGreat
open Go.RowKit

/-- What the list says of an operation. -/
def OpAt (w : World) (N B' : Nat) (B : Bm) (nf bx : Nat) (M : Mc) (X : Wk) : Prop :=
  ∃ (fn : Nat) (caps : Array Value), w.cell? ⟨N + 29, B' * 2, none⟩ = some (.bool (isG B')) ∧ w.cell? ⟨N + 29, B' * 2 + 1, none⟩ = some (.func (.func fn) #[] caps) ∧
    (∀ (args : Array Value) (w1 : World), (callFunc fn args).run Tryz.prog w1 = .ok (.enter fn args) w1) ∧
    ((isG B' = true → ∃ b S, B.v = some b ∧ M.V = some S) → Calls Tryz.prog fn (#[.pointer (some ⟨bx, 0, none⟩)] ++ caps) w (Don w B nf bx (exec nf M X).1 (exec nf M X).2.1 (exec nf M X).2.2))

section
variable (w : World) (N : Nat) (B : Bm) (nf bx : Nat) (M : Mc) (X : Wk) (h : Ops w N) (J : Jb w B nf bx M X) {n : Nat} (hm : M.few n) (hn : n < 999990) (sep : ∀ k, B.y bx k → k < N ∨ N + 30 ≤ k)
set_option maxRecDepth 100000 in
set_option maxHeartbeats 400000 in
include h J in
theorem at_1 (ho : X.op = 1) : OpAt w N 1 B nf bx M X := by
  refine ⟨130, #[.pointer (some ⟨N, 0, none⟩)], (h.list.cell _).trans rfl, (h.list.cell _).trans rfl, enters_of Tryz.func130 (by kernel_rfl) rfl, fun hG => ?_⟩
  unfold exec
  rw [ho]
  exact smooth1_any w B nf bx M _ X _ (N) 77 #[] (h.b0.cell 0) (enters_of Tryz.func77 (by kernel_rfl) rfl) J (fun w1 f1 J1 => take_any w1 B nf bx M X J1)

set_option maxRecDepth 100000 in
set_option maxHeartbeats 400000 in
include h J in
theorem at_2 (ho : X.op = 2) : OpAt w N 2 B nf bx M X := by
  refine ⟨130, #[.pointer (some ⟨N + 2, 0, none⟩)], (h.list.cell _).trans rfl, (h.list.cell _).trans rfl, enters_of Tryz.func130 (by kernel_rfl) rfl, fun hG => ?_⟩
  unfold exec
  rw [ho]
  exact smooth1_any w B nf bx M _ X _ (N + 2) 132 #[.pointer (some ⟨N + 1, 0, none⟩)] (h.b2.cell 0) (enters_of Tryz.func132 (by kernel_rfl) rfl) J (fun w1 f1 J1 => compute1_any w1 B nf bx M X (N + 1) 79 gAdd (fun a b _ _ => gAdd_lt a b) ((h.keep f1 (fun _ _ _ h => h)).b1.cell 0) (enters_of Tryz.func79 (by kernel_rfl) rfl) (fun a b w ha hb => op1_any a b w) J1)

set_option maxRecDepth 100000 in
set_option maxHeartbeats 400000 in
include h J in
theorem at_3 (ho : X.op = 3) : OpAt w N 3 B nf bx M X := by
  refine ⟨130, #[.pointer (some ⟨N + 4, 0, none⟩)], (h.list.cell _).trans rfl, (h.list.cell _).trans rfl, enters_of Tryz.func130 (by kernel_rfl) rfl, fun hG => ?_⟩
  unfold exec
  rw [ho]
  exact smooth1_any w B nf bx M _ X _ (N + 4) 132 #[.pointer (some ⟨N + 3, 0, none⟩)] (h.b4.cell 0) (enters_of Tryz.func132 (by kernel_rfl) rfl) J (fun w1 f1 J1 => compute1_any w1 B nf bx M X (N + 3) 80 gSub (fun a b _ _ => gSub_lt a b) ((h.keep f1 (fun _ _ _ h => h)).b3.cell 0) (enters_of Tryz.func80 (by kernel_rfl) rfl) (fun a b w ha hb => op2_any a b w ha hb) J1)

set_option maxRecDepth 100000 in
set_option maxHeartbeats 400000 in
include h J in
theorem at_4 (ho : X.op = 4) : OpAt w N 4 B nf bx M X := by
  refine ⟨130, #[.pointer (some ⟨N + 6, 0, none⟩)], (h.list.cell _).trans rfl, (h.list.cell _).trans rfl, enters_of Tryz.func130 (by kernel_rfl) rfl, fun hG => ?_⟩
  unfold exec
  rw [ho]
  exact smooth1_any w B nf bx M _ X _ (N + 6) 132 #[.pointer (some ⟨N + 5, 0, none⟩)] (h.b6.cell 0) (enters_of Tryz.func132 (by kernel_rfl) rfl) J (fun w1 f1 J1 => compute1_any w1 B nf bx M X (N + 5) 81 gAnd (fun a b ha _ => gAnd_lt a b ha) ((h.keep f1 (fun _ _ _ h => h)).b5.cell 0) (enters_of Tryz.func81 (by kernel_rfl) rfl) (fun a b w ha hb => op3_any a b w ha hb) J1)

set_option maxRecDepth 100000 in
set_option maxHeartbeats 400000 in
include h J in
theorem at_5 (ho : X.op = 5) : OpAt w N 5 B nf bx M X := by
  refine ⟨130, #[.pointer (some ⟨N + 8, 0, none⟩)], (h.list.cell _).trans rfl, (h.list.cell _).trans rfl, enters_of Tryz.func130 (by kernel_rfl) rfl, fun hG => ?_⟩
  unfold exec
  rw [ho]
  exact smooth1_any w B nf bx M _ X _ (N + 8) 132 #[.pointer (some ⟨N + 7, 0, none⟩)] (h.b8.cell 0) (enters_of Tryz.func132 (by kernel_rfl) rfl) J (fun w1 f1 J1 => compute1_any w1 B nf bx M X (N + 7) 82 gXor (fun a b ha hb => gXor_lt a b ha hb) ((h.keep f1 (fun _ _ _ h => h)).b7.cell 0) (enters_of Tryz.func82 (by kernel_rfl) rfl) (fun a b w ha hb => op4_any a b w ha hb) J1)

set_option maxRecDepth 100000 in
set_option maxHeartbeats 400000 in
include h J in
theorem at_6 (ho : X.op = 6) : OpAt w N 6 B nf bx M X := by
  refine ⟨130, #[.pointer (some ⟨N + 10, 0, none⟩)], (h.list.cell _).trans rfl, (h.list.cell _).trans rfl, enters_of Tryz.func130 (by kernel_rfl) rfl, fun hG => ?_⟩
  unfold exec
  rw [ho]
  exact smooth1_any w B nf bx M _ X _ (N + 10) 132 #[.pointer (some ⟨N + 9, 0, none⟩)] (h.b10.cell 0) (enters_of Tryz.func132 (by kernel_rfl) rfl) J (fun w1 f1 J1 => compute1_any w1 B nf bx M X (N + 9) 83 gShl (fun a b _ _ => gShl_lt a b) ((h.keep f1 (fun _ _ _ h => h)).b9.cell 0) (enters_of Tryz.func83 (by kernel_rfl) rfl) (fun a b w ha hb => op5_any a b w ha hb) J1)

set_option maxRecDepth 100000 in
set_option maxHeartbeats 400000 in
include h J hm hn sep in
theorem at_7 (ho : X.op = 7) : OpAt w N 7 B nf bx M X := by
  refine ⟨134, #[.pointer (some ⟨N + 11, 0, none⟩)], (h.list.cell _).trans rfl, (h.list.cell _).trans rfl, enters_of Tryz.func134 (by kernel_rfl) rfl, fun hG => ?_⟩
  unfold exec
  rw [ho]
  exact load1_any w B nf bx M X (N + 11) 4 (h.b11.cell 0) (fun e => by have := sep _ e; omega) J hm hn (by omega)

set_option maxRecDepth 100000 in
set_option maxHeartbeats 400000 in
include h J hm hn sep in
theorem at_8 (ho : X.op = 8) : OpAt w N 8 B nf bx M X := by
  refine ⟨136, #[.pointer (some ⟨N + 12, 0, none⟩)], (h.list.cell _).trans rfl, (h.list.cell _).trans rfl, enters_of Tryz.func136 (by kernel_rfl) rfl, fun hG => ?_⟩
  unfold exec
  rw [ho]
  exact store1_any w B nf bx M X (N + 12) 4 (h.b12.cell 0) (fun e => by have := sep _ e; omega) J hm hn (by omega)

set_option maxRecDepth 100000 in
set_option maxHeartbeats 400000 in
include h J hm hn sep in
theorem at_9 (ho : X.op = 9) : OpAt w N 9 B nf bx M X := by
  refine ⟨134, #[.pointer (some ⟨N + 13, 0, none⟩)], (h.list.cell _).trans rfl, (h.list.cell _).trans rfl, enters_of Tryz.func134 (by kernel_rfl) rfl, fun hG => ?_⟩
  unfold exec
  rw [ho]
  exact load1_any w B nf bx M X (N + 13) 1 (h.b13.cell 0) (fun e => by have := sep _ e; omega) J hm hn (by omega)

set_option maxRecDepth 100000 in
set_option maxHeartbeats 400000 in
include h J hm hn sep in
theorem at_10 (ho : X.op = 10) : OpAt w N 10 B nf bx M X := by
  refine ⟨136, #[.pointer (some ⟨N + 14, 0, none⟩)], (h.list.cell _).trans rfl, (h.list.cell _).trans rfl, enters_of Tryz.func136 (by kernel_rfl) rfl, fun hG => ?_⟩
  unfold exec
  rw [ho]
  exact store1_any w B nf bx M X (N + 14) 1 (h.b14.cell 0) (fun e => by have := sep _ e; omega) J hm hn (by omega)

set_option maxRecDepth 100000 in
set_option maxHeartbeats 400000 in
include h J in
theorem at_11 (ho : X.op = 11) : OpAt w N 11 B nf bx M X := by
  refine ⟨130, #[.pointer (some ⟨N + 16, 0, none⟩)], (h.list.cell _).trans rfl, (h.list.cell _).trans rfl, enters_of Tryz.func130 (by kernel_rfl) rfl, fun hG => ?_⟩
  unfold exec
  rw [ho]
  exact smooth1_any w B nf bx M _ X _ (N + 16) 138 #[.pointer (some ⟨N + 15, 0, none⟩)] (h.b16.cell 0) (enters_of Tryz.func138 (by kernel_rfl) rfl) J (fun w1 f1 J1 => branch1_any w1 B nf bx M X (N + 15) 87 (fun a b => decide (a = b)) ((h.keep f1 (fun _ _ _ h => h)).b15.cell 0) (enters_of Tryz.func87 (by kernel_rfl) rfl) (fun a b w => op6_any a b w) J1)

set_option maxRecDepth 100000 in
set_option maxHeartbeats 400000 in
include h J in
theorem at_12 (ho : X.op = 12) : OpAt w N 12 B nf bx M X := by
  refine ⟨130, #[.pointer (some ⟨N + 18, 0, none⟩)], (h.list.cell _).trans rfl, (h.list.cell _).trans rfl, enters_of Tryz.func130 (by kernel_rfl) rfl, fun hG => ?_⟩
  unfold exec
  rw [ho]
  exact smooth1_any w B nf bx M _ X _ (N + 18) 138 #[.pointer (some ⟨N + 17, 0, none⟩)] (h.b18.cell 0) (enters_of Tryz.func138 (by kernel_rfl) rfl) J (fun w1 f1 J1 => branch1_any w1 B nf bx M X (N + 17) 88 (fun a b => !decide (a = b)) ((h.keep f1 (fun _ _ _ h => h)).b17.cell 0) (enters_of Tryz.func88 (by kernel_rfl) rfl) (fun a b w => op7_any a b w) J1)

set_option maxRecDepth 100000 in
set_option maxHeartbeats 400000 in
include h J in
theorem at_13 (ho : X.op = 13) : OpAt w N 13 B nf bx M X := by
  refine ⟨130, #[.pointer (some ⟨N + 20, 0, none⟩)], (h.list.cell _).trans rfl, (h.list.cell _).trans rfl, enters_of Tryz.func130 (by kernel_rfl) rfl, fun hG => ?_⟩
  unfold exec
  rw [ho]
  exact smooth1_any w B nf bx M _ X _ (N + 20) 138 #[.pointer (some ⟨N + 19, 0, none⟩)] (h.b20.cell 0) (enters_of Tryz.func138 (by kernel_rfl) rfl) J (fun w1 f1 J1 => branch1_any w1 B nf bx M X (N + 19) 89 (fun a b => decide (a < b)) ((h.keep f1 (fun _ _ _ h => h)).b19.cell 0) (enters_of Tryz.func89 (by kernel_rfl) rfl) (fun a b w => op8_any a b w) J1)

set_option maxRecDepth 100000 in
set_option maxHeartbeats 400000 in
include h J in
theorem at_14 (ho : X.op = 14) : OpAt w N 14 B nf bx M X := by
  refine ⟨130, #[.pointer (some ⟨N + 21, 0, none⟩)], (h.list.cell _).trans rfl, (h.list.cell _).trans rfl, enters_of Tryz.func130 (by kernel_rfl) rfl, fun hG => ?_⟩
  unfold exec
  rw [ho]
  exact smooth1_any w B nf bx M _ X _ (N + 21) 90 #[] (h.b21.cell 0) (enters_of Tryz.func90 (by kernel_rfl) rfl) J (fun w1 f1 J1 => jump_any w1 B nf bx M X J1)

set_option maxRecDepth 100000 in
set_option maxHeartbeats 400000 in
include h J in
theorem at_15 (ho : X.op = 15) : OpAt w N 15 B nf bx M X := by
  refine ⟨130, #[.pointer (some ⟨N + 22, 0, none⟩)], (h.list.cell _).trans rfl, (h.list.cell _).trans rfl, enters_of Tryz.func130 (by kernel_rfl) rfl, fun hG => ?_⟩
  unfold exec
  rw [ho]
  exact smooth1_any w B nf bx M _ X _ (N + 22) 91 #[] (h.b22.cell 0) (enters_of Tryz.func91 (by kernel_rfl) rfl) J (fun w1 f1 J1 => link_any w1 B nf bx M X J1)

set_option maxRecDepth 100000 in
set_option maxHeartbeats 400000 in
include h J in
theorem at_16 (ho : X.op = 16) : OpAt w N 16 B nf bx M X := by
  refine ⟨130, #[.pointer (some ⟨N + 23, 0, none⟩)], (h.list.cell _).trans rfl, (h.list.cell _).trans rfl, enters_of Tryz.func130 (by kernel_rfl) rfl, fun hG => ?_⟩
  unfold exec
  rw [ho]
  exact smooth1_any w B nf bx M _ X _ (N + 23) 92 #[] (h.b23.cell 0) (enters_of Tryz.func92 (by kernel_rfl) rfl) J (fun w1 f1 J1 => turn_any w1 B nf bx M X J1)

set_option maxRecDepth 100000 in
set_option maxHeartbeats 400000 in
include h J in
theorem at_17 (ho : X.op = 17) : OpAt w N 17 B nf bx M X := by
  refine ⟨139, #[.pointer (some ⟨N + 24, 0, none⟩)], (h.list.cell _).trans rfl, (h.list.cell _).trans rfl, enters_of Tryz.func139 (by kernel_rfl) rfl, fun hG => ?_⟩
  unfold exec
  rw [ho]
  exact call1_any w B nf bx M X (N + 24) 5 (h.b24.cell 0) J

set_option maxRecDepth 100000 in
set_option maxHeartbeats 400000 in
include h J in
theorem at_18 (ho : X.op = 18) : OpAt w N 18 B nf bx M X := by
  refine ⟨139, #[.pointer (some ⟨N + 25, 0, none⟩)], (h.list.cell _).trans rfl, (h.list.cell _).trans rfl, enters_of Tryz.func139 (by kernel_rfl) rfl, fun hG => ?_⟩
  unfold exec
  rw [ho]
  exact call1_any w B nf bx M X (N + 25) 6 (h.b25.cell 0) J

set_option maxRecDepth 100000 in
set_option maxHeartbeats 400000 in
include h J in
theorem at_19 (ho : X.op = 19) : OpAt w N 19 B nf bx M X := by
  refine ⟨94, #[], (h.list.cell _).trans rfl, (h.list.cell _).trans rfl, enters_of Tryz.func94 (by kernel_rfl) rfl, fun hG => ?_⟩
  unfold exec
  rw [ho]
  exact rsys_any w B nf bx M X J

set_option maxRecDepth 100000 in
set_option maxHeartbeats 400000 in
include h J in
theorem at_20 (ho : X.op = 20) : OpAt w N 20 B nf bx M X := by
  refine ⟨95, #[], (h.list.cell _).trans rfl, (h.list.cell _).trans rfl, enters_of Tryz.func95 (by kernel_rfl) rfl, fun hG => ?_⟩
  unfold exec
  rw [ho]
  obtain ⟨b, S, hb, hV⟩ := hG rfl
  have hS : M.S = S := by unfold Mc.S; rw [hV]; rfl
  show Calls Tryz.prog _ #[.pointer (some ⟨bx, 0, none⟩)] w (Don w B nf bx (wrM M M.S X) (wrX X) (wrT X))
  rw [hS]
  unfold wrM wrX wrT
  by_cases hi : (5 : Int) < (X.imm : Int)
  · rw [if_pos hi, if_pos hi, if_pos hi]; exact wsys_bad w B nf bx M X J hi
  · rw [if_neg hi, if_neg hi, if_neg hi]; exact wsys_ok w B nf bx M X J hb hV hi

set_option maxRecDepth 100000 in
set_option maxHeartbeats 400000 in
include h J in
theorem at_21 (ho : X.op = 21) : OpAt w N 21 B nf bx M X := by
  refine ⟨96, #[], (h.list.cell _).trans rfl, (h.list.cell _).trans rfl, enters_of Tryz.func96 (by kernel_rfl) rfl, fun hG => ?_⟩
  unfold exec
  rw [ho]
  show Calls Tryz.prog _ #[.pointer (some ⟨bx, 0, none⟩)] w (Don w B nf bx M X (wfT M X))
  unfold wfT
  have hv := J.m.vg
  cases hb : B.v with
  | none =>
    rw [hb] at hv
    cases hV : M.V with
    | none => exact wait_none w B nf bx M X J hb
    | some S => rw [hV] at hv; exact hv.elim
  | some b =>
    rw [hb] at hv
    cases hV : M.V with
    | none => rw [hV] at hv; exact hv.elim
    | some S => exact wait_some w B nf bx M X J hb hV

set_option maxRecDepth 100000 in
set_option maxHeartbeats 400000 in
include h J in
theorem at_22 (ho : X.op = 22) : OpAt w N 22 B nf bx M X := by
  refine ⟨130, #[.pointer (some ⟨N + 26, 0, none⟩)], (h.list.cell _).trans rfl, (h.list.cell _).trans rfl, enters_of Tryz.func130 (by kernel_rfl) rfl, fun hG => ?_⟩
  unfold exec
  rw [ho]
  obtain ⟨b, S, hb, hV⟩ := hG rfl
  have hS : M.S = S := by unfold Mc.S; rw [hV]; rfl
  rw [hS]
  exact smooth1_any w B nf bx M _ X _ (N + 26) 97 #[] (h.b26.cell 0) (enters_of Tryz.func97 (by kernel_rfl) rfl) J (fun w1 f1 J1 => ackn_any w1 B nf bx M X J1 hb hV)

set_option maxRecDepth 100000 in
set_option maxHeartbeats 400000 in
include h J in
theorem at_23 (ho : X.op = 23) : OpAt w N 23 B nf bx M X := by
  refine ⟨98, #[], (h.list.cell _).trans rfl, (h.list.cell _).trans rfl, enters_of Tryz.func98 (by kernel_rfl) rfl, fun hG => ?_⟩
  unfold exec
  rw [ho]
  obtain ⟨b, S, hb, hV⟩ := hG rfl
  have hS : M.S = S := by unfold Mc.S; rw [hV]; rfl
  rw [hS]
  exact wend_any w B nf bx M X J hb hV

set_option maxRecDepth 100000 in
set_option maxHeartbeats 400000 in
include h J in
theorem at_24 (ho : X.op = 24) : OpAt w N 24 B nf bx M X := by
  refine ⟨130, #[.pointer (some ⟨N + 27, 0, none⟩)], (h.list.cell _).trans rfl, (h.list.cell _).trans rfl, enters_of Tryz.func130 (by kernel_rfl) rfl, fun hG => ?_⟩
  unfold exec
  rw [ho]
  exact smooth1_any w B nf bx M _ X _ (N + 27) 99 #[] (h.b27.cell 0) (enters_of Tryz.func99 (by kernel_rfl) rfl) J (fun w1 f1 J1 => forget1_any w1 B nf bx M X J1)

set_option maxRecDepth 100000 in
set_option maxHeartbeats 400000 in
include h J in
theorem at_25 (ho : X.op = 25) : OpAt w N 25 B nf bx M X := by
  refine ⟨130, #[.pointer (some ⟨N + 28, 0, none⟩)], (h.list.cell _).trans rfl, (h.list.cell _).trans rfl, enters_of Tryz.func130 (by kernel_rfl) rfl, fun hG => ?_⟩
  unfold exec
  rw [ho]
  exact smooth1_any w B nf bx M _ X _ (N + 28) 100 #[] (h.b28.cell 0) (enters_of Tryz.func100 (by kernel_rfl) rfl) J (fun w1 f1 J1 => nothing_any w1 B nf bx M X J1)

end

set_option maxRecDepth 100000 in
theorem op_all (w : World) (N : Nat) (B : Bm) (nf bx : Nat) (M : Mc) (X : Wk) (h : Ops w N) (J : Jb w B nf bx M X) {n : Nat} (hm : M.few n) (hn : n < 999990) (sep : ∀ k, B.y bx k → k < N ∨ N + 30 ≤ k) (h1 : 1 ≤ X.op) (h2 : X.op ≤ 25) : OpAt w N X.op B nf bx M X := by
  obtain ⟨k, hk⟩ : ∃ k, X.op = k := ⟨_, rfl⟩
  rw [hk] at h1 h2 ⊢
  have : k = 1 ∨ k = 2 ∨ k = 3 ∨ k = 4 ∨ k = 5 ∨ k = 6 ∨ k = 7 ∨ k = 8 ∨ k = 9 ∨ k = 10 ∨ k = 11 ∨ k = 12 ∨ k = 13 ∨ k = 14 ∨ k = 15 ∨ k = 16 ∨ k = 17 ∨ k = 18 ∨ k = 19 ∨ k = 20 ∨ k = 21 ∨ k = 22 ∨ k = 23 ∨ k = 24 ∨ k = 25 := by omega
  rcases this with rfl | rfl | rfl | rfl | rfl | rfl | rfl | rfl | rfl | rfl | rfl | rfl | rfl | rfl | rfl | rfl | rfl | rfl | rfl | rfl | rfl | rfl | rfl | rfl | rfl
  · exact at_1 w N B nf bx M X h J hk
  · exact at_2 w N B nf bx M X h J hk
  · exact at_3 w N B nf bx M X h J hk
  · exact at_4 w N B nf bx M X h J hk
  · exact at_5 w N B nf bx M X h J hk
  · exact at_6 w N B nf bx M X h J hk
  · exact at_7 w N B nf bx M X h J hm hn sep hk
  · exact at_8 w N B nf bx M X h J hm hn sep hk
  · exact at_9 w N B nf bx M X h J hm hn sep hk
  · exact at_10 w N B nf bx M X h J hm hn sep hk
  · exact at_11 w N B nf bx M X h J hk
  · exact at_12 w N B nf bx M X h J hk
  · exact at_13 w N B nf bx M X h J hk
  · exact at_14 w N B nf bx M X h J hk
  · exact at_15 w N B nf bx M X h J hk
  · exact at_16 w N B nf bx M X h J hk
  · exact at_17 w N B nf bx M X h J hk
  · exact at_18 w N B nf bx M X h J hk
  · exact at_19 w N B nf bx M X h J hk
  · exact at_20 w N B nf bx M X h J hk
  · exact at_21 w N B nf bx M X h J hk
  · exact at_22 w N B nf bx M X h J hk
  · exact at_23 w N B nf bx M X h J hk
  · exact at_24 w N B nf bx M X h J hk
  · exact at_25 w N B nf bx M X h J hk

end Go.Proofs.YtgnoakidjnilpaaGreat

/- CpuDo -/
namespace Go.Proofs.YtgnoakidjnilpaaGreat
open Go.RowKit

def fX (nf : Nat) (M : Mc) (X : Wk) : Wk := { X with wd := (loadV M.bs (rcP M nf X.vm X.sd X.fi X.se X.pc 4) 4 nf).toNat }
def dX (X : Wk) : Wk := { X with op := (dOp (X.wd : Int)).toNat, a := (dA (X.wd : Int)).toNat, b := (dB (X.wd : Int)).toNat, c := (dC (X.wd : Int)).toNat, imm := (dI (X.wd : Int)).toNat }
def doM (nf : Nat) (M : Mc) (X : Wk) : Mc := rcM M nf X.vm X.sd X.fi X.se X.pc 4 X.ix
def doR (nf : Nat) (M : Mc) (X : Wk) : Mc × Wk × Tr :=
  if (rcF M nf X.vm X.sd X.fi X.se X.pc 4).k ≠ 0 then (doM nf M X, X, ⟨1, 0, X.pc, rcF M nf X.vm X.sd X.fi X.se X.pc 4⟩)
  else if i_decOk ((fX nf M X).wd : Int) = false then (doM nf M X, fX nf M X, ⟨8, (fX nf M X).wd, X.pc, f0⟩)
  else if isG (dX (fX nf M X)).op = true ∧ M.V = none then (doM nf M X, dX (fX nf M X), ⟨8, (fX nf M X).wd, X.pc, f0⟩)
  else exec nf (doM nf M X) (dX (fX nf M X))

theorem dec_parts {x : Nat} (h : i_decOk (x : Int) = true) : ∃ o a b c i : Nat, dOp (x : Int) = o ∧ dA (x : Int) = a ∧ dB (x : Int) = b ∧ dC (x : Int) = c ∧ dI (x : Int) = i ∧ 1 ≤ o ∧ o ≤ 25 ∧ a < 16 ∧ b < 16 ∧ c < 16 ∧ i < 65536 := by
  have h' := h
  unfold i_decOk at h'
  simp only [Bool.and_eq_true, bne_iff_ne, ne_eq] at h'
  have hr := kf_range h'.1
  have h1 : dOp (x : Int) = qo x := by unfold dOp; rw [if_pos h]
  have h2 : dA (x : Int) = qa x := by unfold dA; rw [if_pos h]
  have h3 : dB (x : Int) = qb x := by unfold dB; rw [if_pos h]
  have h4 : dC (x : Int) = qc x := by unfold dC; rw [if_pos h]
  have h5 : dI (x : Int) = qi x := by unfold dI; rw [if_pos h]
  have g2 : 0 ≤ qa x ∧ qa x < 16 := by unfold qa; split <;> omega
  have g3 : 0 ≤ qb x ∧ qb x < 16 := by unfold qb; split <;> omega
  have g4 : 0 ≤ qc x ∧ qc x < 16 := by unfold qc; split <;> omega
  have g5 : 0 ≤ qi x ∧ qi x < 65536 := by unfold qi; split <;> omega
  exact ⟨(qo x).toNat, (qa x).toNat, (qb x).toNat, (qc x).toNat, (qi x).toNat, by omega, by omega, by omega, by omega, by omega, by omega, by omega, by omega, by omega, by omega, by omega⟩

/-- The word, and the instruction, of the work turned. -/
theorem Jb.word {w w' : World} {B : Bm} {nf bx : Nat} {M : Mc} {X : Wk} (h : Jb w B nf bx M X) (f : Fr (at' bx) w w') {x : Nat} (hx : IsW w' bx { X with wd := x }) (hl : x < 4294967296) : Jb w' B nf bx M { X with wd := x } :=
  { m := h.m.keep f (fun e => h.f1 (Eq.symm e)) (fun e => h.f2 (Eq.symm e)) (fun e => h.f3 (Eq.symm e)) (fun k hk e => h.f4 (by have e' : k = bx := e; rw [← e']; exact hk)), x := hx, p := h.p, t := h.t, v := h.v, f1 := h.f1, f2 := h.f2, f3 := h.f3, f4 := h.f4, ok := h.ok, a := h.a, b := h.b, c := h.c, i := h.i, wd := hl, pc := h.pc }
theorem Jb.ins {w w' : World} {B : Bm} {nf bx : Nat} {M : Mc} {X : Wk} (h : Jb w B nf bx M X) (f : Fr (at' bx) w w') {o a b c i : Nat} (hx : IsW w' bx { X with op := o, a := a, b := b, c := c, imm := i }) (ha : a < 16) (hb : b < 16) (hc : c < 16) (hi : i < 65536) : Jb w' B nf bx M { X with op := o, a := a, b := b, c := c, imm := i } :=
  { m := h.m.keep f (fun e => h.f1 (Eq.symm e)) (fun e => h.f2 (Eq.symm e)) (fun e => h.f3 (Eq.symm e)) (fun k hk e => h.f4 (by have e' : k = bx := e; rw [← e']; exact hk)), x := hx, p := h.p, t := h.t, v := h.v, f1 := h.f1, f2 := h.f2, f3 := h.f3, f4 := h.f4, ok := h.ok, a := ha, b := hb, c := hc, i := hi, wd := h.wd, pc := h.pc }

theorem fr_ins {w : World} (bx : Nat) (v0 v1 v2 v3 v4 : Value) : Fr (at' bx) w (((((w.setCell ⟨bx, 10, none⟩ v0).setCell ⟨bx, 11, none⟩ v1).setCell ⟨bx, 12, none⟩ v2).setCell ⟨bx, 13, none⟩ v3).setCell ⟨bx, 14, none⟩ v4) :=
  fr_set w bx 14 _ (fr_set w bx 13 _ (fr_set w bx 12 _ (fr_set w bx 11 _ (fr_set w bx 10 _ (Fr.refl _ w)))))

theorem Don.pre {w w1 w' : World} {B : Bm} {nf bx : Nat} {M : Mc} {X : Wk} {t : Tr} {e : Ending} (h : Don w1 B nf bx M X t e w') (f : Fr (B.x bx) w w1) : Fr (B.x bx) w w' := f.trans h.2.1

theorem don_end_drew {w w1 : World} {B : Bm} {nf bx : Nat} {M : Mc} {X : Wk} {g : Nat} (f : Fr (B.x bx) w w1) (h : Jb w1 B nf bx M X) (hg : w.heap.size ≤ g) (hB : ∀ k, B.y bx k → k < w.heap.size) (t : Tr) (v0 v1 v2 v3 v4 v5 v6 v7 : Value) (ht : #[v0, v1, v2, v3, v4, v5, v6, v7] = trL t) : Don w B nf bx M X t (.returned (.agg #[v0, v1, v2, v3, v4, v5, v6, v7])) (((((((((w1.setCell ⟨g, 0, none⟩ v0).setCell ⟨g, 1, none⟩ v1).setCell ⟨g, 2, none⟩ v2).setCell ⟨g, 3, none⟩ v3).setCell ⟨g, 4, none⟩ v4).setCell ⟨g, 5, none⟩ v5).setCell ⟨g, 6, none⟩ v6).setCell ⟨g, 7, none⟩ v7)).drew := by
  obtain ⟨a, b, c⟩ := don_end f h hg hB t v0 v1 v2 v3 v4 v5 v6 v7 ht
  exact ⟨a, b.drew, c.drew⟩

theorem nx_of {B : Bm} {bx N : Nat} (sep : ∀ k, B.y bx k → k < N ∨ N + 30 ≤ k) : ∀ k, N ≤ k → k < N + 30 → ¬ B.x bx k := fun k h1 h2 e => by have := sep k (Or.inl e); omega

set_option maxRecDepth 100000 in
set_option maxHeartbeats 8000000 in
theorem do_any (w : World) (N : Nat) (B : Bm) (nf bx : Nat) (M : Mc) (X : Wk) (h : Ops w N) (J : Jb w B nf bx M X) {n : Nat} (hm : M.few n) (hn : n + 1 < 999990) (sep : ∀ k, B.y bx k → k < N ∨ N + 30 ≤ k) :
    Calls Tryz.prog 75 #[.pointer (some ⟨bx, 0, none⟩), .slice (some ⟨N + 29, 0, none⟩) 26 26] w (Don w B nf bx (doR nf M X).1 (doR nf M X).2.1 (doR nf M X).2.2) := by
  have hR := fun w1 (h1 : Jb w1 B nf bx M X) => wreach_any w1 B nf bx M X X.pc 4 h1 hm (by omega) h1.pc
  have hpr := rcP_range hm nf X.vm X.sd X.fi X.se X.pc 4
  have hlv := loadV_range M.bs (rcP M nf X.vm X.sd X.fi X.se X.pc 4) 4 nf (by omega)
  obtain ⟨x, hx⟩ : ∃ x : Nat, loadV M.bs (rcP M nf X.vm X.sd X.fi X.se X.pc 4) 4 nf = x := ⟨(loadV M.bs (rcP M nf X.vm X.sd X.fi X.se X.pc 4) 4 nf).toNat, by omega⟩
  have hxl : x < 4294967296 := by omega
  have HL : ∀ w1, Jb w1 B nf bx (doM nf M X) X → Calls Tryz.prog 127 #[.pointer (some ⟨B.p, 0, none⟩), .int .i64 (rcP M nf X.vm X.sd X.fi X.se X.pc 4), .int .i64 4] w1 fun e w' => e = .returned (.tuple #[.int .u32 (x : Int), .int .i64 (errOf (rcP M nf X.vm X.sd X.fi X.se X.pc 4) 4 nf)]) ∧ w' = w1 := fun w1 h1 => by
    have := load_any w1 B.p B.bf nf M.bs (rcP M nf X.vm X.sd X.fi X.se X.pc 4) 4 h1.m.ram (by omega)
    rw [hx] at this
    exact this
  have hfX : fX nf M X = { X with wd := x } := by unfold fX; rw [hx, Int.toNat_natCast]
  have hfew : (doM nf M X).few (n + 1) := few_reach hm _ _ _ _ _ _ _ _
  have HD : Hid (doR nf M X = if (rcF M nf X.vm X.sd X.fi X.se X.pc 4).k ≠ 0 then (doM nf M X, X, ⟨1, 0, X.pc, rcF M nf X.vm X.sd X.fi X.se X.pc 4⟩)
      else if i_decOk (x : Int) = false then (doM nf M X, { X with wd := x }, ⟨8, x, X.pc, f0⟩)
      else if isG (dX { X with wd := x }).op = true ∧ M.V = none then (doM nf M X, dX { X with wd := x }, ⟨8, x, X.pc, f0⟩)
      else exec nf (doM nf M X) (dX { X with wd := x })) := by
    show _ = _
    unfold doR
    rw [hfX]
  have hMV : (doM nf M X).V = M.V := rfl
  obtain ⟨R, hRR⟩ : ∃ R, doR nf M X = R := ⟨_, rfl⟩
  obtain ⟨M1, hM1⟩ : ∃ q, doM nf M X = q := ⟨_, rfl⟩
  obtain ⟨F, hF⟩ : ∃ q, rcF M nf X.vm X.sd X.fi X.se X.pc 4 = q := ⟨_, rfl⟩
  obtain ⟨P, hP⟩ : ∃ q, rcP M nf X.vm X.sd X.fi X.se X.pc 4 = q := ⟨_, rfl⟩
  obtain ⟨E, hE⟩ : ∃ q, errOf (rcP M nf X.vm X.sd X.fi X.se X.pc 4) 4 nf = q := ⟨_, rfl⟩
  replace hR : ∀ w1, Jb w1 B nf bx M X → Calls Tryz.prog 126 #[.pointer (some ⟨bx, 0, none⟩), .int .i64 X.pc, .int .i64 4] w1 (Rch' w1 B nf bx M1 X P F) := fun w1 h1 => by have := hR w1 h1; rw [hF, hP] at this; rw [← hM1]; exact this
  rw [hE] at HL
  rw [hM1, hP] at HL
  rw [hRR, hM1, hF] at HD
  rw [hM1] at hfew hMV
  rw [hRR]
  have HF : Hid (M1.few (n + 1)) := hfew
  clear hRR hM1 hF hP hE hm hlv hx hfX hfew hpr
  have f1 := (Fr.refl none' w).alloc (.cells #[.int .i64 0, .int .i64 0, .int .i64 0, .int .i64 0, .int .i64 0, .int .i64 0, .bool false, .int .i64 0] 52)
  have h1 := J.alloc (.cells #[.int .i64 0, .int .i64 0, .int .i64 0, .int .i64 0, .int .i64 0, .int .i64 0, .bool false, .int .i64 0] 52)
  have r1 := row_alloc w #[.int .i64 0, .int .i64 0, .int .i64 0, .int .i64 0, .int .i64 0, .int .i64 0, .bool false, .int .i64 0] 52
  have HO : Hid (Ops (w.alloc (.cells #[.int .i64 0, .int .i64 0, .int .i64 0, .int .i64 0, .int .i64 0, .int .i64 0, .bool false, .int .i64 0] 52)) N) := h.keep f1 (fun _ _ _ h => h)
  have L : Hid (∀ k, B.y bx k → k < w.heap.size) := J.lty
  have HS : Hid (∀ k, B.y bx k → k < N ∨ N + 30 ≤ k) := sep
  have hNl : Hid (N + 30 ≤ w.heap.size) := h.lt
  have c8 := h1.x.k8
  clear h J sep
  go_enter Tryz.func75, Tryz.ntmps75
  go_wp2_with fail
  refine (hR _ h1).mono ?_
  rintro e v1 ⟨rfl, g1, j1⟩
  clear h1 hR c8
  replace r1 := r1.keep g1 (fun e => absurd (L.out _ (Or.inl e)) (by omega))
  replace HO : Hid (Ops v1 N) := HO.out.keep g1 (nx_of HS.out)
  have f2 := (fr_0 (B := B) (bx := bx) f1).trans g1
  clear f1 g1
  replace j1 := j1.alloc (.cells #[.int .i64 F.k, .int .i64 F.s, .int .i64 F.l, .bool F.wk, .int .i64 F.p] 50)
  have r9 := row_alloc v1 #[.int .i64 F.k, .int .i64 F.s, .int .i64 F.l, .bool F.wk, .int .i64 F.p] 50
  replace r1 := r1.alloc (.cells #[.int .i64 F.k, .int .i64 F.s, .int .i64 F.l, .bool F.wk, .int .i64 F.p] 50)
  replace f2 := f2.alloc (.cells #[.int .i64 F.k, .int .i64 F.s, .int .i64 F.l, .bool F.wk, .int .i64 F.p] 50)
  replace HO : Hid (Ops (v1.alloc (.cells #[.int .i64 F.k, .int .i64 F.s, .int .i64 F.l, .bool F.wk, .int .i64 F.p] 50)) N) := HO.out.keep ((Fr.refl none' v1).alloc _) (fun _ _ _ h => h)
  go_upto_region 2 with fail
  obtain ⟨v2, hv2⟩ : ∃ v2, v2 = v1.alloc (.cells #[.int .i64 F.k, .int .i64 F.s, .int .i64 F.l, .bool F.wk, .int .i64 F.p] 50) := ⟨_, rfl⟩
  rw [← hv2] at j1 r9 r1 f2 HO ⊢
  clear hv2
  have HJ : Hid (Jb v2 B nf bx M1 X) := j1
  obtain ⟨y0, y1, y2, y3, y4⟩ := cells5 r9
  by_cases hk : F.k = 0
  · have t1 : (F.k != 0) = false := by simp [hk]
    have hD := HD.out
    rw [if_neg (by simp [hk])] at hD
    clear HD hk
    have HD : Hid (R = if i_decOk (x : Int) = false then (M1, { X with wd := x }, ⟨8, x, X.pc, f0⟩)
      else if isG (dX { X with wd := x }).op = true ∧ M.V = none then (M1, dX { X with wd := x }, ⟨8, x, X.pc, f0⟩)
      else exec nf M1 (dX { X with wd := x })) := hD
    clear hD
    have c0 : v2.cell? ⟨bx, 0, none⟩ = some (.pointer (some ⟨B.p, 0, none⟩)) := (wcells7 j1.x j1.p j1.t).1
    clear j1
    go_wp2_with fail
    refine (HL _ HJ.out).mono ?_
    rintro e v ⟨rfl, he⟩
    have he' := he.symm
    subst he'
    clear y0 y1 y2 y3 y4 r9 c0 HL
    have c9 := HJ.out.x.k9
    have z9 := HJ.out.x.frozen 9
    go_upto_region 5 with fail
    clear c9 z9
    have q := fr_set v2 bx 9 (.int .u32 (x : Int)) (Fr.refl _ v2)
    have j2 := HJ.out.word q (HJ.out.x.setWd x) hxl
    replace r1 := r1.keep q (fun e => absurd (L.out _ (Or.inl (Or.inr e))) (by omega))
    replace f2 := f2.trans (fr_x q)
    replace HO := HO.out.keep (fr_x (B := B) q) (nx_of HS.out)
    obtain ⟨v3, hv3⟩ : ∃ v3, v3 = v2.setCell ⟨bx, 9, none⟩ (.int .u32 (x : Int)) := ⟨_, rfl⟩
    rw [← hv3] at j2 r1 f2 HO ⊢
    clear hv3 q HJ
    have c9 : v3.cell? ⟨bx, 9, none⟩ = some (.int .u32 (x : Int)) := j2.x.k9
    have hdec := fun w1 => i_dec_any x w1 hxl
    by_cases hd : i_decOk (x : Int) = true
    · obtain ⟨o, a, b, c, i, ho, ha, hb, hc, hi, o1, o25, a16, b16, c16, i16⟩ := dec_parts hd
      have hde : dE (x : Int) = 0 := by unfold dE; rw [if_pos hd]
      have hX2 : dX { X with wd := x } = { X with wd := x, op := o, a := a, b := b, c := c, imm := i } := by unfold dX; simp only [ho, ha, hb, hc, hi, Int.toNat_natCast]
      rw [ho, ha, hb, hc, hi, hde] at hdec
      have hD := HD.out
      rw [if_neg (by simp [hd]), hX2] at hD
      clear HD hd ho ha hb hc hi hde hX2
      have HD : Hid (R = if isG o = true ∧ M.V = none then (M1, { X with wd := x, op := o, a := a, b := b, c := c, imm := i }, ⟨8, x, X.pc, f0⟩) else exec nf M1 { X with wd := x, op := o, a := a, b := b, c := c, imm := i }) := hD
      clear hD
      go_wp2_with fail
      refine (hdec _).mono ?_
      rintro e v4 ⟨rfl, g4⟩
      clear hdec c9
      have n7 : Hid (v4.heap.size ≠ bx) := by have h4 := (r1.keep g4 (fun h => h)).lt; have h5 := L.out bx (Or.inl (Or.inr rfl)); exact (show _ ≠ _ by omega)
      replace j2 := (j2.keep0 g4).alloc (.cells #[.int .i64 (o : Int), .int .i64 (a : Int), .int .i64 (b : Int), .int .i64 (c : Int), .int .i64 (i : Int)] 84)
      replace r1 := (r1.keep g4 (fun h => h)).alloc (.cells #[.int .i64 (o : Int), .int .i64 (a : Int), .int .i64 (b : Int), .int .i64 (c : Int), .int .i64 (i : Int)] 84)
      replace f2 := (f2.trans (fr_0 g4)).alloc (.cells #[.int .i64 (o : Int), .int .i64 (a : Int), .int .i64 (b : Int), .int .i64 (c : Int), .int .i64 (i : Int)] 84)
      replace HO : Hid (Ops (v4.alloc (.cells #[.int .i64 (o : Int), .int .i64 (a : Int), .int .i64 (b : Int), .int .i64 (c : Int), .int .i64 (i : Int)] 84)) N) := HO.keep (g4.alloc _) (fun _ _ _ h => h)
      have r7 := row_alloc v4 #[.int .i64 (o : Int), .int .i64 (a : Int), .int .i64 (b : Int), .int .i64 (c : Int), .int .i64 (i : Int)] 84
      clear g4
      go_upto_region 6 with fail
      obtain ⟨v5, hv5⟩ : ∃ v5, v5 = v4.alloc (.cells #[.int .i64 (o : Int), .int .i64 (a : Int), .int .i64 (b : Int), .int .i64 (c : Int), .int .i64 (i : Int)] 84) := ⟨_, rfl⟩
      rw [← hv5] at j2 r1 f2 HO r7 ⊢
      clear hv5
      obtain ⟨y0, y1, y2, y3, y4⟩ := cells5 r7
      have HJ : Hid (Jb v5 B nf bx M1 { X with wd := x }) := j2
      obtain ⟨u0, d0⟩ := j2.x.some_cell (i := 10) (by omega)
      obtain ⟨u1, d1⟩ := j2.x.some_cell (i := 11) (by omega)
      obtain ⟨u2, d2⟩ := j2.x.some_cell (i := 12) (by omega)
      obtain ⟨u3, d3⟩ := j2.x.some_cell (i := 13) (by omega)
      obtain ⟨u4, d4⟩ := j2.x.some_cell (i := 14) (by omega)
      have z0 := j2.x.frozen 10
      have z1 := j2.x.frozen 11
      have z2 := j2.x.frozen 12
      have z3 := j2.x.frozen 13
      have z4 := j2.x.frozen 14
      clear j2
      go_upto_region 9 with fail
      clear y0 y1 y2 y3 y4 d0 d1 d2 d3 d4 z0 z1 z2 z3 z4
      have q := fr_ins (w := v5) bx (.int .i64 (o : Int)) (.int .i64 (a : Int)) (.int .i64 (b : Int)) (.int .i64 (c : Int)) (.int .i64 (i : Int))
      have j3 := HJ.out.ins q (HJ.out.x.setI o a b c i) a16 b16 c16 i16
      replace r1 := r1.keep q (fun e => absurd (L.out _ (Or.inl (Or.inr e))) (by omega))
      replace r7 := r7.keep q n7.out
      replace f2 := f2.trans (fr_x q)
      replace HO := HO.out.keep (fr_x (B := B) q) (nx_of HS.out)
      obtain ⟨v6, hv6⟩ : ∃ v6, v6 = ((((v5.setCell ⟨bx, 10, none⟩ (.int .i64 (o : Int))).setCell ⟨bx, 11, none⟩ (.int .i64 (a : Int))).setCell ⟨bx, 12, none⟩ (.int .i64 (b : Int))).setCell ⟨bx, 13, none⟩ (.int .i64 (c : Int))).setCell ⟨bx, 14, none⟩ (.int .i64 (i : Int)) := ⟨_, rfl⟩
      rw [← hv6] at j3 r1 r7 f2 HO ⊢
      clear hv6 q HJ n7
      have OA := op_all v6 N B nf bx M1 _ HO j3 HF.out (by omega) HS.out o1 o25
      obtain ⟨fn, caps, ca, cb, hen, hC⟩ := OA
      have HO6 : Hid (Ops v6 N) := HO
      replace ca : v6.cell? ⟨N + 29, o * 2, none⟩ = some (.bool (isG o)) := ca
      replace cb : v6.cell? ⟨N + 29, o * 2 + 1, none⟩ = some (.func (.func fn) #[] caps) := cb
      have y0 : v6.cell? ⟨v4.heap.size, 0, none⟩ = some (.int .i64 (o : Int)) := r7.cell 0
      have i1 : 0 ≤ (o : Int) ∧ (o : Int) < 26 := by omega
      clear HO hC
      obtain ⟨G, hG⟩ : ∃ G, isG o = G := ⟨_, rfl⟩
      rw [hG] at ca HD
      go_upto_region 10 with fail
      clear ca y0 i1 r7
      have q := (Fr.refl none' v6).alloc (.cells #[.bool G, .func (.func fn) #[] caps] 181)
      have r9 := row_alloc v6 #[.bool G, .func (.func fn) #[] caps] 181
      have j4 := j3.keep0 q
      replace r1 := r1.keep q (fun h => h)
      replace f2 := f2.trans (fr_0 q)
      have HO7 := HO6.out.keep q (fun _ _ _ h => h)
      replace cb := cell_keep q cb (fun h => h)
      obtain ⟨v7, hv7⟩ : ∃ v7, v7 = v6.alloc (.cells #[.bool G, .func (.func fn) #[] caps] 181) := ⟨_, rfl⟩
      rw [← hv7] at r9 j4 r1 f2 HO7 cb ⊢
      clear hv7 q HO6 j3
      have OA := op_all v7 N B nf bx M1 _ HO7 j4 HF.out (by omega) HS.out o1 o25
      obtain ⟨fn', caps', _, cb', _, hC⟩ := OA
      replace cb' : v7.cell? ⟨N + 29, o * 2 + 1, none⟩ = some (.func (.func fn') #[] caps') := cb'
      obtain ⟨rfl, rfl⟩ : fn = fn' ∧ caps = caps' := by
        have e := cb.symm.trans cb'
        simp only [Option.some.injEq, Value.func.injEq, Fn.func.injEq, true_and] at e
        exact e
      replace hC : (G = true → ∃ b S, B.v = some b ∧ M1.V = some S) → Calls Tryz.prog fn (#[.pointer (some ⟨bx, 0, none⟩)] ++ caps) v7 (Don v7 B nf bx (exec nf M1 { X with wd := x, op := o, a := a, b := b, c := c, imm := i }).1 (exec nf M1 { X with wd := x, op := o, a := a, b := b, c := c, imm := i }).2.1 (exec nf M1 { X with wd := x, op := o, a := a, b := b, c := c, imm := i }).2.2) := by rw [← hG]; exact hC
      clear cb cb' HO7
      have d0 : v7.cell? ⟨v6.heap.size, 0, none⟩ = some (.bool G) := r9.cell 0
      have d1 : v7.cell? ⟨v6.heap.size, 1, none⟩ = some (.func (.func fn) #[] caps) := r9.cell 1
      have hvg := j4.m.vg
      cases G with
      | false =>
        have hD := HD.out
        rw [if_neg (by simp)] at hD
        rw [← hD] at hC
        clear HD hD
        obtain ⟨Me, Xe, Te⟩ := R
        have hC7 := hC (by simp)
        replace hC7 : Calls Tryz.prog fn (#[.pointer (some ⟨bx, 0, none⟩)] ++ caps) v7 (Don v7 B nf bx Me Xe Te) := hC7
        clear hC j4 hvg
        go_wp2_with fail
        refine hC7.mono ?_
        rintro e v8 ⟨rfl, g8, j8⟩
        unfold trL
        replace r1 := r1.keep g8 (fun e => absurd (L.out _ (Or.inl e)) (by omega))
        have f3 := f2.trans g8
        have HK : Hid (Jb v8 B nf bx Me Xe) := j8
        clear g8 j8 hC7
        obtain ⟨x0, x1, x2, x3, x4, x5, x6, x7⟩ := cells8 r1
        obtain ⟨z0, z1, z2, z3, z4, z5, z6, z7⟩ := frozen8 r1
        go_wp2_with fail
        refine bodyPost_ret (ret_trap rfl rfl (row_set8 r1 _ _ _ _ _ _ _ _) rfl) rfl ?_
        exact don_end f3 HK.out (Nat.le_refl _) L.out Te _ _ _ _ _ _ _ _ rfl
      | true =>
        cases hb : B.v with
        | none =>
          rw [hb] at hvg
          have hV : M1.V = none := by
            cases hV : M1.V with
            | none => rfl
            | some S => rw [hV] at hvg; exact hvg.elim
          have hD := HD.out
          rw [if_pos ⟨rfl, hMV.symm.trans hV⟩] at hD
          subst hD
          clear HD hC hvg
          have c2 := j4.k2n hb
          go_wp2_with fail
          refine (undef_any _ B nf bx M1 _ j4).mono ?_
          rintro e v8 ⟨rfl, g8, j8⟩
          unfold trL f0
          replace r1 := r1.keep g8 (fun e => absurd (L.out _ (Or.inl e)) (by omega))
          have f3 := f2.trans g8
          have HK : Hid (Jb v8 B nf bx M1 _) := j8
          clear g8 j8
          obtain ⟨x0, x1, x2, x3, x4, x5, x6, x7⟩ := cells8 r1
          obtain ⟨z0, z1, z2, z3, z4, z5, z6, z7⟩ := frozen8 r1
          go_wp2_with fail
          refine bodyPost_ret (ret_trap rfl rfl (row_set8 r1 _ _ _ _ _ _ _ _) rfl) rfl ?_
          exact don_end f3 HK.out (Nat.le_refl _) L.out ⟨8, x, X.pc, f0⟩ _ _ _ _ _ _ _ _ rfl
        | some b =>
          rw [hb] at hvg
          obtain ⟨S, hV⟩ : ∃ S, M1.V = some S := by
            cases hV : M1.V with
            | none => rw [hV] at hvg; exact hvg.elim
            | some S => exact ⟨S, rfl⟩
          have hD := HD.out
          rw [if_neg (by rw [← hMV, hV]; simp)] at hD
          rw [← hD] at hC
          clear HD hD
          obtain ⟨Me, Xe, Te⟩ := R
          have hC7 := hC (fun _ => ⟨b, S, hb, hV⟩)
          replace hC7 : Calls Tryz.prog fn (#[.pointer (some ⟨bx, 0, none⟩)] ++ caps) v7 (Don v7 B nf bx Me Xe Te) := hC7
          have c2 := j4.k2v hb
          clear hC j4 hvg
          go_wp2_with fail
          refine hC7.mono ?_
          rintro e v8 ⟨rfl, g8, j8⟩
          unfold trL
          replace r1 := r1.keep g8 (fun e => absurd (L.out _ (Or.inl e)) (by omega))
          have f3 := f2.trans g8
          have HK : Hid (Jb v8 B nf bx Me Xe) := j8
          clear g8 j8 hC7
          obtain ⟨x0, x1, x2, x3, x4, x5, x6, x7⟩ := cells8 r1
          obtain ⟨z0, z1, z2, z3, z4, z5, z6, z7⟩ := frozen8 r1
          go_wp2_with fail
          refine bodyPost_ret (ret_trap rfl rfl (row_set8 r1 _ _ _ _ _ _ _ _) rfl) rfl ?_
          exact don_end f3 HK.out (Nat.le_refl _) L.out Te _ _ _ _ _ _ _ _ rfl
    · have hde : dE (x : Int) = 50 := by unfold dE; rw [if_neg hd]
      have hdo : dOp (x : Int) = 0 ∧ dA (x : Int) = 0 ∧ dB (x : Int) = 0 ∧ dC (x : Int) = 0 ∧ dI (x : Int) = 0 := by unfold dOp dA dB dC dI; refine ⟨?_, ?_, ?_, ?_, ?_⟩ <;> exact if_neg hd
      rw [hdo.1, hdo.2.1, hdo.2.2.1, hdo.2.2.2.1, hdo.2.2.2.2, hde] at hdec
      have hD := HD.out
      rw [if_pos (by simpa using hd)] at hD
      subst hD
      clear HD hd hdo hde
      go_wp2_with fail
      refine (hdec _).mono ?_
      rintro e v4 ⟨rfl, g4⟩
      clear hdec c9
      replace j2 := (j2.keep0 g4).alloc (.cells #[.int .i64 0, .int .i64 0, .int .i64 0, .int .i64 0, .int .i64 0] 84)
      replace r1 := (r1.keep g4 (fun h => h)).alloc (.cells #[.int .i64 0, .int .i64 0, .int .i64 0, .int .i64 0, .int .i64 0] 84)
      replace f2 := (f2.trans (fr_0 g4)).alloc (.cells #[.int .i64 0, .int .i64 0, .int .i64 0, .int .i64 0, .int .i64 0] 84)
      clear g4
      go_upto_region 6 with fail
      obtain ⟨v5, hv5⟩ : ∃ v5, v5 = v4.alloc (.cells #[.int .i64 0, .int .i64 0, .int .i64 0, .int .i64 0, .int .i64 0] 84) := ⟨_, rfl⟩
      rw [← hv5] at j2 r1 f2 ⊢
      clear hv5
      go_wp2_with fail
      refine (undef_any _ B nf bx M1 _ j2).mono ?_
      rintro e v8 ⟨rfl, g8, j8⟩
      unfold trL f0
      replace r1 := r1.keep g8 (fun e => absurd (L.out _ (Or.inl e)) (by omega))
      have f3 := f2.trans g8
      have HK : Hid (Jb v8 B nf bx M1 _) := j8
      clear g8 j8
      obtain ⟨x0, x1, x2, x3, x4, x5, x6, x7⟩ := cells8 r1
      obtain ⟨z0, z1, z2, z3, z4, z5, z6, z7⟩ := frozen8 r1
      go_wp2_with fail
      refine bodyPost_ret (ret_trap rfl rfl (row_set8 r1 _ _ _ _ _ _ _ _) rfl) rfl ?_
      exact don_end f3 HK.out (Nat.le_refl _) L.out ⟨8, x, X.pc, f0⟩ _ _ _ _ _ _ _ _ rfl
  · have t1 : (F.k != 0) = true := by simp [hk]
    have hD := HD.out
    rw [if_pos hk] at hD
    subst hD
    clear HD hk HL
    have c8 := j1.x.k8
    clear j1
    obtain ⟨x0, x1, x2, x3, x4, x5, x6, x7⟩ := cells8 r1
    obtain ⟨z0, z1, z2, z3, z4, z5, z6, z7⟩ := frozen8 r1
    go_wp2_with fail
    go_region
    all_goals go_wp2_with fail
    all_goals refine bodyPost_ret (ret_trap rfl rfl (row_set8 r1 _ _ _ _ _ _ _ _).drew rfl) rfl ?_
    all_goals exact don_end_drew f2 HJ.out (Nat.le_refl _) L.out ⟨1, 0, X.pc, F⟩ _ _ _ _ _ _ _ _ rfl

end Go.Proofs.YtgnoakidjnilpaaGreat

/- CpuSpace -/
namespace Go.Proofs.YtgnoakidjnilpaaGreat
open Go.RowKit

theorem size_cpu : (Tryz.prog.info? 30).map (·.size) = some 25 := by kernel_rfl
def cpA (c : Cp) : Array Value := (cpL c).toArray
theorem cpA_size (c : Cp) : (cpA c).size = 25 := by rw [cpA, List.size_toArray, cpL_len]
theorem cpA_one (c : Cp) : (cpA c).all (·.oneCell') = true := all_oneCell_toArray (cpL_one c)
theorem cpA_get (c : Cp) (i : Nat) : (cpA c)[i]? = (cpL c)[i]? := by simp [cpA]
def zc : Cp := ⟨fun _ => 0, 0, fun _ => 0⟩
theorem zc_ok : zc.Ok := ⟨fun _ => (by decide : (0 : Nat) < 4294967296), fun _ => (by decide : (0 : Nat) < 4294967296)⟩
theorem zero_cpu (w : World) : Sem.run Tryz.prog (zeroValue 30) w = .ok (.agg (cpA zc)) w := by kernel_rfl

theorem ld_cpu {w : World} {g : Nat} {A : Array Value} (h : Row w g A 30) (hs : A.size = 25) : (Instr.loadAt 30 (.pointer (some ⟨g, 0, none⟩))).run Tryz.prog w = .ok (.agg A) w := by
  have := run_loadAt_mid (P := Tryz.prog) w g 0 30 A.toList _ (fun j v hv => by rw [Nat.zero_add, h.cell]; simpa using hv) Tryz.underlying30 rfl (by rw [Array.length_toList, hs]; exact size_cpu)
  simpa using this
theorem st_cpu {w : World} {g : Nat} {old A : Array Value} (h : Row w g old 30) (ho : old.size = 25) (hs : A.size = 25) (h1 : A.all (·.oneCell') = true) : (Instr.storeAt 30 (.pointer (some ⟨g, 0, none⟩)) (.agg A)).run Tryz.prog w = .ok () (w.setRow g A) := by
  simp only [Instr.storeAt, Instr.sureAddr, Sem.run_bind, Sem.run_pure, Result.andThen_ok, run_storeVar_row (P := Tryz.prog) w g 30 30 old A h (by rw [hs]; exact size_cpu) (by omega) h1]
theorem Row.setRow {w : World} {g : Nat} {old A : Array Value} {t : TypeId} (h : Row w g old t) : Row (w.setRow g A) g A t := setRow_heap w g old A t _ h
theorem fr_row (w : World) (g : Nat) (A : Array Value) : Fr (at' g) w (w.setRow g A) := ⟨rfl, rfl, rfl, by simp, fun k _ hn => setRow_other w g k A (fun e => hn e)⟩

theorem row_at {W : World} {n : Nat} {cs : Array Value} {t : TypeId} (h : W.heap.size = n) : Row (W.alloc (.cells cs t)) n cs t := by subst h; exact row_alloc _ _ _

/-- By which tables. -/
def spF (v : Bool) (c : Cp) : Int := if v = true ∧ 2147483648 ≤ c.s 0 then ((c.s 0 % 1024 : Nat) : Int) else -1
def spA (v : Bool) (c : Cp) : Int := if v = true ∧ 2147483648 ≤ c.s 0 then ((c.s 1 % 16 : Nat) : Int) else 0

theorem and31 (n : Nat) (h : n < 4294967296) : n &&& 2 ^ 31 = if 2147483648 ≤ n then 2 ^ 31 else 0 := by
  have h4 : n.testBit 31 = decide (2147483648 ≤ n) := by
    rw [Nat.testBit_eq_decide_div_mod_eq]
    congr 1
    exact propext ⟨fun h => by omega, fun h => by omega⟩
  apply Nat.eq_of_testBit_eq
  intro i
  rw [Nat.testBit_and, Nat.testBit_two_pow]
  by_cases e : 31 = i
  · subst e
    rw [h4]
    by_cases q : 2147483648 ≤ n
    · rw [if_pos q, Nat.testBit_two_pow]; simp [q]
    · rw [if_neg q]; simp [q]
  · split
    · rw [Nat.testBit_two_pow]; simp [e]
    · simp [e]
theorem bit31 (n : Nat) (h : n < 4294967296) : bits .and .u32 (n : Int) 2147483648 = if 2147483648 ≤ n then 2147483648 else 0 := by
  have e : bits .and .u32 (n : Int) 2147483648 = ((n &&& 2147483648 : Nat) : Int) := u32_and_nat n 2147483648 h (by decide)
  have e2 := and31 n h
  rw [show (2 : Nat) ^ 31 = 2147483648 by decide] at e2
  rw [e, e2]
  split <;> rfl
theorem and1023 (n : Nat) (h : n < 4294967296) : bits .and .u32 (n : Int) 1023 = ((n % 1024 : Nat) : Int) := by
  have := bits_mask .u32 32 (by decide) (fun n g0 g1 => by rw [IntKind.wrap_u32]; omega) 10 (by decide) (n : Int) (by omega) (by omega)
  rw [show (2 : Int) ^ 10 - 1 = 1023 by decide, show (2 : Int) ^ 10 = 1024 by decide] at this
  omega
theorem and15 (n : Nat) (h : n < 4294967296) : bits .and .u32 (n : Int) 15 = ((n % 16 : Nat) : Int) := by
  have := bits_mask .u32 32 (by decide) (fun n g0 g1 => by rw [IntKind.wrap_u32]; omega) 4 (by decide) (n : Int) (by omega) (by omega)
  rw [show (2 : Int) ^ 4 - 1 = 15 by decide, show (2 : Int) ^ 4 = 16 by decide] at this
  omega

theorem size_space : (Tryz.prog.info? 63).map (·.size) = some 4 := by kernel_rfl
theorem ret_space {fn : Func} {p : Tmp} {tmps : Array Value} {g : Nat} {cs : Array Value} {w : World} (h : fn.results = #[.cell p 63]) (hp : tmps.getD p undef = .pointer (some ⟨g, 0, none⟩)) (hr : Row w g cs 63) (hs : cs.size = 4) :
    (results fn tmps).run Tryz.prog w = .ok (.agg cs) w :=
  results_cell_row h tmps w g _ cs (0, 0) _ hp hr Tryz.underlying63 rfl (by rw [hs]; exact size_space)

set_option maxRecDepth 100000 in
set_option maxHeartbeats 1600000 in
theorem space_any (w : World) (p t : Nat) (v : Option Nat) (c : Cp) (hc : c.Ok) (vm se : Int) :
    Calls Tryz.prog 17 #[.agg #[.pointer (some ⟨p, 0, none⟩), .pointer (some ⟨t, 0, none⟩), ptrV v], .agg (cpA c), .int .i64 vm, .int .i64 se] w fun e w' => e = .returned (.agg #[.int .i64 vm, .int .i64 (spA v.isSome c), .int .i64 (spF v.isSome c), .int .i64 se]) ∧ Fr none' w w' := by
  obtain ⟨A, hA⟩ : ∃ A, cpA c = A := ⟨_, rfl⟩
  have hs := cpA_size c
  have h1 := cpA_one c
  have g0 : (cpA c)[17]? = some (.int .u32 ((c.s 0 : Nat) : Int)) := by rw [cpA_get]; exact cpL_s c (i := 0) (by omega)
  have g1 : (cpA c)[18]? = some (.int .u32 ((c.s 1 : Nat) : Int)) := by rw [cpA_get]; exact cpL_s c (i := 1) (by omega)
  rw [hA] at hs h1 g0 g1 ⊢
  clear hA
  have q0 : A[17]'(by omega) = .int .u32 ((c.s 0 : Nat) : Int) := (Array.getElem?_eq_some_iff.1 g0).2
  have q1 : A[18]'(by omega) = .int .u32 ((c.s 1 : Nat) : Int) := (Array.getElem?_eq_some_iff.1 g1).2
  clear g0 g1
  have o0 := hc.s 0
  have o1 := hc.s 1
  have b1 := bit31 (c.s 0) o0
  have b2 := and1023 (c.s 0) o0
  have b3 := and15 (c.s 1) o1
  obtain ⟨y, hy⟩ : ∃ y : Nat, c.s 0 % 1024 = y := ⟨_, rfl⟩
  obtain ⟨z, hz⟩ : ∃ z : Nat, c.s 1 % 16 = z := ⟨_, rfl⟩
  have e1 : IntKind.i64.wrap (y : Int) = (y : Int) := by rw [IntKind.wrap_i64]; omega
  have e2 : IntKind.i64.wrap (z : Int) = (z : Int) := by rw [IntKind.wrap_i64]; omega
  unfold spA spF
  rw [hy] at b2 ⊢
  rw [hz] at b3 ⊢
  clear hy hz hc
  cases v with
  | none =>
    rw [if_neg (by simp), if_neg (by simp)]
    unfold ptrV
    go_enter Tryz.func17, Tryz.ntmps17
    go_wp2_with fail
    refine bodyPost_ret (ret_space rfl rfl ((row_at (by simp)).alloc _) rfl) rfl ?_
    exact ⟨rfl, ((((Fr.refl _ w).alloc _).alloc _).alloc _).alloc _⟩
  | some b =>
    unfold ptrV
    by_cases hq : 2147483648 ≤ c.s 0
    · rw [if_pos ⟨rfl, hq⟩, if_pos ⟨rfl, hq⟩]
      rw [if_pos hq] at b1
      clear hq
      go_enter Tryz.func17, Tryz.ntmps17
      go_wp2_with fail
      refine bodyPost_ret (ret_space rfl rfl ((row_at (by simp)).alloc _) rfl) rfl ?_
      exact ⟨rfl, ((((Fr.refl _ w).alloc _).alloc _).alloc _).alloc _⟩
    · rw [if_neg (fun h => hq h.2), if_neg (fun h => hq h.2)]
      rw [if_neg hq] at b1
      clear hq
      go_enter Tryz.func17, Tryz.ntmps17
      go_wp2_with fail
      refine bodyPost_ret (ret_space rfl rfl ((row_at (by simp)).alloc _) rfl) rfl ?_
      exact ⟨rfl, ((((Fr.refl _ w).alloc _).alloc _).alloc _).alloc _⟩

end Go.Proofs.YtgnoakidjnilpaaGreat

/- CpuStep -/
namespace Go.Proofs.YtgnoakidjnilpaaGreat
open Go.RowKit

theorem wpOp_mk {P : Program} {ops : Array Oper} {Q : Exit → Act → World → Prop} {i : Nat} {o : Oper} {K : Act → World → Prop} {a : Act} {w : World} (hi : ops[i]? = some o) (hw : Region.wanted o (yielded ops a.tmps) = true) (h : o.wp P a w K Q) : wpOp P ops Q i K a w := by
  unfold wpOp
  simp only [hi, hw, if_true]
  exact Or.inl h

theorem ret_ct {fn : Func} {p q : Tmp} {tmps : Array Value} {g g' : Nat} {A cs : Array Value} {w : World} (h : fn.results = #[.cell p 30, .cell q 52]) (hp : tmps.getD p undef = .pointer (some ⟨g, 0, none⟩)) (hq : tmps.getD q undef = .pointer (some ⟨g', 0, none⟩)) (hr : Row w g A 30) (hs : A.size = 25) (hr' : Row w g' cs 52) (hs' : cs.size = 8) :
    (results fn tmps).run Tryz.prog w = .ok (.tuple #[.agg A, .agg cs]) w := by
  have hl : (loadVar 30 ⟨g, 0, none⟩).run Tryz.prog w = .ok (.agg A) w := by
    have := run_loadVar_mid (P := Tryz.prog) w g 0 30 A.toList _ (fun j v hv => by rw [Nat.zero_add, hr.cell]; simpa using hv) Tryz.underlying30 rfl (by rw [Array.length_toList, hs]; exact size_cpu)
    simpa using this
  have hl' := load_trap hr' hs'
  have hp' : tmps[p]?.getD undef = .pointer (some ⟨g, 0, none⟩) := by simpa using hp
  have hq' : tmps[q]?.getD undef = .pointer (some ⟨g', 0, none⟩) := by simpa using hq
  simp only [results, h]
  simp [Result.andThen, hp', hq', asAddr, hl, hl']

def Cp.bad (c : Cp) : Prop := c.pc < 0 ∨ 65535 < c.pc ∨ c.pc % 4 ≠ 0
instance (c : Cp) : Decidable c.bad := by unfold Cp.bad; infer_instance

theorem range_row {w : World} {g : Nat} {c : Cp} {t : TypeId} (h : Row w g (cpA c) t) : w.rangeAt g 0 (cpL c) := fun j v hv => by rw [Nat.zero_add, h.cell, cpA_get]; exact hv
theorem size_cpL (c : Cp) : (Tryz.prog.info? 30).map (·.size) = some (cpL c).length := by rw [cpL_len]; exact size_cpu
theorem size_cpA (c : Cp) : (Tryz.prog.info? 30).map (·.size) = some (cpA c).size := by rw [cpA_size]; exact size_cpu
theorem cp_cell {w : World} {g : Nat} {c : Cp} {t : TypeId} (h : Row w g (cpA c) t) : w.cell? ⟨g, 16, none⟩ = some (.int .i64 c.pc) := by rw [h.cell, cpA_get]; exact cpL_pc c
theorem fr_rowS {S : Nat → Prop} {w w' : World} {g : Nat} (f : Fr S w w') (hg : w.heap.size ≤ g) (A : Array Value) : Fr S w (w'.setRow g A) := f.newerS (fr_row w' g A) hg

set_option maxRecDepth 100000 in
set_option maxHeartbeats 4000000 in
theorem step_bad (w : World) (p t : Nat) (v : Option Nat) (c : Cp) (hb : c.bad) (l : Value) (vm se ix : Int) :
    Calls Tryz.prog 37 #[l, .agg #[.pointer (some ⟨p, 0, none⟩), .pointer (some ⟨t, 0, none⟩), ptrV v], .agg (cpA c), .int .i64 vm, .int .i64 se, .int .i64 ix] w fun e w' => e = .returned (.tuple #[.agg (cpA c), .agg (trL ⟨4, 0, c.pc, f0⟩)]) ∧ Fr none' w w' := by
  have hz : ∀ w, Sem.run Tryz.prog (zeroValue 30) w = .ok (.agg (cpA zc)) w := zero_cpu
  obtain ⟨v0, hv0⟩ : ∃ v0, v0 = (((w.alloc (.cells #[.pointer (some ⟨p, 0, none⟩), .pointer (some ⟨t, 0, none⟩), ptrV v] 37)).alloc (.cells (cpA c) 30)).alloc (.cells (cpA zc) 30)).alloc (.cells #[.int .i64 0, .int .i64 0, .int .i64 0, .int .i64 0, .int .i64 0, .int .i64 0, .bool false, .int .i64 0] 52) := ⟨_, rfl⟩
  have f0 : Fr none' w v0 := by rw [hv0]; exact ((((Fr.refl none' w).alloc _).alloc _).alloc _).alloc _
  have rM : Row v0 w.heap.size #[.pointer (some ⟨p, 0, none⟩), .pointer (some ⟨t, 0, none⟩), ptrV v] 37 := by rw [hv0]; exact (((row_alloc _ _ _).alloc _).alloc _).alloc _
  have rA : Row v0 (w.heap.size + 1) (cpA c) 30 := by rw [hv0]; exact ((row_at (by simp)).alloc _).alloc _
  have rZ : Row v0 (w.heap.size + 1 + 1) (cpA zc) 30 := by rw [hv0]; exact (row_at (by simp)).alloc _
  have rT : Row v0 (w.heap.size + 1 + 1 + 1) #[.int .i64 0, .int .i64 0, .int .i64 0, .int .i64 0, .int .i64 0, .int .i64 0, .bool false, .int .i64 0] 52 := by rw [hv0]; exact row_at (by simp)
  have hsz : Hid (v0.heap.size = w.heap.size + 4) := by show _ = _; rw [hv0]; simp
  go_enter Tryz.func37, Tryz.ntmps37
  go_upto_region 1 with fail
  rw [← hv0]
  clear hv0 hz
  obtain ⟨gM, hgM⟩ : ∃ g, g = w.heap.size := ⟨_, rfl⟩
  obtain ⟨gA, hgA⟩ : ∃ g, g = w.heap.size + 1 := ⟨_, rfl⟩
  obtain ⟨gZ, hgZ⟩ : ∃ g, g = w.heap.size + 1 + 1 := ⟨_, rfl⟩
  obtain ⟨gT, hgT⟩ : ∃ g, g = w.heap.size + 1 + 1 + 1 := ⟨_, rfl⟩
  rw [← hgT] at rT ⊢
  rw [← hgZ] at rZ ⊢
  rw [← hgA] at rA ⊢
  rw [← hgM] at rM ⊢
  have HN : Hid (gM = w.heap.size ∧ gA = w.heap.size + 1 ∧ gZ = w.heap.size + 2 ∧ gT = w.heap.size + 3) := by show _ ∧ _; omega
  clear hgA hgZ hgT hgM
  have cp := cp_cell rA
  go_cut [29] from 16 to 28 (fun s wx => s = .bool true ∧ wx = v0)
  case first =>
    have hcs : c.pc < 0 ∨ (¬ c.pc < 0 ∧ 65535 < c.pc) ∨ (¬ c.pc < 0 ∧ ¬ 65535 < c.pc ∧ c.pc % 4 ≠ 0) := by unfold Cp.bad at hb; omega
    clear hb
    rcases hcs with hc | ⟨hc, hc2⟩ | ⟨hc, hc2, hc3⟩
    · have u1 : decide (c.pc < 0) = true := decide_eq_true hc
      go_wp2_with fail
      go_meet
      exact ⟨rfl, rfl⟩
    · have u1 : decide (c.pc < 0) = false := decide_eq_false hc
      have u2 : decide (65535 < c.pc) = true := decide_eq_true hc2
      go_wp2_with fail
      go_meet
      exact ⟨rfl, rfl⟩
    · have u1 : decide (c.pc < 0) = false := decide_eq_false hc
      have u2 : decide (65535 < c.pc) = false := decide_eq_false hc2
      have u3 : c.pc.tmod 4 = c.pc % 4 := Int.tmod_eq_emod_of_nonneg (by omega)
      have u4 : (c.pc % 4 != 0) = true := by simp [hc3]
      go_wp2_with fail
      go_meet
      exact ⟨rfl, rfl⟩
  case rest =>
    obtain ⟨rfl, hw⟩ := hcut
    have hw' := hw.symm
    subst hw'
    clear cp
    go_wp2_with fail
    have n1 : ¬ at' gZ gA := fun e => by have e' : gA = gZ := e; have := HN.out; omega
    have n2 : ¬ at' gT gA := fun e => by have e' : gA = gT := e; have := HN.out; omega
    have n3 : ¬ at' gZ gT := fun e => by have e' : gT = gZ := e; have := HN.out; omega
    have n4 : ¬ at' gT gZ := fun e => by have e' : gZ = gT := e; have := HN.out; omega
    have rA1 := rA.keep (fr_row v0 gZ (cpA c)) n1
    have rT1 := rT.keep (fr_row v0 gZ (cpA c)) n3
    have rZ1 : Row (v0.setRow gZ (cpA c)) gZ (cpA c) 30 := rZ.setRow
    have rA3 := rA1.keep (fr_row _ gT #[.int .i64 4, .int .i64 0, .int .i64 c.pc, .int .i64 0, .int .i64 0, .int .i64 0, .bool false, .int .i64 0]) n2
    have rT3 : Row ((v0.setRow gZ (cpA c)).setRow gT #[.int .i64 4, .int .i64 0, .int .i64 c.pc, .int .i64 0, .int .i64 0, .int .i64 0, .bool false, .int .i64 0]) gT #[.int .i64 4, .int .i64 0, .int .i64 c.pc, .int .i64 0, .int .i64 0, .int .i64 0, .bool false, .int .i64 0] 52 := rT1.setRow
    have rZ3 := rZ1.keep (fr_row _ gT #[.int .i64 4, .int .i64 0, .int .i64 c.pc, .int .i64 0, .int .i64 0, .int .i64 0, .bool false, .int .i64 0]) n4
    have f3 := fr_rowS (fr_rowS f0 (g := gZ) (by have := HN.out; omega) (cpA c)) (g := gT) (by have := HN.out; omega) #[.int .i64 4, .int .i64 0, .int .i64 c.pc, .int .i64 0, .int .i64 0, .int .i64 0, .bool false, .int .i64 0]
    refine wp_region_held (S := fun w' => Row w' gA (cpA c) 30) (by kernel_rfl) ?_
    change wpAnyH _ _ _ _ _ _ _ _ (World.drew _)
    refine wpAnyH_take (i := 0) (v := .agg (cpL c).toArray) rfl (by kernel_rfl) (by kernel_rfl) (by kernel_rfl) (fun _ _ _ h => h) (yieldsIf_load_mid (by kernel_rfl) 30 _ rfl gA 0 rfl (cpL c) _ (fun _ h => range_row h) Tryz.underlying30 rfl (size_cpL c)) rA.drew ?_
    show wpAnyH _ _ _ _ _ _ _ (Act.put _ (some 30) _) _
    simp only [Act.put, List.setIfInBounds_toArray, List.set_cons_succ, List.set_cons_zero]
    refine wpAnyH_take (i := 1) (v := ?_) rfl (by kernel_rfl) (by kernel_rfl) (by kernel_rfl) (fun _ _ _ h => h) (Or.inl ⟨by kernel_rfl, fun w hS => ?_⟩) rA.drew ?_
    rotate_left
    · go_simp
      try with_reducible rfl
    show wpAnyH _ _ _ _ _ _ _ (Act.put _ (some 31) _) _
    simp only [Act.put, List.setIfInBounds_toArray, List.set_cons_succ, List.set_cons_zero]
    refine wpAnyH_take (i := 2) (v := ?_) rfl (by kernel_rfl) (by kernel_rfl) (by kernel_rfl) (fun _ _ _ h => h) (Or.inl ⟨by kernel_rfl, fun w hS => ?_⟩) rA.drew ?_
    rotate_left
    · have cp := cp_cell hS; go_simp
      try with_reducible rfl
    show wpAnyH _ _ _ _ _ _ _ (Act.put _ (some 32) _) _
    simp only [Act.put, List.setIfInBounds_toArray, List.set_cons_succ, List.set_cons_zero]
    refine wpAnyH_take (i := 3) (v := ?_) rfl (by kernel_rfl) (by kernel_rfl) (by kernel_rfl) (fun _ _ _ h => h) (Or.inl ⟨by kernel_rfl, fun w hS => ?_⟩) rA.drew ?_
    rotate_left
    · go_simp
      try with_reducible rfl
    show wpAnyH _ _ _ _ _ _ _ (Act.put _ (some 33) _) _
    simp only [Act.put, List.setIfInBounds_toArray, List.set_cons_succ, List.set_cons_zero]
    refine wpAnyH_all (rs := [4]) (by kernel_rfl) (by simp) ?_
    intro i hi
    obtain rfl : i = 4 := by simpa using hi
    clear hi
    refine wpOp_mk rfl (by kernel_rfl) ?_
    refine wp_store_row 30 _ _ rfl gZ (cpA c) rfl rfl 30 (cpA zc) rZ.drew (size_cpA c) rfl (cpA_one c) ?_
    refine ⟨rA1.drew, ?_⟩
    show wpAnyH _ _ _ _ _ _ _ _ _
    refine wpAnyH_all (rs := [5]) (by kernel_rfl) (by simp) ?_
    intro i hi
    obtain rfl : i = 5 := by simpa using hi
    clear hi
    refine wpOp_mk rfl (by kernel_rfl) ?_
    refine wp_store_row 52 _ _ rfl gT #[.int .i64 4, .int .i64 0, .int .i64 c.pc, .int .i64 0, .int .i64 0, .int .i64 0, .bool false, .int .i64 0] rfl rfl 52 #[.int .i64 0, .int .i64 0, .int .i64 0, .int .i64 0, .int .i64 0, .int .i64 0, .bool false, .int .i64 0] rT1.drew size_trap rfl (by simp [Value.oneCell']) ?_
    refine ⟨rA3.drew, ?_⟩
    show wpAnyH _ _ _ _ _ _ _ _ _
    refine wpAnyH_done (by kernel_rfl) ?_ _
    go_wp2_with fail
    refine bodyPost_ret (ret_ct rfl rfl rfl rZ3.drew (cpA_size c) rT3.drew rfl) rfl ?_
    exact ⟨rfl, f3.drew⟩

end Go.Proofs.YtgnoakidjnilpaaGreat

/- CpuStep2 -/
namespace Go.Proofs.YtgnoakidjnilpaaGreat
open Go.RowKit

def wkA (X : Wk) : Array Value := #[.pointer (some ⟨X.p, 0, none⟩), .pointer (some ⟨X.t, 0, none⟩), ptrV X.v, .int .i64 X.vm, .int .i64 X.sd, .int .i64 X.fi, .int .i64 X.se, .int .i64 X.ix, .int .i64 X.pc, .int .u32 ((X.wd : Nat) : Int), .int .i64 ((X.op : Nat) : Int), .int .i64 ((X.a : Nat) : Int), .int .i64 ((X.b : Nat) : Int), .int .i64 ((X.c : Nat) : Int), .int .i64 ((X.imm : Nat) : Int)] ++ cpA X.z
theorem wkA_hi (X : Wk) (i : Nat) : (wkA X)[15 + i]? = (cpL X.z)[i]? := by
  rw [wkA, Array.getElem?_append_right (by simp), ← cpA_get]
  congr 1
  simp
theorem wkA_lo (X : Wk) (i : Nat) (hi : i < 15) : (wkA X)[i]? = (#[.pointer (some ⟨X.p, 0, none⟩), .pointer (some ⟨X.t, 0, none⟩), ptrV X.v, .int .i64 X.vm, .int .i64 X.sd, .int .i64 X.fi, .int .i64 X.se, .int .i64 X.ix, .int .i64 X.pc, .int .u32 ((X.wd : Nat) : Int), .int .i64 ((X.op : Nat) : Int), .int .i64 ((X.a : Nat) : Int), .int .i64 ((X.b : Nat) : Int), .int .i64 ((X.c : Nat) : Int), .int .i64 ((X.imm : Nat) : Int)] : Array Value)[i]? := by
  rw [wkA, Array.getElem?_append_left (by simpa using hi)]
theorem isW_mk {w : World} {bx : Nat} {X : Wk} (h : Row w bx (wkA X) 175) : IsW w bx X :=
  ⟨_, h, by rw [wkA, Array.size_append, cpA_size]; rfl, (wkA_lo X 0 (by decide)).trans rfl, (wkA_lo X 1 (by decide)).trans rfl, (wkA_lo X 2 (by decide)).trans rfl, (wkA_lo X 3 (by decide)).trans rfl, (wkA_lo X 4 (by decide)).trans rfl, (wkA_lo X 5 (by decide)).trans rfl, (wkA_lo X 6 (by decide)).trans rfl, (wkA_lo X 7 (by decide)).trans rfl, (wkA_lo X 8 (by decide)).trans rfl, (wkA_lo X 9 (by decide)).trans rfl, (wkA_lo X 10 (by decide)).trans rfl, (wkA_lo X 11 (by decide)).trans rfl, (wkA_lo X 12 (by decide)).trans rfl, (wkA_lo X 13 (by decide)).trans rfl, (wkA_lo X 14 (by decide)).trans rfl, fun i hi => by rw [wkA_hi]; exact cpL_r _ hi, by rw [show (31 : Nat) = 15 + 16 by rfl, wkA_hi]; exact cpL_pc _, fun i hi => by rw [show 32 + i = 15 + (17 + i) by omega, wkA_hi]; exact cpL_s _ hi⟩

/-- The work as it begins. -/
def wk0 (B : Bm) (c : Cp) (vm se ix : Int) : Wk := ⟨B.p, B.bt, B.v.map Bk.b, vm, spA B.v.isSome c, spF B.v.isSome c, se, ix, c.pc, 0, 0, 0, 0, 0, 0, c⟩
def wk1 (B : Bm) (c : Cp) (vm se ix : Int) : Wk := { wk0 B c vm se ix with z := c.setP ((c.pc + 4) % 65536) }
def stC (c : Cp) (R : Mc × Wk × Tr) : Cp := if R.2.2.ca = 0 ∨ R.2.2.ca = 10 then R.2.1.z else c

theorem range_row' {w : World} {g : Nat} {A : Array Value} {t : TypeId} (h : Row w g A t) : w.rangeAt g 0 A.toList := fun j v hv => by rw [Nat.zero_add, h.cell]; simpa using hv
theorem size_mach : (Tryz.prog.info? 37).map (·.size) = some 3 := by kernel_rfl
theorem size_work : (Tryz.prog.info? 175).map (·.size) = some 40 := by kernel_rfl
theorem trL_one (t : Tr) : (trL t).all (·.oneCell') = true := by simp [trL, Value.oneCell']

theorem IsMc.ltp {w : World} {B : Bm} {nf : Nat} {M : Mc} (h : IsMc w B nf M) (k : Nat) (hk : B.s k ∨ k = B.p) : k < w.heap.size := by
  rcases hk with hk | rfl
  · exact h.lts k hk
  · exact h.ram.head.lt

theorem wp_boxA {P : Program} {o : Oper} {a : Act} {w : World} {K : Act → World → Prop} {Q : Exit → Act → World → Prop} {t : TypeId} {x : Operand} {A : Array Value} (ho : o.op = .box t x) (hx : a.eval x = .agg A) (h : K (a.put o.dst (.pointer (some ⟨w.heap.size, 0, none⟩))) (w.alloc (.cells A t))) : o.wp P a w K Q := by
  unfold Oper.wp execOp
  simp only [ho, hx]
  go_simp
  exact h

theorem build_wk (B : Bm) (c : Cp) (vm se ix : Int) (a : Act) (o : Oper) (w : World) (ho : o.op = .build 175 #[(0, .tmp 34), (1, .tmp 39), (2, .tmp 40), (3, .tmp 42), (6, .tmp 43)])
    (h34 : a.eval (.tmp 34) = .agg #[.pointer (some ⟨B.p, 0, none⟩), .pointer (some ⟨B.bt, 0, none⟩), ptrV (B.v.map Bk.b)]) (h39 : a.eval (.tmp 39) = .agg #[.int .i64 vm, .int .i64 (spA B.v.isSome c), .int .i64 (spF B.v.isSome c), .int .i64 se]) (h40 : a.eval (.tmp 40) = .int .i64 ix) (h42 : a.eval (.tmp 42) = .int .i64 c.pc) (h43 : a.eval (.tmp 43) = .agg (cpA c)) :
    (execOp a.eval o).run Tryz.prog w = .ok (.value (.agg (wkA (wk0 B c vm se ix)))) w := by
  have hb : Tryz.prog.built 175 [(0, .agg #[.pointer (some ⟨B.p, 0, none⟩), .pointer (some ⟨B.bt, 0, none⟩), ptrV (B.v.map Bk.b)]), (1, .agg #[.int .i64 vm, .int .i64 (spA B.v.isSome c), .int .i64 (spF B.v.isSome c), .int .i64 se]), (2, .int .i64 ix), (3, .int .i64 c.pc), (6, .agg (cpA c))] = some (wkA (wk0 B c vm se ix)) := by kernel_rfl
  have e : (#[(0, Operand.tmp 34), (1, Operand.tmp 39), (2, Operand.tmp 40), (3, Operand.tmp 42), (6, Operand.tmp 43)].map fun x => (x.1, a.eval x.2)) = #[(0, .agg #[.pointer (some ⟨B.p, 0, none⟩), .pointer (some ⟨B.bt, 0, none⟩), ptrV (B.v.map Bk.b)]), (1, .agg #[.int .i64 vm, .int .i64 (spA B.v.isSome c), .int .i64 (spF B.v.isSome c), .int .i64 se]), (2, .int .i64 ix), (3, .int .i64 c.pc), (6, .agg (cpA c))] := by simp [h34, h39, h40, h42, h43]
  unfold execOp
  simp only [ho, Sem.run_bind]
  rw [e, run_build w 175 _ _ hb]
  rfl

set_option maxRecDepth 100000 in
set_option maxHeartbeats 4000000 in
theorem step_ok (w : World) (N : Nat) (B : Bm) (nf : Nat) (M : Mc) (c : Cp) (hb : ¬ c.bad) (hok : c.Ok) (vm se ix : Int) (hO : Ops w N) (hM : IsMc w B nf M) {n : Nat} (hm : M.few n) (hn : n + 1 < 999990) (sep : ∀ k, (B.s k ∨ k = B.p) → k < N ∨ N + 30 ≤ k) :
    Calls Tryz.prog 37 #[.slice (some ⟨N + 29, 0, none⟩) 26 26, .agg #[.pointer (some ⟨B.p, 0, none⟩), .pointer (some ⟨B.bt, 0, none⟩), ptrV (B.v.map Bk.b)], .agg (cpA c), .int .i64 vm, .int .i64 se, .int .i64 ix] w fun e w' => e = .returned (.tuple #[.agg (cpA (stC c (doR nf M (wk1 B c vm se ix)))), .agg (trL (doR nf M (wk1 B c vm se ix)).2.2)]) ∧ Fr B.s w w' ∧ IsMc w' B nf (doR nf M (wk1 B c vm se ix)).1 ∧ (stC c (doR nf M (wk1 B c vm se ix))).Ok := by
  have hNw : N + 30 ≤ w.heap.size := hO.lt
  obtain ⟨R, hR⟩ : ∃ R, doR nf M (wk1 B c vm se ix) = R := ⟨_, rfl⟩
  rw [hR]
  have hz : ∀ w, Sem.run Tryz.prog (zeroValue 30) w = .ok (.agg (cpA zc)) w := zero_cpu
  obtain ⟨v0, hv0⟩ : ∃ v0, v0 = (((w.alloc (.cells #[.pointer (some ⟨B.p, 0, none⟩), .pointer (some ⟨B.bt, 0, none⟩), ptrV (B.v.map Bk.b)] 37)).alloc (.cells (cpA c) 30)).alloc (.cells (cpA zc) 30)).alloc (.cells #[.int .i64 0, .int .i64 0, .int .i64 0, .int .i64 0, .int .i64 0, .int .i64 0, .bool false, .int .i64 0] 52) := ⟨_, rfl⟩
  have f0 : Fr none' w v0 := by rw [hv0]; exact ((((Fr.refl none' w).alloc _).alloc _).alloc _).alloc _
  have rM : Row v0 w.heap.size #[.pointer (some ⟨B.p, 0, none⟩), .pointer (some ⟨B.bt, 0, none⟩), ptrV (B.v.map Bk.b)] 37 := by rw [hv0]; exact (((row_alloc _ _ _).alloc _).alloc _).alloc _
  have rA : Row v0 (w.heap.size + 1) (cpA c) 30 := by rw [hv0]; exact ((row_at (by simp)).alloc _).alloc _
  have rZ : Row v0 (w.heap.size + 1 + 1) (cpA zc) 30 := by rw [hv0]; exact (row_at (by simp)).alloc _
  have rT : Row v0 (w.heap.size + 1 + 1 + 1) #[.int .i64 0, .int .i64 0, .int .i64 0, .int .i64 0, .int .i64 0, .int .i64 0, .bool false, .int .i64 0] 52 := by rw [hv0]; exact row_at (by simp)
  have hsz : Hid (v0.heap.size = w.heap.size + 4) := by show _ = _; rw [hv0]; simp
  go_enter Tryz.func37, Tryz.ntmps37
  go_upto_region 1 with fail
  rw [← hv0]
  clear hv0 hz
  obtain ⟨gM, hgM⟩ : ∃ g, g = w.heap.size := ⟨_, rfl⟩
  obtain ⟨gA, hgA⟩ : ∃ g, g = w.heap.size + 1 := ⟨_, rfl⟩
  obtain ⟨gZ, hgZ⟩ : ∃ g, g = w.heap.size + 1 + 1 := ⟨_, rfl⟩
  obtain ⟨gT, hgT⟩ : ∃ g, g = w.heap.size + 1 + 1 + 1 := ⟨_, rfl⟩
  rw [← hgT] at rT ⊢
  rw [← hgZ] at rZ ⊢
  rw [← hgA] at rA ⊢
  rw [← hgM] at rM ⊢
  have HN : Hid (gM = w.heap.size ∧ gA = w.heap.size + 1 ∧ gZ = w.heap.size + 2 ∧ gT = w.heap.size + 3) := by show _ ∧ _; omega
  clear hgA hgZ hgT hgM
  have cp := cp_cell rA
  go_cut [29] from 16 to 28 (fun s wx => s = .bool false ∧ wx = v0)
  case first =>
    have hc : ¬ c.pc < 0 ∧ ¬ 65535 < c.pc ∧ c.pc % 4 = 0 := by unfold Cp.bad at hb; omega
    have u1 : decide (c.pc < 0) = false := decide_eq_false hc.1
    have u2 : decide (65535 < c.pc) = false := decide_eq_false hc.2.1
    have u3 : c.pc.tmod 4 = c.pc % 4 := Int.tmod_eq_emod_of_nonneg (by omega)
    have u4 : (c.pc % 4 != 0) = false := by simp [hc.2.2]
    go_wp2_with fail
    go_meet
    exact ⟨rfl, rfl⟩
  case rest =>
    obtain ⟨rfl, hw⟩ := hcut
    have hw' := hw.symm
    subst hw'
    clear cp
    go_wp2_with fail
    refine wp_region_held (S := fun w' => Row w' gM #[.pointer (some ⟨B.p, 0, none⟩), .pointer (some ⟨B.bt, 0, none⟩), ptrV (B.v.map Bk.b)] 37 ∧ Row w' gA (cpA c) 30) (by kernel_rfl) ?_
    change wpAnyH _ _ _ _ _ _ _ _ (World.drew _)
    refine wpAnyH_take (i := 0) (v := .agg ([.pointer (some ⟨B.p, 0, none⟩), .pointer (some ⟨B.bt, 0, none⟩), ptrV (B.v.map Bk.b)]).toArray) rfl (by kernel_rfl) (by kernel_rfl) (by kernel_rfl) (fun _ _ _ h => h) (yieldsIf_load_mid (by kernel_rfl) 37 _ rfl gM 0 rfl ([.pointer (some ⟨B.p, 0, none⟩), .pointer (some ⟨B.bt, 0, none⟩), ptrV (B.v.map Bk.b)]) _ (fun _ h => range_row' h.1) Tryz.underlying37 rfl size_mach) ⟨rM.drew, rA.drew⟩ ?_
    show wpAnyH _ _ _ _ _ _ _ (Act.put _ (some 34) _) _
    simp only [Act.put, List.setIfInBounds_toArray, List.set_cons_succ, List.set_cons_zero]
    refine wpAnyH_take (i := 1) (v := .agg ([.pointer (some ⟨B.p, 0, none⟩), .pointer (some ⟨B.bt, 0, none⟩), ptrV (B.v.map Bk.b)]).toArray) rfl (by kernel_rfl) (by kernel_rfl) (by kernel_rfl) (fun _ _ _ h => h) (yieldsIf_load_mid (by kernel_rfl) 37 _ rfl gM 0 rfl ([.pointer (some ⟨B.p, 0, none⟩), .pointer (some ⟨B.bt, 0, none⟩), ptrV (B.v.map Bk.b)]) _ (fun _ h => range_row' h.1) Tryz.underlying37 rfl size_mach) ⟨rM.drew, rA.drew⟩ ?_
    show wpAnyH _ _ _ _ _ _ _ (Act.put _ (some 35) _) _
    simp only [Act.put, List.setIfInBounds_toArray, List.set_cons_succ, List.set_cons_zero]
    refine wpAnyH_take (i := 2) (v := .agg (cpL c).toArray) rfl (by kernel_rfl) (by kernel_rfl) (by kernel_rfl) (fun _ _ _ h => h) (yieldsIf_load_mid (by kernel_rfl) 30 _ rfl gA 0 rfl (cpL c) _ (fun _ h => range_row h.2) Tryz.underlying30 rfl (size_cpL c)) ⟨rM.drew, rA.drew⟩ ?_
    show wpAnyH _ _ _ _ _ _ _ (Act.put _ (some 36) _) _
    simp only [Act.put, List.setIfInBounds_toArray, List.set_cons_succ, List.set_cons_zero]
    refine wpAnyH_take (i := 3) (v := ?_) rfl (by kernel_rfl) (by kernel_rfl) (by kernel_rfl) (fun _ _ _ h => h) (Or.inl ⟨by kernel_rfl, fun w hS => ?_⟩) ⟨rM.drew, rA.drew⟩ ?_
    rotate_left
    · go_simp
      try with_reducible rfl
    show wpAnyH _ _ _ _ _ _ _ (Act.put _ (some 37) _) _
    simp only [Act.put, List.setIfInBounds_toArray, List.set_cons_succ, List.set_cons_zero]
    refine wpAnyH_take (i := 4) (v := ?_) rfl (by kernel_rfl) (by kernel_rfl) (by kernel_rfl) (fun _ _ _ h => h) (Or.inl ⟨by kernel_rfl, fun w hS => ?_⟩) ⟨rM.drew, rA.drew⟩ ?_
    rotate_left
    · go_simp
      try with_reducible rfl
    show wpAnyH _ _ _ _ _ _ _ (Act.put _ (some 38) _) _
    simp only [Act.put, List.setIfInBounds_toArray, List.set_cons_succ, List.set_cons_zero]
    refine wpAnyH_take (i := 6) (v := ?_) rfl (by kernel_rfl) (by kernel_rfl) (by kernel_rfl) (fun _ _ _ h => h) (Or.inl ⟨by kernel_rfl, fun w hS => ?_⟩) ⟨rM.drew, rA.drew⟩ ?_
    rotate_left
    · go_simp
      try with_reducible rfl
    show wpAnyH _ _ _ _ _ _ _ (Act.put _ (some 40) _) _
    simp only [Act.put, List.setIfInBounds_toArray, List.set_cons_succ, List.set_cons_zero]
    refine wpAnyH_take (i := 7) (v := ?_) rfl (by kernel_rfl) (by kernel_rfl) (by kernel_rfl) (fun _ _ _ h => h) (Or.inl ⟨by kernel_rfl, fun w hS => ?_⟩) ⟨rM.drew, rA.drew⟩ ?_
    rotate_left
    · go_simp
      try with_reducible rfl
    show wpAnyH _ _ _ _ _ _ _ (Act.put _ (some 41) _) _
    simp only [Act.put, List.setIfInBounds_toArray, List.set_cons_succ, List.set_cons_zero]
    refine wpAnyH_take (i := 8) (v := ?_) rfl (by kernel_rfl) (by kernel_rfl) (by kernel_rfl) (fun _ _ _ h => h) (Or.inl ⟨by kernel_rfl, fun w hS => ?_⟩) ⟨rM.drew, rA.drew⟩ ?_
    rotate_left
    · have cp := cp_cell hS.2; go_simp
      try with_reducible rfl
    show wpAnyH _ _ _ _ _ _ _ (Act.put _ (some 42) _) _
    simp only [Act.put, List.setIfInBounds_toArray, List.set_cons_succ, List.set_cons_zero]
    refine wpAnyH_take (i := 9) (v := .agg (cpL c).toArray) rfl (by kernel_rfl) (by kernel_rfl) (by kernel_rfl) (fun _ _ _ h => h) (yieldsIf_load_mid (by kernel_rfl) 30 _ rfl gA 0 rfl (cpL c) _ (fun _ h => range_row h.2) Tryz.underlying30 rfl (size_cpL c)) ⟨rM.drew, rA.drew⟩ ?_
    show wpAnyH _ _ _ _ _ _ _ (Act.put _ (some 43) _) _
    simp only [Act.put, List.setIfInBounds_toArray, List.set_cons_succ, List.set_cons_zero]
    refine wpAnyH_all (rs := [5]) (by kernel_rfl) (by simp) ?_
    intro i hi
    obtain rfl : i = 5 := by simpa using hi
    clear hi
    refine wpOp_mk rfl (by kernel_rfl) ?_
    go_simp
    refine (space_any v0.drew B.p B.bt (B.v.map Bk.b) c hok vm se).mono ?_
    rintro e v1 ⟨rfl, f1⟩
    replace f1 := rs_drew f1
    replace rM := rM.keep f1 (fun h => h)
    replace rA := rA.keep f1 (fun h => h)
    replace rZ := rZ.keep f1 (fun h => h)
    replace rT := rT.keep f1 (fun h => h)
    replace f0 := f0.trans f1
    have hv : (Option.map Bk.b B.v).isSome = B.v.isSome := by cases B.v <;> rfl
    rw [hv]
    have hsz1 : Hid (w.heap.size + 4 ≤ v1.heap.size) := (show _ ≤ _ by have := hsz.out; have := f1.size; omega)
    clear f1 hsz hv
    refine ⟨⟨rM, rA⟩, ?_⟩
    refine wpAnyH_take (i := 10) (v := .agg (wkA (wk0 B c vm se ix))) rfl (by kernel_rfl) (by kernel_rfl) (by kernel_rfl) (fun _ _ _ h => h) (Or.inl ⟨by kernel_rfl, fun w hS => build_wk B c vm se ix _ _ w rfl rfl rfl rfl rfl rfl⟩) ⟨rM, rA⟩ ?_
    show wpAnyH _ _ _ _ _ _ _ (Act.put _ (some 44) _) _
    simp only [Act.put, List.setIfInBounds_toArray, List.set_cons_succ, List.set_cons_zero]
    refine wpAnyH_all (rs := [11]) (by kernel_rfl) (by simp) ?_
    intro i hi
    obtain rfl : i = 11 := by simpa using hi
    clear hi
    refine wpOp_mk rfl (by kernel_rfl) ?_
    refine wp_boxA rfl rfl ?_
    refine ⟨⟨rM.alloc _, rA.alloc _⟩, ?_⟩
    show wpAnyH _ _ _ _ _ _ _ (Act.put _ (some 45) _) _
    simp only [Act.put, List.setIfInBounds_toArray, List.set_cons_succ, List.set_cons_zero]
    refine wpAnyH_take (i := 12) (v := ?_) rfl (by kernel_rfl) (by kernel_rfl) (by kernel_rfl) (fun _ _ _ h => h) (Or.inl ⟨by kernel_rfl, fun w hS => ?_⟩) ⟨rM.alloc _, rA.alloc _⟩ ?_
    rotate_left
    · go_simp
      try with_reducible rfl
    show wpAnyH _ _ _ _ _ _ _ (Act.put _ (some 14) _) _
    simp only [Act.put, List.setIfInBounds_toArray, List.set_cons_succ, List.set_cons_zero]
    refine wpAnyH_done (by kernel_rfl) ?_ _
    have rX := row_alloc v1 (wkA (wk0 B c vm se ix)) 175
    have q1 := (Fr.refl none' v1).alloc (.cells (wkA (wk0 B c vm se ix)) 175)
    obtain ⟨v2, hv2⟩ : ∃ v2, v2 = v1.alloc (.cells (wkA (wk0 B c vm se ix)) 175) := ⟨_, rfl⟩
    rw [← hv2] at rX q1 ⊢
    clear hv2
    obtain ⟨bx, hbx⟩ : ∃ bx, bx = v1.heap.size := ⟨_, rfl⟩
    rw [← hbx] at rX hsz1 ⊢
    clear hbx
    replace rA := rA.keep q1 (fun h => h)
    replace rZ := rZ.keep q1 (fun h => h)
    replace rT := rT.keep q1 (fun h => h)
    replace f0 := f0.trans q1
    clear q1 rM
    have HB : Hid (∀ k, (B.s k ∨ k = B.p) → k < w.heap.size) := hM.ltp
    have J0 : Jb v2 B nf bx M (wk0 B c vm se ix) :=
      { m := hM.keep0 f0, x := isW_mk rX, p := rfl, t := rfl, v := rfl
        f1 := fun e => by have := HB.out B.p (Or.inr rfl); have := hsz1.out; omega
        f2 := fun e => by have := HB.out B.bf (Or.inl (Or.inl rfl)); have := hsz1.out; omega
        f3 := fun e => by have := HB.out B.bt (Or.inl (Or.inr (Or.inl rfl))); have := hsz1.out; omega
        f4 := fun e => by have := HB.out bx (Or.inl (Or.inr (Or.inr e))); have := hsz1.out; omega
        ok := hok, a := by show 0 < 16; omega, b := by show 0 < 16; omega, c := by show 0 < 16; omega, i := by show 0 < 65536; omega, wd := by show 0 < 4294967296; omega
        pc := by show 0 ≤ c.pc ∧ c.pc ≤ 65535; unfold Cp.bad at hb; omega }
    have hpc : 0 ≤ c.pc ∧ c.pc ≤ 65535 := J0.pc
    have hbh := behind_any v2 bx (wk0 B c vm se ix) J0.x J0.pc
    replace hbh : Calls Tryz.prog 74 #[.pointer (some ⟨bx, 0, none⟩)] v2 fun e w' => e = .returned (.int .i64 ((c.pc + 4) % 65536)) ∧ w' = v2 := hbh
    have HO : Hid (Ops v2 N) := hO.keep f0 (fun _ _ _ h => h)
    clear rX hO
    obtain ⟨u, cp⟩ := J0.x.some_cell (i := 31) (by omega)
    have z := J0.x.frozen 31
    have HJ : Hid (Jb v2 B nf bx M (wk0 B c vm se ix)) := J0
    clear J0 hb hpc
    go_wp2_with fail
    refine hbh.mono ?_
    rintro e v ⟨rfl, he⟩
    have he' := he.symm
    subst he'
    clear hbh
    go_upto_region 5 with fail
    clear cp z
    have q2 := fr_set v2 bx 31 (.int .i64 ((c.pc + 4) % 65536)) (Fr.refl _ v2)
    have J1 : Jb (v2.setCell ⟨bx, 31, none⟩ (.int .i64 ((c.pc + 4) % 65536))) B nf bx M (wk1 B c vm se ix) := HJ.out.turn q2 (HJ.out.x.setP _) (hok.setP _)
    have ns : ∀ k, (k = gA ∨ k = gZ ∨ k = gT) → ¬ B.x bx k := fun k hk e => by
      have := HN.out
      have := hsz1.out
      rcases e with e | e
      · have := HB.out k (Or.inl e); omega
      · omega
    have nx : ∀ k, (k = gA ∨ k = gZ ∨ k = gT) → ¬ at' bx k := fun k hk e => ns k hk (Or.inr e)
    replace rA := rA.keep q2 (nx _ (Or.inl rfl))
    replace rZ := rZ.keep q2 (nx _ (Or.inr (Or.inl rfl)))
    replace rT := rT.keep q2 (nx _ (Or.inr (Or.inr rfl)))
    have f1 : Fr B.s w (v2.setCell ⟨bx, 31, none⟩ (.int .i64 ((c.pc + 4) % 65536))) := (f0.mono (fun _ _ h => h.elim)).newerS q2 (by have := hsz1.out; omega)
    have sepx : ∀ k, B.y bx k → k < N ∨ N + 30 ≤ k := fun k hk => by
      rcases hk with (hk | hk) | hk
      · exact sep k (Or.inl hk)
      · have h4 := HO.out.lt; have h5 := HJ.out.x.lt; have h6 := hsz1.out; right; have : N + 30 ≤ w.heap.size := hNw; omega
      · exact sep k (Or.inr hk)
    have hD := do_any _ N B nf bx M (wk1 B c vm se ix) (HO.out.keep q2 (fun k h1 h2 e => by have e' : k = bx := e; have := hsz1.out; omega)) J1 hm hn sepx
    rw [hR] at hD
    clear hR f0 HJ J1 HO
    obtain ⟨v3, hv3⟩ : ∃ v3, v3 = v2.setCell ⟨bx, 31, none⟩ (.int .i64 ((c.pc + 4) % 65536)) := ⟨_, rfl⟩
    rw [← hv3] at rA rZ rT f1 hD ⊢
    clear hv3 q2
    obtain ⟨M', X', T⟩ := R
    go_wp2_with fail
    refine hD.mono ?_
    rintro e v4 ⟨rfl, g4, J4⟩
    clear hD
    unfold trL
    have f5 : Fr B.s w v4 := ⟨g4.os.trans f1.os, g4.tape.trans f1.tape, g4.output.trans f1.output, Nat.le_trans f1.size g4.size, fun k hk hn => by
      rw [g4.block k (Nat.lt_of_lt_of_le hk f1.size) (fun e => by rcases e with e | e; exact hn e; have := hsz1.out; omega)]; exact f1.block k hk hn⟩
    replace rA := (rA.keep g4 (ns _ (Or.inl rfl))).alloc (.cells #[.int .i64 T.ca, .int .i64 T.nu, .int .i64 T.ad, .int .i64 T.f.k, .int .i64 T.f.s, .int .i64 T.f.l, .bool T.f.wk, .int .i64 T.f.p] 52)
    replace rZ := (rZ.keep g4 (ns _ (Or.inr (Or.inl rfl)))).alloc (.cells #[.int .i64 T.ca, .int .i64 T.nu, .int .i64 T.ad, .int .i64 T.f.k, .int .i64 T.f.s, .int .i64 T.f.l, .bool T.f.wk, .int .i64 T.f.p] 52)
    replace rT := (rT.keep g4 (ns _ (Or.inr (Or.inr rfl)))).alloc (.cells #[.int .i64 T.ca, .int .i64 T.nu, .int .i64 T.ad, .int .i64 T.f.k, .int .i64 T.f.s, .int .i64 T.f.l, .bool T.f.wk, .int .i64 T.f.p] 52)
    have r5 := row_alloc v4 #[.int .i64 T.ca, .int .i64 T.nu, .int .i64 T.ad, .int .i64 T.f.k, .int .i64 T.f.s, .int .i64 T.f.l, .bool T.f.wk, .int .i64 T.f.p] 52
    replace f5 := f5.alloc (.cells #[.int .i64 T.ca, .int .i64 T.nu, .int .i64 T.ad, .int .i64 T.f.k, .int .i64 T.f.s, .int .i64 T.f.l, .bool T.f.wk, .int .i64 T.f.p] 52)
    have J5 := J4.alloc (.cells #[.int .i64 T.ca, .int .i64 T.nu, .int .i64 T.ad, .int .i64 T.f.k, .int .i64 T.f.s, .int .i64 T.f.l, .bool T.f.wk, .int .i64 T.f.p] 52)
    have h45 : Hid (w.heap.size + 4 ≤ v4.heap.size) := (show _ ≤ _ by have := g4.size; have := f1.size; have := J4.x.lt; have := hsz1.out; omega)
    clear g4 f1 J4
    go_upto_region 6 with fail
    obtain ⟨v0', hv5⟩ : ∃ v5, v5 = v4.alloc (.cells #[.int .i64 T.ca, .int .i64 T.nu, .int .i64 T.ad, .int .i64 T.f.k, .int .i64 T.f.s, .int .i64 T.f.l, .bool T.f.wk, .int .i64 T.f.p] 52) := ⟨_, rfl⟩
    rw [← hv5] at rA rZ rT r5 f5 J5 ⊢
    clear hv5
    obtain ⟨g5, hg5⟩ : ∃ g, g = v4.heap.size := ⟨_, rfl⟩
    rw [← hg5] at r5 h45 ⊢
    clear hg5
    have d0 : v0'.cell? ⟨g5, 0, none⟩ = some (.int .i64 T.ca) := r5.cell 0
    have nA : ∀ k, (k = gZ ∨ k = gT) → ¬ at' k g5 ∧ ¬ at' k bx ∧ (∀ j, B.y bx j → j ≠ k) := fun k hk => ⟨fun e => by have e' : g5 = k := e; have := HN.out; have := h45.out; omega, fun e => by have e' : bx = k := e; have := HN.out; have := hsz1.out; omega, fun j hj e => by
      subst e
      have := HN.out
      have := hsz1.out
      rcases hj with (hj | hj) | hj
      · have := HB.out j (Or.inl hj); omega
      · omega
      · have := HB.out j (Or.inr hj); omega⟩
    have n1 : ¬ at' gZ gA := fun e => by have e' : gA = gZ := e; have := HN.out; omega
    have n2 : ¬ at' gT gA := fun e => by have e' : gA = gT := e; have := HN.out; omega
    have n3 : ¬ at' gZ gT := fun e => by have e' : gT = gZ := e; have := HN.out; omega
    have n4 : ¬ at' gT gZ := fun e => by have e' : gZ = gT := e; have := HN.out; omega
    have lz : w.heap.size ≤ gZ ∧ w.heap.size ≤ gT := by have := HN.out; omega
    clear HN hsz1 h45 HB ns nx sepx sep
    by_cases hq : T.ca = 0 ∨ T.ca = 10
    · have hS : stC c (M', X', T) = X'.z := if_pos hq
      have hsl : T.ca = 0 ∨ (T.ca ≠ 0 ∧ T.ca = 10) := by omega
      clear hq
      have HS : Hid (stC c (M', X', T) = X'.z) := hS
      clear hS
      rcases hsl with h0 | ⟨h0, h10⟩
      · have u1 : (T.ca == 0) = true := by simp [h0]
        clear h0
        go_wp2_with fail
        have rT1 := rT.keep (fr_row v0' gZ (cpA X'.z)) n3
        have rZ1 : Row (v0'.setRow gZ (cpA X'.z)) gZ (cpA X'.z) 30 := rZ.setRow
        have rT3 : Row ((v0'.setRow gZ (cpA X'.z)).setRow gT (trL T)) gT (trL T) 52 := rT1.setRow
        have rZ3 := rZ1.keep (fr_row _ gT (trL T)) n4
        have f6 := fr_rowS (fr_rowS f5 (g := gZ) lz.1 (cpA X'.z)) (g := gT) lz.2 (trL T)
        have J6 := J5.past (fr_row v0' gZ (cpA X'.z)) (nA gZ (Or.inl rfl)).2.2
        have J7 := J6.past (fr_row _ gT (trL T)) (nA gT (Or.inr rfl)).2.2
        have r6 := r5.keep (fr_row v0' gZ (cpA X'.z)) (nA gZ (Or.inl rfl)).1
        have r7 := r6.keep (fr_row _ gT (trL T)) (nA gT (Or.inr rfl)).1
        refine wp_region_held (S := fun w' => IsW w' bx X' ∧ Row w' g5 (trL T) 52) (by kernel_rfl) ?_
        change wpAnyH _ _ _ _ _ _ _ _ (World.drew _)
        refine wpAnyH_take (i := 0) (v := ?_) rfl (by kernel_rfl) (by kernel_rfl) (by kernel_rfl) (fun _ _ _ h => h) (Or.inl ⟨by kernel_rfl, fun w hS => ?_⟩) ⟨J5.x.drew, r5.drew⟩ ?_
        rotate_left
        · go_simp
          try with_reducible rfl
        show wpAnyH _ _ _ _ _ _ _ (Act.put _ (some 63) _) _
        simp only [Act.put, List.setIfInBounds_toArray, List.set_cons_succ, List.set_cons_zero]
        refine wpAnyH_take (i := 1) (v := ?_) rfl (by kernel_rfl) (by kernel_rfl) (by kernel_rfl) (fun _ _ _ h => h) (Or.inl ⟨by kernel_rfl, fun w hS => ?_⟩) ⟨J5.x.drew, r5.drew⟩ ?_
        rotate_left
        · go_simp
          try with_reducible rfl
        show wpAnyH _ _ _ _ _ _ _ (Act.put _ (some 64) _) _
        simp only [Act.put, List.setIfInBounds_toArray, List.set_cons_succ, List.set_cons_zero]
        refine wpAnyH_take (i := 2) (v := ?_) rfl (by kernel_rfl) (by kernel_rfl) (by kernel_rfl) (fun _ _ _ h => h) (Or.inl ⟨by kernel_rfl, fun w hS => ?_⟩) ⟨J5.x.drew, r5.drew⟩ ?_
        rotate_left
        · go_simp
          try with_reducible rfl
        show wpAnyH _ _ _ _ _ _ _ (Act.put _ (some 65) _) _
        simp only [Act.put, List.setIfInBounds_toArray, List.set_cons_succ, List.set_cons_zero]
        refine wpAnyH_take (i := 3) (v := .agg (cpL X'.z).toArray) rfl (by kernel_rfl) (by kernel_rfl) (by kernel_rfl) (fun _ _ _ h => h) (yieldsIf_load_mid (by kernel_rfl) 30 _ rfl bx 15 rfl (cpL X'.z) _ (fun _ h => h.1.range) Tryz.underlying30 rfl (size_cpL X'.z)) ⟨J5.x.drew, r5.drew⟩ ?_
        show wpAnyH _ _ _ _ _ _ _ (Act.put _ (some 66) _) _
        simp only [Act.put, List.setIfInBounds_toArray, List.set_cons_succ, List.set_cons_zero]
        refine wpAnyH_take (i := 4) (v := .agg ((trL T).toList).toArray) rfl (by kernel_rfl) (by kernel_rfl) (by kernel_rfl) (fun _ _ _ h => h) (yieldsIf_load_mid (by kernel_rfl) 52 _ rfl g5 0 rfl ((trL T).toList) _ (fun _ h => range_row' h.2) Tryz.underlying52 rfl (size_trap : _ = some 8)) ⟨J5.x.drew, r5.drew⟩ ?_
        show wpAnyH _ _ _ _ _ _ _ (Act.put _ (some 67) _) _
        simp only [Act.put, List.setIfInBounds_toArray, List.set_cons_succ, List.set_cons_zero]
        refine wpAnyH_all (rs := [5]) (by kernel_rfl) (by simp) ?_
        intro i hi
        obtain rfl : i = 5 := by simpa using hi
        clear hi
        refine wpOp_mk rfl (by kernel_rfl) ?_
        refine wp_store_row 30 _ _ rfl gZ (cpA X'.z) rfl rfl 30 (cpA zc) rZ.drew (size_cpA X'.z) rfl (cpA_one X'.z) ?_
        refine ⟨⟨J6.x.drew, r6.drew⟩, ?_⟩
        show wpAnyH _ _ _ _ _ _ _ _ _
        refine wpAnyH_all (rs := [6]) (by kernel_rfl) (by simp) ?_
        intro i hi
        obtain rfl : i = 6 := by simpa using hi
        clear hi
        refine wpOp_mk rfl (by kernel_rfl) ?_
        refine wp_store_row 52 _ _ rfl gT (trL T) rfl rfl 52 #[.int .i64 0, .int .i64 0, .int .i64 0, .int .i64 0, .int .i64 0, .int .i64 0, .bool false, .int .i64 0] rT1.drew size_trap rfl (trL_one T) ?_
        refine ⟨⟨J7.x.drew, r7.drew⟩, ?_⟩
        show wpAnyH _ _ _ _ _ _ _ _ _
        refine wpAnyH_done (by kernel_rfl) ?_ _
        go_wp2_with fail
        refine bodyPost_ret (ret_ct rfl rfl rfl rZ3.drew (cpA_size _) rT3.drew rfl) rfl ?_
        exact ⟨by rw [HS.out], f6.drew, J7.m.keep0 (Fr.refl none' _).drew, by rw [HS.out]; first | exact J7.ok | exact hok⟩
      · have u1 : (T.ca == 0) = false := by simp [h0]
        have u2 : (T.ca == 10) = true := by simp [h10]
        clear h0 h10
        go_wp2_with fail
        have rT1 := rT.keep (fr_row v0' gZ (cpA X'.z)) n3
        have rZ1 : Row (v0'.setRow gZ (cpA X'.z)) gZ (cpA X'.z) 30 := rZ.setRow
        have rT3 : Row ((v0'.setRow gZ (cpA X'.z)).setRow gT (trL T)) gT (trL T) 52 := rT1.setRow
        have rZ3 := rZ1.keep (fr_row _ gT (trL T)) n4
        have f6 := fr_rowS (fr_rowS f5 (g := gZ) lz.1 (cpA X'.z)) (g := gT) lz.2 (trL T)
        have J6 := J5.past (fr_row v0' gZ (cpA X'.z)) (nA gZ (Or.inl rfl)).2.2
        have J7 := J6.past (fr_row _ gT (trL T)) (nA gT (Or.inr rfl)).2.2
        have r6 := r5.keep (fr_row v0' gZ (cpA X'.z)) (nA gZ (Or.inl rfl)).1
        have r7 := r6.keep (fr_row _ gT (trL T)) (nA gT (Or.inr rfl)).1
        refine wp_region_held (S := fun w' => IsW w' bx X' ∧ Row w' g5 (trL T) 52) (by kernel_rfl) ?_
        change wpAnyH _ _ _ _ _ _ _ _ (World.drew _)
        refine wpAnyH_take (i := 0) (v := ?_) rfl (by kernel_rfl) (by kernel_rfl) (by kernel_rfl) (fun _ _ _ h => h) (Or.inl ⟨by kernel_rfl, fun w hS => ?_⟩) ⟨J5.x.drew, r5.drew⟩ ?_
        rotate_left
        · go_simp
          try with_reducible rfl
        show wpAnyH _ _ _ _ _ _ _ (Act.put _ (some 63) _) _
        simp only [Act.put, List.setIfInBounds_toArray, List.set_cons_succ, List.set_cons_zero]
        refine wpAnyH_take (i := 1) (v := ?_) rfl (by kernel_rfl) (by kernel_rfl) (by kernel_rfl) (fun _ _ _ h => h) (Or.inl ⟨by kernel_rfl, fun w hS => ?_⟩) ⟨J5.x.drew, r5.drew⟩ ?_
        rotate_left
        · go_simp
          try with_reducible rfl
        show wpAnyH _ _ _ _ _ _ _ (Act.put _ (some 64) _) _
        simp only [Act.put, List.setIfInBounds_toArray, List.set_cons_succ, List.set_cons_zero]
        refine wpAnyH_take (i := 2) (v := ?_) rfl (by kernel_rfl) (by kernel_rfl) (by kernel_rfl) (fun _ _ _ h => h) (Or.inl ⟨by kernel_rfl, fun w hS => ?_⟩) ⟨J5.x.drew, r5.drew⟩ ?_
        rotate_left
        · go_simp
          try with_reducible rfl
        show wpAnyH _ _ _ _ _ _ _ (Act.put _ (some 65) _) _
        simp only [Act.put, List.setIfInBounds_toArray, List.set_cons_succ, List.set_cons_zero]
        refine wpAnyH_take (i := 3) (v := .agg (cpL X'.z).toArray) rfl (by kernel_rfl) (by kernel_rfl) (by kernel_rfl) (fun _ _ _ h => h) (yieldsIf_load_mid (by kernel_rfl) 30 _ rfl bx 15 rfl (cpL X'.z) _ (fun _ h => h.1.range) Tryz.underlying30 rfl (size_cpL X'.z)) ⟨J5.x.drew, r5.drew⟩ ?_
        show wpAnyH _ _ _ _ _ _ _ (Act.put _ (some 66) _) _
        simp only [Act.put, List.setIfInBounds_toArray, List.set_cons_succ, List.set_cons_zero]
        refine wpAnyH_take (i := 4) (v := .agg ((trL T).toList).toArray) rfl (by kernel_rfl) (by kernel_rfl) (by kernel_rfl) (fun _ _ _ h => h) (yieldsIf_load_mid (by kernel_rfl) 52 _ rfl g5 0 rfl ((trL T).toList) _ (fun _ h => range_row' h.2) Tryz.underlying52 rfl (size_trap : _ = some 8)) ⟨J5.x.drew, r5.drew⟩ ?_
        show wpAnyH _ _ _ _ _ _ _ (Act.put _ (some 67) _) _
        simp only [Act.put, List.setIfInBounds_toArray, List.set_cons_succ, List.set_cons_zero]
        refine wpAnyH_all (rs := [5]) (by kernel_rfl) (by simp) ?_
        intro i hi
        obtain rfl : i = 5 := by simpa using hi
        clear hi
        refine wpOp_mk rfl (by kernel_rfl) ?_
        refine wp_store_row 30 _ _ rfl gZ (cpA X'.z) rfl rfl 30 (cpA zc) rZ.drew (size_cpA X'.z) rfl (cpA_one X'.z) ?_
        refine ⟨⟨J6.x.drew, r6.drew⟩, ?_⟩
        show wpAnyH _ _ _ _ _ _ _ _ _
        refine wpAnyH_all (rs := [6]) (by kernel_rfl) (by simp) ?_
        intro i hi
        obtain rfl : i = 6 := by simpa using hi
        clear hi
        refine wpOp_mk rfl (by kernel_rfl) ?_
        refine wp_store_row 52 _ _ rfl gT (trL T) rfl rfl 52 #[.int .i64 0, .int .i64 0, .int .i64 0, .int .i64 0, .int .i64 0, .int .i64 0, .bool false, .int .i64 0] rT1.drew size_trap rfl (trL_one T) ?_
        refine ⟨⟨J7.x.drew, r7.drew⟩, ?_⟩
        show wpAnyH _ _ _ _ _ _ _ _ _
        refine wpAnyH_done (by kernel_rfl) ?_ _
        go_wp2_with fail
        refine bodyPost_ret (ret_ct rfl rfl rfl rZ3.drew (cpA_size _) rT3.drew rfl) rfl ?_
        exact ⟨by rw [HS.out], f6.drew, J7.m.keep0 (Fr.refl none' _).drew, by rw [HS.out]; first | exact J7.ok | exact hok⟩
    · have HS : Hid (stC c (M', X', T) = c) := if_neg hq
      have u1 : (T.ca == 0) = false := by simp; omega
      have u2 : (T.ca == 10) = false := by simp; omega
      clear hq
      go_wp2_with fail
      have rA1 := rA.keep (fr_row v0' gZ (cpA c)) n1
      have rT1 := rT.keep (fr_row v0' gZ (cpA c)) n3
      have rZ1 : Row (v0'.setRow gZ (cpA c)) gZ (cpA c) 30 := rZ.setRow
      have rA3 := rA1.keep (fr_row _ gT (trL T)) n2
      have rT3 : Row ((v0'.setRow gZ (cpA c)).setRow gT (trL T)) gT (trL T) 52 := rT1.setRow
      have rZ3 := rZ1.keep (fr_row _ gT (trL T)) n4
      have f6 := fr_rowS (fr_rowS f5 (g := gZ) lz.1 (cpA c)) (g := gT) lz.2 (trL T)
      have J6 := J5.past (fr_row v0' gZ (cpA c)) (nA gZ (Or.inl rfl)).2.2
      have J7 := J6.past (fr_row _ gT (trL T)) (nA gT (Or.inr rfl)).2.2
      have r6 := r5.keep (fr_row v0' gZ (cpA c)) (nA gZ (Or.inl rfl)).1
      have r7 := r6.keep (fr_row _ gT (trL T)) (nA gT (Or.inr rfl)).1
      refine wp_region_held (S := fun w' => Row w' gA (cpA c) 30 ∧ Row w' g5 (trL T) 52) (by kernel_rfl) ?_
      change wpAnyH _ _ _ _ _ _ _ _ (World.drew _)
      refine wpAnyH_take (i := 0) (v := .agg (cpL c).toArray) rfl (by kernel_rfl) (by kernel_rfl) (by kernel_rfl) (fun _ _ _ h => h) (yieldsIf_load_mid (by kernel_rfl) 30 _ rfl gA 0 rfl (cpL c) _ (fun _ h => range_row h.1) Tryz.underlying30 rfl (size_cpL c)) ⟨rA.drew, r5.drew⟩ ?_
      show wpAnyH _ _ _ _ _ _ _ (Act.put _ (some 68) _) _
      simp only [Act.put, List.setIfInBounds_toArray, List.set_cons_succ, List.set_cons_zero]
      refine wpAnyH_take (i := 1) (v := .agg ((trL T).toList).toArray) rfl (by kernel_rfl) (by kernel_rfl) (by kernel_rfl) (fun _ _ _ h => h) (yieldsIf_load_mid (by kernel_rfl) 52 _ rfl g5 0 rfl ((trL T).toList) _ (fun _ h => range_row' h.2) Tryz.underlying52 rfl (size_trap : _ = some 8)) ⟨rA.drew, r5.drew⟩ ?_
      show wpAnyH _ _ _ _ _ _ _ (Act.put _ (some 69) _) _
      simp only [Act.put, List.setIfInBounds_toArray, List.set_cons_succ, List.set_cons_zero]
      refine wpAnyH_all (rs := [2]) (by kernel_rfl) (by simp) ?_
      intro i hi
      obtain rfl : i = 2 := by simpa using hi
      clear hi
      refine wpOp_mk rfl (by kernel_rfl) ?_
      refine wp_store_row 30 _ _ rfl gZ (cpA c) rfl rfl 30 (cpA zc) rZ.drew (size_cpA c) rfl (cpA_one c) ?_
      refine ⟨⟨rA1.drew, r6.drew⟩, ?_⟩
      show wpAnyH _ _ _ _ _ _ _ _ _
      refine wpAnyH_all (rs := [3]) (by kernel_rfl) (by simp) ?_
      intro i hi
      obtain rfl : i = 3 := by simpa using hi
      clear hi
      refine wpOp_mk rfl (by kernel_rfl) ?_
      refine wp_store_row 52 _ _ rfl gT (trL T) rfl rfl 52 #[.int .i64 0, .int .i64 0, .int .i64 0, .int .i64 0, .int .i64 0, .int .i64 0, .bool false, .int .i64 0] rT1.drew size_trap rfl (trL_one T) ?_
      refine ⟨⟨rA3.drew, r7.drew⟩, ?_⟩
      show wpAnyH _ _ _ _ _ _ _ _ _
      refine wpAnyH_done (by kernel_rfl) ?_ _
      go_wp2_with fail
      refine bodyPost_ret (ret_ct rfl rfl rfl rZ3.drew (cpA_size _) rT3.drew rfl) rfl ?_
      exact ⟨by rw [HS.out], f6.drew, J7.m.keep0 (Fr.refl none' _).drew, by rw [HS.out]; first | exact J7.ok | exact hok⟩

end Go.Proofs.YtgnoakidjnilpaaGreat

/- CpuPure -/
namespace Go.Proofs.YtgnoakidjnilpaaGreat
open Go.RowKit

def Wk.re (X : Wk) (p t : Nat) (v : Option Nat) : Wk := { X with p := p, t := t, v := v }

theorem ldX_re (M : Mc) (nf : Nat) (X : Wk) (size : Int) (p t : Nat) (v : Option Nat) : ldX M nf (X.re p t v) size = (ldX M nf X size).re p t v := by
  show (if (dT M nf X size 1 2).ca ≠ 0 then X.re p t v else _) = _
  unfold ldX
  split <;> rfl
theorem rdX_re (X : Wk) (p t : Nat) (v : Option Nat) : rdX (X.re p t v) = (rdX X).re p t v := by
  show (if (6 : Int) < (X.imm : Int) then X.re p t v else _) = _
  unfold rdX
  split <;> rfl
theorem wrX_re (X : Wk) (p t : Nat) (v : Option Nat) : wrX (X.re p t v) = (wrX X).re p t v := by
  show (if (5 : Int) < (X.imm : Int) then X.re p t v else _) = _
  unfold wrX
  split <;> rfl

theorem exec_re (nf : Nat) (M : Mc) (X : Wk) (p t : Nat) (v : Option Nat) : exec nf M (X.re p t v) = ((exec nf M X).1, (exec nf M X).2.1.re p t v, (exec nf M X).2.2) := by
  have h1 := ldX_re M nf X 4 p t v
  have h2 := ldX_re M nf X 1 p t v
  have h3 := rdX_re X p t v
  have h4 := wrX_re X p t v
  have hx : (X.re p t v).op = X.op := rfl
  by_cases hk : X.op ≤ 24
  · have : X.op = 0 ∨ X.op = 1 ∨ X.op = 2 ∨ X.op = 3 ∨ X.op = 4 ∨ X.op = 5 ∨ X.op = 6 ∨ X.op = 7 ∨ X.op = 8 ∨ X.op = 9 ∨ X.op = 10 ∨ X.op = 11 ∨ X.op = 12 ∨ X.op = 13 ∨ X.op = 14 ∨ X.op = 15 ∨ X.op = 16 ∨ X.op = 17 ∨ X.op = 18 ∨ X.op = 19 ∨ X.op = 20 ∨ X.op = 21 ∨ X.op = 22 ∨ X.op = 23 ∨ X.op = 24 := by omega
    rcases this with ho | ho | ho | ho | ho | ho | ho | ho | ho | ho | ho | ho | ho | ho | ho | ho | ho | ho | ho | ho | ho | ho | ho | ho | ho
    all_goals
      unfold exec
      rw [hx, ho]
      try first
        | rfl
        | (simp only [h1]; rfl)
        | (simp only [h2]; rfl)
        | (simp only [h3]; rfl)
        | (simp only [h4]; rfl)
  · obtain ⟨j, ho⟩ : ∃ j, X.op = j + 25 := ⟨X.op - 25, by omega⟩
    unfold exec
    rw [hx, ho]
    rfl

theorem doR_re (nf : Nat) (M : Mc) (X : Wk) (p t : Nat) (v : Option Nat) : doR nf M (X.re p t v) = ((doR nf M X).1, (doR nf M X).2.1.re p t v, (doR nf M X).2.2) := by
  have h1 : fX nf M (X.re p t v) = (fX nf M X).re p t v := rfl
  have h2 : ∀ Y : Wk, dX (Y.re p t v) = (dX Y).re p t v := fun _ => rfl
  have h3 : doM nf M (X.re p t v) = doM nf M X := rfl
  unfold doR
  rw [h1, h2, h3]
  show (if (rcF M nf X.vm X.sd X.fi X.se X.pc 4).k ≠ 0 then (doM nf M X, X.re p t v, (⟨1, 0, X.pc, rcF M nf X.vm X.sd X.fi X.se X.pc 4⟩ : Tr)) else if i_decOk ((fX nf M X).wd : Int) = false then (doM nf M X, (fX nf M X).re p t v, ⟨8, (fX nf M X).wd, X.pc, f0⟩) else if isG (dX (fX nf M X)).op = true ∧ M.V = none then (doM nf M X, (dX (fX nf M X)).re p t v, ⟨8, (fX nf M X).wd, X.pc, f0⟩) else exec nf (doM nf M X) ((dX (fX nf M X)).re p t v)) = _
  split
  · rfl
  · split
    · rfl
    · split
      · rfl
      · exact exec_re nf _ _ p t v

/-- The work as it begins, without its places. -/
def wkP (v : Bool) (c : Cp) (vm se ix : Int) : Wk := ⟨0, 0, none, vm, spA v c, spF v c, se, ix, c.pc, 0, 0, 0, 0, 0, 0, c.setP ((c.pc + 4) % 65536)⟩
def stepR (nf : Nat) (M : Mc) (c : Cp) (vm se ix : Int) : Mc × Cp × Tr :=
  if c.bad then (M, c, ⟨4, 0, c.pc, f0⟩) else ((doR nf M (wkP M.V.isSome c vm se ix)).1, stC c (doR nf M (wkP M.V.isSome c vm se ix)), (doR nf M (wkP M.V.isSome c vm se ix)).2.2)

theorem good_wipe' {M : Mc} {n : Nat} (h : M.few n) (X : Wk) : (fgM M X).few n := ⟨h.fo, h.mi, h.sum, good_wipe h.good _, uniq_wipe h.uniq _⟩
theorem few_V {M : Mc} {n : Nat} (h : M.few n) (V : Option Vg) : ({ M with V := V } : Mc).few n := ⟨h.fo, h.mi, h.sum, h.good, h.uniq⟩
theorem few_bs {M : Mc} {n : Nat} (h : M.few n) (bs : List UInt8) : ({ M with bs := bs } : Mc).few n := ⟨h.fo, h.mi, h.sum, h.good, h.uniq⟩
theorem few_st {M : Mc} {n : Nat} (h : M.few n) (nf : Nat) (X : Wk) (size : Int) : (stM M nf X size).few (n + 1) := by
  unfold stM
  split
  · exact few_d h nf X size 2
  · exact few_bs (few_d h nf X size 2) _
theorem few_wr {M : Mc} {n : Nat} (h : M.few n) (S : Vg) (X : Wk) : (wrM M S X).few n := by
  unfold wrM
  repeat' split
  · exact h
  · exact few_V h _
  · exact h

theorem few_exec {M : Mc} {n : Nat} (h : M.few n) (nf : Nat) (X : Wk) : (exec nf M X).1.few (n + 1) := by
  unfold exec
  split
  all_goals first
    | exact few_mono h (Nat.le_succ n)
    | exact few_d h nf X _ _
    | exact few_st h nf X _
    | exact few_mono (few_wr h _ X) (Nat.le_succ n)
    | exact few_mono (few_V h _) (Nat.le_succ n)
    | exact few_mono (good_wipe' h X) (Nat.le_succ n)

theorem few_do {M : Mc} {n : Nat} (h : M.few n) (nf : Nat) (X : Wk) : (doR nf M X).1.few (n + 2) := by
  have hm : (doM nf M X).few (n + 1) := few_reach h _ _ _ _ _ _ _ _
  unfold doR
  split
  · exact few_mono hm (by omega)
  · split
    · exact few_mono hm (by omega)
    · split
      · exact few_mono hm (by omega)
      · exact few_exec hm nf _

theorem few_step {M : Mc} {n : Nat} (h : M.few n) (nf : Nat) (c : Cp) (vm se ix : Int) : (stepR nf M c vm se ix).1.few (n + 2) := by
  unfold stepR
  split
  · exact few_mono h (by omega)
  · exact few_do h nf _

theorem IsV.same {w : World} {b : Option Bk} {V : Option Vg} (h : IsV w b V) : b.isSome = V.isSome := by
  cases b <;> cases V <;> first | rfl | exact h.elim

theorem step_any (w : World) (N : Nat) (B : Bm) (nf : Nat) (M : Mc) (c : Cp) (hok : c.Ok) (vm se ix : Int) (hO : Ops w N) (hM : IsMc w B nf M) {n : Nat} (hm : M.few n) (hn : n + 1 < 999990) (sep : ∀ k, (B.s k ∨ k = B.p) → k < N ∨ N + 30 ≤ k) :
    Calls Tryz.prog 37 #[.slice (some ⟨N + 29, 0, none⟩) 26 26, .agg #[.pointer (some ⟨B.p, 0, none⟩), .pointer (some ⟨B.bt, 0, none⟩), ptrV (B.v.map Bk.b)], .agg (cpA c), .int .i64 vm, .int .i64 se, .int .i64 ix] w fun e w' => e = .returned (.tuple #[.agg (cpA (stepR nf M c vm se ix).2.1), .agg (trL (stepR nf M c vm se ix).2.2)]) ∧ Fr B.s w w' ∧ IsMc w' B nf (stepR nf M c vm se ix).1 ∧ (stepR nf M c vm se ix).2.1.Ok := by
  by_cases hb : c.bad
  · have e : stepR nf M c vm se ix = (M, c, ⟨4, 0, c.pc, f0⟩) := if_pos hb
    rw [e]
    exact (step_bad w B.p B.bt _ c hb _ vm se ix).mono (fun e w' ⟨a, f⟩ => ⟨a, f.mono (fun _ _ h => h.elim), hM.keep0 f, hok⟩)
  · have e : stepR nf M c vm se ix = ((doR nf M (wkP M.V.isSome c vm se ix)).1, stC c (doR nf M (wkP M.V.isSome c vm se ix)), (doR nf M (wkP M.V.isSome c vm se ix)).2.2) := if_neg hb
    have h1 : wk1 B c vm se ix = (wkP M.V.isSome c vm se ix).re B.p B.bt (B.v.map Bk.b) := by rw [← hM.vg.same]; rfl
    have h2 := step_ok w N B nf M c hb hok vm se ix hO hM hm hn sep
    rw [h1, doR_re] at h2
    rw [e]
    exact h2

end Go.Proofs.YtgnoakidjnilpaaGreat

/- CpuStep3 -/
namespace Go.Proofs.YtgnoakidjnilpaaGreat
open Go.RowKit

theorem isMc_past {w w' : World} {B : Bm} {nf : Nat} {M : Mc} {g : Nat} (h : IsMc w B nf M) (f : Fr (at' g) w w') (hn : ∀ j, (B.s j ∨ j = B.p) → ¬ at' g j) : IsMc w' B nf M :=
  h.keep f (hn _ (Or.inr rfl)) (hn _ (Or.inl (Or.inl rfl))) (hn _ (Or.inl (Or.inr (Or.inl rfl)))) (fun k hk => hn k (Or.inl (Or.inr (Or.inr hk))))

set_option maxRecDepth 100000 in
set_option maxHeartbeats 4000000 in
theorem Step_any (w : World) (B : Bm) (nf : Nat) (M : Mc) (c : Cp) (hok : c.Ok) (vm se ix : Int) (hM : IsMc w B nf M) {n : Nat} (hm : M.few n) (hn : n + 1 < 999990) :
    Calls Tryz.prog 9 #[.agg #[.pointer (some ⟨B.p, 0, none⟩), .pointer (some ⟨B.bt, 0, none⟩), ptrV (B.v.map Bk.b)], .agg (cpA c), .int .i64 vm, .int .i64 se, .int .i64 ix] w fun e w' => e = .returned (.tuple #[.agg (cpA (stepR nf M c vm se ix).2.1), .agg (trL (stepR nf M c vm se ix).2.2)]) ∧ Fr B.s w w' ∧ IsMc w' B nf (stepR nf M c vm se ix).1 ∧ (stepR nf M c vm se ix).2.1.Ok := by
  obtain ⟨R, hR⟩ : ∃ R, stepR nf M c vm se ix = R := ⟨_, rfl⟩
  rw [hR]
  have HB : Hid (∀ k, (B.s k ∨ k = B.p) → k < w.heap.size) := hM.ltp
  have hz : ∀ w, Sem.run Tryz.prog (zeroValue 30) w = .ok (.agg (cpA zc)) w := zero_cpu
  obtain ⟨v0, hv0⟩ : ∃ v0, v0 = (((w.alloc (.cells #[.pointer (some ⟨B.p, 0, none⟩), .pointer (some ⟨B.bt, 0, none⟩), ptrV (B.v.map Bk.b)] 37)).alloc (.cells (cpA c) 30)).alloc (.cells (cpA zc) 30)).alloc (.cells #[.int .i64 0, .int .i64 0, .int .i64 0, .int .i64 0, .int .i64 0, .int .i64 0, .bool false, .int .i64 0] 52) := ⟨_, rfl⟩
  have f0 : Fr none' w v0 := by rw [hv0]; exact ((((Fr.refl none' w).alloc _).alloc _).alloc _).alloc _
  have rM : Row v0 w.heap.size #[.pointer (some ⟨B.p, 0, none⟩), .pointer (some ⟨B.bt, 0, none⟩), ptrV (B.v.map Bk.b)] 37 := by rw [hv0]; exact (((row_alloc _ _ _).alloc _).alloc _).alloc _
  have rA : Row v0 (w.heap.size + 1) (cpA c) 30 := by rw [hv0]; exact ((row_at (by simp)).alloc _).alloc _
  have rZ : Row v0 (w.heap.size + 1 + 1) (cpA zc) 30 := by rw [hv0]; exact (row_at (by simp)).alloc _
  have rT : Row v0 (w.heap.size + 1 + 1 + 1) #[.int .i64 0, .int .i64 0, .int .i64 0, .int .i64 0, .int .i64 0, .int .i64 0, .bool false, .int .i64 0] 52 := by rw [hv0]; exact row_at (by simp)
  have hsz : Hid (v0.heap.size = w.heap.size + 4) := by show _ = _; rw [hv0]; simp
  go_enter Tryz.func9, Tryz.ntmps9
  go_upto_region 1 with fail
  rw [← hv0]
  clear hv0 hz
  obtain ⟨gM, hgM⟩ : ∃ g, g = w.heap.size := ⟨_, rfl⟩
  obtain ⟨gA, hgA⟩ : ∃ g, g = w.heap.size + 1 := ⟨_, rfl⟩
  obtain ⟨gZ, hgZ⟩ : ∃ g, g = w.heap.size + 1 + 1 := ⟨_, rfl⟩
  obtain ⟨gT, hgT⟩ : ∃ g, g = w.heap.size + 1 + 1 + 1 := ⟨_, rfl⟩
  rw [← hgT] at rT ⊢
  rw [← hgZ] at rZ ⊢
  rw [← hgA] at rA ⊢
  rw [← hgM] at rM ⊢
  have HN : Hid (gM = w.heap.size ∧ gA = w.heap.size + 1 ∧ gZ = w.heap.size + 2 ∧ gT = w.heap.size + 3) := by show _ ∧ _; omega
  clear hgA hgZ hgT hgM
  refine wp_region_held (S := fun w' => Row w' gM #[.pointer (some ⟨B.p, 0, none⟩), .pointer (some ⟨B.bt, 0, none⟩), ptrV (B.v.map Bk.b)] 37 ∧ Row w' gA (cpA c) 30) (by kernel_rfl) ?_
  change wpAnyH _ _ _ _ _ _ _ _ (World.drew _)
  refine wpAnyH_take (i := 1) (v := .agg ([.pointer (some ⟨B.p, 0, none⟩), .pointer (some ⟨B.bt, 0, none⟩), ptrV (B.v.map Bk.b)]).toArray) rfl (by kernel_rfl) (by kernel_rfl) (by kernel_rfl) (fun _ _ _ h => h) (yieldsIf_load_mid (by kernel_rfl) 37 _ rfl gM 0 rfl ([.pointer (some ⟨B.p, 0, none⟩), .pointer (some ⟨B.bt, 0, none⟩), ptrV (B.v.map Bk.b)]) _ (fun _ h => range_row' h.1) Tryz.underlying37 rfl size_mach) ⟨rM.drew, rA.drew⟩ ?_
  show wpAnyH _ _ _ _ _ _ _ (Act.put _ (some 13) _) _
  simp only [Act.put, List.setIfInBounds_toArray, List.set_cons_succ, List.set_cons_zero]
  refine wpAnyH_take (i := 2) (v := .agg (cpL c).toArray) rfl (by kernel_rfl) (by kernel_rfl) (by kernel_rfl) (fun _ _ _ h => h) (yieldsIf_load_mid (by kernel_rfl) 30 _ rfl gA 0 rfl (cpL c) _ (fun _ h => range_row h.2) Tryz.underlying30 rfl (size_cpL c)) ⟨rM.drew, rA.drew⟩ ?_
  show wpAnyH _ _ _ _ _ _ _ (Act.put _ (some 14) _) _
  simp only [Act.put, List.setIfInBounds_toArray, List.set_cons_succ, List.set_cons_zero]
  refine wpAnyH_take (i := 3) (v := ?_) rfl (by kernel_rfl) (by kernel_rfl) (by kernel_rfl) (fun _ _ _ h => h) (Or.inl ⟨by kernel_rfl, fun w hS => ?_⟩) ⟨rM.drew, rA.drew⟩ ?_
  rotate_left
  · go_simp
    try with_reducible rfl
  show wpAnyH _ _ _ _ _ _ _ (Act.put _ (some 15) _) _
  simp only [Act.put, List.setIfInBounds_toArray, List.set_cons_succ, List.set_cons_zero]
  refine wpAnyH_take (i := 4) (v := ?_) rfl (by kernel_rfl) (by kernel_rfl) (by kernel_rfl) (fun _ _ _ h => h) (Or.inl ⟨by kernel_rfl, fun w hS => ?_⟩) ⟨rM.drew, rA.drew⟩ ?_
  rotate_left
  · go_simp
    try with_reducible rfl
  show wpAnyH _ _ _ _ _ _ _ (Act.put _ (some 16) _) _
  simp only [Act.put, List.setIfInBounds_toArray, List.set_cons_succ, List.set_cons_zero]
  refine wpAnyH_take (i := 5) (v := ?_) rfl (by kernel_rfl) (by kernel_rfl) (by kernel_rfl) (fun _ _ _ h => h) (Or.inl ⟨by kernel_rfl, fun w hS => ?_⟩) ⟨rM.drew, rA.drew⟩ ?_
  rotate_left
  · go_simp
    try with_reducible rfl
  show wpAnyH _ _ _ _ _ _ _ (Act.put _ (some 17) _) _
  simp only [Act.put, List.setIfInBounds_toArray, List.set_cons_succ, List.set_cons_zero]
  refine wpAnyH_all (rs := [0]) (by kernel_rfl) (by simp) ?_
  intro i hi
  obtain rfl : i = 0 := by simpa using hi
  clear hi
  refine wpOp_mk rfl (by kernel_rfl) ?_
  go_simp
  refine (ops_any v0.drew v0.heap.size rfl).mono ?_
  rintro e v1 ⟨rfl, g1, hO⟩
  replace g1 := rs_drew g1
  replace rM := rM.keep g1 (fun h => h)
  replace rA := rA.keep g1 (fun h => h)
  replace rZ := rZ.keep g1 (fun h => h)
  replace rT := rT.keep g1 (fun h => h)
  replace f0 := f0.trans g1
  clear g1
  refine ⟨⟨rM, rA⟩, ?_⟩
  refine wpAnyH_all (rs := [6]) (by kernel_rfl) (by simp) ?_
  intro i hi
  obtain rfl : i = 6 := by simpa using hi
  clear hi
  refine wpOp_mk rfl (by kernel_rfl) ?_
  go_simp
  refine (step_any v1 v0.heap.size B nf M c hok vm se ix hO (hM.keep0 f0) hm hn (fun k hk => Or.inl (by have := HB.out k hk; have := hsz.out; omega))).mono ?_
  rintro e v2 ⟨rfl, g2, hM2, hok2⟩
  have ns : ∀ k, (k = gM ∨ k = gA ∨ k = gZ ∨ k = gT) → ¬ B.s k := fun k hk e => by have := HB.out k (Or.inl e); have := HN.out; omega
  replace rM := rM.keep g2 (ns _ (Or.inl rfl))
  replace rA := rA.keep g2 (ns _ (Or.inr (Or.inl rfl)))
  replace rZ := rZ.keep g2 (ns _ (Or.inr (Or.inr (Or.inl rfl))))
  replace rT := rT.keep g2 (ns _ (Or.inr (Or.inr (Or.inr rfl))))
  have f1 : Fr B.s w v2 := (f0.mono (fun _ _ h => h.elim)).trans g2
  rw [hR] at hM2 hok2 ⊢
  clear g2 f0 hO hR
  obtain ⟨M', c', T⟩ := R
  replace hM2 : IsMc v2 B nf M' := hM2
  replace hok2 : c'.Ok := hok2
  refine ⟨⟨rM, rA⟩, ?_⟩
  show wpAnyH _ _ _ _ _ _ _ _ _
  refine wpAnyH_take (i := 7) (v := ?_) rfl (by kernel_rfl) (by kernel_rfl) (by kernel_rfl) (fun _ _ _ h => h) (Or.inl ⟨by kernel_rfl, fun w hS => ?_⟩) ⟨rM, rA⟩ ?_
  rotate_left
  · go_simp
    try with_reducible rfl
  show wpAnyH _ _ _ _ _ _ _ (Act.put _ (some 19) _) _
  simp only [Act.put, List.setIfInBounds_toArray, List.set_cons_succ, List.set_cons_zero]
  refine wpAnyH_take (i := 8) (v := ?_) rfl (by kernel_rfl) (by kernel_rfl) (by kernel_rfl) (fun _ _ _ h => h) (Or.inl ⟨by kernel_rfl, fun w hS => ?_⟩) ⟨rM, rA⟩ ?_
  rotate_left
  · go_simp
    try with_reducible rfl
  show wpAnyH _ _ _ _ _ _ _ (Act.put _ (some 20) _) _
  simp only [Act.put, List.setIfInBounds_toArray, List.set_cons_succ, List.set_cons_zero]
  have n1 : ¬ at' gZ gA := fun e => by have e' : gA = gZ := e; have := HN.out; omega
  have n1' : ¬ at' gZ gM := fun e => by have e' : gM = gZ := e; have := HN.out; omega
  have n2 : ¬ at' gT gA := fun e => by have e' : gA = gT := e; have := HN.out; omega
  have n2' : ¬ at' gT gM := fun e => by have e' : gM = gT := e; have := HN.out; omega
  have n3 : ¬ at' gZ gT := fun e => by have e' : gT = gZ := e; have := HN.out; omega
  have n4 : ¬ at' gT gZ := fun e => by have e' : gZ = gT := e; have := HN.out; omega
  have rA1 := rA.keep (fr_row v2 gZ (cpA c')) n1
  have rM1 := rM.keep (fr_row v2 gZ (cpA c')) n1'
  have rT1 := rT.keep (fr_row v2 gZ (cpA c')) n3
  have rZ1 : Row (v2.setRow gZ (cpA c')) gZ (cpA c') 30 := rZ.setRow
  have rA3 := rA1.keep (fr_row _ gT (trL T)) n2
  have rM3 := rM1.keep (fr_row _ gT (trL T)) n2'
  have rT3 : Row ((v2.setRow gZ (cpA c')).setRow gT (trL T)) gT (trL T) 52 := rT1.setRow
  have rZ3 := rZ1.keep (fr_row _ gT (trL T)) n4
  have lz : w.heap.size ≤ gZ ∧ w.heap.size ≤ gT := by have := HN.out; omega
  have f6 := fr_rowS (fr_rowS f1 (g := gZ) lz.1 (cpA c')) (g := gT) lz.2 (trL T)
  have nn : ∀ k, (k = gZ ∨ k = gT) → (∀ j, (B.s j ∨ j = B.p) → ¬ at' k j) := fun k hk j hj e => by have e' : j = k := e; have := HB.out j hj; have := HN.out; omega
  have M6 := isMc_past hM2 (fr_row v2 gZ (cpA c')) (nn gZ (Or.inl rfl))
  have M7 := isMc_past M6 (fr_row _ gT (trL T)) (nn gT (Or.inr rfl))
  refine wpAnyH_all (rs := [9]) (by kernel_rfl) (by simp) ?_
  intro i hi
  obtain rfl : i = 9 := by simpa using hi
  clear hi
  refine wpOp_mk rfl (by kernel_rfl) ?_
  refine wp_store_row 30 _ _ rfl gZ (cpA c') rfl rfl 30 (cpA zc) rZ (size_cpA c') rfl (cpA_one c') ?_
  refine ⟨⟨rM1, rA1⟩, ?_⟩
  show wpAnyH _ _ _ _ _ _ _ _ _
  refine wpAnyH_all (rs := [10]) (by kernel_rfl) (by simp) ?_
  intro i hi
  obtain rfl : i = 10 := by simpa using hi
  clear hi
  refine wpOp_mk rfl (by kernel_rfl) ?_
  refine wp_store_row 52 _ _ rfl gT (trL T) rfl rfl 52 #[.int .i64 0, .int .i64 0, .int .i64 0, .int .i64 0, .int .i64 0, .int .i64 0, .bool false, .int .i64 0] rT1 size_trap rfl (trL_one T) ?_
  refine ⟨⟨rM3, rA3⟩, ?_⟩
  show wpAnyH _ _ _ _ _ _ _ _ _
  refine wpAnyH_done (by kernel_rfl) ?_ _
  go_wp2_with fail
  refine bodyPost_ret (ret_ct rfl rfl rfl rZ3 (cpA_size _) rT3 rfl) rfl ?_
  first | exact ⟨rfl, f6, M7, hok2⟩ | exact ⟨rfl, f6, M7⟩

end Go.Proofs.YtgnoakidjnilpaaGreat

