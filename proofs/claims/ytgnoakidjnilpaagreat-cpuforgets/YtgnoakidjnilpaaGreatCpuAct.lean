/-
  The contracts of what package cpu's operations do with registers and Pc alone, and of the functions that make operations of acts. No statement is proved here.
-/
import Derived.Test.YtgnoakidjnilpaaGreatCpuSmall
import Derived.Shelf.Abstract
namespace Go.Proofs.YtgnoakidjnilpaaGreat
open Go.RowKit

/-- What may turn while an instruction is done. -/
def Bm.x (B : Bm) (bx : Nat) : Nat → Prop := fun k => B.s k ∨ k = bx

/-- All blocks of it. -/
def Bm.y (B : Bm) (bx : Nat) : Nat → Prop := fun k => B.x bx k ∨ k = B.p

structure Jb (w : World) (B : Bm) (nf bx : Nat) (M : Mc) (X : Wk) : Prop where
  m : IsMc w B nf M
  x : IsW w bx X
  p : X.p = B.p
  t : X.t = B.bt
  v : X.v = B.v.map Bk.b
  f1 : bx ≠ B.p
  f2 : bx ≠ B.bf
  f3 : bx ≠ B.bt
  f4 : ¬ B.g bx
  ok : X.z.Ok
  a : X.a < 16
  b : X.b < 16
  c : X.c < 16
  i : X.imm < 65536
  wd : X.wd < 4294967296
  pc : 0 ≤ X.pc ∧ X.pc ≤ 65535

section
variable {w w' : World} {B : Bm} {nf bx : Nat} {M : Mc} {X : Wk}
theorem Jb.keep0 (h : Jb w B nf bx M X) (f : Fr none' w w') : Jb w' B nf bx M X := { h with m := h.m.keep0 f, x := h.x.keep0 f }
theorem Jb.alloc (h : Jb w B nf bx M X) (o : Obj) : Jb (w.alloc o) B nf bx M X := h.keep0 ((Fr.refl none' w).alloc o)
theorem Jb.drew (h : Jb w B nf bx M X) : Jb w.drew B nf bx M X := h.keep0 (Fr.refl none' w).drew
theorem Jb.lt (h : Jb w B nf bx M X) (k : Nat) (hk : B.x bx k) : k < w.heap.size := by
  rcases hk with hk | rfl
  · exact h.m.lts k hk
  · exact h.x.lt
theorem Jb.lty (h : Jb w B nf bx M X) (k : Nat) (hk : B.y bx k) : k < w.heap.size := by
  rcases hk with hk | rfl
  · exact h.lt k hk
  · exact h.m.ram.head.lt
/-- The work alone has turned, in its state. -/
theorem Jb.turn (h : Jb w B nf bx M X) (f : Fr (at' bx) w w') {z : Cp} (hx : IsW w' bx { X with z := z }) (hz : z.Ok) : Jb w' B nf bx M { X with z := z } :=
  { m := h.m.keep f (fun e => h.f1 (Eq.symm e)) (fun e => h.f2 (Eq.symm e)) (fun e => h.f3 (Eq.symm e)) (fun k hk e => h.f4 (by have e' : k = bx := e; rw [← e']; exact hk)), x := hx, p := h.p, t := h.t, v := h.v, f1 := h.f1, f2 := h.f2, f3 := h.f3, f4 := h.f4, ok := hz, a := h.a, b := h.b, c := h.c, i := h.i, wd := h.wd, pc := h.pc }
theorem fr_x (f : Fr (at' bx) w w') : Fr (B.x bx) w w' := f.mono (fun _ _ h => Or.inr h)
theorem fr_0 (f : Fr none' w w') : Fr (B.x bx) w w' := f.mono (fun _ _ h => h.elim)
end

/-- What an act without a result leaves. -/
def Aft (w : World) (B : Bm) (nf bx : Nat) (M : Mc) (X : Wk) (e : Ending) (w' : World) : Prop := (∃ u, e = .returned u) ∧ Fr (B.x bx) w w' ∧ Jb w' B nf bx M X
/-- What an operation leaves. -/
def Don (w : World) (B : Bm) (nf bx : Nat) (M : Mc) (X : Wk) (t : Tr) (e : Ending) (w' : World) : Prop := e = .returned (.agg (trL t)) ∧ Fr (B.x bx) w w' ∧ Jb w' B nf bx M X

theorem Aft.pre {w w1 w' : World} {B : Bm} {nf bx : Nat} {M : Mc} {X : Wk} {e : Ending} (h : Aft w1 B nf bx M X e w') (f : Fr (B.x bx) w w1) : Aft w B nf bx M X e w' := ⟨h.1, f.trans h.2.1, h.2.2⟩

set_option maxHeartbeats 400000 in
theorem jump_any (w : World) (B : Bm) (nf bx : Nat) (M : Mc) (X : Wk) (h : Jb w B nf bx M X) : Calls Tryz.prog 90 #[.pointer (some ⟨bx, 0, none⟩)] w (Aft w B nf bx M { X with z := X.z.setP X.imm }) := by
  have c14 := h.x.k14
  obtain ⟨u, cp⟩ := h.x.some_cell (i := 31) (by omega)
  have z := h.x.frozen 31
  have H : Hid (Jb w B nf bx M X) := h
  clear h
  go_enter Tryz.func90, Tryz.ntmps90
  go_wp2_with fail
  refine post_void rfl rfl fun u => ?_
  have f := fr_set w bx 31 (.int .i64 (X.imm : Int)) (Fr.refl _ w)
  exact ⟨⟨u, rfl⟩, fr_x f, H.out.turn f (H.out.x.setP _) (H.out.ok.setP _)⟩

theorem conv32 (n : Nat) (h : n < 4294967296) : IntKind.u32.wrap (n : Int) = (n : Int) := by rw [IntKind.wrap_u32]; omega

set_option maxHeartbeats 400000 in
theorem take_any (w : World) (B : Bm) (nf bx : Nat) (M : Mc) (X : Wk) (h : Jb w B nf bx M X) : Calls Tryz.prog 77 #[.pointer (some ⟨bx, 0, none⟩)] w (Aft w B nf bx M { X with z := X.z.setR X.a X.imm }) := by
  have c14 := h.x.k14
  have hi := h.i
  have e1 := conv32 X.imm (by omega)
  go_enter Tryz.func77, Tryz.ntmps77
  go_wp2_with fail
  refine (setA_any _ _ _ _ h.x h.a).mono ?_
  rintro e v ⟨⟨u, rfl⟩, f, hx⟩
  go_wp2_with fail
  refine post_void rfl rfl fun u => ?_
  exact ⟨⟨u, rfl⟩, fr_x f, h.turn f hx (h.ok.setR _ (by omega))⟩

set_option maxHeartbeats 400000 in
theorem link_any (w : World) (B : Bm) (nf bx : Nat) (M : Mc) (X : Wk) (h : Jb w B nf bx M X) : Calls Tryz.prog 91 #[.pointer (some ⟨bx, 0, none⟩)] w (Aft w B nf bx M { X with z := (X.z.setR X.a ((X.pc + 4) % 65536).toNat).setP X.imm }) := by
  have hp := h.pc
  obtain ⟨n, hn⟩ : ∃ n : Nat, (X.pc + 4) % 65536 = n := ⟨((X.pc + 4) % 65536).toNat, by omega⟩
  have hn2 : n < 65536 := by omega
  have hb := behind_any w bx X h.x hp
  rw [hn] at hb ⊢
  rw [Int.toNat_natCast]
  have e1 := conv32 n (by omega)
  clear hn hp
  go_enter Tryz.func91, Tryz.ntmps91
  go_wp2_with fail
  refine hb.mono ?_
  rintro e v ⟨rfl, rfl⟩
  go_wp2_with fail
  refine (setA_any _ _ _ _ h.x h.a).mono ?_
  rintro e v1 ⟨⟨u, rfl⟩, f, hx⟩
  have h1 := h.turn f hx (h.ok.setR _ (by omega))
  go_wp2_with fail
  refine (jump_any _ B nf bx M _ h1).mono ?_
  rintro e v2 ⟨⟨u, rfl⟩, f2, h2⟩
  go_wp2_with fail
  refine post_void rfl rfl fun u => ?_
  exact ⟨⟨u, rfl⟩, (fr_x f).trans f2, h2⟩

set_option maxHeartbeats 400000 in
theorem turn_any (w : World) (B : Bm) (nf bx : Nat) (M : Mc) (X : Wk) (h : Jb w B nf bx M X) : Calls Tryz.prog 92 #[.pointer (some ⟨bx, 0, none⟩)] w (Aft w B nf bx M { X with z := X.z.setP ((X.z.r X.b % 65536 : Nat) : Int) }) := by
  have hr := h.ok.r X.b
  have e1 := and16 (X.z.r X.b : Int)
  have e2 : IntKind.i64.wrap (X.z.r X.b : Int) = (X.z.r X.b : Int) := by rw [IntKind.wrap_i64]; omega
  rw [show (X.z.r X.b : Int) % 65536 = ((X.z.r X.b % 65536 : Nat) : Int) by omega] at e1
  obtain ⟨y, hy⟩ : ∃ y : Nat, X.z.r X.b % 65536 = y := ⟨_, rfl⟩
  rw [hy] at e1 ⊢
  clear hy
  go_enter Tryz.func92, Tryz.ntmps92
  go_wp2_with fail
  refine (b_any _ _ _ h.x h.b).mono ?_
  rintro e v ⟨rfl, m, rfl⟩
  have h1 := h.keep0 (fr_drewN w m)
  obtain ⟨v, hv⟩ : ∃ v, v = w.drewN m := ⟨_, rfl⟩
  have f0 := fr_drewN w m
  rw [← hv] at h1 f0 ⊢
  clear hv
  obtain ⟨u, cp⟩ := h1.x.some_cell (i := 31) (by omega)
  have z := h1.x.frozen 31
  have H : Hid (Jb v B nf bx M X) := h1
  clear h1 h
  go_wp2_with fail
  refine post_void rfl rfl fun u => ?_
  have f := fr_set v bx 31 (.int .i64 (y : Int)) (Fr.refl _ v)
  exact ⟨⟨u, rfl⟩, (fr_0 f0).trans (fr_x f), H.out.turn f (H.out.x.setP _) (H.out.ok.setP _)⟩

theorem nothing_any (w : World) (B : Bm) (nf bx : Nat) (M : Mc) (X : Wk) (h : Jb w B nf bx M X) : Calls Tryz.prog 100 #[.pointer (some ⟨bx, 0, none⟩)] w (Aft w B nf bx M X) := by
  go_enter Tryz.func100, Tryz.ntmps100
  go_wp2_with fail
  refine post_void rfl rfl fun u => ?_
  exact ⟨⟨u, rfl⟩, Fr.refl _ _, h⟩

theorem don_end {w w1 : World} {B : Bm} {nf bx : Nat} {M : Mc} {X : Wk} {g : Nat} (f : Fr (B.x bx) w w1) (h : Jb w1 B nf bx M X) (hg : w.heap.size ≤ g) (hB : ∀ k, B.y bx k → k < w.heap.size) (t : Tr) (v0 v1 v2 v3 v4 v5 v6 v7 : Value) (ht : #[v0, v1, v2, v3, v4, v5, v6, v7] = trL t) : Don w B nf bx M X t (.returned (.agg #[v0, v1, v2, v3, v4, v5, v6, v7])) ((((((((w1.setCell ⟨g, 0, none⟩ v0).setCell ⟨g, 1, none⟩ v1).setCell ⟨g, 2, none⟩ v2).setCell ⟨g, 3, none⟩ v3).setCell ⟨g, 4, none⟩ v4).setCell ⟨g, 5, none⟩ v5).setCell ⟨g, 6, none⟩ v6).setCell ⟨g, 7, none⟩ v7) := by
  have q : Fr (at' g) w1 ((((((((w1.setCell ⟨g, 0, none⟩ v0).setCell ⟨g, 1, none⟩ v1).setCell ⟨g, 2, none⟩ v2).setCell ⟨g, 3, none⟩ v3).setCell ⟨g, 4, none⟩ v4).setCell ⟨g, 5, none⟩ v5).setCell ⟨g, 6, none⟩ v6).setCell ⟨g, 7, none⟩ v7) := fr_set8 (S := at' g) (Fr.refl _ w1) (Or.inr (show g = g from rfl)) _ _ _ _ _ _ _ _
  have n1 : ∀ k, B.y bx k → ¬ at' g k := fun k hk e => by have := hB k hk; have e' : k = g := e; omega
  exact ⟨by rw [ht], f.newerS q hg, { h with m := h.m.keep q (n1 _ (Or.inr rfl)) (n1 _ (Or.inl (Or.inl (Or.inl rfl)))) (n1 _ (Or.inl (Or.inl (Or.inr (Or.inl rfl))))) (fun k hk => n1 k (Or.inl (Or.inl (Or.inr (Or.inr hk))))), x := h.x.keep q (n1 _ (Or.inl (Or.inr rfl))) }⟩

set_option maxHeartbeats 400000 in
/-- An operation that is made of an act. -/
theorem smooth1_any (w : World) (B : Bm) (nf bx : Nat) (M M' : Mc) (X X' : Wk) (bc fn : Nat) (caps : Array Value) (hc : w.cell? ⟨bc, 0, none⟩ = some (.func (.func fn) #[] caps))
    (hen : ∀ (args : Array Value) (w1 : World), (callFunc fn args).run Tryz.prog w1 = .ok (.enter fn args) w1)
    (h : Jb w B nf bx M X) (H : ∀ w1, Fr none' w w1 → Jb w1 B nf bx M X → Calls Tryz.prog fn (#[.pointer (some ⟨bx, 0, none⟩)] ++ caps) w1 (Aft w1 B nf bx M' X')) :
    Calls Tryz.prog 130 #[.pointer (some ⟨bx, 0, none⟩), .pointer (some ⟨bc, 0, none⟩)] w (Don w B nf bx M' X' t0) := by
  have f1 := (Fr.refl none' w).alloc (.cells (trL t0) 52)
  have h1 := h.alloc (.cells (trL t0) 52)
  have r1 := row_alloc w (trL t0) 52
  have c1 := cell_keep f1 hc (fun h => h)
  have H1 := H _ f1 h1
  have L : Hid (∀ k, B.y bx k → k < w.heap.size) := h.lty
  clear hc h H
  unfold trL t0 f0 at c1 f1 h1 r1 H1
  go_enter Tryz.func130, Tryz.ntmps130
  go_wp2_with fail
  refine H1.mono ?_
  rintro e v ⟨⟨u, rfl⟩, f2, h2⟩
  replace r1 := r1.keep f2 (fun hk => absurd (L.out _ (Or.inl hk)) (by omega))
  have f3 := (fr_0 (B := B) (bx := bx) f1).trans f2
  clear H1 f2 h1 c1
  have HJ : Hid (Jb v B nf bx M' X') := h2
  clear h2
  obtain ⟨d0, d1, d2, d3, d4, d5, d6, d7⟩ := cells8 r1
  obtain ⟨z0, z1, z2, z3, z4, z5, z6, z7⟩ := frozen8 r1
  go_wp2_with fail
  refine bodyPost_ret (ret_trap rfl rfl (row_set8 r1 _ _ _ _ _ _ _ _) rfl) rfl ?_
  exact don_end f3 HJ.out (Nat.le_refl _) L.out t0 _ _ _ _ _ _ _ _ rfl

end Go.Proofs.YtgnoakidjnilpaaGreat
