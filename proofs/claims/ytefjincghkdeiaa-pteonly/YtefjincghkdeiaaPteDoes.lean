/-
  The contract of 'does' (an act by both) over the translation, act by act and whole: both answer the same, and both memories hold the same bytes afterwards. No statement is proved here.
-/
import Derived.Test.YtefjincghkdeiaaRefTab
namespace Go.Proofs.Ytefjincghkdeiaa
open Go.RowKit

/-- An act's own box. -/
def abox (dO t i : Int) (v l : Bool) (r f : Int) (x : Nat) : Array Value := #[.int .i64 dO, .int .i64 t, .int .i64 i, .bool v, .bool l, .int .i64 r, .int .i64 f, .int .u16 (x : Int)]

theorem abox_cells {w : World} {b : Nat} {dO t i : Int} {v l : Bool} {r f : Int} {x : Nat} {ty : TypeId} (h : Row w b (abox dO t i v l r f x) ty) :
    w.cell? ⟨b, 0, none⟩ = some (.int .i64 dO) ∧ w.cell? ⟨b, 1, none⟩ = some (.int .i64 t) ∧ w.cell? ⟨b, 2, none⟩ = some (.int .i64 i) ∧ w.cell? ⟨b, 3, none⟩ = some (.bool v) ∧ w.cell? ⟨b, 4, none⟩ = some (.bool l) ∧
      w.cell? ⟨b, 5, none⟩ = some (.int .i64 r) ∧ w.cell? ⟨b, 6, none⟩ = some (.int .i64 f) ∧ w.cell? ⟨b, 7, none⟩ = some (.int .u16 (x : Int)) :=
  ⟨h.cell 0, h.cell 1, h.cell 2, h.cell 3, h.cell 4, h.cell 5, h.cell 6, h.cell 7⟩

/-- What 'does' comes to: true; both memories hold the bytes bs'. -/
def DoneB (w : World) (B pm bm pr br nf : Nat) (bs' : List UInt8) (e : Ending) (w' : World) : Prop :=
  e = .returned (.bool true) ∧ Fr (two bm br) w w' ∧ Twin w' B pm bm pr br nf bs'

set_option maxRecDepth 100000 in
set_option maxHeartbeats 1000000 in
theorem does_put (w : World) (B pm bm pr br nf : Nat) (bs : List UInt8) (h : Twin w B pm bm pr br nf bs) (t i : Int) (v l : Bool) (r f : Int) (x : Nat) :
    Calls Try.prog 20 #[.pointer (some ⟨pm, 0, none⟩), .pointer (some ⟨pr, 0, none⟩), .agg #[.int .i64 1, .int .i64 t, .int .i64 i, .bool v, .bool l, .int .i64 r, .int .i64 f, .int .u16 (x : Int)]] w (DoneB w B pm bm pr br nf (putB bs t i nf v l r f)) := by
  have h' := h.keep0 ((Fr.refl none' w).alloc (.cells (abox 1 t i v l r f x) 45))
  have f' := (Fr.refl (two bm br) w).alloc (.cells (abox 1 t i v l r f x) 45)
  have r0 := row_alloc w (abox 1 t i v l r f x) 45
  have hlt := h.lt
  unfold abox at h' f'
  have e0 : (putE t i nf v l r f == putE t i nf v l r f) = true := by simp
  go_enter Try.func20, Try.ntmps20
  go_wp2_with fail
  refine (put_any _ _ _ _ _ _ _ _ _ _ _ h'.ram).mono ?_
  rintro e w1 ⟨rfl, f1, r1⟩
  have rb := r0.keep f1 (show ¬ at' bm w.heap.size by unfold at'; omega)
  obtain ⟨_, k1, k2, k3, k4, k5, k6, _⟩ := abox_cells rb
  have q1 := h'.refAfter f1
  go_wp2_with fail
  refine (rput_any _ _ _ _ _ _ _ _ _ _ _ q1).mono ?_
  rintro e w2 ⟨rfl, f2, r2⟩
  obtain ⟨t2, g2⟩ := h'.step f1 r1 f2 r2
  clear f1 r1 f2 r2 q1 h' rb r0 k1 k2 k3 k4 k5 k6
  go_wp2_with fail
  go_ret
  exact ⟨rfl, f'.trans g2, t2⟩

set_option maxRecDepth 100000 in
set_option maxHeartbeats 1000000 in
theorem does_get_in (w : World) (B pm bm pr br nf : Nat) (bs : List UInt8) (h : Twin w B pm bm pr br nf bs) (t i : Nat) (v l : Bool) (r f : Int) (x : Nat) (ht : t < nf) (hi : i < 32) :
    Calls Try.prog 20 #[.pointer (some ⟨pm, 0, none⟩), .pointer (some ⟨pr, 0, none⟩), .agg #[.int .i64 2, .int .i64 (t : Int), .int .i64 (i : Int), .bool v, .bool l, .int .i64 r, .int .i64 f, .int .u16 (x : Int)]] w (DoneB w B pm bm pr br nf bs) := by
  have h' := h.keep0 ((Fr.refl none' w).alloc (.cells (abox 2 t i v l r f x) 45))
  have f' := (Fr.refl (two bm br) w).alloc (.cells (abox 2 t i v l r f x) 45)
  have r0 := row_alloc w (abox 2 t i v l r f x) 45
  have hlt := h.lt
  unfold abox at h' f'
  have t1 : (dv (half bs t i) == dv (half bs t i)) = true := by simp
  have t2 : (dl (half bs t i) == dl (half bs t i)) = true := by simp
  have t3 : (dr (half bs t i) == dr (half bs t i)) = true := by simp
  have t4 : (df (half bs t i) == df (half bs t i)) = true := by simp
  have t5 : (de (half bs t i) == de (half bs t i)) = true := by simp
  go_enter Try.func20, Try.ntmps20
  go_wp2_with fail
  refine (get_ok _ _ _ _ _ _ _ h'.ram ht hi).mono ?_
  rintro e w1 ⟨rfl, f1⟩
  have rb := (r0.keep f1 (fun h => h)).alloc (.cells (ebox (dv (half bs t i)) (dl (half bs t i)) (dr (half bs t i)) (df (half bs t i))) 23)
  have q0 := row_alloc w1 (ebox (dv (half bs t i)) (dl (half bs t i)) (dr (half bs t i)) (df (half bs t i))) 23
  have u1 := (h'.keep0 f1).keep0 ((Fr.refl none' w1).alloc (.cells (ebox (dv (half bs t i)) (dl (half bs t i)) (dr (half bs t i)) (df (half bs t i))) 23))
  replace f1 := (f'.trans (f1.mono fun _ _ e => e.elim)).alloc (.cells (ebox (dv (half bs t i)) (dl (half bs t i)) (dr (half bs t i)) (df (half bs t i))) 23)
  obtain ⟨_, k1, k2, _, _, _, _, _⟩ := abox_cells rb
  unfold ebox at u1 f1 k1 k2
  clear h' f' r0
  go_wp2_with fail
  refine (rget_ok _ _ _ _ _ _ _ u1.ref ht hi).mono ?_
  rintro e w2 ⟨rfl, f2⟩
  have q1 := (q0.keep f2 (fun h => h)).alloc (.cells (ebox (dv (half bs t i)) (dl (half bs t i)) (dr (half bs t i)) (df (half bs t i))) 23)
  have u2 := (u1.keep0 f2).keep0 ((Fr.refl none' w2).alloc (.cells (ebox (dv (half bs t i)) (dl (half bs t i)) (dr (half bs t i)) (df (half bs t i))) 23))
  replace f2 := (f1.trans (f2.mono fun _ _ e => e.elim)).alloc (.cells (ebox (dv (half bs t i)) (dl (half bs t i)) (dr (half bs t i)) (df (half bs t i))) 23)
  obtain ⟨c0, c1, c2, c3⟩ := ebox_cells q1
  unfold ebox at u2 f2 c0 c1 c2 c3
  clear u1 f1 q0 rb k1 k2
  go_wp2_with fail
  go_ret
  exact ⟨rfl, f2, u2⟩

set_option maxRecDepth 100000 in
set_option maxHeartbeats 1000000 in
theorem does_get_out (w : World) (B pm bm pr br nf : Nat) (bs : List UInt8) (h : Twin w B pm bm pr br nf bs) (t i : Int) (v l : Bool) (r f : Int) (x : Nat) (he : placeE t i nf ≠ 0) :
    Calls Try.prog 20 #[.pointer (some ⟨pm, 0, none⟩), .pointer (some ⟨pr, 0, none⟩), .agg #[.int .i64 2, .int .i64 t, .int .i64 i, .bool v, .bool l, .int .i64 r, .int .i64 f, .int .u16 (x : Int)]] w (DoneB w B pm bm pr br nf bs) := by
  have h' := h.keep0 ((Fr.refl none' w).alloc (.cells (abox 2 t i v l r f x) 45))
  have f' := (Fr.refl (two bm br) w).alloc (.cells (abox 2 t i v l r f x) 45)
  have r0 := row_alloc w (abox 2 t i v l r f x) 45
  have hlt := h.lt
  unfold abox at h' f'
  have HE : Hid (placeE t i nf ≠ 0) := he
  clear he
  have t5 : (placeE t i nf == placeE t i nf) = true := by simp
  go_enter Try.func20, Try.ntmps20
  go_wp2_with fail
  refine (get_bad _ _ _ _ _ _ _ h'.ram HE).mono ?_
  rintro e w1 ⟨rfl, f1⟩
  have rb := (r0.keep f1 (fun h => h)).alloc (.cells (ebox false false 0 0) 23)
  have q0 := row_alloc w1 (ebox false false 0 0) 23
  have u1 := (h'.keep0 f1).keep0 ((Fr.refl none' w1).alloc (.cells (ebox false false 0 0) 23))
  replace f1 := (f'.trans (f1.mono fun _ _ e => e.elim)).alloc (.cells (ebox false false 0 0) 23)
  obtain ⟨_, k1, k2, _, _, _, _, _⟩ := abox_cells rb
  unfold ebox at u1 f1 k1 k2
  clear h' f' r0
  go_wp2_with fail
  refine (rget_bad _ _ _ _ _ _ _ u1.ref HE).mono ?_
  rintro e w2 ⟨rfl, f2⟩
  have q1 := (q0.keep f2 (fun h => h)).alloc (.cells (ebox false false 0 0) 23)
  have u2 := (u1.keep0 f2).keep0 ((Fr.refl none' w2).alloc (.cells (ebox false false 0 0) 23))
  replace f2 := (f1.trans (f2.mono fun _ _ e => e.elim)).alloc (.cells (ebox false false 0 0) 23)
  obtain ⟨c0, c1, c2, c3⟩ := ebox_cells q1
  unfold ebox at u2 f2 c0 c1 c2 c3
  clear u1 f1 q0 rb k1 k2
  go_wp2_with fail
  go_ret
  exact ⟨rfl, f2, u2⟩

set_option maxRecDepth 100000 in
set_option maxHeartbeats 1000000 in
theorem does_raw1 (w : World) (B pm bm pr br nf : Nat) (bs : List UInt8) (h : Twin w B pm bm pr br nf bs) (t i : Int) (v l : Bool) (r f : Int) (x : Nat) (ht : t < 0) :
    Calls Try.prog 20 #[.pointer (some ⟨pm, 0, none⟩), .pointer (some ⟨pr, 0, none⟩), .agg #[.int .i64 4, .int .i64 t, .int .i64 i, .bool v, .bool l, .int .i64 r, .int .i64 f, .int .u16 (x : Int)]] w (DoneB w B pm bm pr br nf bs) := by
  have h' := h.keep0 ((Fr.refl none' w).alloc (.cells (abox 4 t i v l r f x) 45))
  have f' := (Fr.refl (two bm br) w).alloc (.cells (abox 4 t i v l r f x) 45)
  have r0 := row_alloc w (abox 4 t i v l r f x) 45
  have hlt := h.lt
  unfold abox at h' f'
  have t1 : decide (t < 0) = true := by simpa using ht
  clear r0 hlt
  go_enter Try.func20, Try.ntmps20
  go_wp2_with fail
  go_ret
  exact ⟨rfl, f', h'⟩

set_option maxRecDepth 100000 in
set_option maxHeartbeats 1000000 in
theorem does_raw2 (w : World) (B pm bm pr br nf : Nat) (bs : List UInt8) (h : Twin w B pm bm pr br nf bs) (t i : Int) (v l : Bool) (r f : Int) (x : Nat) (ht : 1023 < t) :
    Calls Try.prog 20 #[.pointer (some ⟨pm, 0, none⟩), .pointer (some ⟨pr, 0, none⟩), .agg #[.int .i64 4, .int .i64 t, .int .i64 i, .bool v, .bool l, .int .i64 r, .int .i64 f, .int .u16 (x : Int)]] w (DoneB w B pm bm pr br nf bs) := by
  have h' := h.keep0 ((Fr.refl none' w).alloc (.cells (abox 4 t i v l r f x) 45))
  have f' := (Fr.refl (two bm br) w).alloc (.cells (abox 4 t i v l r f x) 45)
  have r0 := row_alloc w (abox 4 t i v l r f x) 45
  have hlt := h.lt
  unfold abox at h' f'
  have t1 : decide (t < 0) = false := by simp; omega
  have t2 : decide (1023 < t) = true := by simpa using ht
  clear r0 hlt
  go_enter Try.func20, Try.ntmps20
  go_wp2_with fail
  go_ret
  exact ⟨rfl, f', h'⟩

set_option maxRecDepth 100000 in
set_option maxHeartbeats 1000000 in
theorem does_raw3 (w : World) (B pm bm pr br nf : Nat) (bs : List UInt8) (h : Twin w B pm bm pr br nf bs) (t i : Int) (v l : Bool) (r f : Int) (x : Nat) (h0 : 0 ≤ t) (h1 : t ≤ 1023) (hi : i < 0) :
    Calls Try.prog 20 #[.pointer (some ⟨pm, 0, none⟩), .pointer (some ⟨pr, 0, none⟩), .agg #[.int .i64 4, .int .i64 t, .int .i64 i, .bool v, .bool l, .int .i64 r, .int .i64 f, .int .u16 (x : Int)]] w (DoneB w B pm bm pr br nf bs) := by
  have h' := h.keep0 ((Fr.refl none' w).alloc (.cells (abox 4 t i v l r f x) 45))
  have f' := (Fr.refl (two bm br) w).alloc (.cells (abox 4 t i v l r f x) 45)
  have r0 := row_alloc w (abox 4 t i v l r f x) 45
  have hlt := h.lt
  unfold abox at h' f'
  have t1 : decide (t < 0) = false := by simp; omega
  have t2 : decide (1023 < t) = false := by simp; omega
  have t3 : decide (i < 0) = true := by simpa using hi
  clear r0 hlt
  go_enter Try.func20, Try.ntmps20
  go_wp2_with fail
  go_ret
  exact ⟨rfl, f', h'⟩

set_option maxRecDepth 100000 in
set_option maxHeartbeats 1000000 in
theorem does_raw4 (w : World) (B pm bm pr br nf : Nat) (bs : List UInt8) (h : Twin w B pm bm pr br nf bs) (t i : Int) (v l : Bool) (r f : Int) (x : Nat) (h0 : 0 ≤ t) (h1 : t ≤ 1023) (hi : 31 < i) :
    Calls Try.prog 20 #[.pointer (some ⟨pm, 0, none⟩), .pointer (some ⟨pr, 0, none⟩), .agg #[.int .i64 4, .int .i64 t, .int .i64 i, .bool v, .bool l, .int .i64 r, .int .i64 f, .int .u16 (x : Int)]] w (DoneB w B pm bm pr br nf bs) := by
  have h' := h.keep0 ((Fr.refl none' w).alloc (.cells (abox 4 t i v l r f x) 45))
  have f' := (Fr.refl (two bm br) w).alloc (.cells (abox 4 t i v l r f x) 45)
  have r0 := row_alloc w (abox 4 t i v l r f x) 45
  have hlt := h.lt
  unfold abox at h' f'
  have t1 : decide (t < 0) = false := by simp; omega
  have t2 : decide (1023 < t) = false := by simp; omega
  have t3 : decide (i < 0) = false := by simp; omega
  have t4 : decide (31 < i) = true := by simpa using hi
  clear r0 hlt
  go_enter Try.func20, Try.ntmps20
  go_wp2_with fail
  go_ret
  exact ⟨rfl, f', h'⟩

set_option maxRecDepth 100000 in
set_option maxHeartbeats 1000000 in
theorem does_raw5 (w : World) (B pm bm pr br nf : Nat) (bs : List UInt8) (h : Twin w B pm bm pr br nf bs) (t i : Int) (v l : Bool) (r f : Int) (x : Nat) (h0 : 0 ≤ t) (h1 : t ≤ 1023) (h2 : 0 ≤ i) (h3 : i ≤ 31) (hx : x < 65536) :
    Calls Try.prog 20 #[.pointer (some ⟨pm, 0, none⟩), .pointer (some ⟨pr, 0, none⟩), .agg #[.int .i64 4, .int .i64 t, .int .i64 i, .bool v, .bool l, .int .i64 r, .int .i64 f, .int .u16 (x : Int)]] w (DoneB w B pm bm pr br nf (storeB bs (64 * t + 2 * i) 2 nf x)) := by
  have h' := h.keep0 ((Fr.refl none' w).alloc (.cells (abox 4 t i v l r f x) 45))
  have f' := (Fr.refl (two bm br) w).alloc (.cells (abox 4 t i v l r f x) 45)
  have r0 := row_alloc w (abox 4 t i v l r f x) 45
  have hlt := h.lt
  unfold abox at h' f'
  have t1 : decide (t < 0) = false := by simp; omega
  have t2 : decide (1023 < t) = false := by simp; omega
  have t3 : decide (i < 0) = false := by simp; omega
  have t4 : decide (31 < i) = false := by simp; omega
  have e0 : (errOf (64 * t + 2 * i) 2 nf == errOf (64 * t + 2 * i) 2 nf) = true := by simp
  go_enter Try.func20, Try.ntmps20
  go_wp2_with fail
  refine (store_any _ _ _ _ _ _ _ x h'.ram (by omega) (by omega)).mono ?_
  rintro e w1 ⟨rfl, f1, r1⟩
  have rb := r0.keep f1 (show ¬ at' bm w.heap.size by unfold at'; omega)
  obtain ⟨_, k1, k2, _, _, _, _, k7⟩ := abox_cells rb
  have q1 := h'.refAfter f1
  go_wp2_with fail
  refine (rstore_any _ _ _ _ _ _ _ x q1 (by omega)).mono ?_
  rintro e w2 ⟨rfl, f2, r2⟩
  obtain ⟨t2, g2⟩ := h'.step f1 r1 f2 r2
  clear f1 r1 f2 r2 q1 h' rb r0 k1 k2 k7
  go_wp2_with fail
  go_ret
  exact ⟨rfl, f'.trans g2, t2⟩

set_option maxRecDepth 100000 in
set_option maxHeartbeats 1000000 in
theorem does_tab_out (w : World) (B pm bm pr br nf : Nat) (bs : List UInt8) (h : Twin w B pm bm pr br nf bs) (dO t i : Int) (v l : Bool) (r f : Int) (x : Nat) (n1 : (dO == 1) = false) (n2 : (dO == 2) = false) (n4 : (dO == 4) = false) (ht : t < 0 ∨ (nf : Int) ≤ t) :
    Calls Try.prog 20 #[.pointer (some ⟨pm, 0, none⟩), .pointer (some ⟨pr, 0, none⟩), .agg #[.int .i64 dO, .int .i64 t, .int .i64 i, .bool v, .bool l, .int .i64 r, .int .i64 f, .int .u16 (x : Int)]] w (DoneB w B pm bm pr br nf bs) := by
  have h' := h.keep0 ((Fr.refl none' w).alloc (.cells (abox dO t i v l r f x) 45))
  have f' := (Fr.refl (two bm br) w).alloc (.cells (abox dO t i v l r f x) 45)
  have r0 := row_alloc w (abox dO t i v l r f x) 45
  have hlt := h.lt
  unfold abox at h' f'
  have HT : Hid (t < 0 ∨ (nf : Int) ≤ t) := ht
  clear ht
  go_enter Try.func20, Try.ntmps20
  go_wp2_with fail
  refine (tab_out _ _ _ _ _ _ h'.ram HT).mono ?_
  rintro e w1 ⟨rfl, f1⟩
  have rb := r0.keep f1 (fun h => h)
  obtain ⟨_, k1, _, _, _, _, _, _⟩ := abox_cells rb
  have u1 := h'.keep0 f1
  replace f1 := f'.trans (f1.mono fun _ _ e => e.elim)
  clear h' f' r0
  go_wp2_with fail
  refine (rtab_out _ _ _ _ _ _ u1.ref HT).mono ?_
  rintro e w2 ⟨rfl, f2⟩
  have u2 := u1.keep0 f2
  replace f2 := f1.trans (f2.mono fun _ _ e => e.elim)
  clear u1 f1 rb k1
  go_wp2_with fail
  refine wp_loop_rounds 1 ?_
  rw [rounds_succ]; go_wp2_with fail
  go_ret
  exact ⟨rfl, f2, u2⟩

set_option maxRecDepth 100000 in
set_option maxHeartbeats 1600000 in
theorem does_tab_in (w : World) (B pm bm pr br nf : Nat) (bs : List UInt8) (h : Twin w B pm bm pr br nf bs) (dO i : Int) (t : Nat) (v l : Bool) (r f : Int) (x : Nat) (n1 : (dO == 1) = false) (n2 : (dO == 2) = false) (n4 : (dO == 4) = false) (ht : t < nf) :
    Calls Try.prog 20 #[.pointer (some ⟨pm, 0, none⟩), .pointer (some ⟨pr, 0, none⟩), .agg #[.int .i64 dO, .int .i64 (t : Int), .int .i64 i, .bool v, .bool l, .int .i64 r, .int .i64 f, .int .u16 (x : Int)]] w (DoneB w B pm bm pr br nf bs) := by
  have h' := h.keep0 ((Fr.refl none' w).alloc (.cells (abox dO t i v l r f x) 45))
  have f' := (Fr.refl (two bm br) w).alloc (.cells (abox dO t i v l r f x) 45)
  have r0 := row_alloc w (abox dO t i v l r f x) 45
  have hlt := h.lt
  unfold abox at h' f'
  go_enter Try.func20, Try.ntmps20
  go_wp2_with fail
  refine (tab_in _ _ _ _ _ _ h'.ram ht).mono ?_
  rintro e w1 ⟨f1, ⟨HG, g, cap, rfl, hg, eg⟩ | ⟨HG, rfl⟩⟩
  · have rb := r0.keep f1 (fun h => h)
    obtain ⟨_, k1, _, _, _, _, _, _⟩ := abox_cells rb
    have u1 := h'.keep0 f1
    replace f1 := f'.trans (f1.mono fun _ _ e => e.elim)
    clear h' f' r0
    replace HG : Hid (∀ k, k < 32 → decOk (half bs t k) = true) := HG
    go_wp2_with fail
    refine (rtab_in _ _ _ _ _ _ u1.ref ht).mono ?_
    rintro e w2 ⟨f2, ⟨_, g', cap', rfl, hg', eg'⟩ | ⟨⟨k, hk, hb⟩, _⟩⟩
    · have u2 := u1.keep0 f2
      replace eg := eg.keep f2 (fun h => h)
      replace f2 := f1.trans (f2.mono fun _ _ e => e.elim)
      clear u1 f1 rb k1
      go_wp2_with fail
      go_loopw [19] (fun i wr => ∃ k : Nat, k ≤ 32 ∧ i = .int .i64 k ∧ ∃ m, wr = w2.drewN m) (fun i _ => 32 - (intOf i).toNat)
      case atStart => exact ⟨0, by omega, rfl, 0, rfl⟩
      case round =>
        obtain ⟨k, hk, rfl, m, rfl⟩ := hrel
        by_cases hlt' : k < 32
        · obtain ⟨c0, c1, c2, c3⟩ := eg.cells k hlt'
          obtain ⟨d0, d1, d2, d3⟩ := eg'.cells k hlt'
          have i1 : 0 ≤ (k : Int) ∧ (k : Int) < 32 := by omega
          have t1 : (dv (half bs t k) == dv (half bs t k)) = true := by simp
          have t2 : (dl (half bs t k) == dl (half bs t k)) = true := by simp
          have t3 : (dr (half bs t k) == dr (half bs t k)) = true := by simp
          have t4 : (df (half bs t k) == df (half bs t k)) = true := by simp
          go_wp2_with fail
          go_quiet (fail)
          go_wp2_with fail
          go_roundw
          case rel => exact ⟨k + 1, by omega, by go_num, _, rfl⟩
          case measure => simp [intOf]; omega
        · obtain rfl : k = 32 := by omega
          go_wp2_with fail
          go_ret
          exact ⟨rfl, f2.trans ((fr_drewN _ _).mono fun _ _ e => e.elim), u2.keep0 (fr_drewN _ _)⟩
    · exact absurd (HG.out k hk) (by rw [hb]; decide)
  · have rb := r0.keep f1 (fun h => h)
    obtain ⟨_, k1, _, _, _, _, _, _⟩ := abox_cells rb
    have u1 := h'.keep0 f1
    replace f1 := f'.trans (f1.mono fun _ _ e => e.elim)
    clear h' f' r0
    replace HG : Hid (∃ k, k < 32 ∧ decOk (half bs t k) = false) := HG
    go_wp2_with fail
    refine (rtab_in _ _ _ _ _ _ u1.ref ht).mono ?_
    rintro e w2 ⟨f2, ⟨hall, _⟩ | ⟨_, rfl⟩⟩
    · obtain ⟨k, hk, hb⟩ := HG.out
      exact absurd (hall k hk) (by rw [hb]; decide)
    · have u2 := u1.keep0 f2
      replace f2 := f1.trans (f2.mono fun _ _ e => e.elim)
      clear u1 f1 rb k1
      go_wp2_with fail
      refine wp_loop_rounds 1 ?_
      rw [rounds_succ]; go_wp2_with fail
      go_ret
      exact ⟨rfl, f2, u2⟩

/-- 'does', whatever the act. -/
theorem does_any (w : World) (B pm bm pr br nf : Nat) (bs : List UInt8) (h : Twin w B pm bm pr br nf bs) (dO t i : Int) (v l : Bool) (r f : Int) (x : Nat) (hx : x < 65536) :
    Calls Try.prog 20 #[.pointer (some ⟨pm, 0, none⟩), .pointer (some ⟨pr, 0, none⟩), .agg #[.int .i64 dO, .int .i64 t, .int .i64 i, .bool v, .bool l, .int .i64 r, .int .i64 f, .int .u16 (x : Int)]] w (fun e w' => ∃ bs', DoneB w B pm bm pr br nf bs' e w') := by
  by_cases h1 : dO = 1
  · subst h1; exact (does_put w B pm bm pr br nf bs h t i v l r f x).mono fun e w' h => ⟨_, h⟩
  by_cases h2 : dO = 2
  · subst h2
    by_cases he : placeE t i nf = 0
    · obtain ⟨t, i, rfl, rfl, ht, hi⟩ := place_cases he
      exact (does_get_in w B pm bm pr br nf bs h t i v l r f x ht hi).mono fun e w' h => ⟨_, h⟩
    · exact (does_get_out w B pm bm pr br nf bs h t i v l r f x he).mono fun e w' h => ⟨_, h⟩
  by_cases h4 : dO = 4
  · subst h4
    by_cases a : t < 0
    · exact (does_raw1 w B pm bm pr br nf bs h t i v l r f x a).mono fun e w' h => ⟨_, h⟩
    by_cases b : 1023 < t
    · exact (does_raw2 w B pm bm pr br nf bs h t i v l r f x b).mono fun e w' h => ⟨_, h⟩
    by_cases c : i < 0
    · exact (does_raw3 w B pm bm pr br nf bs h t i v l r f x (by omega) (by omega) c).mono fun e w' h => ⟨_, h⟩
    by_cases d : 31 < i
    · exact (does_raw4 w B pm bm pr br nf bs h t i v l r f x (by omega) (by omega) d).mono fun e w' h => ⟨_, h⟩
    exact (does_raw5 w B pm bm pr br nf bs h t i v l r f x (by omega) (by omega) (by omega) (by omega) hx).mono fun e w' h => ⟨_, h⟩
  have n1 : (dO == 1) = false := by simpa using h1
  have n2 : (dO == 2) = false := by simpa using h2
  have n4 : (dO == 4) = false := by simpa using h4
  by_cases ht : t < 0 ∨ (nf : Int) ≤ t
  · exact (does_tab_out w B pm bm pr br nf bs h dO t i v l r f x n1 n2 n4 ht).mono fun e w' h => ⟨_, h⟩
  · obtain ⟨t, rfl⟩ := Int.eq_ofNat_of_zero_le (show 0 ≤ t by omega)
    exact (does_tab_in w B pm bm pr br nf bs h dO i t v l r f x n1 n2 n4 (by omega)).mono fun e w' h => ⟨_, h⟩

end Go.Proofs.Ytefjincghkdeiaa
