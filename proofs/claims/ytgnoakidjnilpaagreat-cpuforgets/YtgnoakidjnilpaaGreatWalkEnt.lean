/-
  The contract of package walk's 'entry' over the translation, said of the memory's half words. No statement is proved here.
-/
import Derived.Test.YtgnoakidjnilpaaGreatWalkRefEnt
import Derived.Test.YtgnoakidjnilpaaGreatTlbRow
import Derived.Deep.RegionHeld3
import Derived.Deep.CutRange
namespace Go.Proofs.YtgnoakidjnilpaaGreat
open Go.RowKit

theorem row_alloc3 (w : World) (o o' : Obj) (cs : Array Value) (t : TypeId) : Row (((w.alloc o).alloc o').alloc (.cells cs t)) (w.heap.size + 1 + 1) cs t := by
  have := row_alloc2 (w.alloc o) o' cs t
  rwa [size_alloc] at this

set_option maxHeartbeats 1000000 in
theorem entry_low (w : World) (b p bf nf : Nat) (bs : List UInt8) (t st lv page : Int) (h : IsRam w p bf nf bs) (hS : IsState w b p st lv page) (ht : t < 0) :
    Calls Tryz.prog 117 #[.pointer (some ⟨b, 0, none⟩), .int .i64 t] w fun e w' => e = .returned (.tuple #[.agg #[.bool false, .bool false, .int .i64 0, .int .i64 0], .agg #[.int .i64 3, .int .i64 st, .int .i64 lv, .bool false, .int .i64 page]]) ∧ Fr none' w w' := by
  have g0 : decide (t < 0) = true := decide_eq_true ht
  have hS0 : Row w b _ _ := hS
  have rs := (hS0.alloc (.cells #[.bool false, .bool false, .int .i64 0, .int .i64 0] 71)).alloc (.cells #[.int .i64 0, .int .i64 0, .int .i64 0, .bool false, .int .i64 0] 50)
  have h1 := (h.alloc (.cells #[.bool false, .bool false, .int .i64 0, .int .i64 0] 71)).alloc (.cells #[.int .i64 0, .int .i64 0, .int .i64 0, .bool false, .int .i64 0] 50)
  have r4 := (row_alloc w #[.bool false, .bool false, .int .i64 0, .int .i64 0] 71).alloc (.cells #[.int .i64 0, .int .i64 0, .int .i64 0, .bool false, .int .i64 0] 50)
  have r5 := row_alloc2 w (.cells #[.bool false, .bool false, .int .i64 0, .int .i64 0] 71) #[.int .i64 0, .int .i64 0, .int .i64 0, .bool false, .int .i64 0] 50
  have f1 := ((Fr.refl none' w).alloc (.cells #[.bool false, .bool false, .int .i64 0, .int .i64 0] 71)).alloc (.cells #[.int .i64 0, .int .i64 0, .int .i64 0, .bool false, .int .i64 0] 50)
  obtain ⟨s0, s1, s2, s3⟩ := row4 rs
  clear h hS hS0
  go_enter Tryz.func117, Tryz.ntmps117
  go_wp2_with fail
  refine (fault_any _ _ _ _ _ _ _ rs).mono ?_
  rintro e w3 ⟨rfl, f3⟩
  replace r4 := r4.keep f3 (fun h => h)
  replace r5 := r5.keep f3 (fun h => h)
  replace f1 := f1.trans f3
  clear f3 rs s0 s1 s2 s3 h1
  obtain ⟨d0, d1, d2, d3⟩ := row4 r4
  obtain ⟨e0, e1, e2, e3, e4⟩ := cells5 r5
  obtain ⟨z0, z1, z2, z3⟩ := frozen4 r4
  obtain ⟨y0, y1, y2, y3, y4⟩ := frozen5 r5
  go_wp2_with fail
  refine bodyPost_ret (ret_ef rfl rfl ((r4.put4 _ _ _ _).past5 (by omega) _ _ _ _ _) rfl rfl ((r5.past4 (by omega) _ _ _ _).put5 _ _ _ _ _) rfl) rfl ?_
  exact ⟨rfl, (f1.put4 (Or.inl (Nat.le_refl _)) _ _ _ _).put5 (Or.inl (by omega)) _ _ _ _ _⟩

set_option maxHeartbeats 1000000 in
theorem entry_high (w : World) (b p bf nf : Nat) (bs : List UInt8) (t st lv page : Int) (h : IsRam w p bf nf bs) (hS : IsState w b p st lv page) (h0 : 0 ≤ t) (ht : (nf : Int) ≤ t) :
    Calls Tryz.prog 117 #[.pointer (some ⟨b, 0, none⟩), .int .i64 t] w fun e w' => e = .returned (.tuple #[.agg #[.bool false, .bool false, .int .i64 0, .int .i64 0], .agg #[.int .i64 3, .int .i64 st, .int .i64 lv, .bool false, .int .i64 page]]) ∧ Fr none' w w' := by
  have g0 : decide (t < 0) = false := decide_eq_false (by omega)
  have g1 : decide ((nf : Int) ≤ t) = true := decide_eq_true ht
  clear h0 ht
  have hS0 : Row w b _ _ := hS
  have rs := (hS0.alloc (.cells #[.bool false, .bool false, .int .i64 0, .int .i64 0] 71)).alloc (.cells #[.int .i64 0, .int .i64 0, .int .i64 0, .bool false, .int .i64 0] 50)
  have h1 := (h.alloc (.cells #[.bool false, .bool false, .int .i64 0, .int .i64 0] 71)).alloc (.cells #[.int .i64 0, .int .i64 0, .int .i64 0, .bool false, .int .i64 0] 50)
  have r4 := (row_alloc w #[.bool false, .bool false, .int .i64 0, .int .i64 0] 71).alloc (.cells #[.int .i64 0, .int .i64 0, .int .i64 0, .bool false, .int .i64 0] 50)
  have r5 := row_alloc2 w (.cells #[.bool false, .bool false, .int .i64 0, .int .i64 0] 71) #[.int .i64 0, .int .i64 0, .int .i64 0, .bool false, .int .i64 0] 50
  have f1 := ((Fr.refl none' w).alloc (.cells #[.bool false, .bool false, .int .i64 0, .int .i64 0] 71)).alloc (.cells #[.int .i64 0, .int .i64 0, .int .i64 0, .bool false, .int .i64 0] 50)
  obtain ⟨s0, s1, s2, s3⟩ := row4 rs
  clear h hS hS0
  go_enter Tryz.func117, Tryz.ntmps117
  go_wp2_with fail
  refine (frames_any _ _ _ _ _ h1).mono ?_
  rintro e w1 ⟨rfl, rfl⟩
  go_wp2_with fail
  refine (fault_any _ _ _ _ _ _ _ rs).mono ?_
  rintro e w3 ⟨rfl, f3⟩
  replace r4 := r4.keep f3 (fun h => h)
  replace r5 := r5.keep f3 (fun h => h)
  replace f1 := f1.trans f3
  clear f3 rs s0 s1 s2 s3 h1
  obtain ⟨d0, d1, d2, d3⟩ := row4 r4
  obtain ⟨e0, e1, e2, e3, e4⟩ := cells5 r5
  obtain ⟨z0, z1, z2, z3⟩ := frozen4 r4
  obtain ⟨y0, y1, y2, y3, y4⟩ := frozen5 r5
  go_wp2_with fail
  refine bodyPost_ret (ret_ef rfl rfl ((r4.put4 _ _ _ _).past5 (by omega) _ _ _ _ _) rfl rfl ((r5.past4 (by omega) _ _ _ _).put5 _ _ _ _ _) rfl) rfl ?_
  exact ⟨rfl, (f1.put4 (Or.inl (Nat.le_refl _)) _ _ _ _).put5 (Or.inl (by omega)) _ _ _ _ _⟩

set_option maxHeartbeats 2000000 in
theorem entry_miss0 (w : World) (b p bf nf : Nat) (bs : List UInt8) (T i : Nat) (st page : Int) (h : IsRam w p bf nf bs) (hS : IsState w b p st 0 page) (ht : T < nf) (hi : idxOf page 0 = (i : Int)) (hi' : i < 32) (hu : usable ((half bs T i : Nat) : Int) 0 = false) :
    Calls Tryz.prog 117 #[.pointer (some ⟨b, 0, none⟩), .int .i64 (T : Int)] w fun e w' => e = .returned (.tuple #[.agg #[.bool false, .bool false, .int .i64 0, .int .i64 0], .agg #[.int .i64 1, .int .i64 st, .int .i64 0, .bool false, .int .i64 page]]) ∧ Fr none' w w' := by
  have g0 : decide ((T : Int) < 0) = false := decide_eq_false (by omega)
  have g1 : decide ((nf : Int) ≤ (T : Int)) = false := decide_eq_false (by omega)
  have hS0 : Row w b _ _ := hS
  have hb : b ≠ w.heap.size + 1 + 1 := by have := hS0.lt; omega
  have rs := (hS0.alloc (.cells #[.bool false, .bool false, .int .i64 0, .int .i64 0] 71)).alloc (.cells #[.int .i64 0, .int .i64 0, .int .i64 0, .bool false, .int .i64 0] 50)
  have h1 := (h.alloc (.cells #[.bool false, .bool false, .int .i64 0, .int .i64 0] 71)).alloc (.cells #[.int .i64 0, .int .i64 0, .int .i64 0, .bool false, .int .i64 0] 50)
  have r4 := (row_alloc w #[.bool false, .bool false, .int .i64 0, .int .i64 0] 71).alloc (.cells #[.int .i64 0, .int .i64 0, .int .i64 0, .bool false, .int .i64 0] 50)
  have r5 := row_alloc2 w (.cells #[.bool false, .bool false, .int .i64 0, .int .i64 0] 71) #[.int .i64 0, .int .i64 0, .int .i64 0, .bool false, .int .i64 0] 50
  have r6 := row_alloc3 w (.cells #[.bool false, .bool false, .int .i64 0, .int .i64 0] 71) (.cells #[.int .i64 0, .int .i64 0, .int .i64 0, .bool false, .int .i64 0] 50) #[.bool false, .bool false, .int .i64 0, .int .i64 0] 71
  have f1 := ((Fr.refl none' w).alloc (.cells #[.bool false, .bool false, .int .i64 0, .int .i64 0] 71)).alloc (.cells #[.int .i64 0, .int .i64 0, .int .i64 0, .bool false, .int .i64 0] 50)
  obtain ⟨s0, s1, s2, s3⟩ := row4 rs
  obtain ⟨t0, t1, t2, t3⟩ := row4 (rs.alloc (.cells #[.bool false, .bool false, .int .i64 0, .int .i64 0] 71))
  have hI := fun w0 => index_any page 0 w0
  rw [hi] at hI
  have gA := get_ok _ _ _ _ _ _ _ (IsRam.drew h1) ht hi'
  have gB := get_ok _ _ _ _ _ _ _ ((IsRam.alloc h1 (.cells #[.bool false, .bool false, .int .i64 0, .int .i64 0] 71)).drew) ht hi'
  clear h hS hS0
  cases hv : dv ((half bs T i : Nat) : Int) with
  | false =>
    clear hu
    cases hd : decOk ((half bs T i : Nat) : Int) with
    | false =>
      have he : de ((half bs T i : Nat) : Int) = 20 := by unfold de; rw [hd]; rfl
      clear hd
      go_enter Tryz.func117, Tryz.ntmps117
      go_wp2_with fail
      refine (frames_any _ _ _ _ _ h1).mono ?_
      rintro e w1 ⟨rfl, rfl⟩
      go_upto_region 3 with fail
      go_cut [6, 7] from 8 (fun s6 s7 wx => s7 = .int .i64 20 ∧ ∃ g, s6 = .pointer (some ⟨g, 0, none⟩) ∧ Fr none' w wx ∧ Row wx b #[.pointer (some ⟨p, 0, none⟩), .int .i64 st, .int .i64 0, .int .i64 page] 146 ∧ Row wx w.heap.size #[.bool false, .bool false, .int .i64 0, .int .i64 0] 71 ∧ Row wx (w.heap.size + 1) #[.int .i64 0, .int .i64 0, .int .i64 0, .bool false, .int .i64 0] 50 ∧ Row wx g #[.bool false, .bool (dl (half bs T i)), .int .i64 (dr (half bs T i)), .int .i64 (df (half bs T i))] 71)
      case first =>
        go_region_held3 (fun w' => w'.cell? ⟨b, 0, none⟩ = some (.pointer (some ⟨p, 0, none⟩)) ∧ w'.cell? ⟨b, 2, none⟩ = some (.int .i64 0) ∧ w'.cell? ⟨b, 3, none⟩ = some (.int .i64 page)) (first | with_reducible exact ⟨s0, s2, s3⟩ | with_reducible exact ⟨t0, t2, t3⟩ | with_reducible exact ⟨x0, x2, x3⟩ | go_keep) (first
          | (go_at_call 157; refine (hI _).mono ?_; rintro e w1 ⟨rfl, rfl⟩)
          | (go_at_call 156; refine gA.mono ?_; rintro e w2 ⟨rfl, f2⟩; rw [hv, he]; replace f2 := f2.undrew; obtain ⟨x0, x1, x2, x3⟩ := row4 (rs.keep f2 (fun h => h)); clear s0 s1 s2 s3; replace rs := (rs.keep f2 (fun h => h)).alloc (.cells #[.bool false, .bool (dl (half bs T i)), .int .i64 (dr (half bs T i)), .int .i64 (df (half bs T i))] 71); replace r4 := (r4.keep f2 (fun h => h)).alloc (.cells #[.bool false, .bool (dl (half bs T i)), .int .i64 (dr (half bs T i)), .int .i64 (df (half bs T i))] 71); replace r5 := (r5.keep f2 (fun h => h)).alloc (.cells #[.bool false, .bool (dl (half bs T i)), .int .i64 (dr (half bs T i)), .int .i64 (df (half bs T i))] 71); replace r6 := row_alloc w2 #[.bool false, .bool (dl (half bs T i)), .int .i64 (dr (half bs T i)), .int .i64 (df (half bs T i))] 71; replace f1 := (f1.trans f2).alloc (.cells #[.bool false, .bool (dl (half bs T i)), .int .i64 (dr (half bs T i)), .int .i64 (df (half bs T i))] 71); clear f2 t0 t1 t2 t3; obtain ⟨t0, t1, t2, t3⟩ := row4 rs; obtain ⟨s0, s1, s2, s3⟩ := row4 ((rs).drew))
          | (go_at_call 156; refine gB.mono ?_; rintro e w2 ⟨rfl, f2⟩; rw [hv, he]; replace f2 := f2.undrew; have q6 := r6.keep f2 (fun h => h); obtain ⟨y0, y1, y2, y3⟩ := row4 q6; obtain ⟨z0, z1, z2, z3⟩ := frozen4 q6; obtain ⟨x0, x1, x2, x3⟩ := row4 ((rs.alloc (.cells #[.bool false, .bool false, .int .i64 0, .int .i64 0] 71)).keep f2 (fun h => h)); replace rs := ((rs.alloc (.cells #[.bool false, .bool false, .int .i64 0, .int .i64 0] 71)).keep f2 (fun h => h)).past4 (b' := w.heap.size + 1 + 1) hb (.bool false) (.bool (dl (half bs T i))) (.int .i64 (dr (half bs T i))) (.int .i64 (df (half bs T i))); replace r4 := ((r4.alloc (.cells #[.bool false, .bool false, .int .i64 0, .int .i64 0] 71)).keep f2 (fun h => h)).past4 (b' := w.heap.size + 1 + 1) (by omega) (.bool false) (.bool (dl (half bs T i))) (.int .i64 (dr (half bs T i))) (.int .i64 (df (half bs T i))); replace r5 := ((r5.alloc (.cells #[.bool false, .bool false, .int .i64 0, .int .i64 0] 71)).keep f2 (fun h => h)).past4 (b' := w.heap.size + 1 + 1) (by omega) (.bool false) (.bool (dl (half bs T i))) (.int .i64 (dr (half bs T i))) (.int .i64 (df (half bs T i))); replace r6 := q6.put4 (.bool false) (.bool (dl (half bs T i))) (.int .i64 (dr (half bs T i))) (.int .i64 (df (half bs T i))); replace f1 := ((f1.alloc (.cells #[.bool false, .bool false, .int .i64 0, .int .i64 0] 71)).trans f2).put4 (b := w.heap.size + 1 + 1) (Or.inl (by omega)) (.bool false) (.bool (dl (half bs T i))) (.int .i64 (dr (half bs T i))) (.int .i64 (df (half bs T i))); clear f2 q6 s0 s1 s2 s3 t0 t1 t2 t3; unfold put4 at rs; obtain ⟨s0, s1, s2, s3⟩ := row4 rs; obtain ⟨t0, t1, t2, t3⟩ := row4 rs))
        all_goals (go_wp2_with fail; go_meet; exact ⟨rfl, _, rfl, f1, rs, r4, r5, r6⟩)
      case rest =>
      clear s0 s1 s2 s3 t0 t1 t2 t3 rs r4 r5 r6 f1 hI gA gB h1
      obtain ⟨rfl, g, rfl, f1, rs, r4, r5, r6⟩ := hcut
      obtain ⟨s0, s1, s2, s3⟩ := row4 rs
      obtain ⟨c0, c1, c2, c3⟩ := row4 r6
      go_wp2_with fail
      go_quiet (fail)
      replace rs := rs.keep (fr_drewN _ nq) (fun h => h)
      replace r4 := r4.keep (fr_drewN _ nq) (fun h => h)
      replace r5 := r5.keep (fr_drewN _ nq) (fun h => h)
      replace r6 := r6.keep (fr_drewN _ nq) (fun h => h)
      replace f1 := f1.trans (fr_drewN _ nq)
      clear s0 s1 s2 s3 c0 c1 c2 c3
      (go_wp2_with fail)
      refine (fault_any _ _ _ _ _ _ _ rs).mono ?_
      rintro e w3 ⟨rfl, f3⟩
      replace r4 := r4.keep f3 (fun h => h)
      replace r5 := r5.keep f3 (fun h => h)
      replace f1 := f1.trans f3
      clear f3 rs r6
      obtain ⟨d0, d1, d2, d3⟩ := row4 r4
      obtain ⟨e0, e1, e2, e3, e4⟩ := cells5 r5
      obtain ⟨z0, z1, z2, z3⟩ := frozen4 r4
      obtain ⟨y0, y1, y2, y3, y4⟩ := frozen5 r5
      (go_wp2_with fail)
      refine bodyPost_ret (ret_ef rfl rfl ((r4.put4 _ _ _ _).past5 (by omega) _ _ _ _ _) rfl rfl ((r5.past4 (by omega) _ _ _ _).put5 _ _ _ _ _) rfl) rfl ?_
      exact ⟨rfl, (f1.put4 (Or.inl (Nat.le_refl _)) _ _ _ _).put5 (Or.inl (by omega)) _ _ _ _ _⟩
    | true =>
      have he : de ((half bs T i : Nat) : Int) = 0 := by unfold de; rw [hd]; rfl
      clear hd
      go_enter Tryz.func117, Tryz.ntmps117
      go_wp2_with fail
      refine (frames_any _ _ _ _ _ h1).mono ?_
      rintro e w1 ⟨rfl, rfl⟩
      go_upto_region 3 with fail
      go_cut [6, 7] from 8 (fun s6 s7 wx => s7 = .int .i64 0 ∧ ∃ g, s6 = .pointer (some ⟨g, 0, none⟩) ∧ Fr none' w wx ∧ Row wx b #[.pointer (some ⟨p, 0, none⟩), .int .i64 st, .int .i64 0, .int .i64 page] 146 ∧ Row wx w.heap.size #[.bool false, .bool false, .int .i64 0, .int .i64 0] 71 ∧ Row wx (w.heap.size + 1) #[.int .i64 0, .int .i64 0, .int .i64 0, .bool false, .int .i64 0] 50 ∧ Row wx g #[.bool false, .bool (dl (half bs T i)), .int .i64 (dr (half bs T i)), .int .i64 (df (half bs T i))] 71)
      case first =>
        go_region_held3 (fun w' => w'.cell? ⟨b, 0, none⟩ = some (.pointer (some ⟨p, 0, none⟩)) ∧ w'.cell? ⟨b, 2, none⟩ = some (.int .i64 0) ∧ w'.cell? ⟨b, 3, none⟩ = some (.int .i64 page)) (first | with_reducible exact ⟨s0, s2, s3⟩ | with_reducible exact ⟨t0, t2, t3⟩ | with_reducible exact ⟨x0, x2, x3⟩ | go_keep) (first
          | (go_at_call 157; refine (hI _).mono ?_; rintro e w1 ⟨rfl, rfl⟩)
          | (go_at_call 156; refine gA.mono ?_; rintro e w2 ⟨rfl, f2⟩; rw [hv, he]; replace f2 := f2.undrew; obtain ⟨x0, x1, x2, x3⟩ := row4 (rs.keep f2 (fun h => h)); clear s0 s1 s2 s3; replace rs := (rs.keep f2 (fun h => h)).alloc (.cells #[.bool false, .bool (dl (half bs T i)), .int .i64 (dr (half bs T i)), .int .i64 (df (half bs T i))] 71); replace r4 := (r4.keep f2 (fun h => h)).alloc (.cells #[.bool false, .bool (dl (half bs T i)), .int .i64 (dr (half bs T i)), .int .i64 (df (half bs T i))] 71); replace r5 := (r5.keep f2 (fun h => h)).alloc (.cells #[.bool false, .bool (dl (half bs T i)), .int .i64 (dr (half bs T i)), .int .i64 (df (half bs T i))] 71); replace r6 := row_alloc w2 #[.bool false, .bool (dl (half bs T i)), .int .i64 (dr (half bs T i)), .int .i64 (df (half bs T i))] 71; replace f1 := (f1.trans f2).alloc (.cells #[.bool false, .bool (dl (half bs T i)), .int .i64 (dr (half bs T i)), .int .i64 (df (half bs T i))] 71); clear f2 t0 t1 t2 t3; obtain ⟨t0, t1, t2, t3⟩ := row4 rs; obtain ⟨s0, s1, s2, s3⟩ := row4 ((rs).drew))
          | (go_at_call 156; refine gB.mono ?_; rintro e w2 ⟨rfl, f2⟩; rw [hv, he]; replace f2 := f2.undrew; have q6 := r6.keep f2 (fun h => h); obtain ⟨y0, y1, y2, y3⟩ := row4 q6; obtain ⟨z0, z1, z2, z3⟩ := frozen4 q6; obtain ⟨x0, x1, x2, x3⟩ := row4 ((rs.alloc (.cells #[.bool false, .bool false, .int .i64 0, .int .i64 0] 71)).keep f2 (fun h => h)); replace rs := ((rs.alloc (.cells #[.bool false, .bool false, .int .i64 0, .int .i64 0] 71)).keep f2 (fun h => h)).past4 (b' := w.heap.size + 1 + 1) hb (.bool false) (.bool (dl (half bs T i))) (.int .i64 (dr (half bs T i))) (.int .i64 (df (half bs T i))); replace r4 := ((r4.alloc (.cells #[.bool false, .bool false, .int .i64 0, .int .i64 0] 71)).keep f2 (fun h => h)).past4 (b' := w.heap.size + 1 + 1) (by omega) (.bool false) (.bool (dl (half bs T i))) (.int .i64 (dr (half bs T i))) (.int .i64 (df (half bs T i))); replace r5 := ((r5.alloc (.cells #[.bool false, .bool false, .int .i64 0, .int .i64 0] 71)).keep f2 (fun h => h)).past4 (b' := w.heap.size + 1 + 1) (by omega) (.bool false) (.bool (dl (half bs T i))) (.int .i64 (dr (half bs T i))) (.int .i64 (df (half bs T i))); replace r6 := q6.put4 (.bool false) (.bool (dl (half bs T i))) (.int .i64 (dr (half bs T i))) (.int .i64 (df (half bs T i))); replace f1 := ((f1.alloc (.cells #[.bool false, .bool false, .int .i64 0, .int .i64 0] 71)).trans f2).put4 (b := w.heap.size + 1 + 1) (Or.inl (by omega)) (.bool false) (.bool (dl (half bs T i))) (.int .i64 (dr (half bs T i))) (.int .i64 (df (half bs T i))); clear f2 q6 s0 s1 s2 s3 t0 t1 t2 t3; unfold put4 at rs; obtain ⟨s0, s1, s2, s3⟩ := row4 rs; obtain ⟨t0, t1, t2, t3⟩ := row4 rs))
        all_goals (go_wp2_with fail; go_meet; exact ⟨rfl, _, rfl, f1, rs, r4, r5, r6⟩)
      case rest =>
      clear s0 s1 s2 s3 t0 t1 t2 t3 rs r4 r5 r6 f1 hI gA gB h1
      obtain ⟨rfl, g, rfl, f1, rs, r4, r5, r6⟩ := hcut
      obtain ⟨s0, s1, s2, s3⟩ := row4 rs
      obtain ⟨c0, c1, c2, c3⟩ := row4 r6
      go_wp2_with fail
      go_quiet (fail)
      replace rs := rs.keep (fr_drewN _ nq) (fun h => h)
      replace r4 := r4.keep (fr_drewN _ nq) (fun h => h)
      replace r5 := r5.keep (fr_drewN _ nq) (fun h => h)
      replace r6 := r6.keep (fr_drewN _ nq) (fun h => h)
      replace f1 := f1.trans (fr_drewN _ nq)
      clear s0 s1 s2 s3 c0 c1 c2 c3
      (go_wp2_with fail)
      refine (fault_any _ _ _ _ _ _ _ rs).mono ?_
      rintro e w3 ⟨rfl, f3⟩
      replace r4 := r4.keep f3 (fun h => h)
      replace r5 := r5.keep f3 (fun h => h)
      replace f1 := f1.trans f3
      clear f3 rs r6
      obtain ⟨d0, d1, d2, d3⟩ := row4 r4
      obtain ⟨e0, e1, e2, e3, e4⟩ := cells5 r5
      obtain ⟨z0, z1, z2, z3⟩ := frozen4 r4
      obtain ⟨y0, y1, y2, y3, y4⟩ := frozen5 r5
      (go_wp2_with fail)
      refine bodyPost_ret (ret_ef rfl rfl ((r4.put4 _ _ _ _).past5 (by omega) _ _ _ _ _) rfl rfl ((r5.past4 (by omega) _ _ _ _).put5 _ _ _ _ _) rfl) rfl ?_
      exact ⟨rfl, (f1.put4 (Or.inl (Nat.le_refl _)) _ _ _ _).put5 (Or.inl (by omega)) _ _ _ _ _⟩
  | true =>
    have he := de_ok hv
    have hl : dl ((half bs T i : Nat) : Int) = true := by simpa [usable, hv] using hu
    clear hu
    go_enter Tryz.func117, Tryz.ntmps117
    go_wp2_with fail
    refine (frames_any _ _ _ _ _ h1).mono ?_
    rintro e w1 ⟨rfl, rfl⟩
    go_upto_region 3 with fail
    go_cut [6, 7] from 8 (fun s6 s7 wx => s7 = .int .i64 0 ∧ ∃ g, s6 = .pointer (some ⟨g, 0, none⟩) ∧ Fr none' w wx ∧ Row wx b #[.pointer (some ⟨p, 0, none⟩), .int .i64 st, .int .i64 0, .int .i64 page] 146 ∧ Row wx w.heap.size #[.bool false, .bool false, .int .i64 0, .int .i64 0] 71 ∧ Row wx (w.heap.size + 1) #[.int .i64 0, .int .i64 0, .int .i64 0, .bool false, .int .i64 0] 50 ∧ Row wx g #[.bool true, .bool true, .int .i64 (dr (half bs T i)), .int .i64 (df (half bs T i))] 71)
    case first =>
      go_region_held3 (fun w' => w'.cell? ⟨b, 0, none⟩ = some (.pointer (some ⟨p, 0, none⟩)) ∧ w'.cell? ⟨b, 2, none⟩ = some (.int .i64 0) ∧ w'.cell? ⟨b, 3, none⟩ = some (.int .i64 page)) (first | with_reducible exact ⟨s0, s2, s3⟩ | with_reducible exact ⟨t0, t2, t3⟩ | with_reducible exact ⟨x0, x2, x3⟩ | go_keep) (first
        | (go_at_call 157; refine (hI _).mono ?_; rintro e w1 ⟨rfl, rfl⟩)
        | (go_at_call 156; refine gA.mono ?_; rintro e w2 ⟨rfl, f2⟩; rw [hv, he, hl]; replace f2 := f2.undrew; obtain ⟨x0, x1, x2, x3⟩ := row4 (rs.keep f2 (fun h => h)); clear s0 s1 s2 s3; replace rs := (rs.keep f2 (fun h => h)).alloc (.cells #[.bool true, .bool true, .int .i64 (dr (half bs T i)), .int .i64 (df (half bs T i))] 71); replace r4 := (r4.keep f2 (fun h => h)).alloc (.cells #[.bool true, .bool true, .int .i64 (dr (half bs T i)), .int .i64 (df (half bs T i))] 71); replace r5 := (r5.keep f2 (fun h => h)).alloc (.cells #[.bool true, .bool true, .int .i64 (dr (half bs T i)), .int .i64 (df (half bs T i))] 71); replace r6 := row_alloc w2 #[.bool true, .bool true, .int .i64 (dr (half bs T i)), .int .i64 (df (half bs T i))] 71; replace f1 := (f1.trans f2).alloc (.cells #[.bool true, .bool true, .int .i64 (dr (half bs T i)), .int .i64 (df (half bs T i))] 71); clear f2 t0 t1 t2 t3; obtain ⟨t0, t1, t2, t3⟩ := row4 rs; obtain ⟨s0, s1, s2, s3⟩ := row4 ((rs).drew))
        | (go_at_call 156; refine gB.mono ?_; rintro e w2 ⟨rfl, f2⟩; rw [hv, he, hl]; replace f2 := f2.undrew; have q6 := r6.keep f2 (fun h => h); obtain ⟨y0, y1, y2, y3⟩ := row4 q6; obtain ⟨z0, z1, z2, z3⟩ := frozen4 q6; obtain ⟨x0, x1, x2, x3⟩ := row4 ((rs.alloc (.cells #[.bool false, .bool false, .int .i64 0, .int .i64 0] 71)).keep f2 (fun h => h)); replace rs := ((rs.alloc (.cells #[.bool false, .bool false, .int .i64 0, .int .i64 0] 71)).keep f2 (fun h => h)).past4 (b' := w.heap.size + 1 + 1) hb (.bool true) (.bool true) (.int .i64 (dr (half bs T i))) (.int .i64 (df (half bs T i))); replace r4 := ((r4.alloc (.cells #[.bool false, .bool false, .int .i64 0, .int .i64 0] 71)).keep f2 (fun h => h)).past4 (b' := w.heap.size + 1 + 1) (by omega) (.bool true) (.bool true) (.int .i64 (dr (half bs T i))) (.int .i64 (df (half bs T i))); replace r5 := ((r5.alloc (.cells #[.bool false, .bool false, .int .i64 0, .int .i64 0] 71)).keep f2 (fun h => h)).past4 (b' := w.heap.size + 1 + 1) (by omega) (.bool true) (.bool true) (.int .i64 (dr (half bs T i))) (.int .i64 (df (half bs T i))); replace r6 := q6.put4 (.bool true) (.bool true) (.int .i64 (dr (half bs T i))) (.int .i64 (df (half bs T i))); replace f1 := ((f1.alloc (.cells #[.bool false, .bool false, .int .i64 0, .int .i64 0] 71)).trans f2).put4 (b := w.heap.size + 1 + 1) (Or.inl (by omega)) (.bool true) (.bool true) (.int .i64 (dr (half bs T i))) (.int .i64 (df (half bs T i))); clear f2 q6 s0 s1 s2 s3 t0 t1 t2 t3; unfold put4 at rs; obtain ⟨s0, s1, s2, s3⟩ := row4 rs; obtain ⟨t0, t1, t2, t3⟩ := row4 rs))
      all_goals (go_wp2_with fail; go_meet; exact ⟨rfl, _, rfl, f1, rs, r4, r5, r6⟩)
    case rest =>
    clear s0 s1 s2 s3 t0 t1 t2 t3 rs r4 r5 r6 f1 hI gA gB h1
    obtain ⟨rfl, g, rfl, f1, rs, r4, r5, r6⟩ := hcut
    obtain ⟨s0, s1, s2, s3⟩ := row4 rs
    obtain ⟨c0, c1, c2, c3⟩ := row4 r6
    go_wp2_with fail
    go_quiet (fail)
    replace rs := rs.keep (fr_drewN _ nq) (fun h => h)
    replace r4 := r4.keep (fr_drewN _ nq) (fun h => h)
    replace r5 := r5.keep (fr_drewN _ nq) (fun h => h)
    replace r6 := r6.keep (fr_drewN _ nq) (fun h => h)
    replace f1 := f1.trans (fr_drewN _ nq)
    clear s0 s1 s2 s3 c0 c1 c2 c3
    (go_wp2_with fail)
    refine (fault_any _ _ _ _ _ _ _ rs).mono ?_
    rintro e w3 ⟨rfl, f3⟩
    replace r4 := r4.keep f3 (fun h => h)
    replace r5 := r5.keep f3 (fun h => h)
    replace f1 := f1.trans f3
    clear f3 rs r6
    obtain ⟨d0, d1, d2, d3⟩ := row4 r4
    obtain ⟨e0, e1, e2, e3, e4⟩ := cells5 r5
    obtain ⟨z0, z1, z2, z3⟩ := frozen4 r4
    obtain ⟨y0, y1, y2, y3, y4⟩ := frozen5 r5
    (go_wp2_with fail)
    refine bodyPost_ret (ret_ef rfl rfl ((r4.put4 _ _ _ _).past5 (by omega) _ _ _ _ _) rfl rfl ((r5.past4 (by omega) _ _ _ _).put5 _ _ _ _ _) rfl) rfl ?_
    exact ⟨rfl, (f1.put4 (Or.inl (Nat.le_refl _)) _ _ _ _).put5 (Or.inl (by omega)) _ _ _ _ _⟩

set_option maxHeartbeats 2000000 in
theorem entry_ok0 (w : World) (b p bf nf : Nat) (bs : List UInt8) (T i : Nat) (st page : Int) (h : IsRam w p bf nf bs) (hS : IsState w b p st 0 page) (ht : T < nf) (hi : idxOf page 0 = (i : Int)) (hi' : i < 32) (hu : usable ((half bs T i : Nat) : Int) 0 = true) :
    Calls Tryz.prog 117 #[.pointer (some ⟨b, 0, none⟩), .int .i64 (T : Int)] w fun e w' => e = .returned (.tuple #[.agg #[.bool true, .bool (decide ((0 : Int) = 1)), .int .i64 (dr (half bs T i)), .int .i64 (df (half bs T i))], .agg #[.int .i64 0, .int .i64 0, .int .i64 0, .bool false, .int .i64 0]]) ∧ Fr none' w w' := by
  have g0 : decide ((T : Int) < 0) = false := decide_eq_false (by omega)
  have g1 : decide ((nf : Int) ≤ (T : Int)) = false := decide_eq_false (by omega)
  have hS0 : Row w b _ _ := hS
  have hb : b ≠ w.heap.size + 1 + 1 := by have := hS0.lt; omega
  have rs := (hS0.alloc (.cells #[.bool false, .bool false, .int .i64 0, .int .i64 0] 71)).alloc (.cells #[.int .i64 0, .int .i64 0, .int .i64 0, .bool false, .int .i64 0] 50)
  have h1 := (h.alloc (.cells #[.bool false, .bool false, .int .i64 0, .int .i64 0] 71)).alloc (.cells #[.int .i64 0, .int .i64 0, .int .i64 0, .bool false, .int .i64 0] 50)
  have r4 := (row_alloc w #[.bool false, .bool false, .int .i64 0, .int .i64 0] 71).alloc (.cells #[.int .i64 0, .int .i64 0, .int .i64 0, .bool false, .int .i64 0] 50)
  have r5 := row_alloc2 w (.cells #[.bool false, .bool false, .int .i64 0, .int .i64 0] 71) #[.int .i64 0, .int .i64 0, .int .i64 0, .bool false, .int .i64 0] 50
  have r6 := row_alloc3 w (.cells #[.bool false, .bool false, .int .i64 0, .int .i64 0] 71) (.cells #[.int .i64 0, .int .i64 0, .int .i64 0, .bool false, .int .i64 0] 50) #[.bool false, .bool false, .int .i64 0, .int .i64 0] 71
  have f1 := ((Fr.refl none' w).alloc (.cells #[.bool false, .bool false, .int .i64 0, .int .i64 0] 71)).alloc (.cells #[.int .i64 0, .int .i64 0, .int .i64 0, .bool false, .int .i64 0] 50)
  obtain ⟨s0, s1, s2, s3⟩ := row4 rs
  obtain ⟨t0, t1, t2, t3⟩ := row4 (rs.alloc (.cells #[.bool false, .bool false, .int .i64 0, .int .i64 0] 71))
  have hI := fun w0 => index_any page 0 w0
  rw [hi] at hI
  have gA := get_ok _ _ _ _ _ _ _ (IsRam.drew h1) ht hi'
  have gB := get_ok _ _ _ _ _ _ _ ((IsRam.alloc h1 (.cells #[.bool false, .bool false, .int .i64 0, .int .i64 0] 71)).drew) ht hi'
  clear h hS hS0
  obtain ⟨hv, hl⟩ : dv ((half bs T i : Nat) : Int) = true ∧ dl ((half bs T i : Nat) : Int) = false := by simpa [usable] using hu
  have he := de_ok hv
  clear hu
  go_enter Tryz.func117, Tryz.ntmps117
  go_wp2_with fail
  refine (frames_any _ _ _ _ _ h1).mono ?_
  rintro e w1 ⟨rfl, rfl⟩
  go_upto_region 3 with fail
  go_cut [6, 7] from 8 (fun s6 s7 wx => s7 = .int .i64 0 ∧ ∃ g, s6 = .pointer (some ⟨g, 0, none⟩) ∧ Fr none' w wx ∧ Row wx b #[.pointer (some ⟨p, 0, none⟩), .int .i64 st, .int .i64 0, .int .i64 page] 146 ∧ Row wx w.heap.size #[.bool false, .bool false, .int .i64 0, .int .i64 0] 71 ∧ Row wx (w.heap.size + 1) #[.int .i64 0, .int .i64 0, .int .i64 0, .bool false, .int .i64 0] 50 ∧ Row wx g #[.bool true, .bool false, .int .i64 (dr (half bs T i)), .int .i64 (df (half bs T i))] 71)
  case first =>
    go_region_held3 (fun w' => w'.cell? ⟨b, 0, none⟩ = some (.pointer (some ⟨p, 0, none⟩)) ∧ w'.cell? ⟨b, 2, none⟩ = some (.int .i64 0) ∧ w'.cell? ⟨b, 3, none⟩ = some (.int .i64 page)) (first | with_reducible exact ⟨s0, s2, s3⟩ | with_reducible exact ⟨t0, t2, t3⟩ | with_reducible exact ⟨x0, x2, x3⟩ | go_keep) (first
      | (go_at_call 157; refine (hI _).mono ?_; rintro e w1 ⟨rfl, rfl⟩)
      | (go_at_call 156; refine gA.mono ?_; rintro e w2 ⟨rfl, f2⟩; rw [hv, he, hl]; replace f2 := f2.undrew; obtain ⟨x0, x1, x2, x3⟩ := row4 (rs.keep f2 (fun h => h)); clear s0 s1 s2 s3; replace rs := (rs.keep f2 (fun h => h)).alloc (.cells #[.bool true, .bool false, .int .i64 (dr (half bs T i)), .int .i64 (df (half bs T i))] 71); replace r4 := (r4.keep f2 (fun h => h)).alloc (.cells #[.bool true, .bool false, .int .i64 (dr (half bs T i)), .int .i64 (df (half bs T i))] 71); replace r5 := (r5.keep f2 (fun h => h)).alloc (.cells #[.bool true, .bool false, .int .i64 (dr (half bs T i)), .int .i64 (df (half bs T i))] 71); replace r6 := row_alloc w2 #[.bool true, .bool false, .int .i64 (dr (half bs T i)), .int .i64 (df (half bs T i))] 71; replace f1 := (f1.trans f2).alloc (.cells #[.bool true, .bool false, .int .i64 (dr (half bs T i)), .int .i64 (df (half bs T i))] 71); clear f2 t0 t1 t2 t3; obtain ⟨t0, t1, t2, t3⟩ := row4 rs; obtain ⟨s0, s1, s2, s3⟩ := row4 ((rs).drew))
      | (go_at_call 156; refine gB.mono ?_; rintro e w2 ⟨rfl, f2⟩; rw [hv, he, hl]; replace f2 := f2.undrew; have q6 := r6.keep f2 (fun h => h); obtain ⟨y0, y1, y2, y3⟩ := row4 q6; obtain ⟨z0, z1, z2, z3⟩ := frozen4 q6; obtain ⟨x0, x1, x2, x3⟩ := row4 ((rs.alloc (.cells #[.bool false, .bool false, .int .i64 0, .int .i64 0] 71)).keep f2 (fun h => h)); replace rs := ((rs.alloc (.cells #[.bool false, .bool false, .int .i64 0, .int .i64 0] 71)).keep f2 (fun h => h)).past4 (b' := w.heap.size + 1 + 1) hb (.bool true) (.bool false) (.int .i64 (dr (half bs T i))) (.int .i64 (df (half bs T i))); replace r4 := ((r4.alloc (.cells #[.bool false, .bool false, .int .i64 0, .int .i64 0] 71)).keep f2 (fun h => h)).past4 (b' := w.heap.size + 1 + 1) (by omega) (.bool true) (.bool false) (.int .i64 (dr (half bs T i))) (.int .i64 (df (half bs T i))); replace r5 := ((r5.alloc (.cells #[.bool false, .bool false, .int .i64 0, .int .i64 0] 71)).keep f2 (fun h => h)).past4 (b' := w.heap.size + 1 + 1) (by omega) (.bool true) (.bool false) (.int .i64 (dr (half bs T i))) (.int .i64 (df (half bs T i))); replace r6 := q6.put4 (.bool true) (.bool false) (.int .i64 (dr (half bs T i))) (.int .i64 (df (half bs T i))); replace f1 := ((f1.alloc (.cells #[.bool false, .bool false, .int .i64 0, .int .i64 0] 71)).trans f2).put4 (b := w.heap.size + 1 + 1) (Or.inl (by omega)) (.bool true) (.bool false) (.int .i64 (dr (half bs T i))) (.int .i64 (df (half bs T i))); clear f2 q6 s0 s1 s2 s3 t0 t1 t2 t3; unfold put4 at rs; obtain ⟨s0, s1, s2, s3⟩ := row4 rs; obtain ⟨t0, t1, t2, t3⟩ := row4 rs))
    all_goals (go_wp2_with fail; go_meet; exact ⟨rfl, _, rfl, f1, rs, r4, r5, r6⟩)
  case rest =>
  clear s0 s1 s2 s3 t0 t1 t2 t3 rs r4 r5 r6 f1 hI gA gB h1
  obtain ⟨rfl, g, rfl, f1, rs, r4, r5, r6⟩ := hcut
  obtain ⟨s0, s1, s2, s3⟩ := row4 rs
  obtain ⟨c0, c1, c2, c3⟩ := row4 r6
  go_wp2_with fail
  go_quiet (fail)
  replace rs := rs.keep (fr_drewN _ nq) (fun h => h)
  replace r4 := r4.keep (fr_drewN _ nq) (fun h => h)
  replace r5 := r5.keep (fr_drewN _ nq) (fun h => h)
  replace r6 := r6.keep (fr_drewN _ nq) (fun h => h)
  replace f1 := f1.trans (fr_drewN _ nq)
  clear s0 s1 s2 s3 c0 c1 c2 c3
  obtain ⟨c0, c1, c2, c3⟩ := row4 r6
  obtain ⟨d0, d1, d2, d3⟩ := row4 r4
  obtain ⟨e0, e1, e2, e3, e4⟩ := cells5 r5
  obtain ⟨z0, z1, z2, z3⟩ := frozen4 r4
  obtain ⟨y0, y1, y2, y3, y4⟩ := frozen5 r5
  (go_wp2_with fail)
  refine bodyPost_ret (ret_ef rfl rfl ((r4.put4 _ _ _ _).past5 (by omega) _ _ _ _ _) rfl rfl ((r5.past4 (by omega) _ _ _ _).put5 _ _ _ _ _) rfl) rfl ?_
  exact ⟨rfl, (f1.put4 (Or.inl (Nat.le_refl _)) _ _ _ _).put5 (Or.inl (by omega)) _ _ _ _ _⟩

set_option maxHeartbeats 2000000 in
theorem entry_miss1 (w : World) (b p bf nf : Nat) (bs : List UInt8) (T i : Nat) (st page : Int) (h : IsRam w p bf nf bs) (hS : IsState w b p st 1 page) (ht : T < nf) (hi : idxOf page 1 = (i : Int)) (hi' : i < 32) (hu : usable ((half bs T i : Nat) : Int) 1 = false) :
    Calls Tryz.prog 117 #[.pointer (some ⟨b, 0, none⟩), .int .i64 (T : Int)] w fun e w' => e = .returned (.tuple #[.agg #[.bool false, .bool false, .int .i64 0, .int .i64 0], .agg #[.int .i64 1, .int .i64 st, .int .i64 1, .bool false, .int .i64 page]]) ∧ Fr none' w w' := by
  have g0 : decide ((T : Int) < 0) = false := decide_eq_false (by omega)
  have g1 : decide ((nf : Int) ≤ (T : Int)) = false := decide_eq_false (by omega)
  have hS0 : Row w b _ _ := hS
  have hb : b ≠ w.heap.size + 1 + 1 := by have := hS0.lt; omega
  have rs := (hS0.alloc (.cells #[.bool false, .bool false, .int .i64 0, .int .i64 0] 71)).alloc (.cells #[.int .i64 0, .int .i64 0, .int .i64 0, .bool false, .int .i64 0] 50)
  have h1 := (h.alloc (.cells #[.bool false, .bool false, .int .i64 0, .int .i64 0] 71)).alloc (.cells #[.int .i64 0, .int .i64 0, .int .i64 0, .bool false, .int .i64 0] 50)
  have r4 := (row_alloc w #[.bool false, .bool false, .int .i64 0, .int .i64 0] 71).alloc (.cells #[.int .i64 0, .int .i64 0, .int .i64 0, .bool false, .int .i64 0] 50)
  have r5 := row_alloc2 w (.cells #[.bool false, .bool false, .int .i64 0, .int .i64 0] 71) #[.int .i64 0, .int .i64 0, .int .i64 0, .bool false, .int .i64 0] 50
  have r6 := row_alloc3 w (.cells #[.bool false, .bool false, .int .i64 0, .int .i64 0] 71) (.cells #[.int .i64 0, .int .i64 0, .int .i64 0, .bool false, .int .i64 0] 50) #[.bool false, .bool false, .int .i64 0, .int .i64 0] 71
  have f1 := ((Fr.refl none' w).alloc (.cells #[.bool false, .bool false, .int .i64 0, .int .i64 0] 71)).alloc (.cells #[.int .i64 0, .int .i64 0, .int .i64 0, .bool false, .int .i64 0] 50)
  obtain ⟨s0, s1, s2, s3⟩ := row4 rs
  obtain ⟨t0, t1, t2, t3⟩ := row4 (rs.alloc (.cells #[.bool false, .bool false, .int .i64 0, .int .i64 0] 71))
  have hI := fun w0 => index_any page 1 w0
  rw [hi] at hI
  have gA := get_ok _ _ _ _ _ _ _ (IsRam.drew h1) ht hi'
  have gB := get_ok _ _ _ _ _ _ _ ((IsRam.alloc h1 (.cells #[.bool false, .bool false, .int .i64 0, .int .i64 0] 71)).drew) ht hi'
  clear h hS hS0
  cases hv : dv ((half bs T i : Nat) : Int) with
  | false =>
    clear hu
    cases hd : decOk ((half bs T i : Nat) : Int) with
    | false =>
      have he : de ((half bs T i : Nat) : Int) = 20 := by unfold de; rw [hd]; rfl
      clear hd
      go_enter Tryz.func117, Tryz.ntmps117
      go_wp2_with fail
      refine (frames_any _ _ _ _ _ h1).mono ?_
      rintro e w1 ⟨rfl, rfl⟩
      go_upto_region 3 with fail
      go_cut [6, 7] from 8 (fun s6 s7 wx => s7 = .int .i64 20 ∧ ∃ g, s6 = .pointer (some ⟨g, 0, none⟩) ∧ Fr none' w wx ∧ Row wx b #[.pointer (some ⟨p, 0, none⟩), .int .i64 st, .int .i64 1, .int .i64 page] 146 ∧ Row wx w.heap.size #[.bool false, .bool false, .int .i64 0, .int .i64 0] 71 ∧ Row wx (w.heap.size + 1) #[.int .i64 0, .int .i64 0, .int .i64 0, .bool false, .int .i64 0] 50 ∧ Row wx g #[.bool false, .bool (dl (half bs T i)), .int .i64 (dr (half bs T i)), .int .i64 (df (half bs T i))] 71)
      case first =>
        go_region_held3 (fun w' => w'.cell? ⟨b, 0, none⟩ = some (.pointer (some ⟨p, 0, none⟩)) ∧ w'.cell? ⟨b, 2, none⟩ = some (.int .i64 1) ∧ w'.cell? ⟨b, 3, none⟩ = some (.int .i64 page)) (first | with_reducible exact ⟨s0, s2, s3⟩ | with_reducible exact ⟨t0, t2, t3⟩ | with_reducible exact ⟨x0, x2, x3⟩ | go_keep) (first
          | (go_at_call 157; refine (hI _).mono ?_; rintro e w1 ⟨rfl, rfl⟩)
          | (go_at_call 156; refine gA.mono ?_; rintro e w2 ⟨rfl, f2⟩; rw [hv, he]; replace f2 := f2.undrew; obtain ⟨x0, x1, x2, x3⟩ := row4 (rs.keep f2 (fun h => h)); clear s0 s1 s2 s3; replace rs := (rs.keep f2 (fun h => h)).alloc (.cells #[.bool false, .bool (dl (half bs T i)), .int .i64 (dr (half bs T i)), .int .i64 (df (half bs T i))] 71); replace r4 := (r4.keep f2 (fun h => h)).alloc (.cells #[.bool false, .bool (dl (half bs T i)), .int .i64 (dr (half bs T i)), .int .i64 (df (half bs T i))] 71); replace r5 := (r5.keep f2 (fun h => h)).alloc (.cells #[.bool false, .bool (dl (half bs T i)), .int .i64 (dr (half bs T i)), .int .i64 (df (half bs T i))] 71); replace r6 := row_alloc w2 #[.bool false, .bool (dl (half bs T i)), .int .i64 (dr (half bs T i)), .int .i64 (df (half bs T i))] 71; replace f1 := (f1.trans f2).alloc (.cells #[.bool false, .bool (dl (half bs T i)), .int .i64 (dr (half bs T i)), .int .i64 (df (half bs T i))] 71); clear f2 t0 t1 t2 t3; obtain ⟨t0, t1, t2, t3⟩ := row4 rs; obtain ⟨s0, s1, s2, s3⟩ := row4 ((rs).drew))
          | (go_at_call 156; refine gB.mono ?_; rintro e w2 ⟨rfl, f2⟩; rw [hv, he]; replace f2 := f2.undrew; have q6 := r6.keep f2 (fun h => h); obtain ⟨y0, y1, y2, y3⟩ := row4 q6; obtain ⟨z0, z1, z2, z3⟩ := frozen4 q6; obtain ⟨x0, x1, x2, x3⟩ := row4 ((rs.alloc (.cells #[.bool false, .bool false, .int .i64 0, .int .i64 0] 71)).keep f2 (fun h => h)); replace rs := ((rs.alloc (.cells #[.bool false, .bool false, .int .i64 0, .int .i64 0] 71)).keep f2 (fun h => h)).past4 (b' := w.heap.size + 1 + 1) hb (.bool false) (.bool (dl (half bs T i))) (.int .i64 (dr (half bs T i))) (.int .i64 (df (half bs T i))); replace r4 := ((r4.alloc (.cells #[.bool false, .bool false, .int .i64 0, .int .i64 0] 71)).keep f2 (fun h => h)).past4 (b' := w.heap.size + 1 + 1) (by omega) (.bool false) (.bool (dl (half bs T i))) (.int .i64 (dr (half bs T i))) (.int .i64 (df (half bs T i))); replace r5 := ((r5.alloc (.cells #[.bool false, .bool false, .int .i64 0, .int .i64 0] 71)).keep f2 (fun h => h)).past4 (b' := w.heap.size + 1 + 1) (by omega) (.bool false) (.bool (dl (half bs T i))) (.int .i64 (dr (half bs T i))) (.int .i64 (df (half bs T i))); replace r6 := q6.put4 (.bool false) (.bool (dl (half bs T i))) (.int .i64 (dr (half bs T i))) (.int .i64 (df (half bs T i))); replace f1 := ((f1.alloc (.cells #[.bool false, .bool false, .int .i64 0, .int .i64 0] 71)).trans f2).put4 (b := w.heap.size + 1 + 1) (Or.inl (by omega)) (.bool false) (.bool (dl (half bs T i))) (.int .i64 (dr (half bs T i))) (.int .i64 (df (half bs T i))); clear f2 q6 s0 s1 s2 s3 t0 t1 t2 t3; unfold put4 at rs; obtain ⟨s0, s1, s2, s3⟩ := row4 rs; obtain ⟨t0, t1, t2, t3⟩ := row4 rs))
        all_goals (go_wp2_with fail; go_meet; exact ⟨rfl, _, rfl, f1, rs, r4, r5, r6⟩)
      case rest =>
      clear s0 s1 s2 s3 t0 t1 t2 t3 rs r4 r5 r6 f1 hI gA gB h1
      obtain ⟨rfl, g, rfl, f1, rs, r4, r5, r6⟩ := hcut
      obtain ⟨s0, s1, s2, s3⟩ := row4 rs
      obtain ⟨c0, c1, c2, c3⟩ := row4 r6
      go_wp2_with fail
      go_quiet (fail)
      replace rs := rs.keep (fr_drewN _ nq) (fun h => h)
      replace r4 := r4.keep (fr_drewN _ nq) (fun h => h)
      replace r5 := r5.keep (fr_drewN _ nq) (fun h => h)
      replace r6 := r6.keep (fr_drewN _ nq) (fun h => h)
      replace f1 := f1.trans (fr_drewN _ nq)
      clear s0 s1 s2 s3 c0 c1 c2 c3
      (go_wp2_with fail)
      refine (fault_any _ _ _ _ _ _ _ rs).mono ?_
      rintro e w3 ⟨rfl, f3⟩
      replace r4 := r4.keep f3 (fun h => h)
      replace r5 := r5.keep f3 (fun h => h)
      replace f1 := f1.trans f3
      clear f3 rs r6
      obtain ⟨d0, d1, d2, d3⟩ := row4 r4
      obtain ⟨e0, e1, e2, e3, e4⟩ := cells5 r5
      obtain ⟨z0, z1, z2, z3⟩ := frozen4 r4
      obtain ⟨y0, y1, y2, y3, y4⟩ := frozen5 r5
      (go_wp2_with fail)
      refine bodyPost_ret (ret_ef rfl rfl ((r4.put4 _ _ _ _).past5 (by omega) _ _ _ _ _) rfl rfl ((r5.past4 (by omega) _ _ _ _).put5 _ _ _ _ _) rfl) rfl ?_
      exact ⟨rfl, (f1.put4 (Or.inl (Nat.le_refl _)) _ _ _ _).put5 (Or.inl (by omega)) _ _ _ _ _⟩
    | true =>
      have he : de ((half bs T i : Nat) : Int) = 0 := by unfold de; rw [hd]; rfl
      clear hd
      go_enter Tryz.func117, Tryz.ntmps117
      go_wp2_with fail
      refine (frames_any _ _ _ _ _ h1).mono ?_
      rintro e w1 ⟨rfl, rfl⟩
      go_upto_region 3 with fail
      go_cut [6, 7] from 8 (fun s6 s7 wx => s7 = .int .i64 0 ∧ ∃ g, s6 = .pointer (some ⟨g, 0, none⟩) ∧ Fr none' w wx ∧ Row wx b #[.pointer (some ⟨p, 0, none⟩), .int .i64 st, .int .i64 1, .int .i64 page] 146 ∧ Row wx w.heap.size #[.bool false, .bool false, .int .i64 0, .int .i64 0] 71 ∧ Row wx (w.heap.size + 1) #[.int .i64 0, .int .i64 0, .int .i64 0, .bool false, .int .i64 0] 50 ∧ Row wx g #[.bool false, .bool (dl (half bs T i)), .int .i64 (dr (half bs T i)), .int .i64 (df (half bs T i))] 71)
      case first =>
        go_region_held3 (fun w' => w'.cell? ⟨b, 0, none⟩ = some (.pointer (some ⟨p, 0, none⟩)) ∧ w'.cell? ⟨b, 2, none⟩ = some (.int .i64 1) ∧ w'.cell? ⟨b, 3, none⟩ = some (.int .i64 page)) (first | with_reducible exact ⟨s0, s2, s3⟩ | with_reducible exact ⟨t0, t2, t3⟩ | with_reducible exact ⟨x0, x2, x3⟩ | go_keep) (first
          | (go_at_call 157; refine (hI _).mono ?_; rintro e w1 ⟨rfl, rfl⟩)
          | (go_at_call 156; refine gA.mono ?_; rintro e w2 ⟨rfl, f2⟩; rw [hv, he]; replace f2 := f2.undrew; obtain ⟨x0, x1, x2, x3⟩ := row4 (rs.keep f2 (fun h => h)); clear s0 s1 s2 s3; replace rs := (rs.keep f2 (fun h => h)).alloc (.cells #[.bool false, .bool (dl (half bs T i)), .int .i64 (dr (half bs T i)), .int .i64 (df (half bs T i))] 71); replace r4 := (r4.keep f2 (fun h => h)).alloc (.cells #[.bool false, .bool (dl (half bs T i)), .int .i64 (dr (half bs T i)), .int .i64 (df (half bs T i))] 71); replace r5 := (r5.keep f2 (fun h => h)).alloc (.cells #[.bool false, .bool (dl (half bs T i)), .int .i64 (dr (half bs T i)), .int .i64 (df (half bs T i))] 71); replace r6 := row_alloc w2 #[.bool false, .bool (dl (half bs T i)), .int .i64 (dr (half bs T i)), .int .i64 (df (half bs T i))] 71; replace f1 := (f1.trans f2).alloc (.cells #[.bool false, .bool (dl (half bs T i)), .int .i64 (dr (half bs T i)), .int .i64 (df (half bs T i))] 71); clear f2 t0 t1 t2 t3; obtain ⟨t0, t1, t2, t3⟩ := row4 rs; obtain ⟨s0, s1, s2, s3⟩ := row4 ((rs).drew))
          | (go_at_call 156; refine gB.mono ?_; rintro e w2 ⟨rfl, f2⟩; rw [hv, he]; replace f2 := f2.undrew; have q6 := r6.keep f2 (fun h => h); obtain ⟨y0, y1, y2, y3⟩ := row4 q6; obtain ⟨z0, z1, z2, z3⟩ := frozen4 q6; obtain ⟨x0, x1, x2, x3⟩ := row4 ((rs.alloc (.cells #[.bool false, .bool false, .int .i64 0, .int .i64 0] 71)).keep f2 (fun h => h)); replace rs := ((rs.alloc (.cells #[.bool false, .bool false, .int .i64 0, .int .i64 0] 71)).keep f2 (fun h => h)).past4 (b' := w.heap.size + 1 + 1) hb (.bool false) (.bool (dl (half bs T i))) (.int .i64 (dr (half bs T i))) (.int .i64 (df (half bs T i))); replace r4 := ((r4.alloc (.cells #[.bool false, .bool false, .int .i64 0, .int .i64 0] 71)).keep f2 (fun h => h)).past4 (b' := w.heap.size + 1 + 1) (by omega) (.bool false) (.bool (dl (half bs T i))) (.int .i64 (dr (half bs T i))) (.int .i64 (df (half bs T i))); replace r5 := ((r5.alloc (.cells #[.bool false, .bool false, .int .i64 0, .int .i64 0] 71)).keep f2 (fun h => h)).past4 (b' := w.heap.size + 1 + 1) (by omega) (.bool false) (.bool (dl (half bs T i))) (.int .i64 (dr (half bs T i))) (.int .i64 (df (half bs T i))); replace r6 := q6.put4 (.bool false) (.bool (dl (half bs T i))) (.int .i64 (dr (half bs T i))) (.int .i64 (df (half bs T i))); replace f1 := ((f1.alloc (.cells #[.bool false, .bool false, .int .i64 0, .int .i64 0] 71)).trans f2).put4 (b := w.heap.size + 1 + 1) (Or.inl (by omega)) (.bool false) (.bool (dl (half bs T i))) (.int .i64 (dr (half bs T i))) (.int .i64 (df (half bs T i))); clear f2 q6 s0 s1 s2 s3 t0 t1 t2 t3; unfold put4 at rs; obtain ⟨s0, s1, s2, s3⟩ := row4 rs; obtain ⟨t0, t1, t2, t3⟩ := row4 rs))
        all_goals (go_wp2_with fail; go_meet; exact ⟨rfl, _, rfl, f1, rs, r4, r5, r6⟩)
      case rest =>
      clear s0 s1 s2 s3 t0 t1 t2 t3 rs r4 r5 r6 f1 hI gA gB h1
      obtain ⟨rfl, g, rfl, f1, rs, r4, r5, r6⟩ := hcut
      obtain ⟨s0, s1, s2, s3⟩ := row4 rs
      obtain ⟨c0, c1, c2, c3⟩ := row4 r6
      go_wp2_with fail
      go_quiet (fail)
      replace rs := rs.keep (fr_drewN _ nq) (fun h => h)
      replace r4 := r4.keep (fr_drewN _ nq) (fun h => h)
      replace r5 := r5.keep (fr_drewN _ nq) (fun h => h)
      replace r6 := r6.keep (fr_drewN _ nq) (fun h => h)
      replace f1 := f1.trans (fr_drewN _ nq)
      clear s0 s1 s2 s3 c0 c1 c2 c3
      (go_wp2_with fail)
      refine (fault_any _ _ _ _ _ _ _ rs).mono ?_
      rintro e w3 ⟨rfl, f3⟩
      replace r4 := r4.keep f3 (fun h => h)
      replace r5 := r5.keep f3 (fun h => h)
      replace f1 := f1.trans f3
      clear f3 rs r6
      obtain ⟨d0, d1, d2, d3⟩ := row4 r4
      obtain ⟨e0, e1, e2, e3, e4⟩ := cells5 r5
      obtain ⟨z0, z1, z2, z3⟩ := frozen4 r4
      obtain ⟨y0, y1, y2, y3, y4⟩ := frozen5 r5
      (go_wp2_with fail)
      refine bodyPost_ret (ret_ef rfl rfl ((r4.put4 _ _ _ _).past5 (by omega) _ _ _ _ _) rfl rfl ((r5.past4 (by omega) _ _ _ _).put5 _ _ _ _ _) rfl) rfl ?_
      exact ⟨rfl, (f1.put4 (Or.inl (Nat.le_refl _)) _ _ _ _).put5 (Or.inl (by omega)) _ _ _ _ _⟩
  | true =>
    have he := de_ok hv
    have hl : dl ((half bs T i : Nat) : Int) = false := by simpa [usable, hv] using hu
    clear hu
    go_enter Tryz.func117, Tryz.ntmps117
    go_wp2_with fail
    refine (frames_any _ _ _ _ _ h1).mono ?_
    rintro e w1 ⟨rfl, rfl⟩
    go_upto_region 3 with fail
    go_cut [6, 7] from 8 (fun s6 s7 wx => s7 = .int .i64 0 ∧ ∃ g, s6 = .pointer (some ⟨g, 0, none⟩) ∧ Fr none' w wx ∧ Row wx b #[.pointer (some ⟨p, 0, none⟩), .int .i64 st, .int .i64 1, .int .i64 page] 146 ∧ Row wx w.heap.size #[.bool false, .bool false, .int .i64 0, .int .i64 0] 71 ∧ Row wx (w.heap.size + 1) #[.int .i64 0, .int .i64 0, .int .i64 0, .bool false, .int .i64 0] 50 ∧ Row wx g #[.bool true, .bool false, .int .i64 (dr (half bs T i)), .int .i64 (df (half bs T i))] 71)
    case first =>
      go_region_held3 (fun w' => w'.cell? ⟨b, 0, none⟩ = some (.pointer (some ⟨p, 0, none⟩)) ∧ w'.cell? ⟨b, 2, none⟩ = some (.int .i64 1) ∧ w'.cell? ⟨b, 3, none⟩ = some (.int .i64 page)) (first | with_reducible exact ⟨s0, s2, s3⟩ | with_reducible exact ⟨t0, t2, t3⟩ | with_reducible exact ⟨x0, x2, x3⟩ | go_keep) (first
        | (go_at_call 157; refine (hI _).mono ?_; rintro e w1 ⟨rfl, rfl⟩)
        | (go_at_call 156; refine gA.mono ?_; rintro e w2 ⟨rfl, f2⟩; rw [hv, he, hl]; replace f2 := f2.undrew; obtain ⟨x0, x1, x2, x3⟩ := row4 (rs.keep f2 (fun h => h)); clear s0 s1 s2 s3; replace rs := (rs.keep f2 (fun h => h)).alloc (.cells #[.bool true, .bool false, .int .i64 (dr (half bs T i)), .int .i64 (df (half bs T i))] 71); replace r4 := (r4.keep f2 (fun h => h)).alloc (.cells #[.bool true, .bool false, .int .i64 (dr (half bs T i)), .int .i64 (df (half bs T i))] 71); replace r5 := (r5.keep f2 (fun h => h)).alloc (.cells #[.bool true, .bool false, .int .i64 (dr (half bs T i)), .int .i64 (df (half bs T i))] 71); replace r6 := row_alloc w2 #[.bool true, .bool false, .int .i64 (dr (half bs T i)), .int .i64 (df (half bs T i))] 71; replace f1 := (f1.trans f2).alloc (.cells #[.bool true, .bool false, .int .i64 (dr (half bs T i)), .int .i64 (df (half bs T i))] 71); clear f2 t0 t1 t2 t3; obtain ⟨t0, t1, t2, t3⟩ := row4 rs; obtain ⟨s0, s1, s2, s3⟩ := row4 ((rs).drew))
        | (go_at_call 156; refine gB.mono ?_; rintro e w2 ⟨rfl, f2⟩; rw [hv, he, hl]; replace f2 := f2.undrew; have q6 := r6.keep f2 (fun h => h); obtain ⟨y0, y1, y2, y3⟩ := row4 q6; obtain ⟨z0, z1, z2, z3⟩ := frozen4 q6; obtain ⟨x0, x1, x2, x3⟩ := row4 ((rs.alloc (.cells #[.bool false, .bool false, .int .i64 0, .int .i64 0] 71)).keep f2 (fun h => h)); replace rs := ((rs.alloc (.cells #[.bool false, .bool false, .int .i64 0, .int .i64 0] 71)).keep f2 (fun h => h)).past4 (b' := w.heap.size + 1 + 1) hb (.bool true) (.bool false) (.int .i64 (dr (half bs T i))) (.int .i64 (df (half bs T i))); replace r4 := ((r4.alloc (.cells #[.bool false, .bool false, .int .i64 0, .int .i64 0] 71)).keep f2 (fun h => h)).past4 (b' := w.heap.size + 1 + 1) (by omega) (.bool true) (.bool false) (.int .i64 (dr (half bs T i))) (.int .i64 (df (half bs T i))); replace r5 := ((r5.alloc (.cells #[.bool false, .bool false, .int .i64 0, .int .i64 0] 71)).keep f2 (fun h => h)).past4 (b' := w.heap.size + 1 + 1) (by omega) (.bool true) (.bool false) (.int .i64 (dr (half bs T i))) (.int .i64 (df (half bs T i))); replace r6 := q6.put4 (.bool true) (.bool false) (.int .i64 (dr (half bs T i))) (.int .i64 (df (half bs T i))); replace f1 := ((f1.alloc (.cells #[.bool false, .bool false, .int .i64 0, .int .i64 0] 71)).trans f2).put4 (b := w.heap.size + 1 + 1) (Or.inl (by omega)) (.bool true) (.bool false) (.int .i64 (dr (half bs T i))) (.int .i64 (df (half bs T i))); clear f2 q6 s0 s1 s2 s3 t0 t1 t2 t3; unfold put4 at rs; obtain ⟨s0, s1, s2, s3⟩ := row4 rs; obtain ⟨t0, t1, t2, t3⟩ := row4 rs))
      all_goals (go_wp2_with fail; go_meet; exact ⟨rfl, _, rfl, f1, rs, r4, r5, r6⟩)
    case rest =>
    clear s0 s1 s2 s3 t0 t1 t2 t3 rs r4 r5 r6 f1 hI gA gB h1
    obtain ⟨rfl, g, rfl, f1, rs, r4, r5, r6⟩ := hcut
    obtain ⟨s0, s1, s2, s3⟩ := row4 rs
    obtain ⟨c0, c1, c2, c3⟩ := row4 r6
    go_wp2_with fail
    go_quiet (fail)
    replace rs := rs.keep (fr_drewN _ nq) (fun h => h)
    replace r4 := r4.keep (fr_drewN _ nq) (fun h => h)
    replace r5 := r5.keep (fr_drewN _ nq) (fun h => h)
    replace r6 := r6.keep (fr_drewN _ nq) (fun h => h)
    replace f1 := f1.trans (fr_drewN _ nq)
    clear s0 s1 s2 s3 c0 c1 c2 c3
    (go_wp2_with fail)
    refine (fault_any _ _ _ _ _ _ _ rs).mono ?_
    rintro e w3 ⟨rfl, f3⟩
    replace r4 := r4.keep f3 (fun h => h)
    replace r5 := r5.keep f3 (fun h => h)
    replace f1 := f1.trans f3
    clear f3 rs r6
    obtain ⟨d0, d1, d2, d3⟩ := row4 r4
    obtain ⟨e0, e1, e2, e3, e4⟩ := cells5 r5
    obtain ⟨z0, z1, z2, z3⟩ := frozen4 r4
    obtain ⟨y0, y1, y2, y3, y4⟩ := frozen5 r5
    (go_wp2_with fail)
    refine bodyPost_ret (ret_ef rfl rfl ((r4.put4 _ _ _ _).past5 (by omega) _ _ _ _ _) rfl rfl ((r5.past4 (by omega) _ _ _ _).put5 _ _ _ _ _) rfl) rfl ?_
    exact ⟨rfl, (f1.put4 (Or.inl (Nat.le_refl _)) _ _ _ _).put5 (Or.inl (by omega)) _ _ _ _ _⟩

set_option maxHeartbeats 2000000 in
theorem entry_ok1 (w : World) (b p bf nf : Nat) (bs : List UInt8) (T i : Nat) (st page : Int) (h : IsRam w p bf nf bs) (hS : IsState w b p st 1 page) (ht : T < nf) (hi : idxOf page 1 = (i : Int)) (hi' : i < 32) (hu : usable ((half bs T i : Nat) : Int) 1 = true) :
    Calls Tryz.prog 117 #[.pointer (some ⟨b, 0, none⟩), .int .i64 (T : Int)] w fun e w' => e = .returned (.tuple #[.agg #[.bool true, .bool (decide ((1 : Int) = 1)), .int .i64 (dr (half bs T i)), .int .i64 (df (half bs T i))], .agg #[.int .i64 0, .int .i64 0, .int .i64 0, .bool false, .int .i64 0]]) ∧ Fr none' w w' := by
  have g0 : decide ((T : Int) < 0) = false := decide_eq_false (by omega)
  have g1 : decide ((nf : Int) ≤ (T : Int)) = false := decide_eq_false (by omega)
  have hS0 : Row w b _ _ := hS
  have hb : b ≠ w.heap.size + 1 + 1 := by have := hS0.lt; omega
  have rs := (hS0.alloc (.cells #[.bool false, .bool false, .int .i64 0, .int .i64 0] 71)).alloc (.cells #[.int .i64 0, .int .i64 0, .int .i64 0, .bool false, .int .i64 0] 50)
  have h1 := (h.alloc (.cells #[.bool false, .bool false, .int .i64 0, .int .i64 0] 71)).alloc (.cells #[.int .i64 0, .int .i64 0, .int .i64 0, .bool false, .int .i64 0] 50)
  have r4 := (row_alloc w #[.bool false, .bool false, .int .i64 0, .int .i64 0] 71).alloc (.cells #[.int .i64 0, .int .i64 0, .int .i64 0, .bool false, .int .i64 0] 50)
  have r5 := row_alloc2 w (.cells #[.bool false, .bool false, .int .i64 0, .int .i64 0] 71) #[.int .i64 0, .int .i64 0, .int .i64 0, .bool false, .int .i64 0] 50
  have r6 := row_alloc3 w (.cells #[.bool false, .bool false, .int .i64 0, .int .i64 0] 71) (.cells #[.int .i64 0, .int .i64 0, .int .i64 0, .bool false, .int .i64 0] 50) #[.bool false, .bool false, .int .i64 0, .int .i64 0] 71
  have f1 := ((Fr.refl none' w).alloc (.cells #[.bool false, .bool false, .int .i64 0, .int .i64 0] 71)).alloc (.cells #[.int .i64 0, .int .i64 0, .int .i64 0, .bool false, .int .i64 0] 50)
  obtain ⟨s0, s1, s2, s3⟩ := row4 rs
  obtain ⟨t0, t1, t2, t3⟩ := row4 (rs.alloc (.cells #[.bool false, .bool false, .int .i64 0, .int .i64 0] 71))
  have hI := fun w0 => index_any page 1 w0
  rw [hi] at hI
  have gA := get_ok _ _ _ _ _ _ _ (IsRam.drew h1) ht hi'
  have gB := get_ok _ _ _ _ _ _ _ ((IsRam.alloc h1 (.cells #[.bool false, .bool false, .int .i64 0, .int .i64 0] 71)).drew) ht hi'
  clear h hS hS0
  obtain ⟨hv, hl⟩ : dv ((half bs T i : Nat) : Int) = true ∧ dl ((half bs T i : Nat) : Int) = true := by simpa [usable] using hu
  have he := de_ok hv
  clear hu
  go_enter Tryz.func117, Tryz.ntmps117
  go_wp2_with fail
  refine (frames_any _ _ _ _ _ h1).mono ?_
  rintro e w1 ⟨rfl, rfl⟩
  go_upto_region 3 with fail
  go_cut [6, 7] from 8 (fun s6 s7 wx => s7 = .int .i64 0 ∧ ∃ g, s6 = .pointer (some ⟨g, 0, none⟩) ∧ Fr none' w wx ∧ Row wx b #[.pointer (some ⟨p, 0, none⟩), .int .i64 st, .int .i64 1, .int .i64 page] 146 ∧ Row wx w.heap.size #[.bool false, .bool false, .int .i64 0, .int .i64 0] 71 ∧ Row wx (w.heap.size + 1) #[.int .i64 0, .int .i64 0, .int .i64 0, .bool false, .int .i64 0] 50 ∧ Row wx g #[.bool true, .bool true, .int .i64 (dr (half bs T i)), .int .i64 (df (half bs T i))] 71)
  case first =>
    go_region_held3 (fun w' => w'.cell? ⟨b, 0, none⟩ = some (.pointer (some ⟨p, 0, none⟩)) ∧ w'.cell? ⟨b, 2, none⟩ = some (.int .i64 1) ∧ w'.cell? ⟨b, 3, none⟩ = some (.int .i64 page)) (first | with_reducible exact ⟨s0, s2, s3⟩ | with_reducible exact ⟨t0, t2, t3⟩ | with_reducible exact ⟨x0, x2, x3⟩ | go_keep) (first
      | (go_at_call 157; refine (hI _).mono ?_; rintro e w1 ⟨rfl, rfl⟩)
      | (go_at_call 156; refine gA.mono ?_; rintro e w2 ⟨rfl, f2⟩; rw [hv, he, hl]; replace f2 := f2.undrew; obtain ⟨x0, x1, x2, x3⟩ := row4 (rs.keep f2 (fun h => h)); clear s0 s1 s2 s3; replace rs := (rs.keep f2 (fun h => h)).alloc (.cells #[.bool true, .bool true, .int .i64 (dr (half bs T i)), .int .i64 (df (half bs T i))] 71); replace r4 := (r4.keep f2 (fun h => h)).alloc (.cells #[.bool true, .bool true, .int .i64 (dr (half bs T i)), .int .i64 (df (half bs T i))] 71); replace r5 := (r5.keep f2 (fun h => h)).alloc (.cells #[.bool true, .bool true, .int .i64 (dr (half bs T i)), .int .i64 (df (half bs T i))] 71); replace r6 := row_alloc w2 #[.bool true, .bool true, .int .i64 (dr (half bs T i)), .int .i64 (df (half bs T i))] 71; replace f1 := (f1.trans f2).alloc (.cells #[.bool true, .bool true, .int .i64 (dr (half bs T i)), .int .i64 (df (half bs T i))] 71); clear f2 t0 t1 t2 t3; obtain ⟨t0, t1, t2, t3⟩ := row4 rs; obtain ⟨s0, s1, s2, s3⟩ := row4 ((rs).drew))
      | (go_at_call 156; refine gB.mono ?_; rintro e w2 ⟨rfl, f2⟩; rw [hv, he, hl]; replace f2 := f2.undrew; have q6 := r6.keep f2 (fun h => h); obtain ⟨y0, y1, y2, y3⟩ := row4 q6; obtain ⟨z0, z1, z2, z3⟩ := frozen4 q6; obtain ⟨x0, x1, x2, x3⟩ := row4 ((rs.alloc (.cells #[.bool false, .bool false, .int .i64 0, .int .i64 0] 71)).keep f2 (fun h => h)); replace rs := ((rs.alloc (.cells #[.bool false, .bool false, .int .i64 0, .int .i64 0] 71)).keep f2 (fun h => h)).past4 (b' := w.heap.size + 1 + 1) hb (.bool true) (.bool true) (.int .i64 (dr (half bs T i))) (.int .i64 (df (half bs T i))); replace r4 := ((r4.alloc (.cells #[.bool false, .bool false, .int .i64 0, .int .i64 0] 71)).keep f2 (fun h => h)).past4 (b' := w.heap.size + 1 + 1) (by omega) (.bool true) (.bool true) (.int .i64 (dr (half bs T i))) (.int .i64 (df (half bs T i))); replace r5 := ((r5.alloc (.cells #[.bool false, .bool false, .int .i64 0, .int .i64 0] 71)).keep f2 (fun h => h)).past4 (b' := w.heap.size + 1 + 1) (by omega) (.bool true) (.bool true) (.int .i64 (dr (half bs T i))) (.int .i64 (df (half bs T i))); replace r6 := q6.put4 (.bool true) (.bool true) (.int .i64 (dr (half bs T i))) (.int .i64 (df (half bs T i))); replace f1 := ((f1.alloc (.cells #[.bool false, .bool false, .int .i64 0, .int .i64 0] 71)).trans f2).put4 (b := w.heap.size + 1 + 1) (Or.inl (by omega)) (.bool true) (.bool true) (.int .i64 (dr (half bs T i))) (.int .i64 (df (half bs T i))); clear f2 q6 s0 s1 s2 s3 t0 t1 t2 t3; unfold put4 at rs; obtain ⟨s0, s1, s2, s3⟩ := row4 rs; obtain ⟨t0, t1, t2, t3⟩ := row4 rs))
    all_goals (go_wp2_with fail; go_meet; exact ⟨rfl, _, rfl, f1, rs, r4, r5, r6⟩)
  case rest =>
  clear s0 s1 s2 s3 t0 t1 t2 t3 rs r4 r5 r6 f1 hI gA gB h1
  obtain ⟨rfl, g, rfl, f1, rs, r4, r5, r6⟩ := hcut
  obtain ⟨s0, s1, s2, s3⟩ := row4 rs
  obtain ⟨c0, c1, c2, c3⟩ := row4 r6
  go_wp2_with fail
  go_quiet (fail)
  replace rs := rs.keep (fr_drewN _ nq) (fun h => h)
  replace r4 := r4.keep (fr_drewN _ nq) (fun h => h)
  replace r5 := r5.keep (fr_drewN _ nq) (fun h => h)
  replace r6 := r6.keep (fr_drewN _ nq) (fun h => h)
  replace f1 := f1.trans (fr_drewN _ nq)
  clear s0 s1 s2 s3 c0 c1 c2 c3
  obtain ⟨c0, c1, c2, c3⟩ := row4 r6
  obtain ⟨d0, d1, d2, d3⟩ := row4 r4
  obtain ⟨e0, e1, e2, e3, e4⟩ := cells5 r5
  obtain ⟨z0, z1, z2, z3⟩ := frozen4 r4
  obtain ⟨y0, y1, y2, y3, y4⟩ := frozen5 r5
  (go_wp2_with fail)
  refine bodyPost_ret (ret_ef rfl rfl ((r4.put4 _ _ _ _).past5 (by omega) _ _ _ _ _) rfl rfl ((r5.past4 (by omega) _ _ _ _).put5 _ _ _ _ _) rfl) rfl ?_
  exact ⟨rfl, (f1.put4 (Or.inl (Nat.le_refl _)) _ _ _ _).put5 (Or.inl (by omega)) _ _ _ _ _⟩

theorem entry_bad (w : World) (b p bf nf : Nat) (bs : List UInt8) (t st page lvl : Int) (h : IsRam w p bf nf bs) (hS : IsState w b p st lvl page) (hp : isP page = true) (hl : lvl = 0 ∨ lvl = 1) (hk : entK bs nf t page lvl ≠ 0) :
    Calls Tryz.prog 117 #[.pointer (some ⟨b, 0, none⟩), .int .i64 t] w fun e w' => e = .returned (.tuple #[.agg #[.bool false, .bool false, .int .i64 0, .int .i64 0], .agg #[.int .i64 (entK bs nf t page lvl), .int .i64 st, .int .i64 lvl, .bool false, .int .i64 page]]) ∧ Fr none' w w' := by
  rcases entK_cases bs nf t page lvl with ⟨e, ho⟩ | ⟨e, _⟩ | ⟨e, ho, hu⟩
  · rw [e]
    by_cases h0 : t < 0
    · exact entry_low w b p bf nf bs t st lvl page h hS h0
    · exact entry_high w b p bf nf bs t st lvl page h hS (by omega) (by omega)
  · exact absurd e hk
  · rw [e]
    obtain ⟨T, rfl⟩ := Int.eq_ofNat_of_zero_le (show 0 ≤ t by omega)
    obtain ⟨i, hi, hi'⟩ := idx_small hp hl
    rw [ew_half hi] at hu
    rcases hl with rfl | rfl
    · exact entry_miss0 w b p bf nf bs T i st page h hS (by omega) hi hi' hu
    · exact entry_miss1 w b p bf nf bs T i st page h hS (by omega) hi hi' hu

theorem entry_ok (w : World) (b p bf nf : Nat) (bs : List UInt8) (t st page lvl : Int) (h : IsRam w p bf nf bs) (hS : IsState w b p st lvl page) (hp : isP page = true) (hl : lvl = 0 ∨ lvl = 1) (hk : entK bs nf t page lvl = 0) :
    Calls Tryz.prog 117 #[.pointer (some ⟨b, 0, none⟩), .int .i64 t] w fun e w' => e = .returned (.tuple #[.agg #[.bool true, .bool (decide (lvl = 1)), .int .i64 (dr (ew bs t page lvl)), .int .i64 (df (ew bs t page lvl))], .agg #[.int .i64 0, .int .i64 0, .int .i64 0, .bool false, .int .i64 0]]) ∧ Fr none' w w' := by
  rcases entK_cases bs nf t page lvl with ⟨e, ho⟩ | ⟨e, ho, hu⟩ | ⟨e, ho, hu⟩
  · rw [e] at hk; exact absurd hk (by decide)
  · obtain ⟨T, rfl⟩ := Int.eq_ofNat_of_zero_le (show 0 ≤ t by omega)
    obtain ⟨i, hi, hi'⟩ := idx_small hp hl
    rw [ew_half hi] at hu ⊢
    rcases hl with rfl | rfl
    · exact entry_ok0 w b p bf nf bs T i st page h hS (by omega) hi hi' hu
    · exact entry_ok1 w b p bf nf bs T i st page h hS (by omega) hi hi' hu
  · rw [e] at hk; exact absurd hk (by decide)

end Go.Proofs.YtgnoakidjnilpaaGreat
