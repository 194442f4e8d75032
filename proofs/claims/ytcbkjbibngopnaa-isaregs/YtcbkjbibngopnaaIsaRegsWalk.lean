/-
  The walk of the law IsaRegs: for every input the law returns true and nothing old turns.
-/
import Derived.Test.YtcbkjbibngopnaaIsaInts
namespace Go.Proofs.Ytcbkjbibngopnaa
open Go.RowKit

set_option maxHeartbeats 3200000 in
set_option maxRecDepth 100000 in
theorem regs_fr (o a b c i : Int) (w : World) :
    Calls Try.prog 4 #[.agg #[.int .i64 o, .int .i64 a, .int .i64 b, .int .i64 c, .int .i64 i]] w fun e w' => e = .returned (.bool true) ∧ Fr none' w w' := by
  have f0 := (Fr.refl none' w).alloc (.cells (ibox o a b c i) 23)
  have r0 := row_alloc w (ibox o a b c i) 23
  unfold ibox at f0
  have A1 := reads_any o a b c i
  have A2 := rreads_any o a b c i
  have A3 := writes_any o a b c i
  have A4 := rwrites_any o a b c i
  generalize writesI o a b c i = v1 at *
  have tv1 : (v1 == v1) = true := by simp
  go_enter Try.func4, Try.ntmps4
  go_wp2_with fail
  refine (awake_any _).mono ?_
  rintro e x1 ⟨rfl, f1⟩
  replace r0 := r0.keep f1 (fun h => h)
  replace f0 := f0.trans f1
  clear f1
  obtain ⟨r0c0, r0c1, r0c2, r0c3, r0c4⟩ := ibox_cells r0
  go_wp2_with fail
  refine (A1 _).mono ?_
  rintro e y1 ⟨l1, rfl, f1, o1⟩
  have fA := f0.size
  replace o1 := o1.mono fA
  have b1 : some w.heap.size ≠ l1.ownBlock := o1.apart (r0.keep f1 (fun h => h)) (by decide)
  replace r0 := r0.keep f1 (fun h => h)
  replace f0 := f0.trans f1
  clear f1 r0c0 r0c1 r0c2 r0c3 r0c4 fA
  obtain ⟨r0c0, r0c1, r0c2, r0c3, r0c4⟩ := ibox_cells r0
  go_wp2_with fail
  refine (A2 _).mono ?_
  rintro e y2 ⟨l2, rfl, f1, o2⟩
  have ap : ∀ k, some k = l1.ownBlock → some k ≠ l2.ownBlock := fun k h1 h2 => by
    have := o2.high k h2
    obtain ⟨⟨_, h | ⟨g, cap, cur, hv, hb, hg, _⟩⟩, _⟩ := o1
    · rw [h.1] at h1; simp [Value.ownBlock] at h1
    · rw [hv] at h1
      have e : k = g := by simpa [Value.ownBlock] using h1
      subst e
      have := Row.lt (show Row y1 k cur 3 from hg)
      omega
  have fA := f0.size
  replace o1 := o1.keep0 f1
  replace o2 := o2.mono fA
  replace r0 := r0.keep f1 (fun h => h)
  replace f0 := f0.trans f1
  clear f1 r0c0 r0c1 r0c2 r0c3 r0c4 fA
  obtain ⟨r0c0, r0c1, r0c2, r0c3, r0c4⟩ := ibox_cells r0
  go_wp2_with fail
  refine (A3 _).mono ?_
  rintro e x2 ⟨rfl, f1⟩
  replace r0 := r0.keep f1 (fun h => h)
  replace o1 := o1.keep0 f1
  replace o2 := o2.keep0 f1
  replace f0 := f0.trans f1
  clear f1
  clear r0c0 r0c1 r0c2 r0c3 r0c4
  obtain ⟨r0c0, r0c1, r0c2, r0c3, r0c4⟩ := ibox_cells r0
  go_wp2_with fail
  refine (A4 _).mono ?_
  rintro e x3 ⟨rfl, f1⟩
  replace r0 := r0.keep f1 (fun h => h)
  replace o1 := o1.keep0 f1
  replace o2 := o2.keep0 f1
  replace f0 := f0.trans f1
  clear f1
  clear r0c0 r0c1 r0c2 r0c3 r0c4
  obtain ⟨r0c0, r0c1, r0c2, r0c3, r0c4⟩ := ibox_cells r0
  have AP : Hid (∀ k, some k = l1.ownBlock → some k ≠ l2.ownBlock) := ap
  clear ap
  go_wp2_with fail
  refine (ints_any _ _ _ _ _ _ _ _ _ _ o1 o2).mono ?_
  rintro e x4 ⟨rfl, f1⟩
  replace r0 := r0.keep f1 (fun h => h)
  replace o1 := o1.keep0 f1
  replace o2 := o2.keep0 f1
  replace f0 := f0.trans f1
  clear f1
  clear r0c0 r0c1 r0c2 r0c3 r0c4
  go_wp2_with fail
  have HB : Hid (some w.heap.size ≠ l1.ownBlock) := b1
  have O2 : Hid (OwnI x4 w.heap.size l2 (readsI o a b c i)) := o2
  have R0 : Hid (Row x4 w.heap.size (ibox o a b c i) 23) := r0
  have key : ∃ (n : Nat), n < 3 ∧ ((n = 0 ∧ l1 = .slice none 0 0) ∨ (0 < n ∧ ∃ g cap cur, l1 = .slice (some ⟨g, 0, none⟩) n cap ∧ w.heap.size ≤ g ∧ Row x4 g cur 3 ∧ n ≤ cur.size)) := by
    rcases reads_cases o a b c i with e | ⟨x, _, _, e⟩ | ⟨x, y, _, _, _, e⟩
    · rw [e] at o1; exact ⟨0, by omega, Or.inl ⟨rfl, o1.2 rfl⟩⟩
    · rw [e] at o1
      obtain ⟨g, cap, cur, hv, hb, r, hc, _, hs, _⟩ := o1.row (by simp)
      exact ⟨1, by omega, Or.inr ⟨by omega, g, cap, cur, hv, hb, r, by simp at hc; omega⟩⟩
    · rw [e] at o1
      obtain ⟨g, cap, cur, hv, hb, r, hc, _, hs, _⟩ := o1.row (by simp)
      exact ⟨2, by omega, Or.inr ⟨by omega, g, cap, cur, hv, hb, r, by simp at hc; omega⟩⟩
  clear b1 o1 o2 r0
  obtain ⟨n, hn, hl⟩ := key
  rcases hl with ⟨rfl, rfl⟩ | ⟨hn0, g, cap, cur, rfl, hg, hr, hs⟩
  · refine wp_loop_rounds 1 ?_
    rw [rounds_succ]
    obtain ⟨r0c0, r0c1, r0c2, r0c3, r0c4⟩ := ibox_cells R0.out
    go_wp2_with fail
    refine (A1 _).mono ?_
    rintro e z1 ⟨l3, rfl, f1, o3⟩
    have fA := f0.size
    replace o3 := o3.mono fA
    have o2 := O2.out.keep0 f1
    replace f0 := f0.trans f1
    clear f1 r0c0 r0c1 r0c2 r0c3 r0c4 fA
    go_wp2_with fail
    refine (ints_any _ _ _ _ _ _ _ _ _ _ o3 o2).mono ?_
    rintro e z2 ⟨rfl, f1⟩
    replace f0 := f0.trans f1
    clear f1
    go_wp2_with fail
    go_ret
    exact ⟨rfl, f0⟩
  · have HS : Hid (n ≤ cur.size ∧ w.heap.size ≤ g ∧ n < 3 ∧ 0 < n) := ⟨hs, hg, hn, hn0⟩
    have HR : Hid (Row x4 g cur 3) := hr
    clear hs hg hn hn0 hr
    go_loopw [9] (fun q wr => ∃ m : Nat, m ≤ n ∧ q = .int .i64 m ∧ Fr none' w wr ∧ OwnI wr w.heap.size l2 (readsI o a b c i) ∧ Row wr w.heap.size (ibox o a b c i) 23 ∧ ∃ cu, cu.size = cur.size ∧ Row wr g cu 3) (fun q _ => n - (intOf q).toNat)
    case atStart => exact ⟨0, Nat.zero_le _, rfl, f0, O2.out, R0.out, cur, rfl, HR.out⟩
    case round =>
      clear f0 O2 R0 HR
      obtain ⟨m, hm, rfl, f0, o2, r0, cu, hcu, rg⟩ := hrel
      by_cases hlt : m < n
      · have y1 : 0 ≤ (m : Int) ∧ (m : Int) < (n : Int) := by omega
        have y2 : decide ((m : Int) < (n : Int)) = true := by simp; omega
        obtain ⟨cq, cg⟩ : ∃ q, wr.cell? ⟨g, m, none⟩ = some q := ⟨_, (rg.cell m).trans (Array.getElem?_eq_getElem (by have := HS.out; omega))⟩
        have kg := rg.frozen m
        have y3 : (m : Int) < 3 := by have := HS.out; omega
        have F : Hid (Fr none' w (wr.setCell ⟨g, m, none⟩ (.int .i64 (-5)))) := f0.setCell (p := ⟨g, m, none⟩) (Or.inl HS.out.2.1) _
        have O : Hid (OwnI (wr.setCell ⟨g, m, none⟩ (.int .i64 (-5))) w.heap.size l2 (readsI o a b c i)) := o2.keep ((Fr.refl (at' g) wr).setCell (p := ⟨g, m, none⟩) (Or.inr rfl) _) (fun k h1 h2 => AP.out k (by rw [show k = g from h2]; rfl) h1)
        have R : Hid (Row (wr.setCell ⟨g, m, none⟩ (.int .i64 (-5))) w.heap.size (ibox o a b c i) 23) := r0.setCell_other (by intro h; exact HB.out (by rw [show w.heap.size = g from h.symm]; rfl)) _
        have G : Hid (∃ cu, cu.size = cur.size ∧ Row (wr.setCell ⟨g, m, none⟩ (.int .i64 (-5))) g cu 3) := ⟨_, by simpa using hcu, rg.setCell m _⟩
        have HM : Hid (m < n) := hlt
        clear f0 o2 r0 rg hcu hm hlt
        go_wp2_with fail
        go_roundw
        case rel => exact ⟨m + 1, by have := HM.out; omega, by go_num, F.out, O.out, R.out, G.out⟩
        case measure => have := HM.out; simp [intOf]; omega
      · obtain rfl : m = n := by omega
        have y2 : decide ((m : Int) < (m : Int)) = false := by simp
        have O2 : Hid (OwnI wr w.heap.size l2 (readsI o a b c i)) := o2
        obtain ⟨r0c0, r0c1, r0c2, r0c3, r0c4⟩ := ibox_cells r0
        clear o2 rg hcu hm hlt
        go_wp2_with fail
        refine (A1 _).mono ?_
        rintro e z1 ⟨l3, rfl, f1, o3⟩
        have fA := f0.size
        replace o3 := o3.mono fA
        have o2 := O2.out.keep0 f1
        replace f0 := f0.trans f1
        clear f1 r0c0 r0c1 r0c2 r0c3 r0c4 fA
        go_wp2_with fail
        refine (ints_any _ _ _ _ _ _ _ _ _ _ o3 o2).mono ?_
        rintro e z2 ⟨rfl, f1⟩
        replace f0 := f0.trans f1
        clear f1
        go_wp2_with fail
        go_ret
        exact ⟨rfl, f0⟩

theorem regs_any (o a b c i : Int) (w : World) :
    Calls Try.prog 4 #[.agg #[.int .i64 o, .int .i64 a, .int .i64 b, .int .i64 c, .int .i64 i]] w fun e w' => e = .returned (.bool true) ∧ Below w.heap.size w w' :=
  (regs_fr o a b c i w).mono fun _ _ ⟨he, hf⟩ => ⟨he, hf.below (Nat.le_refl _) (fun _ h => h.elim)⟩

end Go.Proofs.Ytcbkjbibngopnaa
