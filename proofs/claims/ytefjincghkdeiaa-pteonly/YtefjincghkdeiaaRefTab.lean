/-
  The contract of the document's All (package viceroyref02) over the translation, said of the memory's bytes: a table read whole. No statement is proved here.
-/
import Derived.Test.YtefjincghkdeiaaRefMem
namespace Go.Proofs.Ytefjincghkdeiaa
open Go.RowKit

theorem ownsRow_keep {w w' : World} {base size n : Nat} {e : TypeId} {v : Value} {xs : List Value} (h : w.ownsRow base e size v n xs) (f : Fr none' w w') : w'.ownsRow base e size v n xs := by
  obtain ⟨hl, h | ⟨g, cap, cur, hv, hb, hg, hc, hm, hs, ht⟩⟩ := h
  · exact ⟨hl, Or.inl h⟩
  · exact ⟨hl, Or.inr ⟨g, cap, cur, hv, hb, (show Row w' g cur e from Row.keep (show Row w g cur e from hg) f (fun h => h)), hc, hm, hs, ht⟩⟩

theorem own_high {w : World} {base size n : Nat} {e : TypeId} {v : Value} {xs : List Value} (h : w.ownsRow base e size v n xs) (k : Nat) (hk : some k = v.ownBlock) : base ≤ k := by
  obtain ⟨_, h | ⟨g, cap, cur, hv, hb, _⟩⟩ := h
  · rw [h.1] at hk; simp [Value.ownBlock] at hk
  · rw [hv] at hk; simp [Value.ownBlock] at hk; omega

/-- One entry more. -/
theorem append_ent (w w0 : World) (a : Addr) (v : Value) (k : Nat) (L : List Value) (x : Nat → Int) (hb : w0.heap.size ≤ w.heap.size) (ho : w.ownsRow w0.heap.size 23 4 v k L) (hL : IsEnts (fun j => L[j]?) k x) (hk : k < 32)
    (c0 : w.cell? (a.add 0) = some (.bool (dv (x k)))) (c1 : w.cell? (a.add 1) = some (.bool (dl (x k)))) (c2 : w.cell? (a.add 2) = some (.int .i64 (dr (x k)))) (c3 : w.cell? (a.add 3) = some (.int .i64 (df (x k)))) (f0 : Fr none' w0 w) :
    ∃ v' w', (Builtin.append_ #[52, 52] 52 #[v, .slice (some a) 1 1]).run Try.prog w = .ok v' w' ∧ Fr none' w0 w' ∧ ∃ L', w'.ownsRow w0.heap.size 23 4 v' (k + 1) L' ∧ IsEnts (fun j => L'[j]?) (k + 1) x := by
  have hi := info_ent
  cases hq : Try.prog.info? 23 with
  | none => simp [hq] at hi
  | some i =>
    rw [hq] at hi
    simp only [Option.map_some, Option.some.injEq, Prod.mk.injEq] at hi
    obtain ⟨hz, hby, hs⟩ := hi
    obtain ⟨v', w', h1, h2, h3, _⟩ := run_append_own (P := Try.prog) w w0.heap.size 52 52 23 i _ 4 24 Try.underlying52 hq hz hs hby rfl (by omega) v k L ho a 1 1 [.bool (dv (x k)), .bool (dl (x k)), .int .i64 (dr (x k)), .int .i64 (df (x k))] rfl
      (fun j u hu => by
        match j, hu with
        | 0, hu => simp at hu; rw [c0, hu]
        | 1, hu => simp at hu; rw [c1, hu]
        | 2, hu => simp at hu; rw [c2, hu]
        | 3, hu => simp at hu; rw [c3, hu]
        | j + 4, hu => simp at hu)
      (fun u hu => by simp at hu; rcases hu with rfl | rfl | rfl | rfl <;> simp [Value.oneCell'])
      (by simp only [maxLen]; omega) (by omega) hb
    have hlen := ho.1
    refine ⟨v', w', h1, ?_, _, h2, fun j hj => ?_⟩
    · have g := fr_of_grown h3
      exact ⟨g.os.trans f0.os, g.tape.trans f0.tape, g.output.trans f0.output, Nat.le_trans f0.size g.size, fun q hq' hn => (g.block q (Nat.lt_of_lt_of_le hq' f0.size) (fun e => by have := own_high ho q e; omega)).trans (f0.block q hq' hn)⟩
    · by_cases hjk : j = k
      · subst hjk
        simp [hlen]
      · obtain ⟨g0, g1, g2, g3⟩ := hL j (by omega)
        have b0 : j * 4 < L.length := by omega
        have b1 : j * 4 + 1 < L.length := by omega
        have b2 : j * 4 + 2 < L.length := by omega
        have b3 : j * 4 + 3 < L.length := by omega
        simp only [List.getElem?_append, b0, b1, b2, b3, if_true]
        exact ⟨g0, g1, g2, g3⟩

theorem own_ents {w : World} {base k : Nat} {v : Value} {L : List Value} {x : Nat → Int} (hk : 0 < k) (h : w.ownsRow base 23 4 v k L) (hL : IsEnts (fun j => L[j]?) k x) :
    ∃ g cap, v = .slice (some ⟨g, 0, none⟩) k cap ∧ base ≤ g ∧ EntRow w g cap k x := by
  obtain ⟨hl, h | ⟨g, cap, cur, hv, hb, hg, hc, hm, hs, ht⟩⟩ := h
  · omega
  · refine ⟨g, cap, hv, hb, cur, hg, hs, fun j hj => ?_⟩
    have key : ∀ i u, L[i]? = some u → cur[i]? = some u := fun i u hu => by
      rw [← ht, List.getElem?_take] at hu
      split at hu
      · simpa using hu
      · simp at hu
    obtain ⟨g0, g1, g2, g3⟩ := hL j hj
    exact ⟨key _ _ g0, key _ _ g1, key _ _ g2, key _ _ g3⟩

set_option maxRecDepth 100000 in
set_option maxHeartbeats 1000000 in
theorem rtab_in (w : World) (p bf nf : Nat) (bs : List UInt8) (t : Nat) (h : IsRef w p bf nf bs) (ht : t < nf) :
    Calls Try.prog 34 #[.pointer (some ⟨p, 0, none⟩), .int .i64 (t : Int)] w (TabIs w bs t) := by
  go_enter Try.func34, Try.ntmps34
  go_wp2_with fail
  go_loopw [6, 7] (fun l i wr => ∃ k : Nat, k ≤ 32 ∧ i = .int .i64 k ∧ Fr none' w wr ∧ (∃ L, wr.ownsRow w.heap.size 23 4 l k L ∧ IsEnts (fun j => L[j]?) k (fun j => half bs t j)) ∧ Hid (∀ j, j < k → decOk (half bs t j) = true)) (fun _ i _ => 32 - (intOf i).toNat)
  case atStart => exact ⟨0, by omega, rfl, Fr.refl _ _, ⟨[], ⟨rfl, Or.inl ⟨rfl, rfl⟩⟩, fun j hj => by omega⟩, fun j hj => by omega⟩
  case round =>
    obtain ⟨k, hk, rfl, fk, ⟨L, ho, hL⟩, HK⟩ := hrel
    by_cases hlt : k < 32
    · have hr := h.keep fk (fun h => h) (fun h => h)
      by_cases hd : decOk (half bs t k) = true
      · go_wp2_with fail
        refine (rget_good _ _ _ _ _ _ _ hr ht hlt hd).mono ?_
        rintro e w1 ⟨rfl, f1⟩
        have q1 := row_alloc (w1.alloc (.cells (ebox (dv (half bs t k)) (dl (half bs t k)) (dr (half bs t k)) (df (half bs t k))) 23)) (ebox (dv (half bs t k)) (dl (half bs t k)) (dr (half bs t k)) (df (half bs t k))) 23
        rw [show (w1.alloc (.cells (ebox (dv (half bs t k)) (dl (half bs t k)) (dr (half bs t k)) (df (half bs t k))) 23)).heap.size = w1.heap.size + 1 by simp] at q1
        obtain ⟨c0, c1, c2, c3⟩ := ebox_cells q1
        have f2 := ((Fr.refl none' w1).alloc (.cells (ebox (dv (half bs t k)) (dl (half bs t k)) (dr (half bs t k)) (df (half bs t k))) 23)).alloc (.cells (ebox (dv (half bs t k)) (dl (half bs t k)) (dr (half bs t k)) (df (half bs t k))) 23)
        have o2 := ownsRow_keep ho (f1.trans f2)
        replace f2 := (fk.trans f1).trans f2
        obtain ⟨l', w2, hrun, f3, L', o3, hL'⟩ := append_ent _ w ⟨w1.heap.size + 1, 0, none⟩ u6 k L (fun j => half bs t j) f2.size o2 hL hlt (by rw [add_lit']; exact c0) (by rw [add_lit']; exact c1) (by rw [add_lit']; exact c2) (by rw [add_lit']; exact c3) f2
        unfold ebox at hrun
        have HR : Hid (_ = _) := hrun
        have HO : Hid (w2.ownsRow w.heap.size 23 4 l' (k + 1) L') := o3
        clear hrun q1 c0 c1 c2 c3 f2 o2 ho hL f1 fk hr o3
        go_wp2_with (at_builtin; refine wpList_append_run rfl _ _ _ rfl _ _ rfl rfl _ _ HR ?_)
        go_roundw
        case rel => exact ⟨k + 1, by omega, by go_num, f3, ⟨L', HO, hL'⟩, fun j hj => by
          rcases Nat.lt_or_ge j k with h' | h'
          · exact HK.out j h'
          · obtain rfl : j = k := by omega
            exact hd⟩
        case measure => simp [intOf]; omega
      · have hd' : decOk (half bs t k) = false := by simpa using hd
        clear hd
        have HO : Hid (wr.ownsRow w.heap.size 23 4 u6 k L) := ho
        clear ho
        go_wp2_with fail
        refine (rget_worse _ _ _ _ _ _ _ hr ht hlt hd').mono ?_
        rintro e w1 ⟨rfl, f1⟩
        replace f1 := (fk.trans f1).alloc (.cells (ebox (dv (half bs t k)) (dl (half bs t k)) (dr (half bs t k)) (df (half bs t k))) 23)
        unfold ebox at f1
        clear fk hr
        go_wp2_with fail
        go_ret2
        exact ⟨f1, Or.inr ⟨⟨k, hlt, hd'⟩, rfl⟩⟩
    · obtain rfl : k = 32 := by omega
      obtain ⟨g, cap, rfl, hg, ek⟩ := own_ents (by omega) ho hL
      clear ho hL
      go_wp2_with fail
      go_ret2
      exact ⟨fk, Or.inl ⟨HK.out, _, _, rfl, hg, ek⟩⟩

end Go.Proofs.Ytefjincghkdeiaa
