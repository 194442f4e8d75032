/-
  The contract of package untyped's Regions over the translation. No statement is proved here.
-/
import Derived.Test.YtcmhndkbcfpbbaaUtRefA
import Derived.Test.YtcmhndkbcfpbbaaShelf
namespace Go.Proofs.Ytcmhndkbcfpbbaa
open Go.RowKit Go.Maps Go.WideMaps Go.Sort Go.Shelf Go.Proofs

/-- slices.Sort's two contracts here. -/
theorem sorts_here (m : Nat) : AnyZI.SortsIn Try.prog Try.sortedA_ren Fence.wide m :=
  ⟨fun blk off cap ss W hH hblk hsz => callsIn_wide.2 (AnyM.slices_Sort_int Try.sortA blk off cap ss W hH hblk hsz),
   fun p cap W => callsIn_wide.2 (AnyM.slices_Sort_int_none Try.sortA p cap W)⟩

theorem keys_call (mb : Option Nat) (W : World) : Calls Try.prog 35 #[.map mb] W fun e w' => e = .returned (.func (.func 53) #[] #[.pointer (some ⟨W.heap.size, 0, none⟩)]) ∧ w' = W.alloc (.cells #[.map mb] 64) :=
  (callsIn_wide (n := 5)).1 (AnyZI.keys_in Try.keysA Fence.wide 5 trivial rfl mb W)

theorem sorted_call (w : World) (b nn : Nat) (D0 : DataW Unit) (hown : w.ownsMap Try.prog 3 gEl b nn D0) (hs : Maps.size D0 ≤ 1024) : Calls Try.prog 34 #[.func (.func 53) #[] #[.pointer (some ⟨w.heap.size, 0, none⟩)]] (w.alloc (.cells #[.map (some b)] 64)) fun e w' => ∃ (v : Value) (ss : List Int), e = .returned v ∧ ss.Perm (intKeys D0) ∧
      w'.ownsRow (w.heap.size + 1) 3 1 v ss.length ((ss.mergeSort (fun x y => decide (x ≤ y))).map encZ) ∧ (v = .slice none 0 0 ↔ ss = []) ∧ Below (w.heap.size + 1) (w.alloc (.cells #[.map (some b)] 64)) w' := by
  have hbl := hown.lt
  have hmax : Maps.size D0 ≤ maxLen := by simp only [maxLen]; omega
  have hseq : SeqGives Fence.wide 2 Try.prog 53 #[.pointer (some ⟨w.heap.size, 0, none⟩)] encZ (fun ss => ss.Perm (intKeys D0)) (Maps.size D0) (w.alloc (.cells #[.map (some b)] 64)) :=
    AnyZI.keys_gives (ρ := Try.keysA_ren) { Try.keysA with } Fence.wide _ trivial rfl (by omega) w.heap.size b nn D0 _ (by simp) (by simp) (by
      obtain ⟨es, clock, hb, Ft, hs, hD⟩ := hown
      exact ⟨es, clock, (Below.heap_alloc _ _ b hbl).trans hb, Ft, hs, hD⟩)
  have cS := AnyZI.sorted_in Try.sortedA Fence.wide 5 trivial trivial trivial trivial rfl (by omega) (sorts_here _) (enters_of Try.func52 (by kernel_rfl) rfl) 53 #[.pointer (some ⟨w.heap.size, 0, none⟩)] trivial (enters_of Try.func53 (by kernel_rfl) rfl) _ _ hmax (by omega) _ hseq
  have cS' := (callsIn_wide (n := 5)).1 cS
  simp only [World.size_alloc] at cS'
  exact cS'

/-- The keys, sorted, are the regions' firsts. -/
theorem keys_sorted {w : World} {p : Pb} {L : List Rg} {D : DataW Unit} {nn : Nat} (g : GoodL L) (hown : w.ownsMap Try.prog 3 gEl p.m nn D) (M : Mg D nn (mapF p L)) {ss : List Int} (hp : ss.Perm (intKeys D)) : ss.mergeSort (fun x y => decide (x ≤ y)) = L.map (·.f) ∧ ss.length = L.length := by
  have srt : (L.map (·.f)).Pairwise (· < ·) := List.pairwise_map.2 g.srt
  have hc : CollectedI D (fun _ => false) (L.map (·.f)) := by
    refine ⟨srt.imp (fun h => by omega), fun x => ?_⟩
    rw [M.has]
    unfold mapF
    simp only [and_true, Option.isSome_map]
    constructor
    · intro hx
      obtain ⟨n, hn, rfl⟩ := List.mem_map.1 hx
      rw [fnd_of_mem g.srt hn]; rfl
    · intro hx
      cases hf : fnd L x with
      | none => rw [hf] at hx; cases hx
      | some n => exact List.mem_map.2 ⟨n, (fnd_mem hf).1, (fnd_mem hf).2⟩
  have hq := hc.perm hown law3 Try.underlying3 (fun _ => rfl)
  have hr := hp.trans hq.symm
  refine ⟨?_, by rw [hr.length_eq]; simp⟩
  have tr : ∀ a b c : Int, leI a b = true → leI b c = true → leI a c = true := fun a b c h1 h2 => by simp only [leI, decide_eq_true_eq] at *; exact Int.le_trans h1 h2
  have tot : ∀ a b : Int, (leI a b || leI b a) = true := fun a b => by simp only [leI, Bool.or_eq_true, decide_eq_true_eq]; exact Int.le_total a b
  refine List.Perm.eq_of_pairwise (le := fun a b => leI a b = true) (fun a b _ _ h1 h2 => ?_) (List.pairwise_mergeSort tr tot ss) (srt.imp (fun h => by simp only [leI, decide_eq_true_eq]; omega)) ((List.mergeSort_perm ss leI).trans hr)
  simp only [leI, decide_eq_true_eq] at h1 h2
  exact Int.le_antisymm h1 h2

/-- A new slice that holds these regions. -/
def RgS (w : World) (B : Nat) (v : Value) (L : List Rg) : Prop := OwnK 39 4 w B v L.length (flatG L)
theorem RgS.form {w : World} {B : Nat} {v : Value} {L : List Rg} (h : RgS w B v L) : ∃ (a : Option Addr) (cap : Nat), v = .slice a L.length cap ∧ ∀ i n, L[i]? = some n → ∃ g, a = some ⟨g, 0, none⟩ ∧ B ≤ g ∧ w.cell? ⟨g, i * 4, none⟩ = some (.int .i64 n.f) ∧ w.cell? ⟨g, i * 4 + 1, none⟩ = some (.int .i64 n.n) ∧ w.cell? ⟨g, i * 4 + 2, none⟩ = some (.int .i64 n.m) ∧ w.cell? ⟨g, i * 4 + 3, none⟩ = some (.bool n.d) := by
  by_cases hz : L.length = 0
  · refine ⟨none, 0, by rw [hz]; exact h.2 hz, fun i n hi => ?_⟩
    rw [List.length_eq_zero_iff.mp hz] at hi
    simp at hi
  · obtain ⟨g, cap, cur, e, hb, r, _, _, _, hx⟩ := h.row hz
    refine ⟨_, cap, e, fun i n hi => ⟨g, rfl, hb, ?_⟩⟩
    have key : ∀ t (ht : t < 4), w.cell? ⟨g, i * 4 + t, none⟩ = (encG n)[t]? := fun t ht => by
      have := flatG_at L i n hi t ht
      rw [List.getElem?_eq_getElem (show t < (encG n).length by simpa [encG] using ht)] at this ⊢
      rw [r.cell]
      exact hx _ _ this
    exact ⟨key 0 (by omega), key 1 (by omega), key 2 (by omega), key 3 (by omega)⟩

set_option maxRecDepth 100000 in
set_option maxHeartbeats 2000000 in
theorem regions_any (w : World) (p : Pb) (L : List Rg) (h : IsP w p L) : Calls Try.prog 14 #[.pointer (some ⟨p.b, 0, none⟩)] w fun e w' => ∃ v, e = .returned v ∧ RgS w' w.heap.size v L ∧ Fr none' w w' := by
  obtain ⟨D, hown, hM⟩ := h.map
  have hlen := len_le h.good
  have S := sorted_call w p.m L.length D hown (by rw [hM.size]; exact hlen)
  have HK : Hid (∀ ss : List Int, ss.Perm (intKeys D) → ss.mergeSort (fun x y => decide (x ≤ y)) = L.map (·.f) ∧ ss.length = L.length) := fun ss hp => keys_sorted h.good hown hM hp
  have HH : Hid (IsP w p L) := h
  have c0 := h.cell
  clear h hown hM
  go_enter Try.func14, Try.ntmps14
  go_wp2_with fail
  refine (keys_call (some p.m) w).mono ?_
  rintro e w1 ⟨rfl, rfl⟩
  go_wp2_with fail
  refine S.mono ?_
  rintro e w2 ⟨v, ss, rfl, hp, hrow, hnil, hb⟩
  obtain ⟨e1, e2⟩ := HK.out ss hp
  rw [e1, e2] at hrow
  have f2 : Fr none' w w2 := ((Fr.refl none' w).alloc (.cells #[.map (some p.m)] 64)).trans (Fr.of_below hb (fun k h1 h2 => by simp at h2; omega))
  have h2 := HH.out.keep0 f2
  have HW : Hid (Fr none' w w2 ∧ IsP w2 p L) := ⟨f2, h2⟩
  obtain ⟨N, hN⟩ : ∃ N, N = L.length := ⟨_, rfl⟩
  obtain ⟨a, cap, rfl, hcl⟩ : ∃ (a : Option Addr) (cap : Nat), v = .slice a N cap ∧ ∀ i (hi : i < L.length), ∃ g, a = some ⟨g, 0, none⟩ ∧ w2.cell? ⟨g, i, none⟩ = some (.int .i64 L[i].f) := by
    obtain ⟨_, ⟨q1, q2⟩ | ⟨g, cap, cur, q1, _, q3, q4, q5, q6, q7⟩⟩ := hrow
    · exact ⟨none, 0, by rw [q1, hN, q2], fun i hi => by omega⟩
    · refine ⟨_, cap, by rw [hN]; exact q1, fun i hi => ⟨g, rfl, ?_⟩⟩
      rw [(show Row w2 g cur 3 from q3).cell]
      have : (cur.toList.take (L.length * 1))[i]? = some (encZ L[i].f) := by rw [q7]; simp [hi]
      rw [List.getElem?_take, if_pos (by omega)] at this
      simpa [encZ] using this
  have HC : Hid (∀ i (hi : i < L.length), ∃ g, a = some ⟨g, 0, none⟩ ∧ w2.cell? ⟨g, i, none⟩ = some (.int .i64 L[i].f)) := hcl
  have HN : Hid (N = L.length) := hN
  rw [← hN] at hlen
  clear hcl hrow hnil hb hp e1 e2 f2 h2 S c0 hN
  go_wp2_with fail
  go_loopw [3, 13] (fun v i wr => ∃ j : Nat, j ≤ N ∧ i = .int .i64 (j : Int) ∧ Hid (RgS wr w2.heap.size v (L.take j) ∧ Fr none' w2 wr)) (fun _ i _ => N - (intOf i).toNat)
  case atStart => exact ⟨0, by omega, rfl, ownk_nil _ _ _ _, Fr.refl _ _⟩
  case round =>
    obtain ⟨j, hj, rfl, HI⟩ := hrel
    obtain ⟨hv, fr⟩ := HI.out
    by_cases hjN : j < N
    · have hjL : j < L.length := by rw [← HN.out]; exact hjN
      obtain ⟨g, rfl, d0⟩ := HC.out j hjL
      replace d0 := cell_keep fr d0 (fun h => h)
      have hP := HW.out.2.keep0 fr
      have c0 := hP.cell
      have HX : Hid (L[j]? = some L[j] ∧ L[j] ∈ L) := ⟨List.getElem?_eq_getElem hjL, List.getElem_mem hjL⟩
      generalize L[j] = y at *
      have hk : I64 y.f := by have := okR_iff.1 (hP.good.all y HX.out.2); unfold I64; omega
      have lk := hP.map.look0_some hk (map_some (fnd_of_mem hP.good.srt HX.out.2))
      obtain ⟨b0, b1, b2, b3⟩ := (hP.rg y HX.out.2).cells
      have fy := (Fr.refl none' wr).alloc (.cells (rgA y) 39)
      have ry := row_alloc wr (rgA y) 39
      have hlt : (L.take j).length ≤ 2000 := by rw [List.length_take]; omega
      obtain ⟨v', w', hrun, f', o⟩ := append_k (T := 31) Try.underlying31 info_reg rfl (by omega) (by omega) _ w2.heap.size ⟨wr.heap.size, 0, none⟩ u3 (L.take j).length (flatG (L.take j)) (encG y) (Nat.le_trans fr.size fy.size) (hv.keep0 fy) (by omega) rfl (fun t u hu => by
        rw [add_lit', Nat.zero_add, ry.cell]
        match t, hu with
        | 0, hu => simpa [encG] using hu
        | 1, hu => simpa [encG] using hu
        | 2, hu => simpa [encG] using hu
        | 3, hu => simpa [encG] using hu
        | t + 4, hu => simp [encG] at hu) (fun u hu => by simp [encG] at hu; rcases hu with rfl | rfl | rfl | rfl <;> rfl)
      have HI2 : Hid (RgS w' w2.heap.size v' (L.take (j + 1)) ∧ Fr none' w2 w') := by
        have et : L.take (j + 1) = L.take j ++ [y] := by rw [List.take_add_one, HX.out.1]; rfl
        refine ⟨?_, Fr.ownK (fr.trans fy) f' (hv.keep0 fy)⟩
        unfold RgS
        rw [et, List.length_append, flatG_append, flatG_one]
        exact o
      have i1 : 0 ≤ (j : Int) ∧ (j : Int) < (N : Int) := by omega
      generalize p.B y.f = gy at *
      obtain ⟨y1, y2, y3, y4⟩ := y
      dsimp only [rgA] at *
      clear hv fr hP HI f' o ry fy hlt hk HX hjL
      go_wp2_with (first | (at_builtin; refine wpList_append_runK rfl _ _ 31 rfl _ _ rfl rfl _ _ hrun ?_))
      go_roundw
      case rel => exact ⟨j + 1, by omega, by go_num, HI2⟩
      case measure => simp [intOf]; omega
    · have hjN' : j = N := by omega
      have HI2 : Hid (RgS wr w.heap.size u3 L ∧ Fr none' w wr) := by
        rw [hjN', List.take_of_length_le (by rw [HN.out]; exact Nat.le_refl _)] at hv
        refine ⟨⟨?_, hv.2⟩, HW.out.1.trans fr⟩
        obtain ⟨q1, q2 | ⟨g, cap', cur, r1, r2, r3⟩⟩ := hv.1
        · exact ⟨q1, Or.inl q2⟩
        · exact ⟨q1, Or.inr ⟨g, cap', cur, r1, Nat.le_trans HW.out.1.size r2, r3⟩⟩
      clear hv fr HI hjN'
      go_wp2_with fail
      go_ret
      exact ⟨_, rfl, HI2.out⟩

end Go.Proofs.Ytcmhndkbcfpbbaa
