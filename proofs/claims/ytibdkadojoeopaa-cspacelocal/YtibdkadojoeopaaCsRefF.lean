/-
  Contracts of the document's Full and bits over the translation. No statement is proved here.
-/
import Derived.Test.YtibdkadojoeopaaCsRefA
namespace Go.Proofs.Ytibdkadojoeopaa
open Go.RowKit Go.Maps Go.WideMaps

/-- Where going through the nodes stands. -/
structure RfuI (w wr : World) (q : Qb) (L : List Nd) (v : Value) (acc : List Rf) : Prop where
  ow : OwnK 32 2 wr w.heap.size v acc.length (flatV acc)
  is : IsQ wr q L
  fr : Fr none' w wr

theorem RfuI.more {w wr : World} {q : Qb} {L : List Nd} {v : Value} {acc : List Rf} (h : RfuI w wr q L v acc) (hB : ∀ x, q.s L x → x < w.heap.size) (hn : acc.length ≤ 100000) (x : Rf) :
    ∃ v' w', (Builtin.append_ #[38, 38] 38 #[v, .slice (some ⟨wr.heap.size, 0, none⟩) 1 1]).run Try.prog (wr.alloc (.cells #[.int .i64 x.n, .int .i64 x.i] 32)) = .ok v' w' ∧ RfuI w w' q L v' (acc ++ [x]) := by
  have f0 := (Fr.refl none' wr).alloc (.cells #[.int .i64 x.n, .int .i64 x.i] 32)
  have o0 := h.ow.keep0 f0
  obtain ⟨v', w', h1, f, o⟩ := append_ref _ w.heap.size wr.heap.size v acc x (Nat.le_trans h.fr.size f0.size) o0 (by omega) (row_alloc wr _ _)
  exact ⟨v', w', h1, o, (h.is.keep0 f0).keep f (fun k hk e => by have := o0.high k e; have := hB k hk; omega), Fr.ownK (h.fr.trans f0) f o0⟩

set_option maxRecDepth 100000 in
set_option maxHeartbeats 4000000 in
theorem rfull_any (w : World) (q : Qb) (L : List Nd) (h : IsQ w q L) :
    Calls Try.prog 13 #[.pointer (some ⟨q.b, 0, none⟩)] w fun e w' => ∃ v, e = .returned v ∧ RfS w' w.heap.size v (fulL L) ∧ Fr none' w w' := by
  have HB : Hid (∀ x, q.s L x → x < w.heap.size) := fun x hx => h.lt x hx
  have HH : Hid (IsQ w q L) := h
  have hlen := len_le h.good
  obtain ⟨a, cap, hv, _, hn⟩ := h.form
  have c0 := h.cell
  rw [hv] at c0
  have HC : Hid (∀ i n, L[i]? = some n → ∃ g, a = some ⟨g, 0, none⟩ ∧ w.cell? ⟨g, i * 3, none⟩ = some (.int .i64 (n.id : Int)) ∧ w.cell? ⟨g, i * 3 + 1, none⟩ = some (.int .i64 (n.rx : Int)) ∧ w.cell? ⟨g, i * 3 + 2, none⟩ = some (.slice (some ⟨q.C n.id, 0, none⟩) (2 ^ n.rx) (2 ^ n.rx))) := hn
  obtain ⟨M, hM⟩ : ∃ M, M = L.length := ⟨_, rfl⟩
  rw [← hM] at c0 hlen
  have HM : Hid (M = L.length) := hM
  clear hn hv h hM
  go_enter Try.func13, Try.ntmps13
  go_wp2_with fail
  go_loopw [3, 4] (fun v i wr => ∃ j : Nat, j ≤ M ∧ i = .int .i64 (j : Int) ∧ Hid (RfuI w wr q L v (fulL (L.take j)))) (fun _ i _ => M - (intOf i).toNat)
  case atStart => exact ⟨0, by omega, rfl, by show RfuI _ _ _ _ _ _; exact ⟨ownk_nil _ _ _ _, HH.out, Fr.refl _ _⟩⟩
  case round =>
    obtain ⟨j, hj, rfl, hI⟩ := hrel
    have c1 := cell_keep hI.out.fr c0 (fun h => h)
    by_cases hjM : j < M
    · have hjL : j < L.length := by rw [← HM.out]; exact hjM
      obtain ⟨g, rfl, d0, _, d2⟩ := HC.out j L[j] (List.getElem?_eq_getElem hjL)
      have hnm : L[j] ∈ L := List.getElem_mem hjL
      have HX : Hid (L[j]? = some L[j]) := List.getElem?_eq_getElem hjL
      generalize L[j] = n at *
      have gn := HH.out.good.all n hnm
      have h16 := (pow4 gn.lo gn.hi).2
      have HT : Hid (fulL (L.take (j + 1)) = fulL (L.take j) ++ fulR n (2 ^ n.rx)) := by
        show _ = _
        rw [List.take_add_one, HX.out]
        show fulL (L.take j ++ [n]) = _
        rw [fulL_append, fulL_one]
      have HL : Hid ((fulL (L.take j)).length ≤ 16384) := by
        have h1 : (fulL (L.take j)).length ≤ 16 * (L.take j).length := len_fulL (fun m hm => HH.out.good.all m (List.mem_of_mem_take hm))
        have h2 : (L.take j).length ≤ 1024 := by rw [List.length_take]; omega
        show _ ≤ _
        omega
      obtain ⟨N, hN⟩ : ∃ N, N = 2 ^ n.rx := ⟨_, rfl⟩
      rw [← hN] at d2 h16 HT
      have HN : Hid (N = 2 ^ n.rx) := hN
      clear hN gn hjL
      obtain ⟨G, hG⟩ : ∃ G, G = q.C n.id := ⟨_, rfl⟩
      rw [← hG] at d2
      have HD : Hid (w.cell? ⟨g, j * 3, none⟩ = some (.int .i64 (n.id : Int)) ∧ w.cell? ⟨g, j * 3 + 2, none⟩ = some (.slice (some ⟨G, 0, none⟩) N N) ∧ w.cell? ⟨q.b, 0, none⟩ = some (.slice (some ⟨g, 0, none⟩) M cap) ∧ n ∈ L ∧ G = q.C n.id) := ⟨d0, d2, c0, hnm, hG⟩
      generalize fulL (L.take j) = acc at *
      clear d0 d2 hnm hG
      go_wp2_with fail
      go_loopw [3, 5] (fun v i wr => ∃ k : Nat, k ≤ N ∧ i = .int .i64 (k : Int) ∧ Hid (RfuI w wr q L v (acc ++ fulR n k))) (fun _ i _ => N - (intOf i).toNat)
      case atStart => exact ⟨0, by omega, rfl, by show RfuI _ _ _ _ _ _; simpa [fulR] using hI.out⟩
      case round =>
        clear hI c1
        obtain ⟨k, hk, rfl, hI⟩ := hrel
        have c1 := cell_keep hI.out.fr HD.out.2.2.1 (fun h => h)
        have d0 := cell_keep hI.out.fr HD.out.1 (fun h => h)
        have d2 := cell_keep hI.out.fr HD.out.2.1 (fun h => h)
        by_cases hkN : k < N
        · have hsl := hI.out.is.sl n HD.out.2.2.2.1
          rw [← HN.out, ← HD.out.2.2.2.2] at hsl
          obtain ⟨e0, _, _, _, _, _, _, _⟩ := hsl.cells k hkN
          have HR : Hid (fulR n (k + 1) = fulR n k ++ if (n.sl k).k != 0 then [⟨n.id, k⟩] else []) := rfl
          have HJ : Hid ((acc ++ fulR n k).length ≤ 100000) := by
            have h1 := HL.out
            have h2 := len_fulR n k
            show _ ≤ _
            rw [List.length_append]
            omega
          generalize (n.sl k).k = kk at *
          cases hb : (kk != 0) with
          | false =>
            rw [hb] at HR
            have HI2 : Hid (RfuI w wr q L u3 (acc ++ fulR n (k + 1))) := by
              show RfuI _ _ _ _ _ _
              rw [HR.out]
              simpa using hI.out
            clear hI hsl
            go_wp2_with fail
            go_roundw
            case rel => exact ⟨k + 1, by omega, by go_num, HI2.out⟩
            case measure => simp [intOf]; omega
          | true =>
            rw [hb] at HR
            obtain ⟨v', w3, hrun, I3⟩ := hI.out.more HB.out HJ.out ⟨n.id, k⟩
            have HI3 : Hid (RfuI w w3 q L v' (acc ++ fulR n (k + 1))) := by
              show RfuI _ _ _ _ _ _
              rw [HR.out, if_pos rfl, ← List.append_assoc]
              exact I3
            clear hI I3 hsl
            go_wp2_with (first | (at_builtin; refine wpList_append_runK rfl _ _ 38 rfl _ _ rfl rfl _ _ hrun ?_))
            go_roundw
            case rel => exact ⟨k + 1, by omega, by go_num, HI3.out⟩
            case measure => simp [intOf]; omega
        · obtain rfl : k = N := by omega
          go_wp2_with fail
          go_roundw
          case rel => exact ⟨j + 1, by omega, by go_num, by rw [HT.out]; exact hI.out⟩
          case measure => simp [intOf]; omega
    · obtain rfl : j = M := by omega
      have hT : L.take j = L := List.take_of_length_le (by rw [HM.out]; exact Nat.le_refl _)
      rw [hT] at hI
      have hO := hI.out.ow
      have fk := hI.out.fr
      clear hT hI
      by_cases hn : (fulL L).length = 0
      · obtain rfl := hO.2 hn
        have HE : Hid (fulL L = []) := List.length_eq_zero_iff.mp hn
        clear hO hn
        go_wp2_with fail
        go_ret
        exact ⟨_, rfl, Or.inl ⟨HE.out, rfl⟩, fk⟩
      · obtain ⟨g, cap', cur, rfl, hb, hr, hc, hm, hcs, hx⟩ := hO.row hn
        have HR : Hid (RfS wr w.heap.size (.slice (some ⟨g, 0, none⟩) (fulL L).length cap') (fulL L)) := Or.inr ⟨g, cap', cur, rfl, hb, hc, hm, hr, fun i x hi => rec_of hx i x hi⟩
        clear hO hn hb hr hc hm hcs hx
        go_wp2_with fail
        go_ret
        exact ⟨_, rfl, HR.out, fk⟩

/-- Bits one by one, the highest first. -/
theorem bitV_step (x l k m : Nat) (h : k < m) : 2 * bitV x (l + k + 1) (m - k - 1) + x / 2 ^ (l + k) % 2 = bitV x (l + k) (m - k) := by
  unfold bitV
  have e : 2 ^ (m - k) = 2 * 2 ^ (m - k - 1) := by rw [← Nat.pow_succ']; congr 1; omega
  have e2 : x / 2 ^ (l + k + 1) = x / 2 ^ (l + k) / 2 := by rw [Nat.pow_succ, Nat.div_div_eq_div_mul]
  rw [e, e2, Nat.mod_mul]
  omega

end Go.Proofs.Ytibdkadojoeopaa
