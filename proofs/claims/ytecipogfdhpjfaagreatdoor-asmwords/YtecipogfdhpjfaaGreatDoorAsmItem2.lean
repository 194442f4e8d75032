/-
  The contract of package asm's item, of an instruction's word, and of any word, over the translation. No statement is proved here.
-/
import Derived.Test.YtecipogfdhpjfaaGreatDoorAsmItem
import Derived.Test.YtecipogfdhpjfaaGreatDoorAsmStm2
namespace Go.Proofs.YtecipogfdhpjfaaGreatDoor
open Go.RowKit

theorem operI_len (a b c i : Int) (ha : 0 ≤ a ∧ a ≤ 65535) (hb : 0 ≤ b ∧ b ≤ 65535) (hc : 0 ≤ c ∧ c ≤ 65535) (hi : 0 ≤ i ∧ i ≤ 65535) (s : UInt8) : (operB a b c i s).length ≤ 6 ∧ operB a b c i s ≠ [] := by
  have la := dec_len a.toNat (by omega)
  have lb := dec_len b.toNat (by omega)
  have lc := dec_len c.toNat (by omega)
  have li := dec_len i.toNat (by omega)
  have ni := dec_ne i.toNat
  unfold operB regB
  repeat' split
  all_goals simp <;> first | omega | (constructor; omega; exact ni) | skip

theorem flatI_len (a b c i : Int) (ha : 0 ≤ a ∧ a ≤ 65535) (hb : 0 ≤ b ∧ b ≤ 65535) (hc : 0 ≤ c ∧ c ≤ 65535) (hi : 0 ≤ i ∧ i ≤ 65535) : ∀ l : List UInt8, (l.flatMap (operB a b c i)).length ≤ 6 * l.length
  | [] => by simp
  | s :: r => by
    have h1 := (operI_len a b c i ha hb hc hi s).1
    have h2 := flatI_len a b c i ha hb hc hi r
    simp only [List.flatMap_cons, List.length_append, List.length_cons]
    omega

set_option maxRecDepth 100000 in
set_option maxHeartbeats 2000000 in
theorem item_ins (x : Nat) (hx : x < 4294967296) (hd : decOk (x : Int) = true) (w : World) (hE : Env w) :
    Calls Tryz.prog 19 #[.int .u32 (x : Int)] w fun e w' => e = .returned (strV (insB (qo (x : Int)) (qa (x : Int)) (qb (x : Int)) (qc (x : Int)) (qi (x : Int)))) ∧ Fr none' w w' := by
  have hD := dec_any x w hx
  have e0 : dE (x : Int) = 0 := by simp [dE, hd]
  have e1 : dOp (x : Int) = qo (x : Int) := by simp [dOp, hd]
  have e2 : dA (x : Int) = qa (x : Int) := by simp [dA, hd]
  have e3 : dB (x : Int) = qb (x : Int) := by simp [dB, hd]
  have e4 : dC (x : Int) = qc (x : Int) := by simp [dC, hd]
  have e5 : dI (x : Int) = qi (x : Int) := by simp [dI, hd]
  rw [e0, e1, e2, e3, e4, e5] at hD
  have hk : kf (qo (x : Int)) ≠ 0 := by
    intro h; unfold decOk at hd; rw [h] at hd; simp at hd
  have ho := kf_range hk
  have ha : 0 ≤ qa (x : Int) ∧ qa (x : Int) ≤ 65535 := by unfold qa; split <;> omega
  have hb : 0 ≤ qb (x : Int) ∧ qb (x : Int) ≤ 65535 := by unfold qb; split <;> omega
  have hc : 0 ≤ qc (x : Int) ∧ qc (x : Int) ≤ 65535 := by unfold qc; split <;> omega
  have hi : 0 ≤ qi (x : Int) ∧ qi (x : Int) ≤ 65535 := by unfold qi; split <;> omega
  clear e0 e1 e2 e3 e4 e5 hk hd
  obtain ⟨o, hoe⟩ : ∃ o, qo (x : Int) = o := ⟨_, rfl⟩
  obtain ⟨a, hae⟩ : ∃ a, qa (x : Int) = a := ⟨_, rfl⟩
  obtain ⟨b, hbe⟩ : ∃ b, qb (x : Int) = b := ⟨_, rfl⟩
  obtain ⟨c, hce⟩ : ∃ c, qc (x : Int) = c := ⟨_, rfl⟩
  obtain ⟨i, hie⟩ : ∃ i, qi (x : Int) = i := ⟨_, rfl⟩
  rw [hoe] at hD ho ⊢
  rw [hae] at hD ha ⊢
  rw [hbe] at hD hb ⊢
  rw [hce] at hD hc ⊢
  rw [hie] at hD hi ⊢
  clear hoe hae hbe hce hie
  obtain ⟨n, rfl⟩ : ∃ n : Nat, o = (n : Int) := ⟨o.toNat, by omega⟩
  have hn : n < 26 := by omega
  have hn0 : n ≠ 0 := by omega
  have hL := fun w => layout_any (n : Int) w
  simp only [strV] at hL
  have hlay : layB (n : Int) = shapeB (n : Int) := by unfold layB; rw [if_neg (by omega)]
  obtain ⟨q, hq⟩ : ∃ q : ByteArray, q = ⟨(layB (n : Int)).toArray⟩ := ⟨_, rfl⟩
  have hql : shapeB (n : Int) = q.data.toList := by rw [← hlay, hq]
  rw [← hq] at hL
  have hsm := lay_small (n : Int)
  rw [hlay, hql] at hsm
  have hsg := shape_signs (n : Int)
  rw [hql] at hsg
  have HA : Hid (∀ c ∈ q.data.toList, c.toNat < 128) := hsm.2
  have H7 : Hid (q.data.toList.length ≤ 7) := hsm.1
  have HS : Hid (∀ s ∈ q.data.toList, s = 97 ∨ s = 98 ∨ s = 99 ∨ s = 105 ∨ s = 44 ∨ s = 43 ∨ s = 91 ∨ s = 93) := hsg
  have HE : Hid (Env w) := hE
  have HB : Hid ((0 ≤ a ∧ a ≤ 65535) ∧ (0 ≤ b ∧ b ≤ 65535) ∧ (0 ≤ c ∧ c ≤ 65535) ∧ (0 ≤ i ∧ i ≤ 65535)) := ⟨ha, hb, hc, hi⟩
  have HN : Hid (n < 26 ∧ n ≠ 0) := ⟨hn, hn0⟩
  have HQ : Hid (shapeB (n : Int) = q.data.toList) := hql
  have HM : Hid (mnOf (n : Int) = mnL n) := by show mnOf (n : Int) = mnL n; unfold mnL; rw [if_neg hn0]
  clear hsm hsg hE ha hb hc hi hn hn0 ho hq hql hlay
  go_enter Tryz.func19, Tryz.ntmps19
  go_wp2_with fail
  refine hD.mono ?_
  rintro e w1 ⟨rfl, f1⟩
  have r1 := row_alloc w1 (ibox (n : Int) a b c i) 46
  have g1 := f1.alloc (.cells (ibox (n : Int) a b c i) 46)
  unfold ibox at g1
  obtain ⟨c0, c1, c2, c3, c4⟩ := ibox_cells r1
  unfold ibox at c0 c1 c2 c3 c4
  clear hD f1
  go_wp2_with fail
  refine (hL _).mono ?_
  rintro e w2 ⟨rfl, f2⟩
  have r2 := r1.keep f2 (fun h => h)
  have G2 : Hid (Fr none' w w2) := g1.trans f2
  have R2 : Hid (Row w2 w1.heap.size (ibox (n : Int) a b c i) 46) := r2
  clear hL c0 c1 c2 c3 c4 r1 g1 f2 r2
  go_wp2_with fail
  go_loopw [6] (fun s wr => ∃ (p : Nat) (z : ByteArray), p ≤ q.size ∧ s = .string z ∧ Hid (z = ⟨((q.data.toList.take p).flatMap (operB a b c i)).toArray⟩) ∧ Fr none' w2 wr ∧ It wr w2.heap.size q p) (fun _ wr => q.size - itPos wr w2.heap.size)
  case atStart => exact ⟨0, ⟨#[]⟩, by omega, rfl, hid' (by simp), (Fr.refl _ _).alloc _, it_new w2 q⟩
  case round =>
    obtain ⟨p, z, hp, rfl, HZ, fk, ik⟩ := hrel
    have M1 : Hid (itPos wr w2.heap.size = p) := ik.pos
    by_cases he : p = q.size
    · have hn := fun ty => next_none (P := Tryz.prog) ik (by omega) ty
      obtain ⟨c0, c1, c2, c3, c4⟩ := ibox_cells (R2.out.keep fk (fun h => h))
      have hall : z = ⟨((shapeB (n : Int)).flatMap (operB a b c i)).toArray⟩ := by
        rw [HZ.out, HQ.out, List.take_of_length_le (by rw [← Lib.size_eq]; omega)]
      have hM := mn_any n HN.out.1 _ (HE.out.keep (G2.out.trans fk))
      have hmL : Hid ((mnL n).length ≤ 100) := by
        show (mnL n).length ≤ 100
        have hh : ∀ k : Fin 26, (mnL k.val).length ≤ 100 := by decide +kernel
        exact hh ⟨n, HN.out.1⟩
      by_cases hsh : shapeB (n : Int) = []
      · have hz : z = ⟨#[]⟩ := by rw [hall, hsh]; rfl
        subst hz
        have HI : Hid (insB (n : Int) a b c i = mnL n) := by
          show insB (n : Int) a b c i = mnL n
          unfold insB; rw [if_pos hsh, HM.out]; simp
        clear hall hsh he hp ik HZ
        go_wp2_with fail
        refine hM.mono ?_
        rintro e w3 ⟨rfl, f3⟩
        go_wp2_with fail
        go_ret
        exact ⟨by rw [HI.out]; rfl, (G2.out.trans fk).trans f3⟩
      · have hne : (shapeB (n : Int)).flatMap (operB a b c i) ≠ [] := by
          cases hs : shapeB (n : Int) with
          | nil => exact absurd hs hsh
          | cons s r =>
            have := (operI_len a b c i HB.out.1 HB.out.2.1 HB.out.2.2.1 HB.out.2.2.2 s).2
            simp [this]
        have hbl : (z.toList == ([] : List UInt8)) = false := by
          rw [hall]
          cases hs : (⟨((shapeB (n : Int)).flatMap (operB a b c i)).toArray⟩ : ByteArray).toList with
          | nil => exact absurd (by rw [Lib.toList_data] at hs; exact hs) hne
          | cons x y => rfl
        have hlen : ((shapeB (n : Int)).flatMap (operB a b c i)).length ≤ 42 := by
          have h1 := flatI_len a b c i HB.out.1 HB.out.2.1 HB.out.2.2.1 HB.out.2.2.2 (shapeB (n : Int))
          have h2 := H7.out
          rw [← HQ.out] at h2
          omega
        have a1 := add_run (mnL n) [32] (by have := hmL.out; simp; omega)
        have a2 := add_run (mnL n ++ [32]) ((shapeB (n : Int)).flatMap (operB a b c i)) (by have := hmL.out; rw [List.length_append]; simp only [List.length_cons, List.length_nil]; omega)
        have HI : Hid (insB (n : Int) a b c i = mnL n ++ [32] ++ (shapeB (n : Int)).flatMap (operB a b c i)) := by
          show insB (n : Int) a b c i = mnL n ++ [32] ++ (shapeB (n : Int)).flatMap (operB a b c i)
          unfold insB; rw [if_neg hsh, HM.out]; simp
        rw [← hall] at a2
        obtain ⟨s1, hs1⟩ : ∃ s : ByteArray, s = ⟨(mnL n ++ [32]).toArray⟩ := ⟨_, rfl⟩
        obtain ⟨s2, hs2⟩ : ∃ s : ByteArray, s = ⟨(mnL n ++ [32] ++ (shapeB (n : Int)).flatMap (operB a b c i)).toArray⟩ := ⟨_, rfl⟩
        obtain ⟨s0, hs0⟩ : ∃ s : ByteArray, s = ⟨(mnL n).toArray⟩ := ⟨_, rfl⟩
        simp only [strV] at a1 a2 hM
        rw [← hs1, ← hs0] at a1
        rw [← hs1, ← hs2] at a2
        rw [← hs0] at hM
        have HR : Hid (s2 = ⟨(insB (n : Int) a b c i).toArray⟩) := by show s2 = _; rw [hs2, HI.out]
        clear hall hsh he hp ik HZ hne hlen HI hs1 hs2 hs0
        go_wp2_with fail
        refine hM.mono ?_
        rintro e w3 ⟨rfl, f3⟩
        go_wp2_with fail
        go_ret
        exact ⟨congrArg (fun z => Ending.returned (Value.string z)) HR.out, (G2.out.trans fk).trans f3⟩
    · have hs : p < q.size := by omega
      have hc := HA.out _ (byte_in q p hs)
      have hsg := HS.out _ (byte_in q p hs)
      have hn := fun ty => next_some (P := Tryz.prog) ik hs hc ty
      have i2 := ik.set (p + 1)
      have f2 := fr_itset fk (Or.inl (Nat.le_refl _)) q (p + 1)
      obtain ⟨y, hxx⟩ : ∃ y, q[p]'hs = y := ⟨_, rfl⟩
      have hq1 := bytes_lt q p hs
      rw [hxx] at hn hc hq1 hsg
      obtain ⟨wn, hwn⟩ : ∃ wn, itSet wr w2.heap.size q (p + 1) = wn := ⟨_, rfl⟩
      rw [hwn] at hn i2 f2
      have hP := part_any (n : Int) a b c i HB.out.1 HB.out.2.1 HB.out.2.2.1 HB.out.2.2.2 y hsg wn (HE.out.keep (G2.out.trans f2))
      obtain ⟨c0, c1, c2, c3, c4⟩ := ibox_cells (R2.out.keep f2 (fun h => h))
      have htk : q.data.toList.take (p + 1) = q.data.toList.take p ++ [y] := by rw [List.take_add_one, hq1]; rfl
      have hlen : ((q.data.toList.take p).flatMap (operB a b c i)).length ≤ 42 := by
        have h1 := flatI_len a b c i HB.out.1 HB.out.2.1 HB.out.2.2.1 HB.out.2.2.2 (q.data.toList.take p)
        have h2 := H7.out
        have h3 : (q.data.toList.take p).length ≤ q.data.toList.length := by rw [List.length_take]; omega
        omega
      have hol := (operI_len a b c i HB.out.1 HB.out.2.1 HB.out.2.2.1 HB.out.2.2.2 y).1
      have a1 := add_run ((q.data.toList.take p).flatMap (operB a b c i)) (operB a b c i y) (by omega)
      rw [← HZ.out] at a1
      simp only [strV] at a1 hP
      obtain ⟨s1, hs1⟩ : ∃ s : ByteArray, s = ⟨(operB a b c i y).toArray⟩ := ⟨_, rfl⟩
      obtain ⟨s2, hs2⟩ : ∃ s : ByteArray, s = ⟨((q.data.toList.take p).flatMap (operB a b c i) ++ operB a b c i y).toArray⟩ := ⟨_, rfl⟩
      rw [← hs1, ← hs2] at a1
      rw [← hs1] at hP
      have HZ2 : Hid (s2 = ⟨((q.data.toList.take (p + 1)).flatMap (operB a b c i)).toArray⟩) := by
        show s2 = _
        rw [hs2, htk, List.flatMap_append]; simp
      have I2 : Hid (It wn w2.heap.size q (p + 1)) := i2
      have HP : Hid (p < q.size) := hs
      clear hp ik he hs hc hxx hq1 hwn i2 fk hsg htk hlen hol hs1 hs2 HZ
      go_wp2_with fail
      refine hP.mono ?_
      rintro e w3 ⟨rfl, f3⟩
      go_wp2_with fail
      go_roundw
      case rel => exact ⟨p + 1, s2, by have := HP.out; omega, rfl, HZ2, f2.trans f3, I2.out.keep f3 (fun h => h)⟩
      case measure => rw [(I2.out.keep f3 (fun h => h)).pos, M1.out]; have := HP.out; omega

theorem item_any (x : Nat) (hx : x < 4294967296) (w : World) (hE : Env w) : Calls Tryz.prog 19 #[.int .u32 (x : Int)] w fun e w' => e = .returned (strV (printL x)) ∧ Fr none' w w' := by
  unfold printL
  cases hd : decOk (x : Int) with
  | true => exact item_ins x hx hd w hE
  | false => exact item_raw x hx hd w hE

end Go.Proofs.YtecipogfdhpjfaaGreatDoor
