/-
  The contract of package asm's 'read' over the translation. No statement is proved here.
-/
import Derived.Test.YtecipogfdhpjfaaGreatDoorAsmRead2
namespace Go.Proofs.YtecipogfdhpjfaaGreatDoor
open Go.RowKit

theorem txt_at (t T : ByteArray) (hT : T.data.toList = t.data.toList ++ [32]) (p : Nat) (h : p < T.size) : (t.data.toList ++ [32])[p]? = some (T[p]'h) := by rw [← hT]; exact bytes_lt T p h

theorem tval_iface (t : Tok) : ∃ T x, tval t = .iface T x := by cases t <;> exact ⟨_, _, rfl⟩

set_option maxRecDepth 100000 in
set_option maxHeartbeats 3200000 in
theorem read_any (s : ByteArray) (hs : s.size ≤ 4000) (w : World) (hE : Env w) : Calls Tryz.prog 40 #[.string s] w fun e w' => ReadPost w w' s.data.toList e := by
  have hC := cut_any s hs w hE
  obtain ⟨t, ht⟩ : ∃ t : ByteArray, t = ⟨(code s.data.toList).toArray⟩ := ⟨_, rfl⟩
  have htl : t.data.toList = code s.data.toList := by rw [ht]
  rw [← ht] at hC
  have hts : t.size ≤ 4000 := by
    rw [Lib.size_eq, htl]
    have := (List.takeWhile_sublist (fun c : UInt8 => c != 59) (l := s.data.toList)).length_le
    rw [← Lib.size_eq] at this
    unfold code
    omega
  have HTL : Hid (t.data.toList = code s.data.toList) := htl
  clear ht htl hs hE
  go_enter Tryz.func40, Tryz.ntmps40
  go_wp2_with (first | (go_at_call 66; refine hC.mono ?_; rintro e w1 ⟨⟨y, z, rfl⟩, f1⟩))
  obtain ⟨T, hTe, hT⟩ : ∃ T : ByteArray, t ++ { data := #[32] } = T ∧ T.data.toList = t.data.toList ++ [32] := ⟨_, rfl, by simp⟩
  rw [hTe]
  have hTs : T.size = t.size + 1 := by rw [Lib.size_eq, hT, Lib.size_eq]; simp
  have HT : Hid (T.data.toList = t.data.toList ++ [32]) := hT
  clear hTe hT hC
  have F1 : Hid (Fr none' w w1) := f1
  have hz1 := f1.size
  clear f1
  go_loopw [7, 8] (fun a b wr => ∃ (p bg : Nat) (l : List Tok) (wd : List UInt8), p ≤ T.size ∧ bg ≤ p ∧ atC t.data.toList p = ⟨l, wd, true⟩ ∧ ((t.data.toList ++ [32]).take p).drop bg = wd ∧ (∀ c ∈ wd, isWrd c = true) ∧ l.length ≤ 2 * p ∧ b = .int .i64 bg ∧ OwnK 95 1 wr w.heap.size a l.length (l.map tval) ∧ Fr none' w wr ∧ It wr w1.heap.size T p) (fun _ _ wr => T.size - itPos wr w1.heap.size)
  case atStart => exact ⟨0, 0, [], [], by omega, by omega, rfl, rfl, by simp, by simp, rfl, ownk_nil _ _ _ _, F1.out.alloc _, it_new w1 T⟩
  case round =>
    obtain ⟨p, bg, l, wd, hp, hbg, hx, hwd, hwa, hll, rfl, ow, fk, ik⟩ := hrel
    have M1 : Hid (itPos wr w1.heap.size = p) := ik.pos
    by_cases he : p = T.size
    · have hn := fun ty => next_none (P := Tryz.prog) ik (by omega) ty
      have hg : cutT s.data.toList = some l := by
        have hl : (code s.data.toList).length + 1 = p := by rw [← HTL.out, ← Lib.size_eq]; omega
        have := cut_good s.data.toList (by rw [hl, ← HTL.out, hx])
        rw [hl, ← HTL.out, hx] at this
        exact this
      have HG : Hid (cutT s.data.toList = some l) := hg
      clear hx hwd hwa hll ik M1 hg hp hbg he
      go_wp2
      go_ret2
      exact read_good HG.out fk ow
    · have hlt : p < T.size := by omega
      obtain ⟨c, hc⟩ : ∃ c, T[p]'hlt = c := ⟨_, rfl⟩
      have hcl : (t.data.toList ++ [32])[p]? = some c := by rw [← hc]; exact txt_at t T HT.out p hlt
      obtain ⟨ρ, p', hn, hIn, hSg, hBl, hpp⟩ := rune_at wr w1.heap.size T p ik hlt c hc
      have hsucc := atC_succ t.data.toList p c hcl
      rw [hx] at hsucc
      have i2 := ik.set p'
      have f2 := fr_itset fk (Or.inl hz1) T p'
      have o2 := ow.itset ik p'
      obtain ⟨wn, hwn⟩ : ∃ wn, itSet wr w1.heap.size T p' = wn := ⟨_, rfl⟩
      rw [hwn] at hn i2 f2 o2
      have hB2 := f2.size
      have hps : (p : Int) ≤ t.size := by omega
      have hp2 : p + 1 ≤ T.size ∧ p ≤ 4000 := by omega
      have HP : Hid (p + 1 ≤ T.size ∧ p ≤ 4000) := hp2
      have hll2 : l.length < 9000 := by omega
      have HLL : Hid (l.length ≤ 2 * p) := hll
      have HBG : Hid (bg ≤ p) := hbg
      have HX := hsucc
      have htk : (t.data.toList ++ [32]).take (p + 1) = (t.data.toList ++ [32]).take p ++ [c] := by rw [List.take_add_one, hcl]; rfl
      have HTK : Hid ((t.data.toList ++ [32]).take (p + 1) = (t.data.toList ++ [32]).take p ++ [c]) := htk
      have hlen : ((t.data.toList ++ [32]).take p).length = p := by rw [List.length_take, ← HT.out, ← Lib.size_eq]; omega
      have HLEN : Hid (((t.data.toList ++ [32]).take p).length = p) := hlen
      have HWD : Hid (((t.data.toList ++ [32]).take p).drop bg = wd) := hwd
      have HWA : Hid (∀ c ∈ wd, isWrd c = true) := hwa
      have hbad : ∀ {x : Cut}, atC t.data.toList (p + 1) = x → x.ok = false → cutT s.data.toList = none := fun h1 h2 => cut_bad _ (p + 1) (by rw [← HTL.out, h1]; exact h2)
      have HBAD : Hid (∀ {x : Cut}, atC t.data.toList (p + 1) = x → x.ok = false → cutT s.data.toList = none) := @hbad
      have HSU : Hid (atC t.data.toList (p + 1) = stepC ⟨l, wd, true⟩ c) := hsucc
      have HPP : Hid (isWrd c = true ∨ isSgn c = true ∨ c = 32 → p' = p + 1 ∧ ρ = (c.toNat : Int)) := hpp
      have I2 : Hid (It wn w1.heap.size T p') := i2
      have O2 : Hid (OwnK 95 1 wn w.heap.size u7 l.length (l.map tval)) := o2
      have F2 : Hid (Fr none' w wn) := f2
      clear hx hwd hwa hll hlt he hp ik fk ow hc hcl hsucc HX hp2 htk hlen hbad hpp hwn hbg i2 f2
      obtain ⟨bw, hbw⟩ : ∃ b, isWrd c = b := ⟨_, rfl⟩
      rw [hbw] at hIn
      have HBW : Hid (isWrd c = bw) := hbw
      clear hbw
      cases bw
      · obtain ⟨bs, hbs⟩ : ∃ b, isSgn c = b := ⟨_, rfl⟩
        obtain ⟨bb, hbb⟩ : ∃ b, (c == 32) = b := ⟨_, rfl⟩
        rw [hbs] at hSg
        rw [hbb] at hBl
        have HBS : Hid (isSgn c = bs) := hbs
        have HBB : Hid ((c == 32) = bb) := hbb
        clear hbs hbb
        by_cases hw0 : wd = []
        · have hpb : bg = p := by
            have h1 := HWD.out
            rw [hw0] at h1
            have h2 := List.drop_eq_nil_iff.1 h1
            have := HBG.out
            rw [HLEN.out] at h2
            omega
          subst hpb
          subst hw0
          have i4 := I2.out
          have o4 := O2.out
          have F4 := F2.out
          have tt : decide ((bg : Int) < (bg : Int)) = false := by simp
          clear O2 I2 F2 o2
          cases bs
          · cases bb
            · go_wp2_with (first | (go_at_call 67; refine (hIn _).mono ?_; rintro e w2 ⟨rfl, rfl⟩) | (go_at_call 69; refine (hSg _).mono ?_; rintro e w5 ⟨rfl, f5⟩; have o5 := o4.keep0 f5; have i5 := i4.keep f5 (fun h => h); have F5 := F4.trans f5; have hB5 := F5.size) | (go_at_call 69; refine (hBl _).mono ?_; rintro e w6 ⟨rfl, f6⟩; have o6 := o5.keep0 f6; have i6 := i5.keep f6 (fun h => h); have F6 := F5.trans f6))
              go_ret2
              exact read_bad (HBAD.out HSU.out (step_bad HBW.out HBS.out HBB.out)) F6
            · go_wp2_with (first | (go_at_call 67; refine (hIn _).mono ?_; rintro e w2 ⟨rfl, rfl⟩) | (go_at_call 69; refine (hSg _).mono ?_; rintro e w5 ⟨rfl, f5⟩; have o5 := o4.keep0 f5; have i5 := i4.keep f5 (fun h => h); have F5 := F4.trans f5; have hB5 := F5.size) | (go_at_call 69; refine (hBl _).mono ?_; rintro e w6 ⟨rfl, f6⟩; have o6 := o5.keep0 f6; have i6 := i5.keep f6 (fun h => h); have F6 := F5.trans f6))
              go_roundw
              case rel =>
                obtain ⟨rfl, _⟩ := HPP.out (Or.inr (Or.inr (by simpa using HBB.out)))
                exact ⟨bg + 1, bg + 1, l, [], HP.out.1, by omega, by rw [HSU.out, step_bl HBW.out HBS.out HBB.out, flush_none], by rw [List.drop_eq_nil_of_le (by rw [HTK.out, List.length_append, HLEN.out]; simp)], by simp, by have := HLL.out; first | omega | (simp; omega), by first | rfl | go_num, o6, F6, i6⟩
              case measure =>
                obtain ⟨rfl, _⟩ := HPP.out (Or.inr (Or.inr (by simpa using HBB.out)))
                rw [i6.pos, M1.out]; have := HP.out; omega
          · obtain ⟨hp1, hρ⟩ := HPP.out (Or.inr (Or.inl HBS.out))
            have HSG : Hid (Value.iface 121 (.int .i32 ρ) = tval (.sg c)) := by show _ = _; rw [hρ]; rfl
            have HP1 : Hid (p' = bg + 1) := hp1
            clear hp1 hρ hBl
            go_wp2_with (first | (at_builtin; refine wpList_tok rfl _ _ rfl rfl _ _ (l) (.sg c) HSG.out rfl rfl w.heap.size (by exact hB5) (by exact o5) (by first | omega | (simp; omega)) ?_; intro v6 w6 g6 o6; have i6 := i5.keep g6 (o5.apart_it i5); have F6 := F5.ownK g6 o5) | (go_at_call 67; refine (hIn _).mono ?_; rintro e w2 ⟨rfl, rfl⟩) | (go_at_call 69; refine (hSg _).mono ?_; rintro e w5 ⟨rfl, f5⟩; have o5 := o4.keep0 f5; have i5 := i4.keep f5 (fun h => h); have F5 := F4.trans f5; have hB5 := F5.size))
            go_roundw
            case rel =>
              rw [HP1.out] at i6
              exact ⟨bg + 1, bg + 1, l ++ [.sg c], [], HP.out.1, by omega, by rw [HSU.out, step_sgn HBW.out HBS.out, flush_none], by rw [List.drop_eq_nil_of_le (by rw [HTK.out, List.length_append, HLEN.out]; simp)], by simp, by have := HLL.out; first | omega | (simp; omega), by first | rfl | go_num, o6, F6, i6⟩
            case measure => rw [i6.pos, HP1.out, M1.out]; have := HP.out; omega
        · have hbl : bg < p := by
            rcases Nat.lt_or_ge bg p with h | h
            · exact h
            · exact absurd (by rw [← HWD.out, List.drop_eq_nil_of_le (by rw [HLEN.out]; exact h)]) hw0
          have hdat : (t.extract bg p).data.toList = wd := by
            rw [ext_data, ← HWD.out, List.take_append_of_le_length (by rw [← Lib.size_eq]; omega), List.drop_take]
          have hne : 0 < (t.extract bg p).size := by rw [Lib.size_eq, hdat]; exact List.length_pos_iff.2 hw0
          have hW := fun w => wordtoken_any (t.extract bg p) hne (by rw [hdat]; exact HWA.out) w
          rw [hdat] at hW
          have tt : decide (bg < p) = true := by simpa using hbl
          have y1 : 0 ≤ (bg : Int) ∧ (bg : Int) ≤ (p : Int) := by omega
          have HW0 : Hid (wd ≠ []) := hw0
          clear hdat hne hw0 hbl
          cases hwt : wordT wd with
          | none =>
            have HWT : Hid (wordT wd = none) := hwt
            rw [hwt] at hW
            clear hwt hSg hBl
            go_wp2_with (first | (go_at_call 67; refine (hIn _).mono ?_; rintro e w2 ⟨rfl, rfl⟩) | (go_at_call 68; refine (hW _).mono ?_; rintro e w3 ⟨⟨tv, rfl, htv⟩, f3⟩))
            go_ret2
            exact read_bad (HBAD.out HSU.out (step_fbad HBW.out (flush_bad HW0.out HWT.out))) (F2.out.trans f3)
          | some tk =>
            have HWT : Hid (wordT wd = some tk) := hwt
            rw [hwt] at hW
            clear hwt
            cases bs
            · cases bb
              · go_wp2_with (first | (go_at_call 67; refine (hIn _).mono ?_; rintro e w2 ⟨rfl, rfl⟩) | (go_at_call 68; refine (hW _).mono ?_; rintro e w3 ⟨⟨tv, rfl, htv⟩, f3⟩; obtain ⟨Ti, xi, hxi⟩ := tval_iface tk; obtain rfl : tv = .iface Ti xi := (htv tk rfl).trans hxi; have HTV : Hid (Value.iface Ti xi = tval tk) := hxi.symm; clear htv hxi; have o3 := O2.out.keep0 f3; have i3 := I2.out.keep f3 (fun h => h); have F3 := F2.out.trans f3; have hB3 := F3.size) | (at_builtin; refine wpList_tok rfl _ _ rfl rfl _ _ l tk HTV.out rfl rfl w.heap.size (by exact hB3) (by exact o3) (by omega) ?_; intro v4 w4 g4 o4; have i4 := i3.keep g4 (o3.apart_it i3); have F4 := F3.ownK g4 o3; clear HTV) | (go_at_call 69; refine (hSg _).mono ?_; rintro e w5 ⟨rfl, f5⟩; have o5 := o4.keep0 f5; have i5 := i4.keep f5 (fun h => h); have F5 := F4.trans f5; have hB5 := F5.size) | (go_at_call 69; refine (hBl _).mono ?_; rintro e w6 ⟨rfl, f6⟩; have o6 := o5.keep0 f6; have i6 := i5.keep f6 (fun h => h); have F6 := F5.trans f6))
                go_ret2
                exact read_bad (HBAD.out HSU.out (step_bad HBW.out HBS.out HBB.out)) F6
              · go_wp2_with (first | (go_at_call 67; refine (hIn _).mono ?_; rintro e w2 ⟨rfl, rfl⟩) | (go_at_call 68; refine (hW _).mono ?_; rintro e w3 ⟨⟨tv, rfl, htv⟩, f3⟩; obtain ⟨Ti, xi, hxi⟩ := tval_iface tk; obtain rfl : tv = .iface Ti xi := (htv tk rfl).trans hxi; have HTV : Hid (Value.iface Ti xi = tval tk) := hxi.symm; clear htv hxi; have o3 := O2.out.keep0 f3; have i3 := I2.out.keep f3 (fun h => h); have F3 := F2.out.trans f3; have hB3 := F3.size) | (at_builtin; refine wpList_tok rfl _ _ rfl rfl _ _ l tk HTV.out rfl rfl w.heap.size (by exact hB3) (by exact o3) (by omega) ?_; intro v4 w4 g4 o4; have i4 := i3.keep g4 (o3.apart_it i3); have F4 := F3.ownK g4 o3; clear HTV) | (go_at_call 69; refine (hSg _).mono ?_; rintro e w5 ⟨rfl, f5⟩; have o5 := o4.keep0 f5; have i5 := i4.keep f5 (fun h => h); have F5 := F4.trans f5; have hB5 := F5.size) | (go_at_call 69; refine (hBl _).mono ?_; rintro e w6 ⟨rfl, f6⟩; have o6 := o5.keep0 f6; have i6 := i5.keep f6 (fun h => h); have F6 := F5.trans f6))
                go_roundw
                case rel =>
                  obtain ⟨rfl, _⟩ := HPP.out (Or.inr (Or.inr (by simpa using HBB.out)))
                  exact ⟨p + 1, p + 1, (l ++ [tk]), [], HP.out.1, by omega, by rw [HSU.out, step_bl HBW.out HBS.out HBB.out, flush_good HW0.out HWT.out], by rw [List.drop_eq_nil_of_le (by rw [HTK.out, List.length_append, HLEN.out]; simp)], by simp, by have := HLL.out; first | omega | (simp; omega), by first | rfl | go_num, o6, F6, i6⟩
                case measure =>
                  obtain ⟨rfl, _⟩ := HPP.out (Or.inr (Or.inr (by simpa using HBB.out)))
                  rw [i6.pos, M1.out]; have := HP.out; omega
            · obtain ⟨hp1, hρ⟩ := HPP.out (Or.inr (Or.inl HBS.out))
              have HSG : Hid (Value.iface 121 (.int .i32 ρ) = tval (.sg c)) := by show _ = _; rw [hρ]; rfl
              have HP1 : Hid (p' = p + 1) := hp1
              clear hp1 hρ hBl
              go_wp2_with (first | (at_builtin; refine wpList_tok rfl _ _ rfl rfl _ _ ((l ++ [tk])) (.sg c) HSG.out rfl rfl w.heap.size (by exact hB5) (by exact o5) (by first | omega | (simp; omega)) ?_; intro v6 w6 g6 o6; have i6 := i5.keep g6 (o5.apart_it i5); have F6 := F5.ownK g6 o5) | (go_at_call 67; refine (hIn _).mono ?_; rintro e w2 ⟨rfl, rfl⟩) | (go_at_call 68; refine (hW _).mono ?_; rintro e w3 ⟨⟨tv, rfl, htv⟩, f3⟩; obtain ⟨Ti, xi, hxi⟩ := tval_iface tk; obtain rfl : tv = .iface Ti xi := (htv tk rfl).trans hxi; have HTV : Hid (Value.iface Ti xi = tval tk) := hxi.symm; clear htv hxi; have o3 := O2.out.keep0 f3; have i3 := I2.out.keep f3 (fun h => h); have F3 := F2.out.trans f3; have hB3 := F3.size) | (at_builtin; refine wpList_tok rfl _ _ rfl rfl _ _ l tk HTV.out rfl rfl w.heap.size (by exact hB3) (by exact o3) (by omega) ?_; intro v4 w4 g4 o4; have i4 := i3.keep g4 (o3.apart_it i3); have F4 := F3.ownK g4 o3; clear HTV) | (go_at_call 69; refine (hSg _).mono ?_; rintro e w5 ⟨rfl, f5⟩; have o5 := o4.keep0 f5; have i5 := i4.keep f5 (fun h => h); have F5 := F4.trans f5; have hB5 := F5.size))
              go_roundw
              case rel =>
                rw [HP1.out] at i6
                exact ⟨p + 1, p + 1, (l ++ [tk]) ++ [.sg c], [], HP.out.1, by omega, by rw [HSU.out, step_sgn HBW.out HBS.out, flush_good HW0.out HWT.out], by rw [List.drop_eq_nil_of_le (by rw [HTK.out, List.length_append, HLEN.out]; simp)], by simp, by have := HLL.out; first | omega | (simp; omega), by first | rfl | go_num, o6, F6, i6⟩
              case measure => rw [i6.pos, HP1.out, M1.out]; have := HP.out; omega
      · go_wp2_with (first | (go_at_call 67; refine (hIn _).mono ?_; rintro e w2 ⟨rfl, rfl⟩))
        go_roundw
        case rel =>
          obtain ⟨rfl, _⟩ := HPP.out (Or.inl HBW.out)
          refine ⟨p + 1, bg, l, wd ++ [c], HP.out.1, by have := HBG.out; omega, by rw [HSU.out, step_word HBW.out], ?_, ?_, by have := HLL.out; omega, rfl, O2.out, F2.out, I2.out⟩
          · rw [HTK.out, List.drop_append_of_le_length (by rw [HLEN.out]; exact HBG.out), HWD.out]
          · intro x hx
            rcases List.mem_append.1 hx with hx | hx
            · exact HWA.out x hx
            · simp at hx; subst hx; exact HBW.out
        case measure =>
          obtain ⟨rfl, _⟩ := HPP.out (Or.inl HBW.out)
          rw [I2.out.pos, M1.out]; have := HP.out; omega

end Go.Proofs.YtecipogfdhpjfaaGreatDoor
