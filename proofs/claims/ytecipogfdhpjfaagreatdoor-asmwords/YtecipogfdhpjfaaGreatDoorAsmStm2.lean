/-
  The contract of package asm's 'isItem' over the translation, where the operands are as many as are asked for; what 'beyond' answers. No statement is proved here.
-/
import Derived.Test.YtecipogfdhpjfaaGreatDoorAsmStm
namespace Go.Proofs.YtecipogfdhpjfaaGreatDoor
open Go.RowKit

set_option maxRecDepth 100000 in
set_option maxHeartbeats 1600000 in
theorem isitem_yes (lab : Value) (op : Int) (b off c : Nat) (cs : Array Value) (l : List Tok) (w : World) (hE : Env w) (h1 : op ≠ -1) (hl : l.length = (layB op).length) (hr : Row w b cs 95) (hx : ∀ (j : Nat) t, l[j]? = some t → cs[off + j]? = some (tval t)) :
    Calls Tryz.prog 43 #[.agg #[lab, .int .i64 op, .slice (some ⟨b, off, none⟩) l.length c]] w fun e w' => e = .returned (.bool (isItT op l)) ∧ Fr none' w w' := by
  have hN : isItT op l = fitsL (layB op) l := by unfold isItT; simp [h1]
  rw [hN]
  have r0 := row_alloc w #[lab, .int .i64 op, .slice (some ⟨b, off, none⟩) l.length c] 67
  have f0 := (Fr.refl none' w).alloc (.cells #[lab, .int .i64 op, .slice (some ⟨b, off, none⟩) l.length c] 67)
  obtain ⟨c0, c1, c2⟩ := sbox_cells r0
  have hL := fun w => layout_any op w
  simp only [strV] at hL
  obtain ⟨q, hq⟩ : ∃ q : ByteArray, q = ⟨(layB op).toArray⟩ := ⟨_, rfl⟩
  have hql : layB op = q.data.toList := by rw [hq]
  rw [← hq] at hL
  have ha := (lay_small op).2
  have h7 := (lay_small op).1
  rw [hql] at ha hl h7 ⊢
  have HA : Hid (∀ c ∈ q.data.toList, c.toNat < 128) := ha
  have hls : l.length = q.size := by rw [hl, Lib.size_eq]
  have t1 : (op == -1) = false := by simpa using h1
  have t2 : ((l.length : Int) != (q.size : Int)) = false := by simp; omega
  have HE : Hid (Env w) := hE
  have HR : Hid (Row w b cs 95) := hr
  have HX : Hid (∀ (j : Nat) t, l[j]? = some t → cs[off + j]? = some (tval t)) := hx
  have HL : Hid (l.length = q.data.toList.length ∧ l.length = q.size) := ⟨hl, hls⟩
  have H7 : Hid (q.data.toList.length ≤ 7) := h7
  clear hN hq hql h1 hE hr hx ha hl h7 hls
  go_enter Tryz.func43, Tryz.ntmps43
  go_wp2_with (first | (go_at_call 36; refine (hL _).mono ?_; rintro e w1 ⟨rfl, f1⟩; have r1 := r0.keep f1 (fun h => h); obtain ⟨d0, d1, d2⟩ := sbox_cells r1; have F1 : Hid (Fr none' w w1) := f0.trans f1; have R1 : Hid (Row w1 w.heap.size #[lab, .int .i64 op, .slice (some ⟨b, off, none⟩) l.length c] 67) := r1))
  clear r1 f1
  clear hL c0 c1 c2 r0 f0 d0 d1 d2
  go_loopw [] (fun wr => ∃ p : Nat, p ≤ q.size ∧ (∀ (j : Nat) c t, j < p → q.data.toList[j]? = some c → l[j]? = some t → fitI t (c.toNat : Int) = true) ∧ Fr none' w1 wr ∧ It wr w1.heap.size q p) (fun wr => q.size - itPos wr w1.heap.size)
  case atStart => exact ⟨0, by omega, fun j c t hj => by omega, (Fr.refl _ _).alloc _, it_new w1 q⟩
  case round =>
    obtain ⟨p, hp, hw, fk, ik⟩ := hrel
    have M1 : Hid (itPos wr w1.heap.size = p) := ik.pos
    have HW : Hid (∀ (j : Nat) c t, j < p → q.data.toList[j]? = some c → l[j]? = some t → fitI t (c.toNat : Int) = true) := hw
    by_cases he : p = q.size
    · have hn := fun ty => next_none (P := Tryz.prog) ik (by omega) ty
      have hall : fitsL q.data.toList l = true := fitsL_all _ _ HL.out.1 (fun j c t h1 h2 => HW.out j c t (by
        rcases Nat.lt_or_ge j p with h | h
        · exact h
        · rw [List.getElem?_eq_none (by rw [← Lib.size_eq]; omega)] at h1; cases h1) h1 h2)
      have HALL : Hid (fitsL q.data.toList l = true) := hall
      clear hp hw ik M1 he hall
      go_wp2
      go_ret
      exact ⟨ret_bool HALL.out.symm, F1.out.trans fk⟩
    · have hs : p < q.size := by omega
      have hc := HA.out _ (byte_in q p hs)
      have hn := fun ty => next_some (P := Tryz.prog) ik hs hc ty
      have i2 := ik.set (p + 1)
      have f2 := fr_itset fk (Or.inl (Nat.le_refl _)) q (p + 1)
      obtain ⟨x, hxx⟩ : ∃ x, q[p]'hs = x := ⟨_, rfl⟩
      have hq1 := bytes_lt q p hs
      rw [hxx] at hn hc hq1
      obtain ⟨t, ht⟩ : ∃ t, l[p]? = some t := ⟨_, List.getElem?_eq_getElem (by have := HL.out; omega)⟩
      obtain ⟨wn, hwn⟩ : ∃ wn, itSet wr w1.heap.size q (p + 1) = wn := ⟨_, rfl⟩
      rw [hwn] at hn i2 f2
      have I2 : Hid (It wn w1.heap.size q (p + 1)) := i2
      have hF := fits_any t (x.toNat : Int) wn (HE.out.keep (F1.out.trans f2))
      obtain ⟨_, _, e2⟩ := sbox_cells (R1.out.keep f2 (fun h => h))
      have e3 : wn.cell? ⟨b, off + p, none⟩ = some (tval t) := by
        rw [((HR.out.keep F1.out (fun h => h)).keep f2 (fun h => h)).cell]
        exact HX.out p t ht
      obtain ⟨T1, x1, hx1⟩ : ∃ T x, tval t = .iface T x := by cases t <;> exact ⟨_, _, rfl⟩
      rw [hx1] at e3 hF
      have y1 : (p : Int) < l.length := by have := HL.out; omega
      have HQ1 : Hid (q.data.toList[p]? = some x) := hq1
      have HTT : Hid (l[p]? = some t) := ht
      have HP : Hid (p < q.size) := hs
      obtain ⟨bf, hbf⟩ : ∃ bf, fitI t (x.toNat : Int) = bf := ⟨_, rfl⟩
      rw [hbf] at hF
      have HBF : Hid (fitI t (x.toNat : Int) = bf) := hbf
      clear hp hw ik he hs hc hxx hq1 ht hwn i2 fk hx1 hbf
      cases bf
      · go_wp2_with (first | (go_at_call 70; refine hF.mono ?_; rintro e w3 ⟨rfl, f3⟩))
        go_ret
        exact ⟨ret_bool (fitsL_no _ _ p x t HQ1.out HTT.out HBF.out).symm, (F1.out.trans f2).trans f3⟩
      · go_wp2_with (first | (go_at_call 70; refine hF.mono ?_; rintro e w3 ⟨rfl, f3⟩))
        go_roundw
        case rel =>
          refine ⟨p + 1, by have := HP.out; omega, fun j c' t' hj h1 h2 => ?_, f2.trans f3, I2.out.keep f3 (fun h => h)⟩
          by_cases hj' : j = p
          · subst hj'
            rw [HQ1.out] at h1
            rw [HTT.out] at h2
            cases h1
            cases h2
            exact HBF.out
          · exact HW.out j c' t' (by omega) h1 h2
        case measure => rw [(I2.out.keep f3 (fun h => h)).pos, M1.out]; have := HP.out; omega

set_option maxRecDepth 100000 in
set_option maxHeartbeats 1600000 in
theorem isitem_nil (lab : Value) (op : Int) (a : Option Addr) (c : Nat) (w : World) (h1 : op ≠ -1) (hl : layB op = []) :
    Calls Tryz.prog 43 #[.agg #[lab, .int .i64 op, .slice a 0 c]] w fun e w' => e = .returned (.bool (isItT op [])) ∧ Fr none' w w' := by
  have hN : isItT op [] = true := by unfold isItT; rw [hl]; simpa [fitsL] using h1
  rw [hN]
  have r0 := row_alloc w #[lab, .int .i64 op, .slice a 0 c] 67
  have f0 := (Fr.refl none' w).alloc (.cells #[lab, .int .i64 op, .slice a 0 c] 67)
  obtain ⟨c0, c1, c2⟩ := sbox_cells r0
  have hL := fun w => layout_any op w
  rw [hl] at hL
  have t1 : (op == -1) = false := by simpa using h1
  clear hN h1 hl
  go_enter Tryz.func43, Tryz.ntmps43
  go_wp2_with (first | (go_at_call 36; refine (hL _).mono ?_; rintro e w1 ⟨rfl, f1⟩; obtain ⟨d0, d1, d2⟩ := sbox_cells (r0.keep f1 (fun h => h))))
  have hn := fun ty => next_none (P := Tryz.prog) (it_new w1 ⟨#[]⟩) (by show ¬ 0 < 0; omega) ty
  refine wp_loop_rounds 1 ?_
  rw [rounds_succ]
  go_wp2
  go_ret
  exact ⟨rfl, (f0.trans f1).alloc _⟩

theorem isitem_any (lab : Value) (op : Int) (v : Value) (l : List Tok) (w : World) (hE : Env w) (hT : Toks w v l) :
    Calls Tryz.prog 43 #[.agg #[lab, .int .i64 op, v]] w fun e w' => e = .returned (.bool (isItT op l)) ∧ Fr none' w w' := by
  by_cases h : op = -1 ∨ l.length ≠ (layB op).length
  · rcases hT with ⟨rfl, a, c, rfl⟩ | ⟨b, off, c, cs, rfl, _, _, _⟩
    · exact isitem_no lab op a 0 c [] w rfl h
    · exact isitem_no lab op _ _ c l w rfl h
  · rcases hT with ⟨rfl, a, c, rfl⟩ | ⟨b, off, c, cs, rfl, _, hr, hx⟩
    · exact isitem_nil lab op a c w (fun e => h (Or.inl e)) (by
        have : (0 : Nat) = (layB op).length := by have : ([] : List Tok).length = (layB op).length := by omega
                                                  simpa using this
        exact List.length_eq_zero_iff.1 this.symm)
    · exact isitem_yes lab op b off c cs l w hE (fun e => h (Or.inl e)) (by omega) hr hx

end Go.Proofs.YtecipogfdhpjfaaGreatDoor
