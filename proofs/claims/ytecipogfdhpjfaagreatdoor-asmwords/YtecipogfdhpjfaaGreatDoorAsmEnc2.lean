/-
  The contract of package asm's 'encode' over the translation: an item's word. No statement is proved here.
-/
import Derived.Test.YtecipogfdhpjfaaGreatDoorAsmEnc
namespace Go.Proofs.YtecipogfdhpjfaaGreatDoor
open Go.RowKit Go.Maps Go.WideMaps

/-- What the parts of an item come to. -/
def encR (m : List UInt8 → Option Int) (op : Int) : List UInt8 → List Tok → Int → Int → Int → Int → Int × Bool
  | x :: xs, t :: ts, a, b, c, i =>
    if moT m t = false then (0, false)
    else if x = 97 then encR m op xs ts (mvT m t) b c i
    else if x = 98 then encR m op xs ts a (mvT m t) c i
    else if x = 99 then encR m op xs ts a b (mvT m t) i
    else if x = 105 then encR m op xs ts a b c (mvT m t)
    else if x = 119 then (mvT m t % 4294967296, true)
    else encR m op xs ts a b c i
  | _, _, a, b, c, i => (encW op a b c i, encE op a b c i == 0)

theorem own_fr {w w' : World} {bk k : Nat} {D : DataW Unit} (h : w.ownsMap Tryz.prog 9 (plainElem Tryz.prog 3) bk k D) (f : Fr none' w w') : w'.ownsMap Tryz.prog 9 (plainElem Tryz.prog 3) bk k D :=
  h.kept (row := none) ⟨f.os, f.tape, f.output, f.size, fun q hq _ => f.block q hq (fun h => h)⟩ (by simp)
theorem byte_eq (x y : UInt8) : ((x.toNat : Int) == (y.toNat : Int)) = decide (x = y) := by
  by_cases h : x = y
  · subst h; simp
  · have : ¬ (x.toNat : Int) = (y.toNat : Int) := fun e => h (UInt8.toNat_inj.1 (by omega))
    simp [h, this]

set_option maxRecDepth 100000 in
set_option maxHeartbeats 3200000 in
theorem encode_any (lab : Value) (op : Int) (v : Value) (ts : List Tok) (bk k : Nat) (D : DataW Unit) (m : List UInt8 → Option Int) (w : World) (hown : w.ownsMap Tryz.prog 9 (plainElem Tryz.prog 3) bk k D) (hmp : Mp D m) (hT : Toks w v ts) (hl : ts.length = (layB op).length) (hlen : ∀ s, Tok.nm s ∈ ts → s.length ≤ 4000) :
    Calls Tryz.prog 25 #[.agg #[lab, .int .i64 op, v], .map (some bk)] w fun e w' => e = .returned (.tuple #[.int .u32 (encR m op (layB op) ts 0 0 0 0).1, .bool (encR m op (layB op) ts 0 0 0 0).2]) ∧ Fr none' w w' := by
  obtain ⟨b, off, c, cs, hv, hr, hx⟩ : ∃ (b off c : Nat) (cs : Array Value), (ts ≠ [] → v = .slice (some ⟨b, off, none⟩) ts.length c ∧ Row w b cs 95) ∧ True ∧ ∀ (j : Nat) t, ts[j]? = some t → cs[off + j]? = some (tval t) := by
    rcases hT with ⟨rfl, _⟩ | ⟨b, off, c, cs, h1, _, h3, h4⟩
    · exact ⟨0, 0, 0, #[], fun h => absurd rfl h, trivial, fun j t h => by simp at h⟩
    · exact ⟨b, off, c, cs, fun _ => ⟨h1, h3⟩, trivial, h4⟩
  have r0 := row_alloc w #[lab, .int .i64 op, v] 67
  have f0 := (Fr.refl none' w).alloc (.cells #[lab, .int .i64 op, v] 67)
  obtain ⟨c0, c1, c2⟩ := sbox_cells r0
  have hL := fun w => layout_any op w
  simp only [strV] at hL
  obtain ⟨q, hq⟩ : ∃ q : ByteArray, q = ⟨(layB op).toArray⟩ := ⟨_, rfl⟩
  have hql : layB op = q.data.toList := by rw [hq]
  rw [← hq] at hL
  have ha := (lay_small op).2
  rw [hql] at ha hl ⊢
  have HA : Hid (∀ c ∈ q.data.toList, c.toNat < 128) := ha
  have HL : Hid (ts.length = q.data.toList.length ∧ ts.length = q.size) := ⟨hl, by rw [hl, Lib.size_eq]⟩
  have HV : Hid (ts ≠ [] → v = .slice (some ⟨b, off, none⟩) ts.length c ∧ Row w b cs 95) := hv
  have HX : Hid (∀ (j : Nat) t, ts[j]? = some t → cs[off + j]? = some (tval t)) := hx
  have HO : Hid (w.ownsMap Tryz.prog 9 (plainElem Tryz.prog 3) bk k D) := hown
  have HM : Hid (Mp D m) := hmp
  have HN : Hid (∀ s, Tok.nm s ∈ ts → s.length ≤ 4000) := hlen
  clear hT hv hr hx ha hl hq hql hown hmp hlen
  go_enter Tryz.func25, Tryz.ntmps25
  go_wp2_with (first | (go_at_call 36; refine (hL _).mono ?_; rintro e w1 ⟨rfl, f1⟩))
  have rS : Hid (Row w1 w.heap.size #[lab, .int .i64 op, v] 67) := (r0.alloc _).keep f1 (fun h => h)
  have rI0 := (row_alloc (w.alloc (.cells #[lab, .int .i64 op, v] 67)) (ibox op 0 0 0 0) 46).keep f1 (fun h => h)
  rw [show (w.alloc (.cells #[lab, .int .i64 op, v] 67)).heap.size = w.heap.size + 1 by simp] at rI0
  have rI : Hid (Row w1 (w.heap.size + 1) (ibox op 0 0 0 0) 46) := rI0
  have F1 : Hid (Fr none' w w1) := (f0.alloc _).trans f1
  clear rI0 r0 f0 c0 c1 c2 hL f1
  go_loopw [] (fun wr => ∃ (p : Nat) (a' b' c' i' : Int), p ≤ q.size ∧ encR m op q.data.toList ts 0 0 0 0 = encR m op (q.data.toList.drop p) (ts.drop p) a' b' c' i' ∧ Row wr (w.heap.size + 1) (ibox op a' b' c' i') 46 ∧ Row wr w.heap.size #[lab, .int .i64 op, v] 67 ∧ Fr none' w wr ∧ It wr w1.heap.size q p) (fun wr => q.size - itPos wr w1.heap.size)
  case atStart => exact ⟨0, 0, 0, 0, 0, by omega, rfl, rI.out.alloc _, rS.out.alloc _, F1.out.alloc _, it_new w1 q⟩
  case round =>
    obtain ⟨p, a', b', c', i', hp, henc, rk, sk, fk, ik⟩ := hrel
    have M1 : Hid (itPos wr w1.heap.size = p) := ik.pos
    by_cases he : p = q.size
    · have hn := fun ty => next_none (P := Tryz.prog) ik (by omega) ty
      have HEN : Hid (encR m op q.data.toList ts 0 0 0 0 = (encW op a' b' c' i', encE op a' b' c' i' == 0)) := by
        show _ = _
        rw [henc, List.drop_eq_nil_of_le (by rw [← Lib.size_eq]; omega), List.drop_eq_nil_of_le (by have := HL.out; omega)]
        rfl
      obtain ⟨d0, d1, d2, d3, d4⟩ := ibox_cells rk
      have hEn := enc_any op a' b' c' i' wr
      clear hp henc ik M1 he
      go_wp2_with (first | (go_at_call 45; refine hEn.mono ?_; rintro e w6 ⟨rfl, f6⟩))
      go_ret2
      exact ⟨by rw [HEN.out]; rfl, fk.trans f6⟩
    · have hs : p < q.size := by omega
      have hcx := HA.out _ (byte_in q p hs)
      have hn := fun ty => next_some (P := Tryz.prog) ik hs hcx ty
      have i2 := ik.set (p + 1)
      have f2 := fr_itset fk (Or.inl F1.out.size) q (p + 1)
      have r6 := rk.itset ik (p + 1)
      have s6 := sk.itset ik (p + 1)
      obtain ⟨x, hxx⟩ : ∃ x, q[p]'hs = x := ⟨_, rfl⟩
      have hq1 := bytes_lt q p hs
      rw [hxx] at hn hcx hq1
      have hpl : p < ts.length := by have := HL.out; omega
      obtain ⟨t, ht⟩ : ∃ t, ts[p]? = some t := ⟨_, List.getElem?_eq_getElem hpl⟩
      obtain ⟨wn, hwn⟩ : ∃ wn, itSet wr w1.heap.size q (p + 1) = wn := ⟨_, rfl⟩
      rw [hwn] at hn i2 f2 r6 s6
      have hne : ts ≠ [] := by intro h; rw [h] at hpl; simp at hpl
      obtain ⟨rfl, hrow⟩ := HV.out hne
      have I2 : Hid (It wn w1.heap.size q (p + 1)) := i2
      have R6 : Hid (Row wn (w.heap.size + 1) (ibox op a' b' c' i') 46) := r6
      have RS6 : Hid (Row wn w.heap.size #[lab, .int .i64 op, .slice (some ⟨b, off, none⟩) ts.length c] 67) := s6
      have F6 : Hid (Fr none' w wn) := f2
      obtain ⟨_, _, e2⟩ := sbox_cells s6
      have e3 : wn.cell? ⟨b, off + p, none⟩ = some (tval t) := by
        rw [(hrow.keep f2 (fun h => h)).cell]
        exact HX.out p t ht
      obtain ⟨d0, d1, d2, d3, d4⟩ := ibox_cells r6
      have kz := r6.frozen
      have hMe := fun w' (f : Fr none' wn w') => meant_any t bk k D m w' (own_fr HO.out (F6.out.trans f)) HM.out (fun s hs => HN.out s (by rw [← hs]; exact List.mem_of_getElem? ht))
      obtain ⟨T1, x1, hx1⟩ : ∃ T x, tval t = .iface T x := by cases t <;> exact ⟨_, _, rfl⟩
      rw [hx1] at e3 hMe
      have y1 : (p : Int) < ts.length := by omega
      have hdq : q.data.toList.drop p = x :: q.data.toList.drop (p + 1) := by
        rw [List.drop_eq_getElem_cons (by rw [← Lib.size_eq]; exact hs)]
        congr 1
      have hdt : ts.drop p = t :: ts.drop (p + 1) := by
        rw [List.drop_eq_getElem_cons hpl]
        congr 1
        exact (List.getElem?_eq_some_iff.1 ht).2
      have HEN : Hid (encR m op q.data.toList ts 0 0 0 0 = encR m op (x :: q.data.toList.drop (p + 1)) (t :: ts.drop (p + 1)) a' b' c' i') := by show _ = _; rw [henc, hdq, hdt]
      have HP : Hid (p < q.size) := hs
      obtain ⟨mo, hmo⟩ : ∃ mo, moT m t = mo := ⟨_, rfl⟩
      have HMO : Hid (moT m t = mo) := hmo
      clear hp henc rk sk fk ik he hs hcx hxx hq1 hpl ht hwn hne hrow i2 f2 r6 s6 hx1 hdq hdt hmo
      cases mo
      · go_wp2_with (first | (go_at_call 44; refine (hMe _ (Fr.refl none' wn)).mono ?_; rintro e w6 ⟨⟨cc, rfl, hcc⟩, rfl⟩; rw [HMO.out]))
        go_ret2
        exact ⟨by rw [HEN.out]; simp only [encR]; rw [if_pos HMO.out]; rfl, F6.out⟩
      · have t97 : ((x.toNat : Int) == 97) = decide (x = 97) := byte_eq x 97
        have t98 : ((x.toNat : Int) == 98) = decide (x = 98) := byte_eq x 98
        have t99 : ((x.toNat : Int) == 99) = decide (x = 99) := byte_eq x 99
        have t105 : ((x.toNat : Int) == 105) = decide (x = 105) := byte_eq x 105
        have t119 : ((x.toNat : Int) == 119) = decide (x = 119) := byte_eq x 119
        by_cases h97 : x = 97
        · subst h97
          go_wp2_with (first | (go_at_call 44; refine (hMe _ (Fr.refl none' wn)).mono ?_; rintro e w6 ⟨⟨cc, rfl, hcc⟩, rfl⟩; rw [HMO.out]))
          obtain rfl := hcc HMO.out
          go_roundw
          case rel =>
            refine ⟨p + 1, mvT m t, b', c', i', by have := HP.out; omega, ?_, R6.out.setCell 1 _, (RS6.out.setCell_other (p := ⟨w.heap.size + 1, 1, none⟩) (by show w.heap.size + 1 ≠ w.heap.size; omega) _), (F6.out.setCell (p := ⟨w.heap.size + 1, 1, none⟩) (Or.inl (by show w.heap.size ≤ w.heap.size + 1; omega)) _), I2.out.setCell R6.out 1 _⟩
            rw [HEN.out]
            simp only [encR]
            rw [if_neg (by rw [HMO.out]; simp), if_pos trivial]
          case measure => rw [(I2.out.setCell R6.out 1 _).pos, M1.out]; have := HP.out; omega
        · by_cases h98 : x = 98
          · subst h98
            go_wp2_with (first | (go_at_call 44; refine (hMe _ (Fr.refl none' wn)).mono ?_; rintro e w6 ⟨⟨cc, rfl, hcc⟩, rfl⟩; rw [HMO.out]))
            obtain rfl := hcc HMO.out
            go_roundw
            case rel =>
              refine ⟨p + 1, a', mvT m t, c', i', by have := HP.out; omega, ?_, R6.out.setCell 2 _, (RS6.out.setCell_other (p := ⟨w.heap.size + 1, 2, none⟩) (by show w.heap.size + 1 ≠ w.heap.size; omega) _), (F6.out.setCell (p := ⟨w.heap.size + 1, 2, none⟩) (Or.inl (by show w.heap.size ≤ w.heap.size + 1; omega)) _), I2.out.setCell R6.out 2 _⟩
              rw [HEN.out]
              simp only [encR]
              rw [if_neg (by rw [HMO.out]; simp), if_neg (show ¬ (98 : UInt8) = 97 by decide), if_pos trivial]
            case measure => rw [(I2.out.setCell R6.out 2 _).pos, M1.out]; have := HP.out; omega
          · by_cases h99 : x = 99
            · subst h99
              go_wp2_with (first | (go_at_call 44; refine (hMe _ (Fr.refl none' wn)).mono ?_; rintro e w6 ⟨⟨cc, rfl, hcc⟩, rfl⟩; rw [HMO.out]))
              obtain rfl := hcc HMO.out
              go_roundw
              case rel =>
                refine ⟨p + 1, a', b', mvT m t, i', by have := HP.out; omega, ?_, R6.out.setCell 3 _, (RS6.out.setCell_other (p := ⟨w.heap.size + 1, 3, none⟩) (by show w.heap.size + 1 ≠ w.heap.size; omega) _), (F6.out.setCell (p := ⟨w.heap.size + 1, 3, none⟩) (Or.inl (by show w.heap.size ≤ w.heap.size + 1; omega)) _), I2.out.setCell R6.out 3 _⟩
                rw [HEN.out]
                simp only [encR]
                rw [if_neg (by rw [HMO.out]; simp), if_neg (show ¬ (99 : UInt8) = 97 by decide), if_neg (show ¬ (99 : UInt8) = 98 by decide), if_pos trivial]
              case measure => rw [(I2.out.setCell R6.out 3 _).pos, M1.out]; have := HP.out; omega
            · by_cases h105 : x = 105
              · subst h105
                go_wp2_with (first | (go_at_call 44; refine (hMe _ (Fr.refl none' wn)).mono ?_; rintro e w6 ⟨⟨cc, rfl, hcc⟩, rfl⟩; rw [HMO.out]))
                obtain rfl := hcc HMO.out
                go_roundw
                case rel =>
                  refine ⟨p + 1, a', b', c', mvT m t, by have := HP.out; omega, ?_, R6.out.setCell 4 _, (RS6.out.setCell_other (p := ⟨w.heap.size + 1, 4, none⟩) (by show w.heap.size + 1 ≠ w.heap.size; omega) _), (F6.out.setCell (p := ⟨w.heap.size + 1, 4, none⟩) (Or.inl (by show w.heap.size ≤ w.heap.size + 1; omega)) _), I2.out.setCell R6.out 4 _⟩
                  rw [HEN.out]
                  simp only [encR]
                  rw [if_neg (by rw [HMO.out]; simp), if_neg (show ¬ (105 : UInt8) = 97 by decide), if_neg (show ¬ (105 : UInt8) = 98 by decide), if_neg (show ¬ (105 : UInt8) = 99 by decide), if_pos trivial]
                case measure => rw [(I2.out.setCell R6.out 4 _).pos, M1.out]; have := HP.out; omega
              · by_cases h119 : x = 119
                · subst h119
                  go_wp2_with (first | (go_at_call 44; refine (hMe _ (Fr.refl none' wn)).mono ?_; rintro e w6 ⟨⟨cc, rfl, hcc⟩, rfl⟩; rw [HMO.out]))
                  obtain rfl := hcc HMO.out
                  go_ret2
                  refine ⟨?_, F6.out⟩
                  rw [HEN.out]
                  simp only [encR]
                  rw [if_neg (by rw [HMO.out]; simp), if_neg (show ¬ (119 : UInt8) = 97 by decide), if_neg (show ¬ (119 : UInt8) = 98 by decide), if_neg (show ¬ (119 : UInt8) = 99 by decide), if_neg (show ¬ (119 : UInt8) = 105 by decide), if_pos trivial]
                  rfl
                · go_wp2_with (first | (go_at_call 44; refine (hMe _ (Fr.refl none' wn)).mono ?_; rintro e w6 ⟨⟨cc, rfl, hcc⟩, rfl⟩; rw [HMO.out]))
                  go_roundw
                  case rel =>
                    refine ⟨p + 1, a', b', c', i', by have := HP.out; omega, ?_, R6.out, RS6.out, F6.out, I2.out⟩
                    rw [HEN.out]
                    simp only [encR]
                    rw [if_neg (by rw [HMO.out]; simp), if_neg h97, if_neg h98, if_neg h99, if_neg h105, if_neg h119]
                  case measure => rw [I2.out.pos, M1.out]; have := HP.out; omega

end Go.Proofs.YtecipogfdhpjfaaGreatDoor
