/-
  The document's SetBank over the translation. No statement is proved here.
-/
import Derived.Test.YthkieoedidpkaaaVcRefC
import Derived.Deep.RegionWith
namespace Go.Proofs.Ythkieoedidpkaaa
open Go.RowKit Go.Maps Go.WideMaps

def setRi (i : Nat) (b : Nat → Int) (x : Vc) : Vc := { x with sy := fun k => if k < i then b k else x.sy k }
theorem setRi_0 (b : Nat → Int) (x : Vc) : setRi 0 b x = x := by
  unfold setRi
  cases x
  congr 1
theorem setRi_s (i : Nat) (b : Nat → Int) (x : Vc) : set1R i (b i) (setRi i b x) = setRi (i + 1) b x := by
  unfold setRi set1R
  congr 1
  funext k
  show (if k = i then b i else if k < i then b k else x.sy k) = if k < i + 1 then b k else x.sy k
  by_cases h : k = i
  · subst h
    rw [if_pos rfl, if_pos (by omega)]
  · rw [if_neg h]
    by_cases h2 : k < i
    · rw [if_pos h2, if_pos (by omega)]
    · rw [if_neg h2, if_neg (by omega)]
theorem upd_upd (L : List Vc) (k : Int) (f g : Vc → Vc) (hf : ∀ t, (f t).id = t.id) : upd (upd L k f) k g = upd L k (fun t => g (f t)) := by
  unfold upd
  rw [List.map_map]
  refine List.map_congr_left fun x _ => ?_
  show (if (if x.id = k then f x else x).id = k then g (if x.id = k then f x else x) else (if x.id = k then f x else x)) = _
  by_cases e : x.id = k
  · rw [if_pos e, if_pos (by rw [hf]; exact e), if_pos e]
  · rw [if_neg e, if_neg e, if_neg e]
/-- Behind i of the six. -/
def Sb (w : World) (q : Qd) (S : Vp) (b : Nat → Int) (j : Nat) (y : Vc × Nat) (i : Nat) (wr : World) : Prop := ∃ q', ChD w q wr q' { S with L := upd S.L S.ld (setRi i b) } ∧ q'.L = q.L ∧ q'.b = q.b ∧ q'.D[j]? = some (setRi i b y.1, y.2) ∧ q'.D.length = q.D.length
theorem Sb.start {w : World} {q : Qd} {S : Vp} (h : IsD w q S) (b : Nat → Int) {j : Nat} {y : Vc × Nat} (hj : q.D[j]? = some y) {wr : World} (f : Fr none' w wr) : Sb w q S b j y 0 wr := by
  have e : ({ S with L := upd S.L S.ld (setRi 0 b) } : Vp) = S := by
    have h1 : setRi 0 b = fun x => x := by funext x; exact setRi_0 b x
    rw [h1, upd_same]
  exact ⟨q, by rw [e]; exact ChD.same h f, rfl, rfl, by rw [setRi_0]; exact hj, rfl⟩
theorem Sb.step {w wr : World} {q : Qd} {S : Vp} {b : Nat → Int} {j i : Nat} {y : Vc × Nat} (h : Sb w q S b j y i wr) (hid : y.1.id = S.ld) {g n cap : Nat} (hL : q.L = .slice (some ⟨g, 0, none⟩) n cap) (hi : i < 6) : Sb w q S b j y (i + 1) (wr.setCell ⟨g, j * 11 + 2 + i, none⟩ (.int .u32 (b i))) := by
  obtain ⟨q', c, h1, h2, h3, h4⟩ := h
  have s := c.is.set (f := set1R i (b i)) (r := 2 + i) (v := .int .u32 (b i)) h3 (h1.trans hL) (by omega) (enc_set _ (by omega) _) rfl (c.is.good.upd1 _ (fun _ => rfl) (fun _ => rfl))
  have e : ({ S with L := upd (upd S.L S.ld (setRi i b)) (setRi i b y.1).id (set1R i (b i)) } : Vp) = { S with L := upd S.L S.ld (setRi (i + 1) b) } := by
    have h5 : (setRi i b y.1).id = S.ld := hid
    have h6 : (fun t => set1R i (b i) (setRi i b t)) = setRi (i + 1) b := by funext t; exact setRi_s i b t
    rw [h5, upd_upd S.L S.ld (setRi i b) (set1R i (b i)) (fun _ => rfl), h6]
  refine ⟨{ q' with D := q'.D.set j (set1R i (b i) (setRi i b y.1), y.2) }, ?_, h1, h2, ?_, ?_⟩
  · rw [← e, Nat.add_assoc]
    exact c.trans s
  · show (q'.D.set j _)[j]? = _
    have hlt : j < q'.D.length := by
      rcases Nat.lt_or_ge j q'.D.length with h' | h'
      · exact h'
      · rw [List.getElem?_eq_none h'] at h3; cases h3
    rw [List.getElem?_set, if_pos rfl, if_pos hlt, setRi_s]
  · show (q'.D.set j _).length = _
    rw [List.length_set, h4]
theorem Sb.after {w wr w2 : World} {q : Qd} {S : Vp} {b : Nat → Int} {j i : Nat} {y : Vc × Nat} (h : Sb w q S b j y i wr) (f : Fr none' wr w2) : Sb w q S b j y i w2 := by
  obtain ⟨q', c, h1, h2, h3, h4⟩ := h
  exact ⟨q', c.after f, h1, h2, h3, h4⟩
/-- What a round asks for. -/
theorem Sb.cells {w wr : World} {q : Qd} {S : Vp} {b : Nat → Int} {j i : Nat} {y : Vc × Nat} (h : Sb w q S b j y i wr) {g n cap : Nat} (hL : q.L = .slice (some ⟨g, 0, none⟩) n cap) (hi : i < 6) : wr.cell? ⟨q.b, 0, none⟩ = some q.L ∧ wr.cell? ⟨g, j * 11 + 2 + i, none⟩ = some (.int .u32 (y.1.sy i)) ∧ wr.frozen? ⟨g, j * 11 + 2 + i, none⟩ = false := by
  obtain ⟨q', c, h1, h2, h3, h4⟩ := h
  obtain ⟨a, cap', hv, hn⟩ := c.is.fl.form encO_len
  obtain ⟨g', e, hc, hz⟩ := hn j _ h3
  have hg : g' = g := by
    have h5 := hv.symm.trans (h1.trans hL)
    rw [e] at h5
    simp at h5
    exact h5.1
  subst hg
  refine ⟨?_, ?_, hz _⟩
  · have := c.is.row.cell 0
    rw [h2] at this
    rw [← h1]
    exact this
  · have := hc (2 + i) _ (enc_sy (setRi i b y.1, y.2) (by omega))
    rw [← Nat.add_assoc] at this
    rw [this]
    show some (Value.int .u32 (if i < i then b i else y.1.sy i)) = _
    rw [if_neg (by omega)]
set_option maxRecDepth 100000 in
set_option maxHeartbeats 4000000 in
theorem dset_any (w : World) (q : Qd) (S : Vp) (h : IsD w q S) (b : Nat → Int) : Calls Try.prog 28 #[pv q.b, .agg (r8 b)] w fun e w' => ∃ q', e = .returned (.int .i64 (setE S)) ∧ ChD w q w' q' (setS S b) := by
  have fB := (Fr.refl none' w).alloc (.cells (r8 b) 33)
  have rB := row_alloc w (r8 b) 33
  have hB := h.keep0 fB
  have hbox : ¬ q.s w.heap.size := fun e => by have := h.lt _ e; omega
  have HB0 : Hid (IsD w q S) := h
  have X := dat_any _ q S hB S.ld
  have c2 : (w.alloc (.cells (r8 b) 33)).cell? ⟨q.b, 2, none⟩ = some (.int .i64 S.ld) := hB.row.cell 2
  have hgl := h.good.ld
  unfold r8 at *
  clear h
  go_enter Try.func28, Try.ntmps28
  go_wp2_with fail
  generalize w.heap.size = gb at *
  generalize w.alloc (.cells #[.int .u32 (b 0), .int .u32 (b 1), .int .u32 (b 2), .int .u32 (b 3), .int .u32 (b 4), .int .u32 (b 5), .int .u32 (b 6), .int .u32 (b 7)] 33) = wB at *
  have HF : Hid (Fr none' w wB) := fB
  refine X.mono ?_
  clear X
  rintro e w1 ⟨rfl, i, rfl, hp⟩
  rcases hp with ⟨hn, rfl⟩ | ⟨j, y, hj, hid, hf, rfl⟩
  · have hl : S.ld = -1 := by
      rcases hgl with h1 | h1
      · exact h1
      · unfold hasB at h1
        rw [hn] at h1
        cases h1
    have HE : Hid (setE S = 194 ∧ setS S b = S) := ⟨by unfold setE; rw [if_pos hl], by unfold setS; rw [if_pos hl]⟩
    have e1 : decide (S.ld < 0) = true := decide_eq_true (by omega)
    clear hn hl hgl fB rB hB hbox
    go_wp2_with fail
    go_ret
    rw [HE.out.1, HE.out.2]
    exact ⟨_, rfl, ChD.same HB0.out HF.out⟩
  · have hps := HB0.out.good.pos hf
    have e1 : decide (S.ld < 0) = false := decide_eq_false (by omega)
    have j0 : decide ((j : Int) < 0) = false := decide_eq_false (by omega)
    have hn1 : S.ld ≠ -1 := by omega
    have HE : Hid (setE S = 0 ∧ setS S b = { S with L := upd S.L S.ld (setR b) }) := ⟨by unfold setE; rw [if_neg hn1], by unfold setS; rw [if_neg hn1]⟩
    obtain ⟨aL, cap, hv, hnL⟩ := HB0.out.fl.form encO_len
    obtain ⟨g, rfl, _⟩ := hnL j y hj
    have hjN : j < q.D.length := by
      rcases Nat.lt_or_ge j q.D.length with h' | h'
      · exact h'
      · rw [List.getElem?_eq_none h'] at hj; cases hj
    have hlen := HB0.out.dlen
    have HV : Hid (q.L = .slice (some ⟨g, 0, none⟩) q.D.length cap ∧ y.1.id = S.ld) := ⟨hv, hid⟩
    have HS : Hid (Sb w q S b j y 0 w1) := Sb.start HB0.out b hj HF.out
    have HR : Hid (∀ wr, (∃ i, Sb w1 q S b j y i wr) → Row wr gb #[.int .u32 (b 0), .int .u32 (b 1), .int .u32 (b 2), .int .u32 (b 3), .int .u32 (b 4), .int .u32 (b 5), .int .u32 (b 6), .int .u32 (b 7)] 33) := fun wr ⟨i, q', c, _⟩ => rB.keep c.fr hbox
    have HS1 : Hid (Sb w1 q S b j y 0 w1) := Sb.start hB b hj (Fr.refl _ _)
    obtain ⟨N, hNl⟩ : ∃ N, N = q.D.length := ⟨_, rfl⟩
    rw [← hNl] at hjN hlen
    have HL : Hid (N = q.D.length) := hNl
    clear hNl hps hn1 hv hnL hj hid hf hgl fB rB hB hbox
    go_wp2_with fail
    go_loopw [6] (fun a wr => ∃ i : Nat, i ≤ 6 ∧ a = .int .i64 (i : Int) ∧ Hid (Sb w1 q S b j y i wr)) (fun a _ => 6 - (intOf a).toNat)
    case atStart => exact ⟨0, by omega, rfl, HS1.out⟩
    case round =>
      obtain ⟨i, hi, rfl, hS⟩ := hrel
      by_cases h6 : i < 6
      · obtain ⟨c0, d0, z0⟩ := hS.out.cells HV.out.1 h6
        rw [HV.out.1, ← HL.out] at c0
        have rr := HR.out wr ⟨i, hS.out⟩
        have bi : wr.cell? ⟨gb, i, none⟩ = some (.int .u32 (b i)) := by
          rw [rr.cell]
          have : i = 0 ∨ i = 1 ∨ i = 2 ∨ i = 3 ∨ i = 4 ∨ i = 5 := by omega
          rcases this with rfl | rfl | rfl | rfl | rfl | rfl <;> rfl
        have i8 : (i : Int) < 8 := by omega
        have HN : Hid (Sb w1 q S b j y (i + 1) (wr.setCell ⟨g, j * 11 + 2 + i, none⟩ (.int .u32 (b i)))) := hS.out.step HV.out.2 HV.out.1 h6
        clear rr HS HS1
        go_wp2_with fail
        go_region_with fail
        all_goals go_wp2_with fail
        all_goals go_roundw
        all_goals first
          | exact ⟨i + 1, by omega, by go_num, HN.out.after (Fr.refl none' _).drew⟩
          | (simp [intOf]; omega)
      · obtain rfl : i = 6 := by omega
        have HZ : Hid (∃ q', ChD w q wr q' (setS S b)) := by
          obtain ⟨q', c, _⟩ := hS.out
          rw [HE.out.2]
          exact ⟨q', ChD.before HF.out HB0.out c⟩
        clear hS HS HS1
        go_wp2_with fail
        go_ret
        rw [HE.out.1]
        obtain ⟨q', hq⟩ := HZ.out
        exact ⟨q', rfl, hq⟩

end Go.Proofs.Ythkieoedidpkaaa
