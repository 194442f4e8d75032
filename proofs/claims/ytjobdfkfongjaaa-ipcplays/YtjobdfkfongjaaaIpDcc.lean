/-
  The document's Send, over the translation. No statement is proved here.
-/
import Derived.Test.YtjobdfkfongjaaaIpDb
/- IpDocL -/
namespace Go.Proofs.Ytjobdfkfongjaaa
open Go.RowKit Go.Maps Go.WideMaps

def waP (ep : Int) (x : Wq) : Bool := (x.s == 2 || x.s == 3) && x.o == ep
def dWai (D : Dc) (ep : Int) : List Int := (D.L.filter (waP ep)).map (·.t)

section
attribute [local go_sem ↓ high] builtin_app

set_option maxRecDepth 100000 in
set_option maxHeartbeats 4000000 in
theorem dwaiting_any (w : World) (q : Db) (D : Dc) (h : IsD w q D) (hlen : D.L.length ≤ 100000) (ep : Int) :
    Calls Try.prog 45 #[pv q.b, .int .i64 ep] w fun e w' => ∃ xa xn xc, e = .returned (.slice xa xn xc) ∧ Fr none' w w' ∧ OI w.heap.size w' (.slice xa xn xc) (dWai D ep) := by
  obtain ⟨a, cap, hv, _⟩ := h.l.form encQ_len
  unfold dWai
  have HB : Hid (∀ wr, Fr none' w wr → wr.cell? ⟨q.b, 0, none⟩ = some (.slice a D.L.length cap)) := fun wr f => by
    have := (h.row.keep f (fun h => h)).cell 0
    rw [← hv]
    exact this
  have hL := h.l
  clear h
  generalize D.L = l at *
  obtain ⟨N, hNl⟩ : ∃ N, N = l.length := ⟨_, rfl⟩
  have HN : Hid (∀ wr, Fr none' w wr → wr.cell? ⟨q.b, 0, none⟩ = some (.slice a N cap) ∧ ∀ i n, l[i]? = some n → ∃ g, a = some ⟨g, 0, none⟩ ∧ wr.cell? ⟨g, i * 11, none⟩ = some (.int .i64 n.t) ∧ wr.cell? ⟨g, i * 11 + 1, none⟩ = some (.int .i64 n.s) ∧ wr.cell? ⟨g, i * 11 + 2, none⟩ = some (.int .i64 n.o)) := fun wr f => by
    obtain ⟨a', cap', hv', hn'⟩ := (FL.keep0 hL f).form encQ_len
    rw [hv] at hv'
    cases hv'
    exact ⟨by rw [hNl]; exact HB.out wr f, fun i n hi => by
      obtain ⟨g, e, c, _⟩ := hn' i n hi
      exact ⟨g, e, c 0 _ rfl, c 1 _ rfl, c 2 _ rfl⟩⟩
  have HR : Hid (∀ wr xa xn xc j n, Fr none' w wr → l[j]? = some n → waP ep n = true → OI w.heap.size wr (.slice xa xn xc) (((l.take j).filter (waP ep)).map (·.t)) → ∃ va vn vc w2, (App #[37, 37] 37 #[.slice xa xn xc, .slice (some ⟨wr.heap.size, 0, none⟩) 1 1]).run Try.prog (wr.alloc (.cells #[.int .i64 n.t] 3)) = .ok (.slice va vn vc) w2 ∧ Fr none' w w2 ∧ OI w.heap.size w2 (.slice va vn vc) (((l.take (j + 1)).filter (waP ep)).map (·.t))) := fun wr xa xn xc j n f hx hp hF => by
    have hb : (((l.take j).filter (waP ep)).map (·.t)).length ≤ 100000 := by
      have := List.length_filter_le (waP ep) (l.take j)
      rw [List.length_take] at this
      rw [List.length_map]
      omega
    obtain ⟨v', w2, g1, g2, g3, _⟩ := app_i wr w.heap.size _ _ _ hF hb f.size n.t
    obtain ⟨va, vn, vc, rfl⟩ : ∃ a n c, v' = .slice a n c := by
      rcases g3.2 with h' | ⟨g, cap, _, h', _⟩
      · exact ⟨_, _, _, h'.1⟩
      · exact ⟨_, _, _, h'⟩
    refine ⟨va, vn, vc, w2, g1, fr_high f g2 (fun q hq => (own_rowB hF hq).1), ?_⟩
    unfold OI
    rw [fil_yes hx hp, List.map_append, List.map_append, List.length_append]
    exact g3
  rw [← hNl] at hlen
  have HL : Hid (N = l.length) := hNl
  obtain ⟨c0, _⟩ := HN.out w (Fr.refl _ _)
  clear hNl hv hL HB
  go_enter Try.func45, Try.ntmps45
  go_wp2_with fail
  go_loopw [5, 6] (fun u i wr => ∃ j : Nat, j ≤ N ∧ i = .int .i64 (j : Int) ∧ ∃ xa xn xc, u = .slice xa xn xc ∧ Hid (Fr none' w wr ∧ OI w.heap.size wr (.slice xa xn xc) (((l.take j).filter (waP ep)).map (·.t)))) (fun _ i _ => N - (intOf i).toNat)
  case atStart => exact ⟨0, by omega, rfl, _, _, _, rfl, Fr.refl _ _, ⟨rfl, Or.inl ⟨rfl, rfl⟩⟩⟩
  case round =>
    obtain ⟨j, hj, rfl, xa, xn, xc, rfl, hI⟩ := hrel
    obtain ⟨d00, hcell⟩ := HN.out wr hI.out.1
    by_cases hjN : j < N
    · have hjL : j < l.length := by rw [← HL.out]; exact hjN
      obtain ⟨g, rfl, d0, d1, d2⟩ := hcell j l[j] (List.getElem?_eq_getElem hjL)
      have HX : Hid (l[j]? = some l[j]) := List.getElem?_eq_getElem hjL
      clear hcell
      generalize l[j] = n at *
      by_cases e1 : n.s = 2
      · have t1 : (n.s == 2) = true := by simpa using e1
        clear e1
        by_cases e2 : n.o = ep
        · have t2 : (n.o == ep) = true := by simpa using e2
          clear e2
          obtain ⟨va, vn, vc, w2, hrun, F2, o2⟩ := HR.out wr xa xn xc j n hI.out.1 HX.out (by show ((n.s == 2 || n.s == 3) && n.o == ep) = true; rw [t1, t2]; rfl) hI.out.2
          have HE : Hid (Fr none' w w2 ∧ OI w.heap.size w2 (.slice va vn vc) (((l.take (j + 1)).filter (waP ep)).map (·.t))) := ⟨F2, o2⟩
          clear F2 o2
          go_wp2_with fail
          go_roundw
          case rel => exact ⟨j + 1, by omega, by go_num, va, vn, vc, rfl, HE.out.1, HE.out.2⟩
          case measure => simp [intOf]; omega
        · have t2 : (n.o == ep) = false := by simpa using e2
          clear e2
          have HE : Hid ((l.take (j + 1)).filter (waP ep) = (l.take j).filter (waP ep)) := fil_no HX.out (by show ((n.s == 2 || n.s == 3) && n.o == ep) = false; rw [t1, t2]; rfl)
          go_wp2_with fail
          go_roundw
          case rel => exact ⟨j + 1, by omega, by go_num, xa, xn, xc, rfl, hI.out.1, by rw [HE.out]; exact hI.out.2⟩
          case measure => simp [intOf]; omega
      · have t1 : (n.s == 2) = false := by simpa using e1
        clear e1
        by_cases e3 : n.s = 3
        · have t3 : (n.s == 3) = true := by simpa using e3
          clear e3
          by_cases e2 : n.o = ep
          · have t2 : (n.o == ep) = true := by simpa using e2
            clear e2
            obtain ⟨va, vn, vc, w2, hrun, F2, o2⟩ := HR.out wr xa xn xc j n hI.out.1 HX.out (by show ((n.s == 2 || n.s == 3) && n.o == ep) = true; rw [t1, t3, t2]; rfl) hI.out.2
            have HE : Hid (Fr none' w w2 ∧ OI w.heap.size w2 (.slice va vn vc) (((l.take (j + 1)).filter (waP ep)).map (·.t))) := ⟨F2, o2⟩
            clear F2 o2
            go_wp2_with fail
            go_roundw
            case rel => exact ⟨j + 1, by omega, by go_num, va, vn, vc, rfl, HE.out.1, HE.out.2⟩
            case measure => simp [intOf]; omega
          · have t2 : (n.o == ep) = false := by simpa using e2
            clear e2
            have HE : Hid ((l.take (j + 1)).filter (waP ep) = (l.take j).filter (waP ep)) := fil_no HX.out (by show ((n.s == 2 || n.s == 3) && n.o == ep) = false; rw [t1, t3, t2]; rfl)
            go_wp2_with fail
            go_roundw
            case rel => exact ⟨j + 1, by omega, by go_num, xa, xn, xc, rfl, hI.out.1, by rw [HE.out]; exact hI.out.2⟩
            case measure => simp [intOf]; omega
        · have t3 : (n.s == 3) = false := by simpa using e3
          clear e3
          have HE : Hid ((l.take (j + 1)).filter (waP ep) = (l.take j).filter (waP ep)) := fil_no HX.out (by show ((n.s == 2 || n.s == 3) && n.o == ep) = false; rw [t1, t3]; rfl)
          go_wp2_with fail
          go_roundw
          case rel => exact ⟨j + 1, by omega, by go_num, xa, xn, xc, rfl, hI.out.1, by rw [HE.out]; exact hI.out.2⟩
          case measure => simp [intOf]; omega
    · obtain rfl : j = N := by omega
      clear hcell
      have HZ : Hid (Fr none' w wr ∧ OI w.heap.size wr (.slice xa xn xc) ((l.filter (waP ep)).map (·.t))) := ⟨hI.out.1, by have := hI.out.2; rw [HL.out, List.take_length] at this; exact this⟩
      go_wp2_with fail
      go_ret
      exact ⟨xa, xn, xc, rfl, HZ.out.1, HZ.out.2⟩
end

end Go.Proofs.Ytjobdfkfongjaaa

/- IpDocM -/
namespace Go.Proofs.Ytjobdfkfongjaaa
open Go.RowKit Go.Maps Go.WideMaps

theorem isD_ty {W : World} {q : Db} {D : Dc} (h : IsD W q D) {k : Nat} {cs : Array Value} (r : Row W k cs 3) : ¬ q.s k := fun hk => by
  rcases hk with rfl | hk | hk | hk | hk | hk
  · exact absurd (row_ty r h.row).1 (by decide)
  · obtain ⟨_, _, cur, r'⟩ := h.l.blk hk
    exact absurd (row_ty r r').1 (by decide)
  · obtain ⟨_, _, cur, r'⟩ := h.c.blk hk
    exact absurd (row_ty r r').1 (by decide)
  · obtain ⟨_, _, cur, r'⟩ := h.b.blk hk
    exact absurd (row_ty r r').1 (by decide)
  · obtain ⟨_, _, cur, r'⟩ := h.g.blk hk
    exact absurd (row_ty r r').1 (by decide)
  · obtain ⟨_, _, cur, r'⟩ := h.x.blk hk
    exact absurd (row_ty r r').1 (by decide)
theorem OI.chgD {B : Nat} {w w' : World} {q q' : Db} {D D' : Dc} {v : Value} {l : List Int} (h : OI B w v l) (hi : IsD w q D) (c : ChgD w q w' q' D') : OI B w' v l :=
  ownsRow_at h fun k hk hl => c.fr.block k hl fun e => by
    obtain ⟨_, cur, r⟩ := own_rowB h hk
    exact isD_ty hi r e
/-- A slice of numbers, and each number's cell. -/
theorem OI.form {B : Nat} {w : World} {v : Value} {l : List Int} (h : OI B w v l) : ∃ (a : Option Addr) (cap : Nat), v = .slice a l.length cap ∧ ∀ i x, l[i]? = some x → ∃ g, a = some ⟨g, 0, none⟩ ∧ w.cell? ⟨g, i, none⟩ = some (.int .i64 x) := by
  obtain ⟨_, hh | ⟨g, cap, cur, hv, hb, hg, hc, hm, hs, ht⟩⟩ := h
  · obtain ⟨h1, h2⟩ := hh
    refine ⟨none, 0, by rw [h1, h2], fun i x hi => ?_⟩
    rw [List.length_eq_zero_iff.mp h2] at hi
    simp at hi
  · refine ⟨_, cap, hv, fun i x hi => ⟨g, rfl, ?_⟩⟩
    have hlt : i < l.length := by
      rcases Nat.lt_or_ge i l.length with h' | h'
      · exact h'
      · rw [List.getElem?_eq_none h'] at hi; cases hi
    rw [(show Row w g cur _ from hg).cell]
    have : (cur.toList.take (l.length * 1))[i]? = some (.int .i64 x) := by rw [ht, List.getElem?_map, hi]; rfl
    rw [List.getElem?_take, if_pos (by omega)] at this
    simpa using this
def dRestL (D : Dc) : List Int → Dc
  | [] => D
  | x :: l => dRestL (dRest D x) l
theorem dRestL_app : ∀ (l : List Int) (D : Dc) (x : Int), dRestL D (l ++ [x]) = dRest (dRestL D l) x
  | [], _, _ => rfl
  | y :: l, D, x => dRestL_app l (dRest D y) x
theorem dRestL_len : ∀ (l : List Int) (D : Dc), (dRestL D l).L.length ≤ D.L.length
  | [], _ => Nat.le_refl _
  | y :: l, D => Nat.le_trans (dRestL_len l (dRest D y)) (List.length_filter_le _ _)
def dCalS (D : Dc) (ep : Int) : Dc := dRestL D (dWai D ep)

set_option maxRecDepth 100000 in
set_option maxHeartbeats 4000000 in
theorem dcall_any (w : World) (q : Db) (D : Dc) (h : IsD w q D) (hlen : D.L.length ≤ 100000) (ep : Int) :
    Calls Try.prog 40 #[pv q.b, .int .i64 ep] w fun e w' => ∃ xa xn xc q', e = .returned (.slice xa xn xc) ∧ ChgD w q w' q' (dCalS D ep) ∧ OI w.heap.size w' (.slice xa xn xc) (dWai D ep) := by
  have X := dwaiting_any w q D h hlen ep
  have HC : Hid (ChgD w q w q D) := ChgD.same h (Fr.refl _ _)
  have HLn : Hid (D.L.length ≤ 100000) := hlen
  have hl : (dWai D ep).length ≤ 100000 := by
    unfold dWai
    rw [List.length_map]
    exact Nat.le_trans (List.length_filter_le _ _) hlen
  unfold dCalS
  clear h hlen
  generalize dWai D ep = l at *
  go_enter Try.func40, Try.ntmps40
  go_wp2_with fail
  refine X.mono ?_
  clear X
  rintro e w1 ⟨xa, xn, xc, rfl, f1, o1⟩
  obtain ⟨a, cap, hv, _⟩ := o1.form
  simp only [Value.slice.injEq] at hv
  obtain ⟨rfl, rfl, rfl⟩ := hv
  obtain ⟨N, hNl⟩ : ∃ N, N = l.length := ⟨_, rfl⟩
  rw [← hNl] at hl o1 ⊢
  have HL : Hid (N = l.length) := hNl
  have H0 : Hid (ChgD w q w1 q (dRestL D (l.take 0)) ∧ OI w.heap.size w1 (.slice xa N xc) l) := ⟨HC.out.after f1, o1⟩
  clear hNl o1 f1
  go_wp2_with fail
  go_loopw [6] (fun i wr => ∃ j : Nat, j ≤ N ∧ i = .int .i64 (j : Int) ∧ Hid (∃ q', ChgD w q wr q' (dRestL D (l.take j)) ∧ OI w.heap.size wr (.slice xa N xc) l)) (fun i _ => N - (intOf i).toNat)
  case atStart => exact ⟨0, by omega, rfl, q, H0.out.1, H0.out.2⟩
  case round =>
    obtain ⟨j, hj, rfl, hI⟩ := hrel
    obtain ⟨q1, C1, o1⟩ := hI.out
    by_cases hjN : j < N
    · have hjL : j < l.length := by rw [← HL.out]; exact hjN
      obtain ⟨a, cap, hv, hn⟩ := o1.form
      simp only [Value.slice.injEq] at hv
      obtain ⟨rfl, hNN, rfl⟩ := hv
      clear hNN
      obtain ⟨g, rfl, d0⟩ := hn j l[j] (List.getElem?_eq_getElem hjL)
      have R := drest_any wr q1 _ C1.is (Nat.le_trans (dRestL_len _ D) HLn.out) l[j]
      rw [C1.eb] at R
      have htk : l.take (j + 1) = l.take j ++ [l[j]] := List.take_succ_eq_append_getElem hjL
      have HT : Hid (l.take (j + 1) = l.take j ++ [l[j]]) := htk
      have HQ : Hid (ChgD w q wr q1 (dRestL D (l.take j)) ∧ OI w.heap.size wr (.slice (some ⟨g, 0, none⟩) N xc) l) := ⟨C1, o1⟩
      have HRR : Hid _ := R
      clear hn C1 o1 hI R htk H0
      generalize l[j] = x at *
      go_wp2_with fail
      refine Calls.mono HRR.out ?_
      rintro e w2 ⟨v, q2, rfl, C2⟩
      have HE : Hid (∃ q', ChgD w q w2 q' (dRestL D (l.take (j + 1))) ∧ OI w.heap.size w2 (.slice (some ⟨g, 0, none⟩) N xc) l) := ⟨q2, by rw [HT.out, dRestL_app]; exact HQ.out.1.trans C2, HQ.out.2.chgD HQ.out.1.is C2⟩
      clear C2 HRR d0
      go_wp2_with fail
      go_roundw
      case rel => exact ⟨j + 1, by omega, by go_num, HE.out⟩
      case measure => simp [intOf]; omega
    · obtain rfl : j = N := by omega
      have HZ : Hid (ChgD w q wr q1 (dRestL D l) ∧ OI w.heap.size wr (.slice xa j xc) l) := ⟨by rw [HL.out, List.take_length] at C1; exact C1, o1⟩
      clear C1 o1 hI
      go_wp2_with fail
      go_ret
      exact ⟨xa, j, xc, q1, rfl, HZ.out.1, HZ.out.2⟩

end Go.Proofs.Ytjobdfkfongjaaa

/- IpDocN -/
namespace Go.Proofs.Ytjobdfkfongjaaa
open Go.RowKit Go.Maps Go.WideMaps

/-- What lies in an inbox, and whether something does. -/
def boxM (l : List (Int × Ms)) (t : Int) : Ms := match (l.filter (fun y => y.1 == t)).getLast? with
  | some y => y.2
  | none => M0
def boxB (l : List (Int × Ms)) (t : Int) : Bool := l.any (fun y => y.1 == t)
theorem boxM_yes {l : List (Int × Ms)} {t : Int} {j : Nat} {x : Int × Ms} (hx : l[j]? = some x) (h : (x.1 == t) = true) : boxM (l.take (j + 1)) t = x.2 ∧ boxB (l.take (j + 1)) t = true := by
  rw [List.take_add_one, hx]
  unfold boxM boxB
  rw [List.filter_append, List.any_append]
  simp [h]
theorem boxM_no {l : List (Int × Ms)} {t : Int} {j : Nat} {x : Int × Ms} (hx : l[j]? = some x) (h : (x.1 == t) = false) : boxM (l.take (j + 1)) t = boxM (l.take j) t ∧ boxB (l.take (j + 1)) t = boxB (l.take j) t := by
  rw [List.take_add_one, hx]
  unfold boxM boxB
  rw [List.filter_append, List.any_append]
  simp [h]
theorem isD_ms {W : World} {q : Db} {D : Dc} (h : IsD W q D) {k : Nat} {cs : Array Value} (r : Row W k cs 36) : ¬ q.s k := fun hk => by
  rcases hk with rfl | hk | hk | hk | hk | hk
  · exact absurd (row_ty r h.row).1 (by decide)
  · obtain ⟨_, _, cur, r'⟩ := h.l.blk hk
    exact absurd (row_ty r r').1 (by decide)
  · obtain ⟨_, _, cur, r'⟩ := h.c.blk hk
    exact absurd (row_ty r r').1 (by decide)
  · obtain ⟨_, _, cur, r'⟩ := h.b.blk hk
    exact absurd (row_ty r r').1 (by decide)
  · obtain ⟨_, _, cur, r'⟩ := h.g.blk hk
    exact absurd (row_ty r r').1 (by decide)
  · obtain ⟨_, _, cur, r'⟩ := h.x.blk hk
    exact absurd (row_ty r r').1 (by decide)
theorem fl_bx7 {α : Type} {enc : α → List Value} {e : TypeId} {k B : Nat} {w : World} {v : Value} {l : List α} (h : FL e k enc B w v l) {b : Nat} {m0 : Ms} (r : MsR w b m0) (ht : 36 ≠ e) (m : Ms) : FL e k enc B (bx7 w b m) v l :=
  h.at fun j hj hl => (bx7_fr w b m).block j hl (fun e' => by
    have e' : j = b := e'
    subst e'
    obtain ⟨_, _, cur, r'⟩ := h.blk hj
    exact ht (row_ty r r').1)
/-- Between two rounds. -/
def Ib (w : World) (l : List (Int × Ms)) (t : Int) (j : Nat) (v : Value) (wr : World) : Prop := Fr none' w wr ∧ FQx w.heap.size wr v ((l.take j).filter (fun y => y.1 != t)) ∧ MsR wr (w.heap.size + 1) (boxM (l.take j) t) ∧ MsR wr w.heap.size M0

section
attribute [local go_sem ↓ high] builtin_app

set_option maxRecDepth 100000 in
set_option maxHeartbeats 400000 in
theorem dinbox_any (w : World) (q : Db) (D : Dc) (h0 : IsD w q D) (hlen : D.X.length ≤ 100000) (t : Int) :
    Calls Try.prog 42 #[pv q.b, .int .i64 t] w fun e w' => ∃ q', e = .returned (.tuple #[msV (boxM D.X t), .bool (boxB D.X t)]) ∧ ChgD w q w' q' { D with X := D.X.filter (fun y => y.1 != t) } := by
  obtain ⟨a, cap, hv, hn⟩ := h0.x.form encB_len
  have h := h0.x
  have HB : Hid (∀ wr, Fr none' w wr → wr.cell? ⟨q.b, 4, none⟩ = some (.slice a D.X.length cap)) := fun wr f => by
    have := (h0.row.keep f (fun h => h)).cell 4
    rw [← hv]
    exact this
  have HQ : Hid (∀ wr xa xn xc l', Fr none' w wr → FQx w.heap.size wr (.slice xa xn xc) l' → wr.frozen? ⟨q.b, 4, none⟩ = false ∧ ∃ q', ChgD w q (wr.setCell ⟨q.b, 4, none⟩ (.slice xa xn xc)) q' { D with X := l' }) := fun wr xa xn xc l' f hF => ⟨(h0.row.keep f (fun h => h)).frozen 4, _, h0.setX (f.mono (fun _ _ h => h.elim)) (hF.low (Nat.zero_le _)) (fun k hk => Or.inr (hF.blk hk).1)⟩
  have HT : Hid (∀ wr m0, Fr none' w wr → MsR wr w.heap.size m0 → q.b ≠ w.heap.size) := fun wr m0 f r e => by
    have := (h0.keep0 f).row
    rw [e] at this
    exact absurd (row_ty this r).1 (by decide)
  have HK : Hid (q.b < w.heap.size) := h0.row.lt
  clear h0
  generalize hDl : D.X = l at *
  obtain ⟨N, hNl⟩ : ∃ N, N = l.length := ⟨_, rfl⟩
  have HN : Hid (∀ wr, Fr none' w wr → wr.cell? ⟨q.b, 4, none⟩ = some (.slice a N cap) ∧ ∀ i n, l[i]? = some n → ∃ g, a = some ⟨g, 0, none⟩ ∧ wr.cell? ⟨g, i * 8, none⟩ = some (.int .i64 n.1) ∧ wr.cell? ⟨g, i * 8 + 1, none⟩ = some (.int .i64 n.2.l) ∧ wr.cell? ⟨g, i * 8 + 2, none⟩ = some (.int .i64 n.2.b) ∧ wr.cell? ⟨g, i * 8 + 3, none⟩ = some (.int .i64 n.2.n) ∧ wr.cell? ⟨g, i * 8 + 4, none⟩ = some (.int .u32 n.2.w0) ∧ wr.cell? ⟨g, i * 8 + 5, none⟩ = some (.int .u32 n.2.w1) ∧ wr.cell? ⟨g, i * 8 + 6, none⟩ = some (.int .u32 n.2.w2) ∧ wr.cell? ⟨g, i * 8 + 7, none⟩ = some (.int .u32 n.2.w3)) := fun wr f => by
    obtain ⟨a', cap', hv', hn'⟩ := (FL.keep0 h f).form encB_len
    rw [hv] at hv'
    cases hv'
    exact ⟨by rw [hNl]; exact HB.out wr f, fun i n hi => by
      obtain ⟨g, e, c, _⟩ := hn' i n hi
      exact ⟨g, e, c 0 _ rfl, c 1 _ rfl, c 2 _ rfl, c 3 _ rfl, c 4 _ rfl, c 5 _ rfl, c 6 _ rfl, c 7 _ rfl⟩⟩
  have HR : Hid (∀ wr xa xn xc j n, Fr none' w wr → l[j]? = some n → (fun y : Int × Ms => y.1 != t) n = true → FQx w.heap.size wr (.slice xa xn xc) ((l.take j).filter (fun y => y.1 != t)) → ∃ va vn vc w2, (App #[29, 29] 29 #[.slice xa xn xc, .slice (some ⟨wr.heap.size, 0, none⟩) 1 1]).run Try.prog (wr.alloc (.cells #[.int .i64 n.1, .int .i64 n.2.l, .int .i64 n.2.b, .int .i64 n.2.n, .int .u32 n.2.w0, .int .u32 n.2.w1, .int .u32 n.2.w2, .int .u32 n.2.w3] 113)) = .ok (.slice va vn vc) w2 ∧ Fr none' w w2 ∧ FQx w.heap.size w2 (.slice va vn vc) ((l.take (j + 1)).filter (fun y => y.1 != t)) ∧ ∀ q cs ty, Row wr q cs ty → ty ≠ 113 → Row w2 q cs ty) := fun wr xa xn xc j n f hx hp hF => fil_round (T := 29) Try.underlying29 info_qx rfl (by omega) (by omega) encB_len encB_one f hx hp hlen hF
  rw [← hNl] at hlen
  have HL : Hid (N = l.length) := hNl
  obtain ⟨c0, _⟩ := HN.out w (Fr.refl _ _)
  have H0 : Hid (Ib w l t 0 (.slice none 0 0) ((w.alloc (.cells (msA M0) 36)).alloc (.cells (msA M0) 36))) := ⟨((Fr.refl none' w).alloc _).alloc _, fl_nil _ _ _ _ _, row_alloc1 _ _ _ _, (row_alloc _ _ _).alloc _⟩
  dsimp only [msA, M0] at H0
  clear hNl hv hn h HB
  go_enter Try.func42, Try.ntmps42
  go_wp2_with fail
  go_loopw [7, 8, 9] (fun b u i wr => ∃ j : Nat, j ≤ N ∧ i = .int .i64 (j : Int) ∧ b = .bool (boxB (l.take j) t) ∧ ∃ xa xn xc, u = .slice xa xn xc ∧ Hid (Ib w l t j (.slice xa xn xc) wr)) (fun _ _ i _ => N - (intOf i).toNat)
  case atStart => exact ⟨0, by omega, rfl, rfl, _, _, _, rfl, H0.out⟩
  case round =>
    obtain ⟨j, hj, rfl, rfl, xa, xn, xc, rfl, hI⟩ := hrel
    obtain ⟨d00, hcell⟩ := HN.out wr hI.out.1
    by_cases hjN : j < N
    · have hjL : j < l.length := by rw [← HL.out]; exact hjN
      obtain ⟨g, rfl, d0, d1, d2, d3, d4, d5, d6, d7⟩ := hcell j l[j] (List.getElem?_eq_getElem hjL)
      have HX : Hid (l[j]? = some l[j]) := List.getElem?_eq_getElem hjL
      clear hcell H0
      generalize l[j] = n at *
      by_cases e : n.1 = t
      · have t1 : (n.1 == t) = true := by simpa using e
        have t2 : (n.1 != t) = false := by simpa using e
        have R := hI.out.2.2.1
        obtain ⟨u0, u1, u2, u3, u4, u5, u6⟩ := box7 R
        have z0 := Row.frozen R 0
        have z1 := Row.frozen R 1
        have z2 := Row.frozen R 2
        have z3 := Row.frozen R 3
        have z4 := Row.frozen R 4
        have z5 := Row.frozen R 5
        have z6 := Row.frozen R 6
        have HE : Hid (boxB (l.take (j + 1)) t = true ∧ Ib w l t (j + 1) (.slice xa xn xc) (bx7 wr (w.heap.size + 1) n.2)) := by
          obtain ⟨b1, b2⟩ := boxM_yes HX.out t1
          refine ⟨b2, fr_high hI.out.1 (bx7_fr wr _ n.2) (fun k e => by have e : k = w.heap.size + 1 := e; omega), ?_, by rw [b1]; exact R.set n.2, Row.keep hI.out.2.2.2 (bx7_fr wr _ n.2) (fun e => by have e : w.heap.size = w.heap.size + 1 := e; omega)⟩
          rw [fil_no HX.out t2]
          exact fl_bx7 hI.out.2.1 R (by decide) n.2
        clear e R
        go_wp2_with fail
        go_roundw
        case rel => exact ⟨j + 1, by omega, by go_num, by rw [HE.out.1], xa, xn, xc, rfl, HE.out.2⟩
        case measure => simp [intOf]; omega
      · have t1 : (n.1 == t) = false := by simpa using e
        have t2 : (n.1 != t) = true := by simpa using e
        obtain ⟨va, vn, vc, w2, hrun, F2, o2, k2⟩ := HR.out wr xa xn xc j n hI.out.1 HX.out t2 hI.out.2.1
        have HE : Hid (boxB (l.take (j + 1)) t = boxB (l.take j) t ∧ Ib w l t (j + 1) (.slice va vn vc) w2) := by
          obtain ⟨b1, b2⟩ := boxM_no HX.out t1
          exact ⟨b2, F2, o2, by rw [b1]; exact k2 _ _ _ hI.out.2.2.1 (by decide), k2 _ _ _ hI.out.2.2.2 (by decide)⟩
        clear e F2 o2 k2
        go_wp2_with fail
        go_roundw
        case rel => exact ⟨j + 1, by omega, by go_num, by rw [HE.out.1], va, vn, vc, rfl, HE.out.2⟩
        case measure => simp [intOf]; omega
    · obtain rfl : j = N := by omega
      clear hcell H0
      have hI' := hI.out
      rw [HL.out] at hI'
      unfold Ib at hI'
      rw [List.take_length] at hI'
      have HB2 : Hid (boxB (l.take j) t = boxB l t) := by show boxB (l.take j) t = boxB l t; rw [HL.out, List.take_length]
      obtain ⟨F, o2, R1, R0⟩ := hI'
      obtain ⟨zq, q', C⟩ := HQ.out wr xa xn xc _ F o2
      have hne := HT.out wr _ F R0
      have f5 := fr_set wr q.b 4 (.slice xa xn xc) (Fr.refl (at' q.b) wr)
      have R0' : MsR (wr.setCell ⟨q.b, 4, none⟩ (.slice xa xn xc)) w.heap.size M0 := Row.keep R0 f5 (fun e => hne (Eq.symm e))
      have C' := C.high (bx7_fr _ w.heap.size (boxM l t)) (fun k e => by have e : k = w.heap.size := e; omega) (fun k hk e => by
        have e : k = w.heap.size := e
        subst e
        exact isD_ms C.is R0' hk)
      have HR0 : Hid (Row (bx7 (wr.setCell ⟨q.b, 4, none⟩ (.slice xa xn xc)) w.heap.size (boxM l t)) w.heap.size (msA (boxM l t)) 36) := R0'.set _
      have HC : Hid _ := C'
      obtain ⟨u0, u1, u2, u3, u4, u5, u6⟩ := box7 R1
      obtain ⟨v0, v1, v2, v3, v4, v5, v6⟩ := box7 R0
      have z0 := Row.frozen R0 0
      have z1 := Row.frozen R0 1
      have z2 := Row.frozen R0 2
      have z3 := Row.frozen R0 3
      have z4 := Row.frozen R0 4
      have z5 := Row.frozen R0 5
      have z6 := Row.frozen R0 6
      have hqb := HK.out
      have e1 : q.b ≠ w.heap.size + 1 := by omega
      have e2 : w.heap.size + 1 ≠ q.b := by omega
      have e3 : w.heap.size ≠ q.b := by omega
      clear C C' R0' f5 R1 R0 F o2 hI hqb
      go_wp2_with fail
      refine bodyPost_ret (ret_mb rfl rfl HR0.out) rfl ?_
      exact ⟨q', by rw [← HB2.out]; rfl, HC.out⟩
end

end Go.Proofs.Ytjobdfkfongjaaa

/- IpDocO -/
namespace Go.Proofs.Ytjobdfkfongjaaa
open Go.RowKit Go.Maps Go.WideMaps

theorem fnd_lt {α : Type} {p : α → Bool} {l : List α} {i : Int} (h : Fnd p l i) : ((l.find? p).isSome = false ∧ i = -1) ∨ ∃ (j : Nat) (x : α), l.find? p = some x ∧ l[j]? = some x ∧ i = (j : Int) := by
  rcases h with ⟨h, e⟩ | ⟨j, x, h1, h2, h3, _⟩
  · exact Or.inl ⟨by rw [h]; rfl, e⟩
  · exact Or.inr ⟨j, x, h1, h2, h3⟩
/-- A thread that waits, at its place: its cells. -/
theorem IsD.cellL {w : World} {q : Db} {D : Dc} (h : IsD w q D) {j : Nat} {x : Wq} (hj : D.L[j]? = some x) : ∃ g cap, w.cell? ⟨q.b, 0, none⟩ = some (.slice (some ⟨g, 0, none⟩) D.L.length cap) ∧ j < D.L.length ∧ ∀ r u, (encQ x)[r]? = some u → w.cell? ⟨g, j * 11 + r, none⟩ = some u := by
  obtain ⟨a, cap, hv, hn⟩ := h.l.form encQ_len
  obtain ⟨g, rfl, c, _⟩ := hn j x hj
  refine ⟨g, cap, by rw [← hv]; exact h.row.cell 0, ?_, c⟩
  rcases Nat.lt_or_ge j D.L.length with h' | h'
  · exact h'
  · rw [List.getElem?_eq_none h'] at hj; cases hj
theorem find_isNone {α : Type} {p : α → Bool} {l : List α} (h : (l.find? p).isSome = false) : l.find? p = none := by
  cases e : l.find? p with
  | none => rfl
  | some _ => rw [e] at h; cases h
theorem dRest_len (D : Dc) (t : Int) : (dRest D t).L.length ≤ D.L.length := List.length_filter_le _ _

def dSenE (D : Dc) (ep t : Int) (m : Ms) : Int := if numB ep && (numB t && mayM m) then (if (D.L.find? (atP t)).isSome then 150 else 0) else 1
def dSenN (D : Dc) (ep t : Int) (m : Ms) : Int := if dSenE D ep t m = 0 then (match D.L.find? (fiP 3 ep) with | some x => x.t | none => -1) else -1
def dSenS (D : Dc) (ep t : Int) (m : Ms) (call bl : Bool) : Dc := if dSenE D ep t m = 0 then (match D.L.find? (fiP 3 ep) with
    | some x => if call then dOwes (dDel (dRest D x.t) x.t m) x.t t else dDel (dRest D x.t) x.t m
    | none => if bl then { D with L := D.L ++ [⟨t, 2, ep, m, call⟩] } else D) else D

section
attribute [local go_sem ↓ high] builtin_app

set_option maxRecDepth 100000 in
set_option maxHeartbeats 4000000 in
theorem dsend_any (w : World) (q : Db) (D : Dc) (h : IsD w q D) (hl : D.L.length ≤ 100000) (hc : D.C.length ≤ 100000) (hx : D.X.length ≤ 100000) (ep t : Int) (m : Ms) (call bl : Bool) :
    Calls Try.prog 31 #[pv q.b, .int .i64 ep, .int .i64 t, msV m, .bool call, .bool bl] w fun e w' => ∃ q', e = .returned (.tuple #[.int .i64 (dSenN D ep t m), .int .i64 (dSenE D ep t m)]) ∧ ChgD w q w' q' (dSenS D ep t m call bl) := by
  have f0 := (Fr.refl none' w).alloc (.cells (msA m) 36)
  have r0 := row_alloc w (msA m) 36
  have HC : Hid (ChgD w q w q D) := ChgD.same h (Fr.refl _ _)
  have HF : Hid (Fr none' w (w.alloc (.cells (msA m) 36))) := f0
  have HR : Hid (Row (w.alloc (.cells (msA m) 36)) w.heap.size (msA m) 36) := r0
  have HB : Hid (¬ q.s w.heap.size) := fun hk => by have := h.lt _ hk; omega
  have HL : Hid (D.L.length ≤ 100000 ∧ D.C.length ≤ 100000 ∧ D.X.length ≤ 100000) := ⟨hl, hc, hx⟩
  dsimp only [msA] at HF HR
  clear f0 r0 h hl hc hx
  cases hn : numB ep with
  | false =>
    have HN : Hid (dSenE D ep t m = 1) := by show dSenE D ep t m = 1; unfold dSenE; rw [hn]; rfl
    have HS : Hid (dSenN D ep t m = -1 ∧ dSenS D ep t m call bl = D) := ⟨by unfold dSenN; rw [HN.out]; rfl, by unfold dSenS; rw [HN.out]; rfl⟩
    go_enter Try.func31, Try.ntmps31
    go_wp2_with (first | (go_at_call 72; refine (dis_any _ _).mono ?_; rintro e w1 ⟨rfl, rfl⟩; try rw [hn]) | (go_at_call 73; refine (right_any m _).mono ?_; rintro e w1 ⟨rfl, f1⟩))
    go_ret2
    rw [HN.out, HS.out.1, HS.out.2]
    exact ⟨q, rfl, HC.out.after (HF.out.trans f1)⟩
  | true =>
    cases ht : numB t with
    | false =>
      have HN : Hid (dSenE D ep t m = 1) := by show dSenE D ep t m = 1; unfold dSenE; rw [hn, ht]; rfl
      have HS : Hid (dSenN D ep t m = -1 ∧ dSenS D ep t m call bl = D) := ⟨by unfold dSenN; rw [HN.out]; rfl, by unfold dSenS; rw [HN.out]; rfl⟩
      go_enter Try.func31, Try.ntmps31
      go_wp2_with (first | (go_at_call 72; refine (dis_any _ _).mono ?_; rintro e w1 ⟨rfl, rfl⟩; first | rw [hn] | rw [ht]) | (go_at_call 73; refine (right_any m _).mono ?_; rintro e w1 ⟨rfl, f1⟩))
      go_ret2
      rw [HN.out, HS.out.1, HS.out.2]
      exact ⟨q, rfl, HC.out.after (HF.out.trans f1)⟩
    | true =>
      cases hm : mayM m with
      | false =>
        have HN : Hid (dSenE D ep t m = 1) := by show dSenE D ep t m = 1; unfold dSenE; rw [hn, ht, hm]; rfl
        have HS : Hid (dSenN D ep t m = -1 ∧ dSenS D ep t m call bl = D) := ⟨by unfold dSenN; rw [HN.out]; rfl, by unfold dSenS; rw [HN.out]; rfl⟩
        go_enter Try.func31, Try.ntmps31
        go_wp2_with (first | (go_at_call 72; refine (dis_any _ _).mono ?_; rintro e w1 ⟨rfl, rfl⟩; first | rw [hn] | rw [ht]) | (go_at_call 73; refine (right_any m _).mono ?_; rintro e w1 ⟨rfl, f1⟩; rw [hm]))
        go_ret2
        rw [HN.out, HS.out.1, HS.out.2]
        exact ⟨q, rfl, HC.out.after (HF.out.trans f1)⟩
      | true =>
        have HN : Hid (dSenE D ep t m = if (D.L.find? (atP t)).isSome then 150 else 0) := by show dSenE D ep t m = _; unfold dSenE; rw [hn, ht, hm]; rfl
        have HS : Hid (dSenN D ep t m = (if dSenE D ep t m = 0 then (match D.L.find? (fiP 3 ep) with | some x => x.t | none => -1) else -1) ∧ dSenS D ep t m call bl = if dSenE D ep t m = 0 then (match D.L.find? (fiP 3 ep) with
    | some x => if call then dOwes (dDel (dRest D x.t) x.t m) x.t t else dDel (dRest D x.t) x.t m
    | none => if bl then { D with L := D.L ++ [⟨t, 2, ep, m, call⟩] } else D) else D) := ⟨rfl, rfl⟩
        go_enter Try.func31, Try.ntmps31
        go_wp2_with (first | (go_at_call 72; refine (dis_any _ _).mono ?_; rintro e w1 ⟨rfl, rfl⟩; first | rw [hn] | rw [ht]))
        refine (right_any m _).mono ?_
        rintro e w1 ⟨rfl, f1⟩
        rw [hm]
        have C1 := HC.out.after (HF.out.trans f1)
        have R1 : Hid (Row w1 w.heap.size (msA m) 36) := HR.out.keep f1 (fun h => h)
        have A := dat_any w1 q D C1.is HL.out.1 t
        have F := dfirst_any w1 q D C1.is HL.out.1 3 ep
        have H1 : Hid (ChgD w q w1 q D) := C1
        clear f1 C1 HC
        go_wp2_with fail
        refine A.mono ?_
        clear A
        rintro e w2 ⟨rfl, i, rfl, hF⟩
        obtain ⟨hs, rfl⟩ | ⟨j, x, hs, hj, rfl⟩ := fnd_lt hF
        · have N0 : Hid (dSenE D ep t m = 0) := by show dSenE D ep t m = 0; rw [HN.out, hs]; rfl
          have NS := HS.out
          rw [if_pos N0.out, if_pos N0.out] at NS
          have HS2 : Hid _ := NS
          clear hF hs NS HS HN
          go_wp2_with fail
          refine F.mono ?_
          clear F
          rintro e w3 ⟨rfl, i, rfl, hF⟩
          obtain ⟨hs, rfl⟩ | ⟨j, x, hs, hj, rfl⟩ := fnd_lt hF
          · have hs' : D.L.find? (fiP 3 ep) = none := by cases h : D.L.find? (fiP 3 ep) with | none => rfl | some _ => rw [h] at hs; cases hs
            have NS := HS2.out
            rw [hs'] at NS
            have HS3 : Hid _ := NS
            clear hF hs hs' NS HS2
            cases bl with
            | false =>
              go_wp2_with fail
              go_ret2
              rw [HS3.out.1, HS3.out.2, N0.out]
              exact ⟨q, rfl, H1.out⟩
            | true =>
              have fd := (Fr.refl none' w3).drew
              have hD := H1.out.is.keep0 fd
              have ra := (H1.out.is.keep0 ((Fr.refl none' w3).alloc (.cells (encQ ⟨t, 2, ep, m, call⟩).toArray 103))).row.cell 0
              obtain ⟨aL, nL, cL, va, vn, vc, w4, q4, c0, hrun, c1, z1, C4⟩ := hD.addL HL.out.1 ⟨t, 2, ep, m, call⟩
              have hqL : some q.L = some (.slice aL nL cL) := by
                have := hD.row.cell 0
                rw [c0] at this
                exact this.symm
              have ra2 : (w3.alloc (.cells (encQ ⟨t, 2, ep, m, call⟩).toArray 103)).cell? ⟨q.b, 0, none⟩ = some (.slice aL nL cL) := by rw [← hqL]; exact ra
              have c3 : w3.cell? ⟨q.b, 0, none⟩ = some (.slice aL nL cL) := by rw [← hqL]; exact H1.out.is.row.cell 0
              have HX : Hid (ChgD w q _ q4 _) := H1.out.trans (ChgD.before fd H1.out.is C4)
              have hrun' : (Builtin.append_ #[27, 27] 27 #[.slice aL nL cL, .slice (some ⟨w3.heap.size, 0, none⟩) 1 1]).run Try.prog ((w3.alloc (.cells (encQ ⟨t, 2, ep, m, call⟩).toArray 103)).drew) = .ok (.slice va vn vc) w4 := hrun
              dsimp only [encQ] at hrun' ra2
              obtain ⟨y0, y1, y2, y3, y4, y5, y6⟩ := box7 (m := m) R1.out
              clear C4 fd hD ra hrun hqL
              go_wp2_with fail
              go_region_law (refine step_append_eq hrun' (by with_reducible rfl) (.tmp 72) (.tmp 78) rfl rfl rfl rfl rfl ?_)
              all_goals go_wp2_with fail
              all_goals go_ret2
              all_goals rw [HS3.out.1, HS3.out.2, N0.out]
              all_goals exact ⟨q4, rfl, HX.out⟩
          · have NS := HS2.out
            rw [hs] at NS
            have HS3 : Hid _ := NS
            obtain ⟨g, cap, c0, hjl, cx⟩ := H1.out.is.cellL hj
            have cx0 : w3.cell? ⟨g, j * 11, none⟩ = some (.int .i64 x.t) := cx 0 _ rfl
            have R := drest_any w3 q D H1.out.is HL.out.1 x.t
            have HRR : Hid _ := R
            have d0 : decide (0 ≤ (j : Int)) = true := decide_eq_true (by omega)
            have hll := HL.out.1
            clear hF hs NS HS2 cx R hj
            obtain ⟨r, xs, xo, xm, xc⟩ := x
            dsimp only at cx0 HS3 HRR
            generalize hNL : D.L.length = N at c0 hjl hll
            clear hNL
            go_wp2_with fail
            refine Calls.mono HRR.out ?_
            rintro e w4 ⟨v, q4, rfl, C4⟩
            have E4 : ChgD w q w4 q4 (dRest D r) := H1.out.trans C4
            have DV := ddeliver_any w4 q4 _ E4.is HL.out.2.2 r m
            rw [E4.eb] at DV
            have HD : Hid _ := DV
            have H4 : Hid _ := E4
            have R4 := R1.out.keep C4.fr HB.out
            obtain ⟨y0, y1, y2, y3, y4, y5, y6⟩ := box7 (m := m) R4
            clear C4 E4 DV HRR c0 cx0 hjl R4
            go_wp2_with fail
            refine Calls.mono HD.out ?_
            rintro e w5 ⟨v5, q5, rfl, C5⟩
            have H5 : Hid (ChgD w q w5 q5 (dDel (dRest D r) r m)) := H4.out.trans C5
            clear C5 HD
            cases call with
            | false =>
              go_wp2_with fail
              go_ret2
              rw [HS3.out.1, HS3.out.2, N0.out]
              exact ⟨q5, rfl, H5.out⟩
            | true =>
              have O := dowes_any w5 q5 _ H5.out.is (Nat.le_trans (dRest_len D r) HL.out.1) HL.out.2.1 r t
              rw [H5.out.eb] at O
              have HO : Hid _ := O
              clear O
              go_wp2_with fail
              refine Calls.mono HO.out ?_
              rintro e w6 ⟨v6, q6, rfl, C6⟩
              have H6 : Hid _ := H5.out.trans C6
              clear C6
              go_wp2_with fail
              go_ret2
              rw [HS3.out.1, HS3.out.2, N0.out]
              exact ⟨q6, rfl, H6.out⟩
        · have NE : Hid (dSenE D ep t m = 150) := by show dSenE D ep t m = 150; rw [HN.out, hs]; rfl
          have NS := HS.out
          have hne : ¬ dSenE D ep t m = 0 := by rw [NE.out]; decide
          rw [if_neg hne, if_neg hne] at NS
          have HS2 : Hid _ := NS
          have d0 : decide (0 ≤ (j : Int)) = true := decide_eq_true (by omega)
          clear hF hs hj F hne NS HS HN
          go_wp2_with fail
          go_ret2
          rw [HS2.out.1, HS2.out.2, NE.out]
          exact ⟨q, rfl, H1.out⟩
end

end Go.Proofs.Ytjobdfkfongjaaa

