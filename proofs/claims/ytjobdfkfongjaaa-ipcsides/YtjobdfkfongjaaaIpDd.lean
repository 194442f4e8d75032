/-
  The document's CancelBadged, over the translation. No statement is proved here.
-/
import Derived.Test.YtjobdfkfongjaaaIpDcc
/- IpDocP -/
namespace Go.Proofs.Ytjobdfkfongjaaa
open Go.RowKit Go.Maps Go.WideMaps

def dRecE (D : Dc) (ep t : Int) : Int := if numB ep && numB t then (if (D.L.find? (atP t)).isSome then 150 else 0) else 1
def dRecL (D : Dc) (t : Int) : Bool := ligB (dForS D t) (ofI (dForS D t).B t)
def dRecG (D : Dc) (ep t : Int) : Bool := decide (dRecE D ep t = 0) && (dRecL D t || ((dForS D t).L.find? (fiP 2 ep)).isSome)
def dRecN (D : Dc) (ep t : Int) : Int := if dRecE D ep t = 0 then (if dRecL D t then -1 else (match (dForS D t).L.find? (fiP 2 ep) with
    | none => -1
    | some x => if x.c then -1 else x.t)) else -1
def dHea (D : Dc) (t : Int) (x : Wq) : Dc := if x.c then dOwes (dDel (dRest D x.t) t x.m) t x.t else dDel (dRest D x.t) t x.m
def dRecS (D : Dc) (ep t : Int) (bl : Bool) : Dc := if dRecE D ep t = 0 then (if dRecL D t then ligS (dForS D t) (ofI (dForS D t).B t) t else (match (dForS D t).L.find? (fiP 2 ep) with
    | none => if bl then { dForS D t with L := (dForS D t).L ++ [⟨t, 3, ep, M0, false⟩] } else dForS D t
    | some x => dHea (dForS D t) t x)) else D
theorem dRec_bad {D : Dc} {ep t : Int} {bl : Bool} {e : Int} (h : dRecE D ep t = e) (he : e ≠ 0) : dRecG D ep t = false ∧ dRecN D ep t = -1 ∧ dRecS D ep t bl = D := by
  refine ⟨?_, ?_, ?_⟩
  · unfold dRecG; rw [h, decide_eq_false he]; rfl
  · unfold dRecN; rw [h, if_neg he]
  · unfold dRecS; rw [h, if_neg he]
theorem setO_len : ∀ (l : List Wq) (c : Int), (setO l c).length = l.length
  | [], _ => rfl
  | x :: l, c => by
    unfold setO
    split
    · rfl
    · simp [setO_len l c]
theorem dFor_small (D : Dc) (t : Int) : (dForS D t).L.length = D.L.length ∧ (dForS D t).C.length ≤ D.C.length ∧ (dForS D t).B = D.B ∧ (dForS D t).G = D.G ∧ (dForS D t).X = D.X := by
  unfold dForS
  split
  · exact ⟨rfl, Nat.le_refl _, rfl, rfl, rfl⟩
  · exact ⟨setO_len _ _, List.length_filter_le _ _, rfl, rfl, rfl⟩
section
attribute [local go_sem ↓ high] builtin_app

set_option maxRecDepth 100000 in
set_option maxHeartbeats 4000000 in
theorem drecv_any (w : World) (q : Db) (D : Dc) (h : IsD w q D) (hl : D.L.length ≤ 100000) (hc : D.C.length ≤ 100000) (hb : D.B.length ≤ 100000) (hg : D.G.length ≤ 100000) (hx : D.X.length ≤ 100000) (ep t : Int) (bl : Bool) (hw : 0 ≤ witI D.C t → (D.L.find? (atP (witI D.C t))).isSome = true) :
    Calls Try.prog 32 #[pv q.b, .int .i64 ep, .int .i64 t, .bool bl] w fun e w' => ∃ q', e = .returned (.tuple #[.int .i64 (dRecN D ep t), .bool (dRecG D ep t), .int .i64 (dRecE D ep t)]) ∧ ChgD w q w' q' (dRecS D ep t bl) := by
  have HC : Hid (ChgD w q w q D) := ChgD.same h (Fr.refl _ _)
  have HL : Hid (D.L.length ≤ 100000 ∧ D.C.length ≤ 100000 ∧ D.B.length ≤ 100000 ∧ D.G.length ≤ 100000 ∧ D.X.length ≤ 100000) := ⟨hl, hc, hb, hg, hx⟩
  have A := dat_any w q D h hl t
  have FG := dforget_any w q D h hl hc t hw
  clear h hl hc hb hg hx hw
  cases hn : numB ep with
  | false =>
    have HN : Hid (dRecE D ep t = 1) := by show dRecE D ep t = 1; unfold dRecE; rw [hn]; rfl
    have HS : Hid _ := dRec_bad (bl := bl) HN.out (by decide)
    clear A FG
    go_enter Try.func32, Try.ntmps32
    go_wp2_with (go_at_call 72; refine (dis_any _ _).mono ?_; rintro e w1 ⟨rfl, rfl⟩; try rw [hn])
    go_ret3
    rw [HN.out, HS.out.1, HS.out.2.1, HS.out.2.2]
    exact ⟨q, rfl, HC.out⟩
  | true =>
    cases ht : numB t with
    | false =>
      have HN : Hid (dRecE D ep t = 1) := by show dRecE D ep t = 1; unfold dRecE; rw [hn, ht]; rfl
      have HS : Hid _ := dRec_bad (bl := bl) HN.out (by decide)
      clear A FG
      go_enter Try.func32, Try.ntmps32
      go_wp2_with (go_at_call 72; refine (dis_any _ _).mono ?_; rintro e w1 ⟨rfl, rfl⟩; first | rw [hn] | rw [ht])
      go_ret3
      rw [HN.out, HS.out.1, HS.out.2.1, HS.out.2.2]
      exact ⟨q, rfl, HC.out⟩
    | true =>
      have HN : Hid (dRecE D ep t = if (D.L.find? (atP t)).isSome then 150 else 0) := by show dRecE D ep t = _; unfold dRecE; rw [hn, ht]; rfl
      go_enter Try.func32, Try.ntmps32
      go_wp2_with (go_at_call 72; refine (dis_any _ _).mono ?_; rintro e w1 ⟨rfl, rfl⟩; first | rw [hn] | rw [ht])
      refine A.mono ?_
      clear A
      rintro e w1 ⟨rfl, i, rfl, hF⟩
      obtain ⟨hs, rfl⟩ | ⟨j, x, hs, hj, rfl⟩ := fnd_lt hF
      · have N0 : Hid (dRecE D ep t = 0) := by show dRecE D ep t = 0; rw [HN.out, hs]; rfl
        have HS : Hid (dRecG D ep t = (dRecL D t || ((dForS D t).L.find? (fiP 2 ep)).isSome) ∧ dRecN D ep t = (if dRecL D t then -1 else (match (dForS D t).L.find? (fiP 2 ep) with
    | none => -1
    | some x => if x.c then -1 else x.t)) ∧ dRecS D ep t bl = (if dRecL D t then ligS (dForS D t) (ofI (dForS D t).B t) t else (match (dForS D t).L.find? (fiP 2 ep) with
    | none => if bl then { dForS D t with L := (dForS D t).L ++ [⟨t, 3, ep, M0, false⟩] } else dForS D t
    | some x => dHea (dForS D t) t x))) := by
          refine ⟨?_, ?_, ?_⟩
          · unfold dRecG; rw [N0.out]; rfl
          · unfold dRecN; rw [N0.out]; rfl
          · unfold dRecS; rw [N0.out]; rfl
        clear hF hs HN
        go_wp2_with fail
        refine FG.mono ?_
        clear FG
        rintro e w2 ⟨q2, rfl, C2⟩
        obtain ⟨s1, s2, s3, s4, s5⟩ := dFor_small D t
        have hlx := HL.out
        rw [← s1, ← s3, ← s4, ← s5] at hlx
        have HK : Hid _ := hlx
        have HKC : Hid ((dForS D t).C.length ≤ 100000) := Nat.le_trans s2 HL.out.2.1
        have H2 : Hid _ := C2
        have X := dof_any w2 0 q2.B _ C2.is.b hlx.2.2.1 t
        obtain ⟨aG, nG, cG, hvG⟩ := sl_of C2.is.b
        have x1 : w2.cell? ⟨q.b, 2, none⟩ = some (.slice aG nG cG) := by rw [← hvG, ← C2.eb]; exact C2.is.row.cell 2
        rw [hvG] at X
        have LG := dlight_any w2 q2 _ C2.is hlx.2.2.2.1 hlx.2.2.2.2 (ofI (dForS D t).B t) t
        rw [C2.eb] at LG
        have HLG : Hid _ := LG
        clear s1 s2 s3 s4 s5 hlx LG hvG C2 HC
        have HR : Hid (dRecL D t = ligB (dForS D t) (ofI (dForS D t).B t)) := rfl
        generalize dForS D t = D2 at *
        generalize ofI D2.B t = nn at *
        go_wp2_with fail
        refine X.mono ?_
        rintro e w3 ⟨rfl, rfl⟩
        clear X x1
        go_wp2_with fail
        refine Calls.mono HLG.out ?_
        rintro e w4 ⟨q4, rfl, C4⟩
        clear HLG
        rw [HR.out] at HS
        cases hlit : ligB D2 nn with
        | true =>
          have H4 : Hid _ := H2.out.trans C4
          rw [hlit] at HS
          clear C4 hlit
          go_wp2_with fail
          go_ret3
          obtain ⟨n1, n2, n3⟩ := HS.out
          rw [n1, n2, n3, N0.out]
          exact ⟨q4, rfl, H4.out⟩
        | false =>
          have e4 : ligS D2 nn t = D2 := by unfold ligS; rw [hlit]; rfl
          rw [e4] at C4
          rw [hlit] at HS
          have H4 : Hid (ChgD w1 q w4 q4 D2) := H2.out.trans C4
          have F := dfirst_any w4 q4 D2 C4.is (by rw [show D2.L.length = D2.L.length from rfl]; exact HK.out.1) 2 ep
          rw [H4.out.eb] at F
          clear C4 hlit e4 H2
          go_wp2_with fail
          refine F.mono ?_
          clear F
          rintro e w5 ⟨rfl, i, rfl, hF⟩
          obtain ⟨hs, rfl⟩ | ⟨j, x, hs, hj, rfl⟩ := fnd_lt hF
          · have NS := HS.out
            rw [find_isNone hs] at NS
            have HS3 : Hid _ := NS
            clear hF hs NS HS
            cases bl with
            | false =>
              go_wp2_with fail
              go_ret3
              obtain ⟨n1, n2, n3⟩ := HS3.out
              rw [n1, n2, n3, N0.out]
              exact ⟨q4, rfl, H4.out⟩
            | true =>
              obtain ⟨aL, nL, cL, va, vn, vc, w6, q6, c0, hrun, c1, z1, C6⟩ := H4.out.is.addL HK.out.1 ⟨t, 3, ep, M0, false⟩
              have C7 := H4.out.trans C6
              dsimp only [encQ, M0] at hrun
              rw [H4.out.eb] at c0 c1 z1 C7
              have HX : Hid _ := C7
              clear C6 C7
              go_wp2_with fail
              go_ret3
              obtain ⟨n1, n2, n3⟩ := HS3.out
              rw [n1, n2, n3, N0.out]
              exact ⟨q6, rfl, by simpa using HX.out⟩
          · have NS := HS.out
            rw [hs] at NS
            have HS3 : Hid _ := NS
            obtain ⟨g, cap, c0, hjl, cx⟩ := H4.out.is.cellL hj
            rw [H4.out.eb] at c0
            have cx0 : w5.cell? ⟨g, j * 11, none⟩ = some (.int .i64 x.t) := cx 0 _ rfl
            have cx1 := cx 1 _ rfl
            have cx2 := cx 2 _ rfl
            have cx3 := cx 3 _ rfl
            have cx4 := cx 4 _ rfl
            have cx5 := cx 5 _ rfl
            have cx6 := cx 6 _ rfl
            have cx7 := cx 7 _ rfl
            have cx8 := cx 8 _ rfl
            have cx9 := cx 9 _ rfl
            have cx10 := cx 10 _ rfl
            have d0 : decide ((j : Int) < 0) = false := decide_eq_false (by omega)
            have hll : D2.L.length ≤ 100000 := HK.out.1
            have fb := (Fr.refl none' w5).alloc (.cells (encQ x).toArray 103)
            have HB : Hid (Row (w5.alloc (.cells (encQ x).toArray 103)) w5.heap.size (encQ x).toArray 103 ∧ ¬ q4.s w5.heap.size ∧ ChgD w1 q (w5.alloc (.cells (encQ x).toArray 103)) q4 D2) := ⟨row_alloc _ _ _, fun hk => by have := H4.out.is.lt _ hk; omega, H4.out.after fb⟩
            have R := drest_any _ q4 D2 HB.out.2.2.is hll x.t
            rw [H4.out.eb] at R
            have HR2 : Hid _ := R
            have HSX : Hid (dHea D2 t x = if x.c then dOwes (dDel (dRest D2 x.t) t x.m) t x.t else dDel (dRest D2 x.t) t x.m) := rfl
            dsimp only [encQ] at HB HR2
            clear hF hs NS HS cx R fb
            generalize hNL : D2.L.length = N at c0 hjl hll
            clear hNL
            obtain ⟨xt, xs, xo, xm, xc⟩ := x
            dsimp only at cx0 cx1 cx2 cx3 cx4 cx5 cx6 cx7 cx8 cx9 cx10 HR2 HB HSX HS3
            clear hj
            go_wp2_with fail
            refine Calls.mono HR2.out ?_
            rintro e w6 ⟨v, q6, rfl, C6⟩
            have B6 := HB.out.1.keep C6.fr HB.out.2.1
            have E6 : ChgD w1 q w6 q6 (dRest D2 xt) := HB.out.2.2.trans C6
            have hq6 : ¬ q6.s w5.heap.size := fun hk => by
              rcases C6.new _ hk with h1 | h1
              · exact HB.out.2.1 h1
              · rw [World.size_alloc] at h1; omega
            have DV := ddeliver_any w6 q6 _ E6.is HK.out.2.2.2.2 t xm
            rw [E6.eb] at DV
            have HD : Hid _ := DV
            have H6 : Hid _ := E6
            have HB6 : Hid (Row w6 w5.heap.size _ 103) := B6
            have HQ6 : Hid (¬ q6.s w5.heap.size) := hq6
            have b0 := B6.cell 0
            have b3 := B6.cell 3
            have b4 := B6.cell 4
            have b5 := B6.cell 5
            have b6 := B6.cell 6
            have b7 := B6.cell 7
            have b8 := B6.cell 8
            have b9 := B6.cell 9
            dsimp at b0 b3 b4 b5 b6 b7 b8 b9
            clear C6 B6 E6 hq6 DV HR2 HB c0 cx0 cx1 cx2 cx3 cx4 cx5 cx6 cx7 cx8 cx9 cx10 hjl
            go_wp2_with fail
            refine Calls.mono HD.out ?_
            rintro e w7 ⟨v7, q7, rfl, C7⟩
            have B7 := HB6.out.keep C7.fr HQ6.out
            have H7 : Hid (ChgD w1 q w7 q7 (dDel (dRest D2 xt) t xm)) := H6.out.trans C7
            have b0' := B7.cell 0
            have b10 := B7.cell 10
            dsimp at b0' b10
            clear C7 B7 HD HB6 HQ6 H6 b0 b3 b4 b5 b6 b7 b8 b9
            cases xc with
            | false =>
              go_wp2_with fail
              go_ret3
              obtain ⟨n1, n2, n3⟩ := HS3.out
              rw [n1, n2, n3, N0.out, HSX.out]
              exact ⟨q7, rfl, H7.out⟩
            | true =>
              have O := dowes_any w7 q7 _ H7.out.is (Nat.le_trans (dRest_len D2 xt) HK.out.1) HKC.out t xt
              rw [H7.out.eb] at O
              have HO : Hid _ := O
              clear O
              go_wp2_with fail
              refine Calls.mono HO.out ?_
              rintro e w8 ⟨v8, q8, rfl, C8⟩
              have H8 : Hid _ := H7.out.trans C8
              clear C8
              go_wp2_with fail
              go_ret3
              obtain ⟨n1, n2, n3⟩ := HS3.out
              rw [n1, n2, n3, N0.out, HSX.out]
              exact ⟨q8, rfl, H8.out⟩
      · have NE : Hid (dRecE D ep t = 150) := by show dRecE D ep t = 150; rw [HN.out, hs]; rfl
        have HS : Hid _ := dRec_bad (bl := bl) NE.out (by decide)
        have d0 : decide (0 ≤ (j : Int)) = true := decide_eq_true (by omega)
        clear hF hs hj FG HN
        go_wp2_with fail
        go_ret3
        rw [NE.out, HS.out.1, HS.out.2.1, HS.out.2.2]
        exact ⟨q, rfl, HC.out⟩
end

end Go.Proofs.Ytjobdfkfongjaaa

/- IpDocQ -/
namespace Go.Proofs.Ytjobdfkfongjaaa
open Go.RowKit Go.Maps Go.WideMaps

/-- Who hears a signal at once; below 0: nobody. -/
def dLisI (D : Dc) (n : Int) : Int := match D.L.find? (fiP 5 n) with
  | some x => x.t
  | none => if 0 ≤ witI D.B n then (if dStS D (witI D.B n) = 3 then witI D.B n else -1) else -1
def dSigN (D : Dc) (n b : Int) : Int := if sigE n b = 0 then (if 0 ≤ dLisI D n then dLisI D n else -1) else -1
def dSigS (D : Dc) (n b : Int) : Dc := if sigE n b = 0 then (if 0 ≤ dLisI D n then dDel (dRest D (dLisI D n)) (dLisI D n) (badM b) else { D with G := wout D.G n ++ [(n, bits .or .i64 (dLitN D n) b)] }) else D
theorem dSig_pos {D : Dc} {n b r : Int} (h : sigE n b = 0) (hr : dLisI D n = r) (h0 : 0 ≤ r) : dSigN D n b = r ∧ dSigS D n b = dDel (dRest D r) r (badM b) := by
  unfold dSigN dSigS
  rw [if_pos h, if_pos h, hr, if_pos h0, if_pos h0]
  exact ⟨rfl, rfl⟩
theorem dSig_neg {D : Dc} {n b r : Int} (h : sigE n b = 0) (hr : dLisI D n = r) (h0 : ¬ 0 ≤ r) : dSigN D n b = -1 ∧ dSigS D n b = { D with G := wout D.G n ++ [(n, bits .or .i64 (dLitN D n) b)] } := by
  unfold dSigN dSigS
  rw [if_pos h, if_pos h, hr, if_neg h0, if_neg h0]
  exact ⟨rfl, rfl⟩

section
attribute [local go_sem ↓ high] builtin_app

set_option maxRecDepth 100000 in
set_option maxHeartbeats 4000000 in
theorem dsignal_any (w : World) (q : Db) (D : Dc) (h : IsD w q D) (hl : D.L.length ≤ 100000) (hb : D.B.length ≤ 100000) (hg : D.G.length ≤ 100000) (hx : D.X.length ≤ 100000) (n b : Int) :
    Calls Try.prog 35 #[pv q.b, .int .i64 n, .int .i64 b] w fun e w' => ∃ q', e = .returned (.tuple #[.int .i64 (dSigN D n b), .int .i64 (sigE n b)]) ∧ ChgD w q w' q' (dSigS D n b) := by
  have HC : Hid (ChgD w q w q D) := ChgD.same h (Fr.refl _ _)
  have HL : Hid (D.L.length ≤ 100000 ∧ D.B.length ≤ 100000 ∧ D.G.length ≤ 100000 ∧ D.X.length ≤ 100000) := ⟨hl, hb, hg, hx⟩
  have F := dfirst_any w q D h hl 5 n
  have X := dwith_any w 0 q.B D.B h.b hb n
  obtain ⟨aG, nG, cG, hvG⟩ := sl_of h.b
  have x1 : w.cell? ⟨q.b, 2, none⟩ = some (.slice aG nG cG) := by rw [← hvG]; exact h.row.cell 2
  rw [hvG] at X
  clear h hl hb hg hx hvG
  cases hn : numB n with
  | false =>
    have HN : Hid (sigE n b = 1) := by show sigE n b = 1; unfold sigE; rw [hn]; rfl
    have HS : Hid (dSigN D n b = -1 ∧ dSigS D n b = D) := ⟨by unfold dSigN; rw [HN.out]; rfl, by unfold dSigS; rw [HN.out]; rfl⟩
    clear F X
    go_enter Try.func35, Try.ntmps35
    go_wp2_with (first | (go_at_call 72; refine (dis_any _ _).mono ?_; rintro e w1 ⟨rfl, rfl⟩; rw [hn]) | (go_at_call 83; refine (rnum_any b _).mono ?_; rintro e w1 ⟨rfl, rfl⟩))
    go_ret2
    rw [HN.out, HS.out.1, HS.out.2]
    exact ⟨q, rfl, HC.out⟩
  | true =>
    cases hm : mrkB b with
    | false =>
      have HN : Hid (sigE n b = 1) := by show sigE n b = 1; unfold sigE; rw [hn, hm]; rfl
      have HS : Hid (dSigN D n b = -1 ∧ dSigS D n b = D) := ⟨by unfold dSigN; rw [HN.out]; rfl, by unfold dSigS; rw [HN.out]; rfl⟩
      clear F X
      go_enter Try.func35, Try.ntmps35
      go_wp2_with (first | (go_at_call 72; refine (dis_any _ _).mono ?_; rintro e w1 ⟨rfl, rfl⟩; rw [hn]) | (go_at_call 83; refine (rnum_any b _).mono ?_; rintro e w1 ⟨rfl, rfl⟩; rw [hm]))
      go_ret2
      rw [HN.out, HS.out.1, HS.out.2]
      exact ⟨q, rfl, HC.out⟩
    | true =>
      have HN : Hid (sigE n b = 0) := by show sigE n b = 0; unfold sigE; rw [hn, hm]; rfl
      go_enter Try.func35, Try.ntmps35
      go_wp2_with (first | (go_at_call 72; refine (dis_any _ _).mono ?_; rintro e w1 ⟨rfl, rfl⟩; rw [hn]) | (go_at_call 83; refine (rnum_any b _).mono ?_; rintro e w1 ⟨rfl, rfl⟩; rw [hm]))
      refine F.mono ?_
      clear F
      rintro e w1 ⟨rfl, i, rfl, hF⟩
      go_wp2_with fail
      refine X.mono ?_
      clear X
      rintro e w2 ⟨rfl, rfl⟩
      have HT : Hid (dLisI D n = match D.L.find? (fiP 5 n) with
        | some x => x.t
        | none => if 0 ≤ witI D.B n then (if dStS D (witI D.B n) = 3 then witI D.B n else -1) else -1) := rfl
      clear x1
      obtain ⟨hs, rfl⟩ | ⟨j, x, hs, hj, rfl⟩ := fnd_lt hF
      · have NT := HT.out
        rw [find_isNone hs] at NT
        have HT2 : Hid _ := NT
        clear hF hs NT HT
        have HST : Hid _ := dstate_any w2 q D HC.out.is HL.out.1 (witI D.B n)
        generalize hti : witI D.B n = ti at *
        clear hti
        by_cases h0 : 0 ≤ ti
        · have d0 : decide (0 ≤ ti) = true := decide_eq_true h0
          have NT := HT2.out
          rw [if_pos h0] at NT
          have HT3 : Hid _ := NT
          clear NT HT2
          have HCC : Hid (ChgD w2 q w2 q D) := HC.out
          generalize hst : dStS D ti = st at *
          clear hst
          by_cases h3 : st = 3
          · have d3 : (st == 3) = true := by simpa using h3
            have HS : Hid _ := dSig_pos HN.out (HT3.out.trans (if_pos h3)) h0
            clear h3 HT3
            go_wp2_with fail
            refine Calls.mono HST.out ?_
            rintro e w3 ⟨rfl, f3⟩
            clear HST
            have HC : Hid (ChgD w2 q w3 q D) := HCC.out.after f3
            clear f3
            have HR : Hid _ := drest_any w3 q D HC.out.is HL.out.1 ti
            go_wp2_with fail
            refine Calls.mono HR.out ?_
            rintro e w4 ⟨v, q4, rfl, C4⟩
            have E4 : ChgD w2 q w4 q4 (dRest D ti) := HC.out.trans C4
            have DV := ddeliver_any w4 q4 _ E4.is HL.out.2.2.2 ti (badM b)
            rw [E4.eb] at DV
            have HD : Hid _ := DV
            have H4 : Hid _ := E4
            dsimp only [msV, badM] at HD
            clear C4 E4 DV HR
            go_wp2_with fail
            refine Calls.mono HD.out ?_
            rintro e w5 ⟨v5, q5, rfl, C5⟩
            have H5 : Hid _ := H4.out.trans C5
            clear C5 HD
            go_wp2_with fail
            go_ret2
            rw [HN.out, HS.out.1, HS.out.2]
            exact ⟨q5, rfl, H5.out⟩
          · have d3 : (st == 3) = false := by simpa using h3
            have HS : Hid _ := dSig_neg HN.out (HT3.out.trans (if_neg h3)) (by decide)
            clear h3 HT3
            go_wp2_with fail
            refine Calls.mono HST.out ?_
            rintro e w3 ⟨rfl, f3⟩
            clear HST
            have HC : Hid (ChgD w2 q w3 q D) := HCC.out.after f3
            clear f3
            have LI := dlit_any w3 q D HC.out.is HL.out.2.2.1 n
            have HLI : Hid _ := LI
            clear LI
            generalize hlo : dLitN D n = old at *
            clear hlo
            go_wp2_with fail
            refine Calls.mono HLI.out ?_
            rintro e w4 ⟨rfl, rfl⟩
            clear HLI
            have Y := dwithout_any w4 0 q.G D.G HC.out.is.g HL.out.2.2.1 n
            obtain ⟨aH, nH, cH, hvH⟩ := sl_of HC.out.is.g
            have y1 : w4.cell? ⟨q.b, 3, none⟩ = some (.slice aH nH cH) := by rw [← hvH]; exact HC.out.is.row.cell 3
            rw [hvH] at Y
            clear hvH
            go_wp2_with fail
            refine Y.mono ?_
            clear Y
            rintro e w5 ⟨xa, xn, xc, rfl, f5, o5⟩
            have hlw : (wout D.G n).length ≤ 100000 := Nat.le_trans (List.length_filter_le _ _) HL.out.2.2.1
            obtain ⟨v6, w6, r6, f6, o6, n6⟩ := FL.app (T := 28) Try.underlying28 info_q2 rfl (by omega) (by omega) enc2_len enc2_one o5 hlw f5.size (n, bits .or .i64 old b)
            obtain ⟨va, vn, vc, rfl⟩ := sl_of o6
            have F6 := fr_high f5 f6 (fun k hk => (o5.blk hk).1)
            have C6 := HC.out.is.setG (F6.mono (fun _ _ h => h.elim)) (o6.low (Nat.zero_le _)) (fun k hk => Or.inr (o6.blk hk).1)
            have rb := HC.out.is.row.keep F6 (fun h => h)
            have z3 := rb.frozen 3
            have u3 : w6.cell? ⟨q.b, 3, none⟩ = some q.G := rb.cell 3
            have hr6 : (App #[28, 28] 28 #[.slice xa xn xc, .slice (some ⟨w5.heap.size, 0, none⟩) 1 1]).run Try.prog (w5.alloc (.cells #[.int .i64 n, .int .i64 (bits .or .i64 old b)] 111)) = .ok (.slice va vn vc) w6 := r6
            have HE : Hid _ := HC.out.trans C6
            clear C6 rb f5 o5 f6 o6 n6 r6 F6 hlw y1
            go_wp2_with fail
            go_ret2
            rw [HN.out, HS.out.1, HS.out.2]
            exact ⟨_, rfl, HE.out⟩
        · have d0 : decide (0 ≤ ti) = false := decide_eq_false h0
          have HS : Hid _ := dSig_neg HN.out (HT2.out.trans (if_neg h0)) (by decide)
          clear HT2 HST
          have LI := dlit_any w2 q D HC.out.is HL.out.2.2.1 n
          have HLI : Hid _ := LI
          clear LI
          generalize hlo : dLitN D n = old at *
          clear hlo
          go_wp2_with fail
          refine Calls.mono HLI.out ?_
          rintro e w4 ⟨rfl, rfl⟩
          clear HLI
          have Y := dwithout_any w4 0 q.G D.G HC.out.is.g HL.out.2.2.1 n
          obtain ⟨aH, nH, cH, hvH⟩ := sl_of HC.out.is.g
          have y1 : w4.cell? ⟨q.b, 3, none⟩ = some (.slice aH nH cH) := by rw [← hvH]; exact HC.out.is.row.cell 3
          rw [hvH] at Y
          clear hvH
          go_wp2_with fail
          refine Y.mono ?_
          clear Y
          rintro e w5 ⟨xa, xn, xc, rfl, f5, o5⟩
          have hlw : (wout D.G n).length ≤ 100000 := Nat.le_trans (List.length_filter_le _ _) HL.out.2.2.1
          obtain ⟨v6, w6, r6, f6, o6, n6⟩ := FL.app (T := 28) Try.underlying28 info_q2 rfl (by omega) (by omega) enc2_len enc2_one o5 hlw f5.size (n, bits .or .i64 old b)
          obtain ⟨va, vn, vc, rfl⟩ := sl_of o6
          have F6 := fr_high f5 f6 (fun k hk => (o5.blk hk).1)
          have C6 := HC.out.is.setG (F6.mono (fun _ _ h => h.elim)) (o6.low (Nat.zero_le _)) (fun k hk => Or.inr (o6.blk hk).1)
          have rb := HC.out.is.row.keep F6 (fun h => h)
          have z3 := rb.frozen 3
          have u3 : w6.cell? ⟨q.b, 3, none⟩ = some q.G := rb.cell 3
          have hr6 : (App #[28, 28] 28 #[.slice xa xn xc, .slice (some ⟨w5.heap.size, 0, none⟩) 1 1]).run Try.prog (w5.alloc (.cells #[.int .i64 n, .int .i64 (bits .or .i64 old b)] 111)) = .ok (.slice va vn vc) w6 := r6
          have HE : Hid _ := C6
          clear C6 rb f5 o5 f6 o6 n6 r6 F6 hlw y1
          go_wp2_with fail
          go_ret2
          rw [HN.out, HS.out.1, HS.out.2]
          exact ⟨_, rfl, HE.out⟩
      · have NT := HT.out
        rw [hs] at NT
        have HT2 : Hid _ := NT
        obtain ⟨g, cap, c0, hjl, cx⟩ := HC.out.is.cellL hj
        have cx0 : w2.cell? ⟨g, j * 11, none⟩ = some (.int .i64 x.t) := cx 0 _ rfl
        have d1 : decide (0 ≤ (j : Int)) = true := decide_eq_true (by omega)
        have hll := HL.out.1
        clear hF hs NT HT cx hj
        obtain ⟨xt, xs, xo, xm, xc⟩ := x
        dsimp only at cx0 HT2
        generalize hNL : D.L.length = N at c0 hjl hll
        clear hNL
        by_cases h0 : 0 ≤ xt
        · have d0 : decide (0 ≤ xt) = true := decide_eq_true h0
          have HS : Hid _ := dSig_pos HN.out HT2.out h0
          clear HT2
          have HR : Hid _ := drest_any w2 q D HC.out.is HL.out.1 xt
          go_wp2_with fail
          refine Calls.mono HR.out ?_
          rintro e w4 ⟨v, q4, rfl, C4⟩
          have E4 : ChgD w2 q w4 q4 (dRest D xt) := C4
          have DV := ddeliver_any w4 q4 _ E4.is HL.out.2.2.2 xt (badM b)
          rw [E4.eb] at DV
          have HD : Hid _ := DV
          have H4 : Hid _ := E4
          dsimp only [msV, badM] at HD
          clear C4 E4 DV HR
          go_wp2_with fail
          refine Calls.mono HD.out ?_
          rintro e w5 ⟨v5, q5, rfl, C5⟩
          have H5 : Hid _ := H4.out.trans C5
          clear C5 HD
          go_wp2_with fail
          go_ret2
          rw [HN.out, HS.out.1, HS.out.2]
          exact ⟨q5, rfl, H5.out⟩
        · have d0 : decide (0 ≤ xt) = false := decide_eq_false h0
          have HS : Hid _ := dSig_neg HN.out HT2.out h0
          clear HT2
          have LI := dlit_any w2 q D HC.out.is HL.out.2.2.1 n
          have HLI : Hid _ := LI
          clear LI
          generalize hlo : dLitN D n = old at *
          clear hlo
          go_wp2_with fail
          refine Calls.mono HLI.out ?_
          rintro e w4 ⟨rfl, rfl⟩
          clear HLI
          have Y := dwithout_any w4 0 q.G D.G HC.out.is.g HL.out.2.2.1 n
          obtain ⟨aH, nH, cH, hvH⟩ := sl_of HC.out.is.g
          have y1 : w4.cell? ⟨q.b, 3, none⟩ = some (.slice aH nH cH) := by rw [← hvH]; exact HC.out.is.row.cell 3
          rw [hvH] at Y
          clear hvH
          go_wp2_with fail
          refine Y.mono ?_
          clear Y
          rintro e w5 ⟨xa, xn, xc, rfl, f5, o5⟩
          have hlw : (wout D.G n).length ≤ 100000 := Nat.le_trans (List.length_filter_le _ _) HL.out.2.2.1
          obtain ⟨v6, w6, r6, f6, o6, n6⟩ := FL.app (T := 28) Try.underlying28 info_q2 rfl (by omega) (by omega) enc2_len enc2_one o5 hlw f5.size (n, bits .or .i64 old b)
          obtain ⟨va, vn, vc, rfl⟩ := sl_of o6
          have F6 := fr_high f5 f6 (fun k hk => (o5.blk hk).1)
          have C6 := HC.out.is.setG (F6.mono (fun _ _ h => h.elim)) (o6.low (Nat.zero_le _)) (fun k hk => Or.inr (o6.blk hk).1)
          have rb := HC.out.is.row.keep F6 (fun h => h)
          have z3 := rb.frozen 3
          have u3 : w6.cell? ⟨q.b, 3, none⟩ = some q.G := rb.cell 3
          have hr6 : (App #[28, 28] 28 #[.slice xa xn xc, .slice (some ⟨w5.heap.size, 0, none⟩) 1 1]).run Try.prog (w5.alloc (.cells #[.int .i64 n, .int .i64 (bits .or .i64 old b)] 111)) = .ok (.slice va vn vc) w6 := r6
          have HE : Hid _ := C6
          clear C6 rb f5 o5 f6 o6 n6 r6 F6 hlw y1
          go_wp2_with fail
          go_ret2
          rw [HN.out, HS.out.1, HS.out.2]
          exact ⟨_, rfl, HE.out⟩
end

end Go.Proofs.Ytjobdfkfongjaaa

/- IpDocR -/
namespace Go.Proofs.Ytjobdfkfongjaaa
open Go.RowKit Go.Maps Go.WideMaps

/-- Is it a sender of that badge? -/
def bdP (D : Dc) (bd x : Int) : Bool := match D.L.find? (atP x) with
  | some y => y.s == 2 && y.m.b == bd
  | none => false
def dCbaL (D : Dc) (ep bd : Int) : List Int := (dWai D ep).filter (bdP D bd)
def dCbaS (D : Dc) (ep bd : Int) : Dc := dRestL D (dCbaL D ep bd)
theorem rest_find {k x : Int} (h : x ≠ k) : ∀ l : List Wq, (l.filter (fun y => y.t != k)).find? (atP x) = l.find? (atP x)
  | [] => rfl
  | y :: l => by
    rw [List.filter_cons]
    by_cases e : y.t = k
    · have h1 : (y.t != k) = false := by simp [e]
      have h2 : atP x y = false := by
        unfold atP
        have : y.t ≠ x := fun h' => h (by rw [← h', e])
        simpa using this
      rw [h1, if_neg (by decide), List.find?_cons, h2]
      exact rest_find h l
    · have h1 : (y.t != k) = true := by simpa using e
      rw [h1, if_pos rfl, List.find?_cons, List.find?_cons]
      cases atP x y with
      | true => rfl
      | false => exact rest_find h l
theorem restL_find {x : Int} : ∀ (m : List Int) (D : Dc), x ∉ m → (dRestL D m).L.find? (atP x) = D.L.find? (atP x)
  | [], _, _ => rfl
  | y :: m, D, h => by
    have h1 : x ≠ y := fun e => h (by rw [e]; exact List.mem_cons_self)
    have h2 : x ∉ m := fun e => h (List.mem_cons_of_mem _ e)
    show (dRestL (dRest D y) m).L.find? (atP x) = _
    rw [restL_find m (dRest D y) h2]
    exact rest_find h1 D.L
theorem wai_nodup {D : Dc} (h : (D.L.map (·.t)).Nodup) (ep : Int) : (dWai D ep).Nodup := h.sublist (List.filter_sublist.map _)
theorem wai_some {D : Dc} {ep x : Int} (h : x ∈ dWai D ep) : (D.L.find? (atP x)).isSome = true := by
  obtain ⟨y, hy, rfl⟩ := List.mem_map.1 h
  rw [List.find?_isSome]
  exact ⟨y, (List.mem_filter.1 hy).1, by unfold atP; simp⟩
theorem take_notin {l : List Int} (h : l.Nodup) {j : Nat} (hj : j < l.length) : l[j] ∉ l.take j := fun hm => by
  obtain ⟨i, hi, e⟩ := List.mem_iff_getElem.1 hm
  rw [List.length_take] at hi
  rw [List.getElem_take] at e
  exact List.pairwise_iff_getElem.1 h i j (by omega) hj (by omega) e

/-- One number more in the list of those who leave. -/
theorem cba_step {w1 w2 : World} {q q1 : Db} {D1 : Dc} {B : Nat} {lv : Value} {l m : List Int} {xa : Option Addr} {xn xc : Nat} (C : ChgD w1 q w2 q1 D1) (o1 : OI B w2 lv l) (hlow : ∀ k, some k = lv.ownBlock → k < w1.heap.size) (o2 : OI w1.heap.size w2 (.slice xa xn xc) m) (hm : m.length ≤ 100000) (x : Int) :
    ∃ va vn vc w3, (App #[37, 37] 37 #[.slice xa xn xc, .slice (some ⟨w2.heap.size, 0, none⟩) 1 1]).run Try.prog (w2.alloc (.cells #[.int .i64 x] 3)) = .ok (.slice va vn vc) w3 ∧ ChgD w1 q w3 q1 D1 ∧ OI B w3 lv l ∧ OI w1.heap.size w3 (.slice va vn vc) (m ++ [x]) ∧ Fr (fun k => w1.heap.size ≤ k ∧ ¬ q1.s k) w2 w3 := by
  obtain ⟨v', w3, g1, g2, g3, _⟩ := app_i w2 w1.heap.size _ _ _ o2 hm C.fr.size x
  obtain ⟨va, vn, vc, rfl⟩ : ∃ a n c, v' = .slice a n c := by
    rcases g3.2 with h' | ⟨g, cap, _, h', _⟩
    · exact ⟨_, _, _, h'.1⟩
    · exact ⟨_, _, _, h'⟩
  refine ⟨va, vn, vc, w3, g1, C.high g2 (fun k hk => (own_rowB o2 hk).1) (fun k hk hk2 => ?_), ownsRow_at o1 fun k hk hl => g2.block k hl fun e => ?_, ?_, g2.mono fun k _ hk => ⟨(own_rowB o2 hk).1, ?_⟩⟩
  · obtain ⟨_, cur, r⟩ := own_rowB o2 hk2
    exact isD_ty C.is r hk
  · have h1 := hlow k hk
    have h2 := (own_rowB o2 e).1
    omega
  · unfold OI
    rw [List.map_append, List.length_append]
    exact g3
  · obtain ⟨_, cur, r⟩ := own_rowB o2 hk
    exact isD_ty C.is r

section
attribute [local go_sem ↓ high] builtin_app

set_option maxRecDepth 100000 in
set_option maxHeartbeats 4000000 in
theorem dcba_any (w : World) (q : Db) (D : Dc) (h : IsD w q D) (hlen : D.L.length ≤ 100000) (hnd : (D.L.map (·.t)).Nodup) (ep bd : Int) :
    Calls Try.prog 41 #[pv q.b, .int .i64 ep, .int .i64 bd] w fun e w' => ∃ xa xn xc q', e = .returned (.slice xa xn xc) ∧ ChgD w q w' q' (dCbaS D ep bd) ∧ OI w.heap.size w' (.slice xa xn xc) (dCbaL D ep bd) := by
  have X := dwaiting_any w q D h hlen ep
  have HC : Hid (ChgD w q w q D) := ChgD.same h (Fr.refl _ _)
  have HLn : Hid (D.L.length ≤ 100000) := hlen
  have hl : (dWai D ep).length ≤ 100000 := by
    unfold dWai
    rw [List.length_map]
    exact Nat.le_trans (List.length_filter_le _ _) hlen
  have HW : Hid ((dWai D ep).Nodup ∧ ∀ x ∈ dWai D ep, (D.L.find? (atP x)).isSome = true) := ⟨wai_nodup hnd ep, fun x hx => wai_some hx⟩
  unfold dCbaS dCbaL
  clear h hlen hnd
  generalize dWai D ep = l at *
  go_enter Try.func41, Try.ntmps41
  go_wp2_with fail
  refine X.mono ?_
  clear X
  rintro e w1 ⟨ya, yn, yc, rfl, f1, o1⟩
  obtain ⟨a, cap, hv, _⟩ := o1.form
  simp only [Value.slice.injEq] at hv
  obtain ⟨rfl, rfl, rfl⟩ := hv
  obtain ⟨N, hNl⟩ : ∃ N, N = l.length := ⟨_, rfl⟩
  rw [← hNl] at hl o1 ⊢
  have HL : Hid (N = l.length) := hNl
  have HC1 : Hid (ChgD w q w1 q D) := HC.out.after f1
  have HB : Hid (w.heap.size ≤ w1.heap.size ∧ ∀ k, some k = (Value.slice ya N yc).ownBlock → k < w1.heap.size) := ⟨f1.size, fun k hk => by obtain ⟨_, cur, r⟩ := own_rowB o1 hk; exact r.lt⟩
  have H0 : Hid (ChgD w1 q w1 q (dRestL D ((l.take 0).filter (bdP D bd))) ∧ OI w.heap.size w1 (.slice ya N yc) l ∧ OI w1.heap.size w1 (.slice none 0 0) ((l.take 0).filter (bdP D bd))) := ⟨ChgD.same HC1.out.is (Fr.refl _ _), o1, ⟨rfl, Or.inl ⟨rfl, rfl⟩⟩⟩
  clear hNl o1 f1
  go_wp2_with fail
  go_loopw [7, 9] (fun u i wr => ∃ j : Nat, j ≤ N ∧ i = .int .i64 (j : Int) ∧ ∃ xa xn xc, u = .slice xa xn xc ∧ Hid (∃ q', ChgD w1 q wr q' (dRestL D ((l.take j).filter (bdP D bd))) ∧ OI w.heap.size wr (.slice ya N yc) l ∧ OI w1.heap.size wr (.slice xa xn xc) ((l.take j).filter (bdP D bd)))) (fun _ i _ => N - (intOf i).toNat)
  case atStart => exact ⟨0, by omega, rfl, none, 0, 0, rfl, q, H0.out.1, H0.out.2.1, H0.out.2.2⟩
  case round =>
    obtain ⟨j, hj, rfl, xa, xn, xc, rfl, hI⟩ := hrel
    obtain ⟨q1, C1, o1, o2⟩ := hI.out
    by_cases hjN : j < N
    · have hjL : j < l.length := by rw [← HL.out]; exact hjN
      obtain ⟨a, cap, hv, hn⟩ := o1.form
      simp only [Value.slice.injEq] at hv
      obtain ⟨rfl, hNN, rfl⟩ := hv
      clear hNN
      obtain ⟨g, rfl, d0⟩ := hn j l[j] (List.getElem?_eq_getElem hjL)
      have hll := Nat.le_trans (dRestL_len ((l.take j).filter (bdP D bd)) D) HLn.out
      have A := dat_any wr q1 _ C1.is hll l[j]
      rw [C1.eb] at A
      have hnin : l[j] ∉ (l.take j).filter (bdP D bd) := fun hm => take_notin HW.out.1 hjL (List.mem_filter.1 hm).1
      have hfd := restL_find ((l.take j).filter (bdP D bd)) D hnin
      have hsm := HW.out.2 l[j] (List.getElem_mem hjL)
      have htk : l.take (j + 1) = l.take j ++ [l[j]] := List.take_succ_eq_append_getElem hjL
      have hm1 : ((l.take j).filter (bdP D bd)).length ≤ 100000 := by
        have := List.length_filter_le (bdP D bd) (l.take j)
        rw [List.length_take] at this
        omega
      have HM : Hid ((l.take (j + 1)).filter (bdP D bd) = (l.take j).filter (bdP D bd) ++ (if bdP D bd l[j] then [l[j]] else [])) := by
        show (l.take (j + 1)).filter (bdP D bd) = _
        rw [htk, List.filter_append, List.filter_cons, List.filter_nil]
      have HBP : Hid (bdP D bd l[j] = match D.L.find? (atP l[j]) with
  | some y => y.s == 2 && y.m.b == bd
  | none => false) := rfl
      have HQ : Hid (ChgD w1 q wr q1 (dRestL D ((l.take j).filter (bdP D bd))) ∧ OI w.heap.size wr (.slice (some ⟨g, 0, none⟩) N yc) l ∧ OI w1.heap.size wr (.slice xa xn xc) ((l.take j).filter (bdP D bd)) ∧ ((l.take j).filter (bdP D bd)).length ≤ 100000 ∧ (dRestL D ((l.take j).filter (bdP D bd))).L.length ≤ 100000) := ⟨C1, o1, o2, hm1, hll⟩
      have HFD : Hid ((dRestL D ((l.take j).filter (bdP D bd))).L.find? (atP l[j]) = D.L.find? (atP l[j])) := hfd
      have HSM : Hid ((D.L.find? (atP l[j])).isSome = true) := hsm
      clear hn C1 o1 o2 hI htk H0 hnin hfd hsm hm1 hll
      obtain ⟨m, hm⟩ : ∃ m, m = (l.take j).filter (bdP D bd) := ⟨_, rfl⟩
      obtain ⟨m2, hm2⟩ : ∃ m2, m2 = (l.take (j + 1)).filter (bdP D bd) := ⟨_, rfl⟩
      rw [← hm] at A HM HQ HFD
      rw [← hm2] at HM
      have HM2 : Hid (m2 = (l.take (j + 1)).filter (bdP D bd)) := hm2
      clear hm hm2
      have HX : Hid (l[j]? = some l[j]) := List.getElem?_eq_getElem hjL
      generalize l[j] = x at *
      go_wp2_with fail
      refine A.mono ?_
      clear A
      rintro e w2 ⟨rfl, i, rfl, hF⟩
      obtain ⟨hs, rfl⟩ | ⟨jj, y, hs, hjj, rfl⟩ := fnd_lt hF
      · exfalso
        have h1 := HSM.out
        rw [← HFD.out, hs] at h1
        cases h1
      obtain ⟨gl, cl, c0, hjl, cx⟩ := HQ.out.1.is.cellL hjj
      rw [HQ.out.1.eb] at c0
      have cx1 := cx 1 _ rfl
      have cx4 := cx 4 _ rfl
      have hll := HQ.out.2.2.2.2
      have NB := HBP.out
      rw [← HFD.out, hs] at NB
      have HBQ : Hid (bdP D bd x = (y.s == 2 && y.m.b == bd)) := NB
      clear hF hs hjj cx NB HBP HSM HFD
      obtain ⟨yt, ys, yo, ym, ycl⟩ := y
      dsimp only at cx1 cx4 HBQ
      generalize hNL : (dRestL D m).L.length = NL at c0 hjl hll
      clear hNL
      by_cases e1 : ys = 2
      · have t1 : (ys == 2) = true := by simpa using e1
        clear e1
        by_cases e2 : ym.b = bd
        · have t2 : (ym.b == bd) = true := by simpa using e2
          clear e2
          have HP : Hid (m2 = m ++ [x]) := by show m2 = m ++ [x]; rw [HM.out, HBQ.out, t1, t2]; rfl
          obtain ⟨va, vn, vc, w3, hrun, C3, p1, p2, f3⟩ := cba_step HQ.out.1 HQ.out.2.1 HB.out.2 HQ.out.2.2.1 HQ.out.2.2.2.1 x
          have e0 : w3.cell? ⟨g, j, none⟩ = some (.int .i64 x) := by
            obtain ⟨a3, cap3, hv3, hn3⟩ := p1.form
            simp only [Value.slice.injEq] at hv3
            obtain ⟨g', eg, ec⟩ := hn3 j x HX.out
            rw [← hv3.1] at eg
            cases eg
            exact ec
          have R := drest_any w3 q1 _ C3.is HQ.out.2.2.2.2 x
          rw [C3.eb] at R
          have HR : Hid _ := R
          have H3 : Hid (ChgD w1 q w3 q1 (dRestL D m) ∧ OI w.heap.size w3 (.slice (some ⟨g, 0, none⟩) N yc) l ∧ OI w1.heap.size w3 (.slice va vn vc) (m ++ [x])) := ⟨C3, p1, p2⟩
          clear C3 p1 p2 f3 R
          go_wp2_with fail
          refine Calls.mono HR.out ?_
          rintro e w4 ⟨v4, q4, rfl, C4⟩
          have HE : Hid (∃ q', ChgD w1 q w4 q' (dRestL D ((l.take (j + 1)).filter (bdP D bd))) ∧ OI w.heap.size w4 (.slice (some ⟨g, 0, none⟩) N yc) l ∧ OI w1.heap.size w4 (.slice va vn vc) ((l.take (j + 1)).filter (bdP D bd))) := ⟨q4, by rw [← HM2.out, HP.out, dRestL_app]; exact H3.out.1.trans C4, H3.out.2.1.chgD H3.out.1.is C4, by rw [← HM2.out, HP.out]; exact H3.out.2.2.chgD H3.out.1.is C4⟩
          clear C4 HR e0
          go_wp2_with fail
          go_roundw
          case rel => exact ⟨j + 1, by omega, by go_num, va, vn, vc, rfl, HE.out⟩
          case measure => simp [intOf]; omega
        · have t2 : (ym.b == bd) = false := by simpa using e2
          clear e2
          have HP : Hid (m2 = m) := by show m2 = m; rw [HM.out, HBQ.out, t1, t2]; simp
          have HE : Hid (∃ q', ChgD w1 q w2 q' (dRestL D ((l.take (j + 1)).filter (bdP D bd))) ∧ OI w.heap.size w2 (.slice (some ⟨g, 0, none⟩) N yc) l ∧ OI w1.heap.size w2 (.slice xa xn xc) ((l.take (j + 1)).filter (bdP D bd))) := ⟨q1, by rw [← HM2.out, HP.out]; exact HQ.out.1, HQ.out.2.1, by rw [← HM2.out, HP.out]; exact HQ.out.2.2.1⟩
          go_wp2_with fail
          go_roundw
          case rel => exact ⟨j + 1, by omega, by go_num, xa, xn, xc, rfl, HE.out⟩
          case measure => simp [intOf]; omega
      · have t1 : (ys == 2) = false := by simpa using e1
        clear e1
        have HP : Hid (m2 = m) := by show m2 = m; rw [HM.out, HBQ.out, t1]; simp
        have HE : Hid (∃ q', ChgD w1 q w2 q' (dRestL D ((l.take (j + 1)).filter (bdP D bd))) ∧ OI w.heap.size w2 (.slice (some ⟨g, 0, none⟩) N yc) l ∧ OI w1.heap.size w2 (.slice xa xn xc) ((l.take (j + 1)).filter (bdP D bd))) := ⟨q1, by rw [← HM2.out, HP.out]; exact HQ.out.1, HQ.out.2.1, by rw [← HM2.out, HP.out]; exact HQ.out.2.2.1⟩
        go_wp2_with fail
        go_roundw
        case rel => exact ⟨j + 1, by omega, by go_num, xa, xn, xc, rfl, HE.out⟩
        case measure => simp [intOf]; omega
    · obtain rfl : j = N := by omega
      have HZ : Hid (ChgD w q wr q1 (dRestL D (l.filter (bdP D bd))) ∧ OI w.heap.size wr (.slice xa xn xc) (l.filter (bdP D bd))) := by
        rw [HL.out, List.take_length] at C1 o2
        exact ⟨HC1.out.trans C1, o2.low HB.out.1⟩
      clear C1 o1 o2 hI H0
      go_wp2_with fail
      go_ret
      exact ⟨xa, xn, xc, q1, rfl, HZ.out.1, HZ.out.2⟩
end

end Go.Proofs.Ytjobdfkfongjaaa

