/-
  The contract of package cdt's Remove over the translation. No statement is proved here.
-/
import Derived.Test.YtjopmhidldemmaaCdtRemQ
import Derived.BigRegionIn
namespace Go.Proofs.Ytjopmhidldemmaa
open Go.RowKit Go.Shelf Go.Maps Go.WideMaps

attribute [local go_sem] Oper.semAt_some

def remE (F : List En) (a : Rf) : Int := if hasF F a then 0 else 131

/-- Behind k rounds. -/
structure Rm (w : World) (t : Nat) (T : Tr) (A : List Pl) (x : Pl) (C : List Pl) (k : Nat) (W : World) : Prop where
  le : k ≤ (runP x.e.d C).length
  fr : Fr (T.s t) w W
  row : Row W t #[pv T.tb, .map (some T.m)] 50
  map : MP W T.m T.Y.length (mapF T.Y)
  ch : Ch W none ((⟨T.tb, top0⟩ :: A) ++ x :: decP k C) none
  ra : Row W w.heap.size #[.int .i64 x.e.a.n, .int .i64 x.e.a.i] 33
  bb : Row W (w.heap.size + 1) #[pv x.b] 45
theorem rm_own {w : World} {t : Nat} {T : Tr} {A : List Pl} {x : Pl} {C : List Pl} {B : Nat} (h : IsT w t T) (hY : T.Y = A ++ x :: C) (hB : w.heap.size ≤ B) : OwnFrom B (Rm w t T A x C) := by
  intro k W W' row hi hg hr
  have hr' : ∀ r, row = some r → ∃ o : Obj, W.heap[r]? = some o ∧ o.isCells = false := fun r e => (hr r e).2
  have hF := fr_of_grown hg
  refine ⟨hi.le, ?_, row_grown hi.row hg hr', hi.map.keep hF (fun e => ?_), hi.ch.keep hF (fun z hz e => ?_), row_grown hi.ra hg hr', row_grown hi.bb hg hr'⟩
  · exact ⟨hg.os.trans hi.fr.os, hg.tape.trans hi.fr.tape, hg.output.trans hi.fr.output, Nat.le_trans hi.fr.size hg.size, fun k hk hn => (hg.block k (Nat.lt_of_lt_of_le hk hi.fr.size) (fun e => by have := (hr k e.symm).1; omega)).trans (hi.fr.block k hk hn)⟩
  · have := (hr _ e.symm).1
    have := h.map.lt
    omega
  · have h1 := (hr _ e.symm).1
    have hz' : z.b ∈ (T.X).map (·.b) := by
      have e2 : (((⟨T.tb, top0⟩ :: A) ++ x :: decP k C : List Pl)).map (·.b) = T.X.map (·.b) := by rw [X_of hY]; simp only [List.map_append, List.map_cons, decP_blocks]
      rw [← e2]
      exact List.mem_map.2 ⟨z, hz, rfl⟩
    obtain ⟨z', hz', e'⟩ := List.mem_map.1 hz'
    have := h.ch.lt z' hz'
    omega

theorem ex_last (x : Pl) (A : List Pl) : ∃ A1 z, x :: A = A1 ++ [z] := by
  induction A generalizing x with
  | nil => exact ⟨[], x, rfl⟩
  | cons y A ih =>
    obtain ⟨A1, z, e⟩ := ih y
    exact ⟨x :: A1, z, by rw [e]; rfl⟩

theorem wrap_pred {d : Int} (h1 : -1 ≤ d) (h2 : d ≤ 2000) : IntKind.i64.wrap (d - 1) = d - 1 := by
  simp [IntKind.wrap, IntKind.bits, IntKind.signed]
  omega

set_option maxRecDepth 100000 in
set_option maxHeartbeats 2000000 in
theorem rem_in (w : World) (t : Nat) (T : Tr) (h : IsT w t T) (wf : Wf T.F) (hlen : T.Y.length ≤ 1000) (A C : List Pl) (x : Pl) (hY : T.Y = A ++ x :: C) (hA : hasF (A.map (·.e)) x.e.a = false) (ha : x.e.a.Ok) :
    Calls Try.prog 14 #[pv t, rfV x.e.a] w fun e w' => e = .returned (.int .i64 0) ∧ ∃ T', T'.F = remF x.e.a T.F ∧ ChgT w t T w' T' := by
  have f1 := (Fr.refl none' w).alloc (.cells #[.int .i64 x.e.a.n, .int .i64 x.e.a.i] 33)
  have h1 := h.keep0 f1
  have c1 := h1.c1
  have l0 : ∀ n, _ := fun n => (h1.keep0 (fr_drewN _ n)).map.look_some ha (by rw [hY]; exact mapF_at hA)
  have H1 : Hid _ := ⟨h1⟩
  clear h1
  refine (callsIn_wide (n := 5)).1 ?_
  refine callsIn_of_wp_marks Try.func14 rfl trivial ?_ rfl
  simp only [Try.ntmps14, List.size_toArray, List.length_cons, List.length_nil, Nat.reduceAdd, Nat.reduceSub, Array.replicate_succ, Array.replicate_zero, List.push_toArray, List.append_toArray, List.nil_append, List.cons_append]
  gi_wp2_with fail
  gi_quiet (fail)
  gi_wp2_with fail
  refine ⟨trivial, (callsIn_wide.2 (below_any x.b _)).mono ?_⟩
  rintro e w1 ⟨rfl, rfl⟩
  gi_wp2_with fail
  clear l0 c1
  have nd := nd_tail h (X_of hY)
  have i0 : Rm w t T A x C 0 (((w.alloc (.cells #[.int .i64 x.e.a.n, .int .i64 x.e.a.i] 33)).drewN nq).alloc (.cells #[pv x.b] 45)) := by
    have f2 : Fr none' w (((w.alloc (.cells #[.int .i64 x.e.a.n, .int .i64 x.e.a.i] 33)).drewN nq).alloc (.cells #[pv x.b] 45)) := (f1.trans (fr_drewN _ _)).alloc _
    have h2 := h.keep0 f2
    refine ⟨by omega, f2.mono (fun _ _ h => h.elim), h2.row, h2.map, ?_, ?_, ?_⟩
    · rw [decP_zero, ← X_of hY]; exact h2.ch
    · exact (row_alloc w _ _).keep ((fr_drewN _ nq).alloc _) (fun h => h)
    · have hr := row_alloc ((w.alloc (.cells #[.int .i64 x.e.a.n, .int .i64 x.e.a.i] 33)).drewN nq) #[pv x.b] 45
      have e : ((w.alloc (.cells #[.int .i64 x.e.a.n, .int .i64 x.e.a.i] 33)).drewN nq).heap.size = w.heap.size + 1 := by
        show (w.alloc (.cells #[.int .i64 x.e.a.n, .int .i64 x.e.a.i] 33)).heap.size = _
        simp
      rw [e] at hr
      exact hr
  have ndk : ∀ k, ((((⟨T.tb, top0⟩ :: A) ++ x :: decP k C : List Pl)).map (·.b)).Nodup := fun k => by
    have e2 : (((⟨T.tb, top0⟩ :: A) ++ x :: decP k C : List Pl)).map (·.b) = T.X.map (·.b) := by rw [X_of hY]; simp only [List.map_append, List.map_cons, decP_blocks]
    rw [e2]
    exact h.nd
  refine range13 (m := (runP x.e.d C).length) (xs := fun k => #[pv (bAt C k)]) (by omega) rfl enters45 (below_seq _ _ x C nd) (fun _ => rfl) (Rm w t T A x C) (fun _ _ => False) (rm_own h hY (by have := i0.fr.size; exact this)) (fun _ _ _ _ hs _ _ => hs)
    (fun k V hk => need_dec (ch_app.1 hk.ch).2 (hk.bb.cell 0) (Nat.le_trans hk.le (run_le _ _))) i0
    (fun k => { tmps := #[pv t, rfV x.e.a, undef, .pointer (some ⟨w.heap.size, 0, none⟩), .int .i64 0, pv x.b, .bool true, pv (bAt C k), .tuple #[pv x.b, .bool true], pv t, .pointer (some ⟨t, 0, none⟩), .pointer (some ⟨t, 1, none⟩), .map (some T.m), .agg #[.int .i64 x.e.a.n, .int .i64 x.e.a.i], .tuple #[pv x.b, .bool true], pv x.b, .bool true, .bool true, .bool false, pv x.b, .func (.func 39) #[] #[.pointer (some ⟨w.heap.size + 1, 0, none⟩)], pv (bAt C k), undef, undef, undef, undef, undef, undef, undef, undef, undef, undef, undef, undef, undef, undef, undef, undef, undef, undef, undef, undef, undef, undef, undef, undef, undef, undef, undef, undef, undef, undef, undef, undef, undef, undef, undef, undef, undef], defers := [] }) ?assign ?body ?done ?stop
  case assign =>
    intro l k W K hK
    gi_wp2
    exact hK
  case body =>
    intro l k W hI hk
    have hj : C[k]? = some (runP x.e.d C)[k] := by
      conv => lhs; rw [← runP_restP x.e.d C]
      rw [List.getElem?_append_left hk, List.getElem?_eq_getElem hk]
    rw [bAt_eq hj]
    obtain ⟨y, hy⟩ : ∃ y, y = (runP x.e.d C)[k] := ⟨_, rfl⟩
    rw [← hy] at hj ⊢
    clear hy
    obtain ⟨s1, s2⟩ := decP_split hj
    have hch := hI.ch
    have ndy := ndk k
    have e0 : ((⟨T.tb, top0⟩ :: A) ++ x :: decP k C : List Pl) = ((⟨T.tb, top0⟩ :: A) ++ x :: (C.take k).map upP) ++ y :: C.drop (k + 1) := by rw [s1]; simp
    have e1 : ((⟨T.tb, top0⟩ :: A) ++ x :: decP (k + 1) C : List Pl) = ((⟨T.tb, top0⟩ :: A) ++ x :: (C.take k).map upP) ++ upP y :: C.drop (k + 1) := by rw [s2]; simp
    rw [e0] at hch ndy
    have ry := hch.at'.2.1
    obtain ⟨_, _, d2, _, _⟩ := pl5 ry
    have z2 := ry.frozen 2
    have hyF : y.e ∈ T.F := by
      rw [F_at hY]
      have : y ∈ C := List.mem_of_getElem? hj
      simp
      exact Or.inr (Or.inr ⟨y, this, rfl⟩)
    have dy := wf.deep hyF
    have hlF : T.F.length = T.Y.length := by simp [Tr.F]
    have hw := wrap_pred (d := y.e.d) (by omega) (by omega)
    have yX : ∃ z' ∈ T.X, z'.b = y.b := ⟨y, by rw [X_of hY]; have : y ∈ C := List.mem_of_getElem? hj; simp [this], rfl⟩
    have yt : t ≠ y.b := by obtain ⟨z', hz', e'⟩ := yX; rw [← e']; exact (h.nt z' hz').symm
    have ym : T.m ≠ y.b := by obtain ⟨z', hz', e'⟩ := yX; rw [← e']; exact (h.mx z' hz').symm
    have yl : y.b < w.heap.size := by obtain ⟨z', hz', e'⟩ := yX; rw [← e']; exact h.ch.lt z' hz'
    have f2 := fr_set W y.b 2 (.int .i64 (y.e.d - 1)) (Fr.refl _ _)
    have HL : Hid (KeepsFrom ((((w.alloc (.cells #[.int .i64 x.e.a.n, .int .i64 x.e.a.i] 33)).drewN nq).alloc (.cells #[pv x.b] 45))).heap.size W (W.setCell ⟨y.b, 2, none⟩ (.int .i64 (y.e.d - 1))) ∧ Rm w t T A x C (k + 1) (W.setCell ⟨y.b, 2, none⟩ (.int .i64 (y.e.d - 1)))) := by
      refine ⟨(KeepsOthers.setCell _ _ _).from _, hk, ?_, hI.row.keep f2 (fun e => yt e), hI.map.keep f2 (fun e => ym e), ?_, hI.ra.keep f2 (fun e => by have e' : w.heap.size = y.b := e; omega), hI.bb.keep f2 (fun e => by have e' : w.heap.size + 1 = y.b := e; omega)⟩
      · exact hI.fr.trans (f2.mono (fun k _ e => by obtain ⟨z', hz', e'⟩ := yX; exact Or.inr (Or.inr ⟨z', hz', (e : k = y.b).trans e'.symm⟩)))
      · rw [e1]
        refine ch_repl hch f2 ndy (up1 y.e) (fun p' q' hr => ?_)
        have := hr.setCell 2 (.int .i64 (y.e.d - 1))
        simpa [plC, up1] using this
    clear hI hch ndy ry e0 e1 s1 s2 hj dy hyF yX f2
    gi_wp2
    exact HL.out
  case done =>
    intro Dd W hDd hI hK
    have hch := hI.ch
    have nd1 := ndk (runP x.e.d C).length
    obtain ⟨A1, z, hz⟩ : ∃ A1 z, (⟨T.tb, top0⟩ :: A : List Pl) = A1 ++ [z] := ex_last _ _
    rw [hz] at hch nd1
    have e9 : ∀ D : List Pl, (A1 ++ [z]) ++ x :: D = A1 ++ z :: x :: D := fun D => by simp
    rw [e9] at nd1
    cases hD : decP (runP x.e.d C).length C with
    | nil =>
      rw [hD] at hch nd1
      have rx := hch.at'.2.1
      have nd2 : ((A1 ++ z :: x :: []).map (·.b)).Nodup := nd1
      have hch2 : Ch W none (A1 ++ z :: x :: []) none := by
        have e : A1 ++ z :: x :: [] = (A1 ++ [z]) ++ x :: [] := by simp
        rw [e]
        exact hch
      have rz := hch2.at'.2.1
      rw [lst_snoc] at rx
      obtain ⟨_, _, _, x3, x4⟩ := pl5 rx
      obtain ⟨_, _, _, _, z4⟩ := pl5 rz
      simp only [hd] at x4 z4
      have nz4 := rz.frozen 4
      obtain ⟨n1, n2, _, _, _⟩ := nd_parts nd2
      have nxz : x.b ≠ z.b := n2 x (by simp)
      have hzX : ∃ z' ∈ T.X, z'.b = z.b := ⟨z, by rw [X_of hY, hz]; simp, rfl⟩
      obtain ⟨V, hV⟩ : ∃ V, V = (W.setCell ⟨z.b, 4, none⟩ (.pointer none)).drew := ⟨_, rfl⟩
      have fV : Fr (at' z.b) W V := by rw [hV]; exact (fr_set W z.b 4 _ (Fr.refl _ _)).drew
      have zt : t ≠ z.b := by obtain ⟨z', hz', e'⟩ := hzX; rw [← e']; exact (h.nt z' hz').symm
      have zm : T.m ≠ z.b := by obtain ⟨z', hz', e'⟩ := hzX; rw [← e']; exact (h.mx z' hz').symm
      have zl : z.b < w.heap.size := by obtain ⟨z', hz', e'⟩ := hzX; rw [← e']; exact h.ch.lt z' hz'
      have rxV := rx.keep fV (fun e => nxz e)
      have tV := hI.row.keep fV (fun e => zt e)
      have mV := hI.map.keep fV (fun e => zm e)
      have aV := hI.ra.keep fV (fun e => by have e' : w.heap.size = z.b := e; omega)
      have kV : V.heap[Dd]? = some (.deferred (some [])) := (fV.block Dd (Array.getElem?_eq_some_iff.1 hK).1 (fun e => by have e' : Dd = z.b := e; have := i0.fr.size; omega)).trans hK
      have frV : Fr (T.s t) w V := hI.fr.trans (fV.mono (fun k _ e => by obtain ⟨z', hz', e'⟩ := hzX; exact Or.inr (Or.inr ⟨z', hz', (e : k = z.b).trans e'.symm⟩)))
      obtain ⟨_, _, _, x3', x4'⟩ := pl5 rxV
      simp only [hd] at x4'
      obtain ⟨U, hU⟩ : ∃ U, U = V := ⟨_, rfl⟩
      have tU := tV
      have mU := mV
      have aU := aV
      rw [← hU] at tU mU aU
      have kU : U.heap[Dd]? = some (.deferred (some [])) := by rw [hU]; exact kV
      have frU : Fr (T.s t) w U := by rw [hU]; exact frV
      have chU : Ch U none (A1 ++ [z]) none := by
        rw [hU, hV]
        have := unlink_nil hch2 nd2
        exact this.keep (S := none') ((Fr.refl none' _).drew) (fun _ _ h => h)
      have hlY : T.Y.length = (A ++ []).length + 1 := by
        have e := decP_len (runP x.e.d C).length C
        rw [hD] at e
        rw [hY]
        simp only [List.length_append, List.length_cons, List.length_nil] at e ⊢
        omega
      rw [hlY] at mU
      obtain ⟨w', hrun, hM, hFm⟩ := (mU.keep (Fr.refl none' _).drew (fun h => h)).drop ha (by rw [hY]; exact mapF_at hA)
      have kw : w'.heap[Dd]? = some (.deferred (some [])) := (hFm.block Dd (Array.getElem?_eq_some_iff.1 (show U.drew.heap[Dd]? = _ from kU)).1 (fun e => by have e' : Dd = T.m := e; have := h.map.lt; have := i0.fr.size; omega)).trans kU
      have fP : Fr (at' Dd) w' (w'.putObj Dd (.deferred none)) := fr_map (grownBy_putObj' w' Dd (.deferred none))
      have HD : Hid (∃ T', T'.F = remF x.e.a T.F ∧ ChgT w t T (w'.putObj Dd (.deferred none)) T') := by
        refine ⟨rem_done (D := []) h hY wf.nd hA ?_ ?_ frU tU ?_ (hM.keep fP (fun e => ?_)) ?_⟩
        · rw [← hD]; exact decP_pr _ _
        · rw [← hD, decP_all, List.map_append, List.map_map, ← runP_map, ← restP_map, List.map_map]
          rfl
        · have e : (⟨T.tb, top0⟩ :: (A ++ []) : List Pl) = A1 ++ z :: [] := by
            rw [← List.cons_append, hz]
            simp
          rw [e]
          exact chU
        · have e' : T.m = Dd := e
          have := h.map.lt
          have := i0.fr.size
          omega
        · have g1 : Fr (fun k => k = T.m ∨ w.heap.size ≤ k) U w' := ((Fr.refl _ U).drew).trans (hFm.mono (fun k _ e => Or.inl e))
          exact g1.trans (fP.mono (fun k _ e => by have e' : k = Dd := e; have := i0.fr.size; exact Or.inr (by omega)))
      have t1 := tU.cell 1
      have a0 := aU.cell 0
      have a1 := aU.cell 1
      clear rx rz rxV tV mV aV kV frV tU mU aU frU chU hM hFm fP kU fV hch hch2 nd1 nd2 hlY 
      gi_wp2_with fail
      gi_region
      all_goals rw [← hV]
      all_goals (try clear x3 x4 z4 nz4)
      all_goals clear hV
      all_goals gi_wp2_with fail
      all_goals rw [← hU] at *
      all_goals gi_region
      all_goals gi_wp2
      all_goals refine ⟨by simp, .inl ⟨_, _, rfl, run_takeDeferred kw, ?_⟩⟩
      all_goals exact ⟨_, results_tmp rfl _ _ _, rfl, HD.out⟩
    | cons d D =>
      rw [hD] at hch nd1
      have rx := hch.at'.2.1
      have nd2 : ((A1 ++ z :: x :: d :: D).map (·.b)).Nodup := nd1
      have hch2 : Ch W none (A1 ++ z :: x :: d :: D) none := by
        have e : A1 ++ z :: x :: d :: D = (A1 ++ [z]) ++ x :: d :: D := by simp
        rw [e]
        exact hch
      have rz := hch2.at'.2.1
      rw [lst_snoc] at rx
      obtain ⟨_, _, _, x3, x4⟩ := pl5 rx
      obtain ⟨_, _, _, _, z4⟩ := pl5 rz
      simp only [hd] at x4 z4
      have nz4 := rz.frozen 4
      obtain ⟨n1, n2, _, _, _⟩ := nd_parts nd2
      have nxz : x.b ≠ z.b := n2 x (by simp)
      have hzX : ∃ z' ∈ T.X, z'.b = z.b := ⟨z, by rw [X_of hY, hz]; simp, rfl⟩
      obtain ⟨V, hV⟩ : ∃ V, V = (W.setCell ⟨z.b, 4, none⟩ (pv d.b)).drew := ⟨_, rfl⟩
      have fV : Fr (at' z.b) W V := by rw [hV]; exact (fr_set W z.b 4 _ (Fr.refl _ _)).drew
      have zt : t ≠ z.b := by obtain ⟨z', hz', e'⟩ := hzX; rw [← e']; exact (h.nt z' hz').symm
      have zm : T.m ≠ z.b := by obtain ⟨z', hz', e'⟩ := hzX; rw [← e']; exact (h.mx z' hz').symm
      have zl : z.b < w.heap.size := by obtain ⟨z', hz', e'⟩ := hzX; rw [← e']; exact h.ch.lt z' hz'
      have rxV := rx.keep fV (fun e => nxz e)
      have tV := hI.row.keep fV (fun e => zt e)
      have mV := hI.map.keep fV (fun e => zm e)
      have aV := hI.ra.keep fV (fun e => by have e' : w.heap.size = z.b := e; omega)
      have kV : V.heap[Dd]? = some (.deferred (some [])) := (fV.block Dd (Array.getElem?_eq_some_iff.1 hK).1 (fun e => by have e' : Dd = z.b := e; have := i0.fr.size; omega)).trans hK
      have frV : Fr (T.s t) w V := hI.fr.trans (fV.mono (fun k _ e => by obtain ⟨z', hz', e'⟩ := hzX; exact Or.inr (Or.inr ⟨z', hz', (e : k = z.b).trans e'.symm⟩)))
      have rd := hch.at'.2.2.1
      have ndz : d.b ≠ z.b := n2 d (by simp)
      have rdV := rd.keep fV (fun e => ndz e)
      obtain ⟨_, _, _, d3, _⟩ := pl5 rdV
      have nd3 := rdV.frozen 3
      obtain ⟨_, _, _, x3', x4'⟩ := pl5 rxV
      simp only [hd] at x4'
      have hdX : ∃ z' ∈ T.X, z'.b = d.b := by
        have : d.b ∈ C.map (·.b) := by
          have e := decP_blocks (runP x.e.d C).length C
          rw [hD] at e
          rw [← e]
          simp
        obtain ⟨z', hz', e'⟩ := List.mem_map.1 this
        exact ⟨z', by rw [X_of hY]; simp [hz'], e'⟩
      have dt : t ≠ d.b := by obtain ⟨z', hz', e'⟩ := hdX; rw [← e']; exact (h.nt z' hz').symm
      have dm : T.m ≠ d.b := by obtain ⟨z', hz', e'⟩ := hdX; rw [← e']; exact (h.mx z' hz').symm
      have dl : d.b < w.heap.size := by obtain ⟨z', hz', e'⟩ := hdX; rw [← e']; exact h.ch.lt z' hz'
      obtain ⟨U, hU⟩ : ∃ U, U = (V.setCell ⟨d.b, 3, none⟩ (pv z.b)).drew := ⟨_, rfl⟩
      have fU : Fr (at' d.b) V U := by rw [hU]; exact (fr_set V d.b 3 _ (Fr.refl _ _)).drew
      have tU := tV.keep fU (fun e => dt e)
      have mU := mV.keep fU (fun e => dm e)
      have aU := aV.keep fU (fun e => by have e' : w.heap.size = d.b := e; omega)
      have kU : U.heap[Dd]? = some (.deferred (some [])) := (fU.block Dd (Array.getElem?_eq_some_iff.1 kV).1 (fun e => by have e' : Dd = d.b := e; have := i0.fr.size; omega)).trans kV
      have frU : Fr (T.s t) w U := frV.trans (fU.mono (fun k _ e => by obtain ⟨z', hz', e'⟩ := hdX; exact Or.inr (Or.inr ⟨z', hz', (e : k = d.b).trans e'.symm⟩)))
      have chU : Ch U none (A1 ++ z :: d :: D) none := by
        rw [hU, hV]
        have := unlink_cons hch2 nd2
        exact this.keep (S := none') ⟨rfl, rfl, rfl, by simp [World.setCell, World.drew], fun k _ _ => rfl⟩ (fun _ _ h => h)
      have hlY : T.Y.length = (A ++ d :: D).length + 1 := by
        have e := decP_len (runP x.e.d C).length C
        rw [hD] at e
        rw [hY]
        simp only [List.length_append, List.length_cons] at e ⊢
        omega
      rw [hlY] at mU
      obtain ⟨w', hrun, hM, hFm⟩ := (mU.keep (Fr.refl none' _).drew (fun h => h)).drop ha (by rw [hY]; exact mapF_at hA)
      have kw : w'.heap[Dd]? = some (.deferred (some [])) := (hFm.block Dd (Array.getElem?_eq_some_iff.1 (show U.drew.heap[Dd]? = _ from kU)).1 (fun e => by have e' : Dd = T.m := e; have := h.map.lt; have := i0.fr.size; omega)).trans kU
      have fP : Fr (at' Dd) w' (w'.putObj Dd (.deferred none)) := fr_map (grownBy_putObj' w' Dd (.deferred none))
      have HD : Hid (∃ T', T'.F = remF x.e.a T.F ∧ ChgT w t T (w'.putObj Dd (.deferred none)) T') := by
        refine ⟨rem_done (D := d :: D) h hY wf.nd hA ?_ ?_ frU tU ?_ (hM.keep fP (fun e => ?_)) ?_⟩
        · rw [← hD]; exact decP_pr _ _
        · rw [← hD, decP_all, List.map_append, List.map_map, ← runP_map, ← restP_map, List.map_map]
          rfl
        · have e : (⟨T.tb, top0⟩ :: (A ++ d :: D) : List Pl) = A1 ++ z :: d :: D := by
            rw [← List.cons_append, hz]
            simp
          rw [e]
          exact chU
        · have e' : T.m = Dd := e
          have := h.map.lt
          have := i0.fr.size
          omega
        · have g1 : Fr (fun k => k = T.m ∨ w.heap.size ≤ k) U w' := ((Fr.refl _ U).drew).trans (hFm.mono (fun k _ e => Or.inl e))
          exact g1.trans (fP.mono (fun k _ e => by have e' : k = Dd := e; have := i0.fr.size; exact Or.inr (by omega)))
      have t1 := tU.cell 1
      have a0 := aU.cell 0
      have a1 := aU.cell 1
      clear rx rz rxV tV mV aV kV frV tU mU aU frU chU hM hFm fP kU fV hch hch2 nd1 nd2 hlY rd rdV fU
      gi_wp2_with fail
      gi_region
      all_goals rw [← hV]
      all_goals (try clear x3 x4 z4 nz4)
      all_goals clear hV
      all_goals gi_wp2_with fail
      all_goals gi_region
      all_goals rw [← hU]
      all_goals clear hU
      all_goals gi_wp2_with fail
      all_goals gi_region
      all_goals gi_wp2
      all_goals refine ⟨by simp, .inl ⟨_, _, rfl, run_takeDeferred kw, ?_⟩⟩
      all_goals exact ⟨_, results_tmp rfl _ _ _, rfl, HD.out⟩
  case stop =>
    intro D k W _ _ hf _
    exact hf.elim

set_option maxRecDepth 100000 in
set_option maxHeartbeats 1000000 in
theorem rem_not (w : World) (t : Nat) (T : Tr) (h : IsT w t T) (a : Rf) (ha : a.Ok) (hh : hasF T.F a = false) :
    Calls Try.prog 14 #[pv t, rfV a] w fun e w' => e = .returned (.int .i64 131) ∧ Fr none' w w' := by
  have f1 := (Fr.refl none' w).alloc (.cells #[.int .i64 a.n, .int .i64 a.i] 33)
  have h1 := h.keep0 f1
  have c1 := h1.c1
  have l0 : ∀ n, _ := fun n => (h1.keep0 (fr_drewN _ n)).map.look_none ha (mapF_none hh)
  clear h1
  go_enter Try.func14, Try.ntmps14
  go_wp2_with fail
  go_quiet (fail)
  go_wp2
  go_ret
  exact ⟨rfl, f1.trans (fr_drewN _ _)⟩

theorem remove_any (w : World) (t : Nat) (T : Tr) (h : IsT w t T) (wf : Wf T.F) (hlen : T.Y.length ≤ 1000) (a : Rf) (ha : a.Ok) :
    Calls Try.prog 14 #[pv t, rfV a] w fun e w' => e = .returned (.int .i64 (remE T.F a)) ∧ ∃ T', T'.F = remF a T.F ∧ ChgT w t T w' T' := by
  unfold remE
  cases hh : hasF T.F a with
  | false =>
    refine (rem_not w t T h a ha hh).mono ?_
    rintro e w' ⟨rfl, f⟩
    exact ⟨rfl, T, (rem_none hh).symm, ChgT.same h f⟩
  | true =>
    obtain ⟨A, x, C, hY, rfl, hA⟩ := place_of hh
    exact rem_in w t T h wf hlen A C x hY hA ha

end Go.Proofs.Ytjopmhidldemmaa
