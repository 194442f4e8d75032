/-
  The contract of package cdt's Move over the translation. No statement is proved here.
-/
import Derived.Test.YtjopmhidldemmaaCdtRemP
namespace Go.Proofs.Ytjopmhidldemmaa
open Go.RowKit Go.Maps Go.WideMaps

theorem ren_done {w W w' : World} {t : Nat} {T : Tr} {Y' : List Pl} (h : IsT w t T) (hb : Y'.map (·.b) = T.Y.map (·.b)) (hF : Fr (T.s t) w W) (hrow : Row W t #[pv T.tb, .map (some T.m)] 50)
    (hch : Ch W none (⟨T.tb, top0⟩ :: Y') none) (hM : MP w' T.m Y'.length (mapF Y')) (hFm : Fr (at' T.m) W w') : ChgT w t T w' ⟨T.m, T.tb, Y'⟩ := by
  have hb' : ∀ z ∈ (⟨T.tb, top0⟩ :: Y' : List Pl), ∃ z' ∈ T.X, z'.b = z.b := by
    intro z hz
    rcases List.mem_cons.1 hz with rfl | hz
    · exact ⟨_, by simp [Tr.X], rfl⟩
    · have : z.b ∈ T.Y.map (·.b) := by rw [← hb]; exact List.mem_map.2 ⟨z, hz, rfl⟩
      obtain ⟨z', hz', e⟩ := List.mem_map.1 this
      exact ⟨z', by simp [Tr.X, hz'], e⟩
  refine ⟨⟨hrow.keep hFm (fun e => h.tm e), hM, hch.keep hFm (fun z hz e => ?_), ?_, fun z hz => ?_⟩, hF.trans (hFm.mono (fun k _ e => Or.inr (Or.inl e))), ?_⟩
  · obtain ⟨z', hz', e'⟩ := hb' z hz
    exact h.mx z' hz' (e'.trans e)
  · have hn := h.nd
    show ((⟨T.tb, top0⟩ :: Y' : List Pl).map (·.b)).Nodup
    rw [List.map_cons, hb, ← List.map_cons (f := (·.b)) (a := (⟨T.tb, top0⟩ : Pl))]
    exact hn
  · obtain ⟨z', hz', e'⟩ := hb' z hz
    rw [← e']
    exact h.nt z' hz'
  · rintro k (rfl | rfl | ⟨z, hz, rfl⟩)
    · exact Or.inl (Or.inl rfl)
    · exact Or.inl (Or.inr (Or.inl rfl))
    · obtain ⟨z', hz', e'⟩ := hb' z hz
      exact Or.inl (Or.inr (Or.inr ⟨z', hz', e'.symm⟩))

theorem mem_F {T : Tr} {y : Pl} (h : y ∈ T.Y) : y.e ∈ T.F := List.mem_map.2 ⟨y, h, rfl⟩
theorem names_split {A C : List Pl} {x : Pl} (h : ((A ++ x :: C).map (·.e.a)).Nodup) : (∀ y ∈ A, y.e.a ≠ x.e.a) ∧ (∀ y ∈ C, y.e.a ≠ x.e.a) := by
  simp only [List.map_append, List.map_cons, List.nodup_append, List.nodup_cons, List.mem_map, List.mem_cons] at h
  obtain ⟨_, ⟨h2, _⟩, h4⟩ := h
  exact ⟨fun y hy e => h4 _ ⟨y, hy, rfl⟩ _ (Or.inl rfl) e, fun y hy e => h2 ⟨y, hy, e⟩⟩
theorem map_id_of {L : List En} {f : En → En} (h : ∀ e ∈ L, f e = e) : L.map f = L := by
  induction L with
  | nil => rfl
  | cons e L ih => rw [List.map_cons, h e (by simp), ih (fun e' he => h e' (by simp [he]))]

def movE (F : List En) (a b : Rf) : Int := if hasF F a then (if hasF F b then 130 else 0) else 131
def movS (F : List En) (a b : Rf) : List En := if hasF F a then (if hasF F b then F else movF a b F) else F

set_option maxRecDepth 100000 in
set_option maxHeartbeats 1000000 in
theorem move_any (w : World) (t : Nat) (T : Tr) (h : IsT w t T) (wf : Wf T.F) (hlen : T.Y.length ≤ 1000) (a b : Rf) (ha : a.Ok) (hb : b.Ok) :
    Calls Try.prog 15 #[pv t, rfV a, rfV b] w fun e w' => e = .returned (.int .i64 (movE T.F a b)) ∧ ∃ T', T'.F = movS T.F a b ∧ ChgT w t T w' T' := by
  have f1 := ((Fr.refl none' w).alloc (.cells #[.int .i64 a.n, .int .i64 a.i] 33)).alloc (.cells #[.int .i64 b.n, .int .i64 b.i] 33)
  have ra := (row_alloc w #[.int .i64 a.n, .int .i64 a.i] 33).alloc (.cells #[.int .i64 b.n, .int .i64 b.i] 33)
  have rb := row_alloc1 w (.cells #[.int .i64 a.n, .int .i64 a.i] 33) #[.int .i64 b.n, .int .i64 b.i] 33
  have h1 := h.keep0 f1
  have c1 := h1.c1
  have HH : Hid (IsT w t T) := ⟨h⟩
  have H1 : Hid (IsT _ t T) := ⟨h1⟩
  unfold movE movS
  cases hp' : hasF T.F a with
  | false =>
    have l0 : ∀ n, _ := fun n => (h1.keep0 (fr_drewN _ n)).map.look_none ha (mapF_none hp')
    clear h h1 ra rb
    go_enter Try.func15, Try.ntmps15
    go_wp2_with fail
    go_quiet (fail)
    go_wp2
    go_ret
    exact ⟨rfl, T, rfl, ChgT.same HH.out (f1.trans (fr_drewN _ _))⟩
  | true =>
    obtain ⟨A, x, C, hY, hx, hA⟩ := place_of hp'
    have l0 : ∀ n, _ := fun n => (h1.keep0 (fr_drewN _ n)).map.look_some ha (by rw [hY, ← hx]; exact mapF_at (by rw [hx]; exact hA))
    have RA : Hid _ := ⟨ra⟩
    have RB : Hid _ := ⟨rb⟩
    have HX : Hid (x.e.a = a) := ⟨hx⟩
    clear h h1 ra rb hx
    go_enter Try.func15, Try.ntmps15
    go_wp2_with fail
    go_quiet (fail)
    go_wp2_with fail
    refine (has_any _ t T (H1.out.keep0 (fr_drewN _ _)) b hb).mono ?_
    rintro e w2 ⟨rfl, f2⟩
    have h2 := (H1.out.keep0 (fr_drewN _ _)).keep0 f2
    have ra := (RA.out.keep (fr_drewN _ _) (fun h => h)).keep f2 (fun h => h)
    have rb := (RB.out.keep (fr_drewN _ _) (fun h => h)).keep f2 (fun h => h)
    replace f1 := (f1.trans (fr_drewN _ _)).trans f2
    clear f2 l0 c1 H1 RA RB
    cases hh : hasF T.F b with
    | true =>
      go_wp2
      go_ret
      exact ⟨rfl, T, rfl, ChgT.same HH.out f1⟩
    | false =>
      have hX := X_of hY
      have hch := h2.ch
      rw [hX] at hch
      have ndX := h2.nd
      rw [hX] at ndX
      have rx := hch.at'.2.1
      obtain ⟨x0, x1, _, _, _⟩ := pl5 rx
      have z0 := rx.frozen 0
      have z1 := rx.frozen 1
      have xX : x ∈ T.X := by rw [hX]; simp
      have xt := HH.out.nt x xX
      have xm := HH.out.mx x xX
      have xl := HH.out.ch.lt x xX
      have hx := HX.out
      obtain ⟨V, hV⟩ : ∃ V, V = (w2.setCell ⟨x.b, 0, none⟩ (.int .i64 b.n)).setCell ⟨x.b, 1, none⟩ (.int .i64 b.i) := ⟨_, rfl⟩
      have fV : Fr (at' x.b) w2 V := by rw [hV]; exact fr_set _ x.b 1 _ (fr_set w2 x.b 0 _ (Fr.refl _ _))
      have tV := h2.row.keep fV (fun e => xt (e : t = x.b).symm)
      have mV := h2.map.keep fV (fun e => xm (e : T.m = x.b).symm)
      have aV := ra.keep fV (fun e => by have e' : w.heap.size = x.b := e; omega)
      have bV := rb.keep fV (fun e => by have e' : w.heap.size + 1 = x.b := e; omega)
      have cV := ch_repl hch fV ndX ⟨b, x.e.d⟩ (fun p' q' hr => by
        rw [hV]
        have := (hr.setCell 0 (.int .i64 b.n)).setCell 1 (.int .i64 b.i)
        simpa [plC] using this)
      obtain ⟨n, hn⟩ : ∃ n, T.Y.length = n + 1 := ⟨(A ++ C).length, by rw [hY]; simp; omega⟩
      have hma : mapF T.Y a = some x.b := by rw [hY, ← hx]; exact mapF_at (by rw [hx]; exact hA)
      rw [hn] at mV
      obtain ⟨w3, hdel, hM3, fM3⟩ := (mV.keep (Fr.refl none' _).drew (fun h => h)).drop ha hma
      have fM3' : Fr (at' T.m) V w3 := ((Fr.refl _ V).drew).trans fM3
      have t3 := tV.keep fM3' (fun e => HH.out.tm e)
      have b3 := bV.keep fM3' (fun e => by have e' : w.heap.size + 1 = T.m := e; have := HH.out.map.lt; omega)
      obtain ⟨w4, hup, hM4, fM4⟩ := (hM3.keep (Fr.refl none' _).drew (fun h => h)).store (by omega) hb x.b
      have fM4' : Fr (at' T.m) w3 w4 := ((Fr.refl _ w3).drew).trans fM4
      have hnb : ¬ b = a := fun e => by rw [e, hp'] at hh; cases hh
      have HD : Hid (∃ T', T'.F = movF a b T.F ∧ ChgT w t T w4 T') := by
        refine ⟨⟨T.m, T.tb, A ++ ⟨x.b, ⟨b, x.e.d⟩⟩ :: C⟩, ?_, ?_⟩
        · have hnn := wf.nd
          rw [names_F, hY] at hnn
          obtain ⟨q1, q2⟩ := names_split hnn
          show (A ++ ⟨x.b, ⟨b, x.e.d⟩⟩ :: C).map (·.e) = _
          rw [F_at hY]
          unfold movF
          rw [List.map_append, List.map_append, List.map_cons, List.map_cons, map_id_of (L := A.map (·.e)) (fun e he => ?_), map_id_of (L := C.map (·.e)) (fun e he => ?_)]
          · simp [nm1, hx]
          · obtain ⟨y, hy, rfl⟩ := List.mem_map.1 he
            have := q2 y hy
            rw [hx] at this
            simp [nm1, this]
          · obtain ⟨y, hy, rfl⟩ := List.mem_map.1 he
            have := q1 y hy
            rw [hx] at this
            simp [nm1, this]
        · refine ren_done HH.out (by rw [hY]; simp) ?_ tV cV ?_ (fM3'.trans fM4')
          · exact (f1.mono (fun _ _ h => h.elim)).trans (fV.mono (fun k _ e => Or.inr (Or.inr ⟨x, xX, e⟩)))
          · have hl : (A ++ ⟨x.b, ⟨b, x.e.d⟩⟩ :: C : List Pl).length = n + 1 := by rw [← hn, hY]; simp
            rw [hl]
            have hmb : mapF T.Y b = none := mapF_none hh
            have e0 : (if (if b = a then none else mapF T.Y b).isSome = true then n else n + 1) = n + 1 := by rw [if_neg hnb, hmb]; rfl
            rw [e0] at hM4
            have hnn := wf.nd
            rw [names_F] at hnn
            have hb' : ∀ y ∈ A ++ x :: C, y.e.a ≠ b := fun y hy e => has_not hh y.e (mem_F (by rw [hY]; exact hy)) e
            refine hM4.congr (mapF_eq ?_ ?_)
            · rw [hY] at hnn
              simp only [List.map_append, List.map_cons, List.nodup_append, List.nodup_cons, List.mem_map, List.mem_cons] at hnn ⊢
              obtain ⟨g1, ⟨g2, g3⟩, g4⟩ := hnn
              refine ⟨g1, ⟨fun ⟨y, hy, e⟩ => hb' y (by simp [hy]) e, g3⟩, fun u hu v hv => ?_⟩
              rcases hv with rfl | hv
              · obtain ⟨y, hy, rfl⟩ := hu
                exact hb' y (by simp [hy])
              · exact g4 u hu v (Or.inr hv)
            · intro c g
              have hm := mapF_iff hnn c g
              rw [hY] at hnn
              obtain ⟨q1, q2⟩ := names_split hnn
              by_cases ecb : c = b
              · rw [if_pos ecb]
                constructor
                · intro hg; cases hg; exact ⟨⟨x.b, ⟨b, x.e.d⟩⟩, by simp, ecb.symm, rfl⟩
                · rintro ⟨y, hy, hya, rfl⟩
                  simp only [List.mem_append, List.mem_cons] at hy
                  rcases hy with hy | rfl | hy
                  · exact absurd (hya.trans ecb) (hb' y (by simp [hy]))
                  · rfl
                  · exact absurd (hya.trans ecb) (hb' y (by simp [hy]))
              · rw [if_neg ecb]
                by_cases eca : c = a
                · rw [if_pos eca]
                  constructor
                  · intro hg; cases hg
                  · rintro ⟨y, hy, hya, rfl⟩
                    simp only [List.mem_append, List.mem_cons] at hy
                    rcases hy with hy | rfl | hy
                    · exact absurd (hya.trans (eca.trans hx.symm)) (q1 y hy)
                    · exact absurd hya.symm ecb
                    · exact absurd (hya.trans (eca.trans hx.symm)) (q2 y hy)
                · rw [if_neg eca, hm, hY]
                  constructor
                  · rintro ⟨y, hy, hya, r⟩
                    simp only [List.mem_append, List.mem_cons] at hy
                    rcases hy with hy | rfl | hy
                    · exact ⟨y, by simp [hy], hya, r⟩
                    · exact absurd (hya.symm.trans hx) eca
                    · exact ⟨y, by simp [hy], hya, r⟩
                  · rintro ⟨y, hy, hya, r⟩
                    simp only [List.mem_append, List.mem_cons] at hy
                    rcases hy with hy | rfl | hy
                    · exact ⟨y, by simp [hy], hya, r⟩
                    · exact absurd hya.symm ecb
                    · exact ⟨y, by simp [hy], hya, r⟩
      have b0 := rb.cell 0
      have b1 := rb.cell 1
      have t1 := tV.cell 1
      have a0 := aV.cell 0
      have a1 := aV.cell 1
      have t3' := t3.cell 1
      have b30 := b3.cell 0
      have b31 := b3.cell 1
      clear hch ndX rx h2 fV tV mV aV bV cV hM3 fM3 fM3' t3 b3 hM4 fM4 fM4' ra rb hma HH hx hnb hX xX
      go_wp2_with fail
      rw [← hV]
      clear hV x0 x1 z0 z1 b0 b1
      go_region
      all_goals go_wp2_with fail
      all_goals go_region
      all_goals go_wp2
      all_goals go_ret
      all_goals exact ⟨rfl, HD.out⟩

end Go.Proofs.Ytjopmhidldemmaa
