/-
  The walk of the law CdtBack over the translation: it answers true. No statement is proved here.
-/
import Derived.Test.YtiabloiglmnfpaaCdtLaw
namespace Go.Proofs.Ytiabloiglmnfpaa
open Go.RowKit Go.Maps Go.WideMaps

theorem mov_same {F : List En} {a b : Rf} (h : ¬ movE F a b = 0) : movS F a b = F := by
  unfold movE at h; unfold movS
  repeat' split at h
  all_goals simp_all
theorem swp_same {F : List En} {a b : Rf} (h : ¬ swpE F a b = 0) : swpS F a b = F := by
  unfold swpE at h; unfold swpS
  repeat' split at h
  all_goals simp_all
theorem kid_same {F : List En} {a b : Rf} (h : ¬ kidE F a b = 0) : kidS F a b = F := by
  unfold kidE at h; unfold kidS
  repeat' split at h
  all_goals simp_all

theorem nm1_back {a b : Rf} {e : En} (hn : e.a ≠ b) : nm1 b a (nm1 a b e) = e := by
  obtain ⟨x, d⟩ := e
  by_cases hea : x = a
  · subst hea; simp [nm1]
  · have : nm1 a b ⟨x, d⟩ = ⟨x, d⟩ := by simp [nm1, hea]
    rw [this]
    have hn' : x ≠ b := hn
    simp [nm1, hn']
theorem nm2_back {a b : Rf} {e : En} : nm2 a b (nm2 a b e) = e := by
  obtain ⟨x, d⟩ := e
  by_cases hea : x = a
  · subst hea
    by_cases hb : b = x
    · subst hb; simp [nm2]
    · simp [nm2, hb]
  · by_cases heb : x = b
    · subst heb
      have : nm2 a x ⟨x, d⟩ = ⟨a, d⟩ := by simp [nm2, hea]
      rw [this]
      simp [nm2]
    · simp [nm2, hea, heb]

theorem mov_back {F : List En} {a b : Rf} (h : movE F a b = 0) : movE (movS F a b) b a = 0 ∧ movS (movS F a b) b a = F := by
  have ha : hasF F a = true := by
    cases e : hasF F a with
    | true => rfl
    | false => simp [movE, e] at h
  have hb : hasF F b = false := by
    cases e : hasF F b with
    | false => rfl
    | true => simp [movE, ha, e] at h
  have hab : b ≠ a := by
    rintro rfl
    rw [ha] at hb; cases hb
  have hS : movS F a b = movF a b F := by simp [movS, ha, hb]
  rw [hS]
  have h1 : hasF (movF a b F) b = true := by
    obtain ⟨e, he, hea⟩ := has_iff.1 ha
    exact has_iff.2 ⟨nm1 a b e, List.mem_map_of_mem he, by simp [nm1, hea]⟩
  have h2 : hasF (movF a b F) a = false := by
    cases e : hasF (movF a b F) a with
    | false => rfl
    | true =>
      obtain ⟨x, hx, hxa⟩ := has_iff.1 e
      obtain ⟨y, hy, rfl⟩ := List.mem_map.1 hx
      unfold nm1 at hxa
      split at hxa
      · exact absurd hxa hab
      · exact absurd hxa (by assumption)
  refine ⟨by simp [movE, h1, h2], ?_⟩
  have h3 : movS (movF a b F) b a = movF b a (movF a b F) := by simp [movS, h1, h2]
  rw [h3]
  unfold movF
  rw [List.map_map]
  conv => rhs; rw [← List.map_id F]
  refine List.map_congr_left (fun e he => ?_)
  exact nm1_back (has_not hb e he)

theorem swp_back {F : List En} {a b : Rf} (h : swpE F a b = 0) : swpE (swpS F a b) a b = 0 ∧ swpS (swpS F a b) a b = F := by
  have hab : (hasF F a && hasF F b) = true := by
    cases e : (hasF F a && hasF F b) with
    | true => rfl
    | false => simp only [swpE, e] at h; simp at h
  have hS : swpS F a b = swpF a b F := by simp only [swpS, hab]; simp
  rw [hS]
  obtain ⟨ha, hb⟩ : hasF F a = true ∧ hasF F b = true := by simpa using hab
  have h1 : hasF (swpF a b F) b = true := by
    obtain ⟨e, he, hea⟩ := has_iff.1 ha
    exact has_iff.2 ⟨nm2 a b e, List.mem_map_of_mem he, by simp [nm2, hea]⟩
  have h2 : hasF (swpF a b F) a = true := by
    obtain ⟨e, he, hea⟩ := has_iff.1 hb
    refine has_iff.2 ⟨nm2 a b e, List.mem_map_of_mem he, ?_⟩
    unfold nm2
    by_cases hh : e.a = a
    · rw [if_pos hh]; exact hea.symm.trans hh
    · rw [if_neg hh, if_pos hea]
  have hab2 : (hasF (swpF a b F) a && hasF (swpF a b F) b) = true := by rw [h1, h2]; rfl
  refine ⟨by simp only [swpE, hab2]; simp, ?_⟩
  have h3 : swpS (swpF a b F) a b = swpF a b (swpF a b F) := by simp only [swpS, hab2]; simp
  rw [h3]
  unfold swpF
  rw [List.map_map]
  conv => rhs; rw [← List.map_id F]
  refine List.map_congr_left (fun e he => ?_)
  exact nm2_back

theorem run_none {d : Int} {F : List En} (h : Steps (d - 1) F) : runF d F = [] ∧ restF d F = F := by
  cases F with
  | nil => exact ⟨rfl, rfl⟩
  | cons x F =>
    have : ¬ d < x.d := by have := h.2.1; omega
    exact ⟨by rw [runF, if_neg this], by rw [restF, if_neg this]⟩
theorem Steps.behind : ∀ {A C : List En} {e : En} {d : Int}, Steps d (A ++ e :: C) → Steps e.d C
  | [], _, _, _, h => h.2.2
  | _ :: _, _, _, _, h => Steps.behind h.2.2

theorem kid_back {F : List En} (wf : Wf F) {p a : Rf} (h : kidE F p a = 0) : remE (kidS F p a) a = 0 ∧ remF a (kidS F p a) = F := by
  have hp : hasF F p = true := by
    cases e : hasF F p with
    | true => rfl
    | false => simp [kidE, e] at h
  have ha : hasF F a = false := by
    cases e : hasF F a with
    | false => rfl
    | true => simp [kidE, hp, e] at h
  have hS : kidS F p a = kidF p a F := by simp [kidS, hp, ha]
  obtain ⟨A, e, C, hF, rfl, hA⟩ := has_split hp
  rw [hS, hF, kid_at hA]
  rw [hF] at ha
  have hn : hasF (A ++ [e]) a = false := by
    cases q : hasF (A ++ [e]) a with
    | false => rfl
    | true =>
      obtain ⟨x, hx, hxa⟩ := has_iff.1 q
      refine absurd hxa (has_not ha x ?_)
      simp only [List.mem_append, List.mem_cons] at hx ⊢
      rcases hx with hx | hx | hx
      · exact Or.inl hx
      · exact Or.inr (Or.inl hx)
      · cases hx
  have hre : A ++ e :: ⟨a, e.d + 1⟩ :: C = (A ++ [e]) ++ (⟨a, e.d + 1⟩ : En) :: C := by simp
  have hst : Steps e.d C := (hF ▸ wf.st : Steps (-1) (A ++ e :: C)).behind
  constructor
  · have : hasF (A ++ e :: ⟨a, e.d + 1⟩ :: C) a = true := has_iff.2 ⟨⟨a, e.d + 1⟩, by simp, rfl⟩
    simp [remE, this]
  · rw [hre]
    have := rem_at (e := (⟨a, e.d + 1⟩ : En)) (C := C) hn
    rw [this]
    obtain ⟨r1, r2⟩ := run_none (d := e.d + 1) (F := C) (by rw [show e.d + 1 - 1 = e.d by omega]; exact hst)
    rw [r1, r2]
    simp

set_option maxRecDepth 100000 in
set_option maxHeartbeats 8000000 in
theorem lback_any (a0 : Option Addr) (len cap : Nat) (an ai bn bi : Int) (x : Int) (w : World) (hl : len ≤ 9223372036854775807) (hA : ∃ A, Acs w a0 len A) (ha : (⟨an, ai⟩ : Rf).Ok) (hb : (⟨bn, bi⟩ : Rf).Ok) :
    Calls Try.prog 5 #[.slice a0 len cap, .agg #[.int .i64 an, .int .i64 ai], .agg #[.int .i64 bn, .int .i64 bi], .int .i64 x] w fun e w' => e = .returned (.bool true) ∧ Below w.heap.size w w' := by
  obtain ⟨A, hA⟩ := hA
  have fB := (((Fr.refl none' w).alloc (.cells #[.int .i64 an, .int .i64 ai] 33)).alloc (.cells #[.int .i64 bn, .int .i64 bi] 33))
  replace hA := hA.keep fB
  have rA := (row_alloc w #[.int .i64 an, .int .i64 ai] 33).alloc (.cells #[.int .i64 bn, .int .i64 bi] 33)
  have rB := row_alloc1 w (.cells #[.int .i64 an, .int .i64 ai] 33) #[.int .i64 bn, .int .i64 bi] 33
  go_enter Try.func5, Try.ntmps5
  go_wp2_with fail
  generalize ((w.alloc (.cells #[.int .i64 an, .int .i64 ai] 33)).alloc (.cells #[.int .i64 bn, .int .i64 bi] 33)) = v0 at *
  have HA : Hid (Acs v0 a0 len A) := ⟨hA⟩
  have HF : Hid (Fr none' w v0) := ⟨fB⟩
  have HrA : Hid (Row v0 w.heap.size #[.int .i64 an, .int .i64 ai] 33) := ⟨rA⟩
  have HrB : Hid (Row v0 (w.heap.size + 1) #[.int .i64 bn, .int .i64 bi] 33) := ⟨rB⟩
  clear hA fB rA rB
  refine (awake_any _).mono ?_
  rintro e w1 ⟨rfl, f0⟩
  go_wp2_with fail
  refine (played_any v0 w1 a0 len cap A HA.out hl f0).mono ?_
  rintro e w2 ⟨t, F, rfl, P, hF⟩
  have HP : Hid (Pr v0 w2 t F) := ⟨P⟩
  clear P f0 HA
  go_wp2_with fail
  refine (plist _ _ t F HP.out).mono ?_
  rintro e w3 ⟨vb, rfl, sb, f3⟩
  replace HP : Hid (Pr _ w3 t F) := ⟨HP.out.keep0 f3⟩
  obtain ⟨ab, capb, rfl⟩ := sb.slice
  have HS : Hid (RfS w3 w2.heap.size _ (F.map (·.a))) := ⟨sb⟩
  clear sb f3
  rw [List.length_map] at HS ⊢
  obtain ⟨N, hN⟩ : ∃ N, N = F.length := ⟨_, rfl⟩
  have HN : Hid (N = F.length) := ⟨hN⟩
  rw [← hN] at HS hF ⊢
  clear hN
  go_wp2_with fail
  go_loopw [12, 13] (fun v i wr => ∃ k : Nat, k ≤ N ∧ i = .int .i64 (k : Int) ∧ Hid (Own1 3 w3 wr v ((F.take k).map fun e => .int .i64 e.d))) (fun _ i _ => N - (intOf i).toNat)
  case atStart => exact ⟨0, by omega, rfl, ⟨own1_nil _ _⟩⟩
  case round =>
    obtain ⟨k, hk, rfl, ho⟩ := hrel
    by_cases hkN : k < N
    · have hkF : k < F.length := by rw [← HN.out]; exact hkN
      obtain ⟨e, he⟩ : ∃ e, F[k]? = some e := ⟨F[k], List.getElem?_eq_getElem hkF⟩
      obtain ⟨g, rfl, c0, c1⟩ := (HS.out.keep0 ho.out.fr).get (i := k) (x := e.a) (by simp [he])
      have hD := pdep _ _ t F (HP.out.keep0 ho.out.fr) e.a (HP.out.wf.ok e (List.mem_of_getElem? he))
      rw [dep_get HP.out.wf.nd he] at hD
      have HE : Hid (F[k]? = some e) := ⟨he⟩
      clear he hkF
      obtain ⟨⟨en, ei⟩, ed⟩ := e
      dsimp only at c0 c1 hD
      have uk : decide ((k : Int) < (N : Int)) = true := decide_eq_true (by omega)
      have i1 : 0 ≤ (k : Int) ∧ (k : Int) < (N : Int) := by omega
      go_wp2_with fail
      refine hD.mono ?_
      rintro e w4 ⟨rfl, f4⟩
      have O4 := ho.out.keep f4
      obtain ⟨v5, w5, hrun, O5⟩ := O4.int (by simp; omega) ed
      have HO : Hid (Own1 3 w3 w5 v5 ((F.take (k + 1)).map fun e => .int .i64 e.d)) := ⟨by
        rw [List.take_add_one, HE.out, List.map_append]
        exact O5⟩
      clear O4 O5 f4 hD c0 c1 ho
      go_wp2_with (first | (at_builtin; refine wpList_append_runK rfl _ _ 28 rfl _ _ rfl rfl _ _ hrun ?_))
      go_roundw
      case rel => exact ⟨k + 1, by omega, by go_num, HO⟩
      case measure => simp [intOf]; omega
    · obtain rfl : k = N := by omega
      have uk : decide ((k : Int) < (k : Int)) = false := decide_eq_false (by omega)
      have hT : F.take k = F := by rw [HN.out, List.take_length]
      rw [hT] at ho
      clear hT hkN
      rename_i u10
      have f4 := ho.out.fr
      have HPf := HP.out.keep0 f4
      have hlF : (F.map fun e => Value.int .i64 e.d).length = k := by simp [HN.out]
      obtain ⟨ad, capd, rfl⟩ := ho.out.ow.slice
      have HK : Hid (OwnK 3 1 wr w3.heap.size (.slice ad _ capd) _ (F.map fun e => .int .i64 e.d) ∧ RfS wr w2.heap.size (.slice ab k capb) (F.map (·.a))) := ⟨ho.out.ow, HS.out.keep0 f4⟩
      rw [hlF] at HK ⊢
      clear hlF
      have rA := HrA.out.keep HPf.fr (fun h => h)
      have rB := HrB.out.keep HPf.fr (fun h => h)
      have HR : Hid (Row wr w.heap.size #[.int .i64 an, .int .i64 ai] 33 ∧ Row wr (w.heap.size + 1) #[.int .i64 bn, .int .i64 bi] 33) := ⟨rA, rB⟩
      have HWf : Hid (Wf F) := ⟨HPf.wf⟩
      clear f4 rA rB ho HrA HrB
      by_cases h0 : x = 0
      · subst h0
        have hM := pmov _ _ t F HPf ⟨an, ai⟩ ⟨bn, bi⟩ ha hb
        obtain ⟨a0', a1'⟩ := row2 HR.out.1
        obtain ⟨b0', b1'⟩ := row2 HR.out.2
        clear HPf
        go_wp2_with fail
        refine hM.mono ?_
        rintro e w5 ⟨rfl, P5, ft⟩
        replace HK : Hid (OwnK 3 1 w5 w3.heap.size (.slice ad k capd) k (F.map fun e => .int .i64 e.d) ∧ RfS w5 w2.heap.size (.slice ab k capb) (F.map (·.a))) := ⟨ft.own HK.out.1 (by decide) (by decide), ft.rfs HK.out.2⟩
        replace HR : Hid (Row w5 w.heap.size #[.int .i64 an, .int .i64 ai] 33 ∧ Row w5 (w.heap.size + 1) #[.int .i64 bn, .int .i64 bi] 33) := ⟨ft.row HR.out.1 (by decide) (by decide), ft.row HR.out.2 (by decide) (by decide)⟩
        clear HP
        have HP : Hid (Pr v0 w5 t (movS F ⟨an, ai⟩ ⟨bn, bi⟩)) := ⟨P5⟩
        clear P5 ft
        clear a0' a1' b0' b1'
        clear hM
        by_cases hE : movE F ⟨an, ai⟩ ⟨bn, bi⟩ = 0
        · obtain ⟨hE2, hS2⟩ := mov_back hE
          rw [hE]
          have hM := pmov _ _ t _ HP.out ⟨bn, bi⟩ ⟨an, ai⟩ hb ha
          rw [hE2] at hM
          clear hE hE2
          obtain ⟨a0', a1'⟩ := row2 HR.out.1
          obtain ⟨b0', b1'⟩ := row2 HR.out.2
          go_wp2_with fail
          refine hM.mono ?_
          rintro e w6 ⟨rfl, P5, ft⟩
          rw [hS2] at P5
          replace HK : Hid (OwnK 3 1 w6 w3.heap.size (.slice ad k capd) k (F.map fun e => .int .i64 e.d) ∧ RfS w6 w2.heap.size (.slice ab k capb) (F.map (·.a))) := ⟨ft.own HK.out.1 (by decide) (by decide), ft.rfs HK.out.2⟩
          replace HR : Hid (Row w6 w.heap.size #[.int .i64 an, .int .i64 ai] 33 ∧ Row w6 (w.heap.size + 1) #[.int .i64 bn, .int .i64 bi] 33) := ⟨ft.row HR.out.1 (by decide) (by decide), ft.row HR.out.2 (by decide) (by decide)⟩
          clear HP
          have HP : Hid (Pr v0 w6 t (F)) := ⟨P5⟩
          clear P5 ft
          clear a0' a1' b0' b1'
          clear hM hS2
          clear HR
          go_wp2_with fail
          refine (plist _ _ t F HP.out).mono ?_
          rintro e w8 ⟨va, rfl, sa, f8⟩
          replace HP : Hid (Pr v0 w8 t F) := ⟨HP.out.keep0 f8⟩
          replace HK : Hid (OwnK 3 1 w8 w3.heap.size (.slice ad k capd) k (F.map fun e => .int .i64 e.d) ∧ RfS w8 w2.heap.size (.slice ab k capb) (F.map (·.a))) := ⟨HK.out.1.keep0 f8, HK.out.2.keep0 f8⟩
          clear f8
          have hr := refs_any _ _ _ _ _ _ _ HK.out.2 sa (by simp; have := HN.out; omega)
          rw [decide_eq_true rfl] at hr
          clear sa
          go_wp2_with fail
          refine hr.mono ?_
          rintro e w9 ⟨rfl, f9⟩
          replace HP : Hid (Pr v0 w9 t F) := ⟨HP.out.keep0 f9⟩
          replace HK : Hid (OwnK 3 1 w9 w3.heap.size (.slice ad k capd) k (F.map fun e => .int .i64 e.d) ∧ RfS w9 w2.heap.size (.slice ab k capb) (F.map (·.a))) := ⟨HK.out.1.keep0 f9, HK.out.2.keep0 f9⟩
          clear hr f9
          go_wp2_with fail
          go_loopw [19] (fun i wr => ∃ j : Nat, j ≤ k ∧ i = .int .i64 (j : Int) ∧ Hid (Fr none' w9 wr)) (fun i _ => k - (intOf i).toNat)
          case atStart => exact ⟨0, by omega, rfl, ⟨Fr.refl _ _⟩⟩
          case round =>
            obtain ⟨j, hj, rfl, f7⟩ := hrel
            by_cases hjN : j < k
            · have hjF : j < F.length := by rw [← HN.out]; exact hjN
              obtain ⟨e, he⟩ : ∃ e, F[j]? = some e := ⟨F[j], List.getElem?_eq_getElem hjF⟩
              obtain ⟨g, rfl, c0, c1⟩ := (HK.out.2.keep0 f7.out).get (i := j) (x := e.a) (by simp [he])
              obtain ⟨g3, rfl, e0⟩ := (HK.out.1.keep0 f7.out).get (i := j) (x := .int .i64 e.d) (by simp [he])
              have hD := pdep _ _ t F (HP.out.keep0 f7.out) e.a (HP.out.wf.ok e (List.mem_of_getElem? he))
              rw [dep_get HP.out.wf.nd he] at hD
              clear he hjF
              obtain ⟨⟨en, ei⟩, ed⟩ := e
              dsimp only at c0 c1 hD e0
              have HC : Hid (wr.cell? ⟨g3, j, none⟩ = some (.int .i64 ed)) := ⟨e0⟩
              clear e0
              have uk : decide ((j : Int) < (k : Int)) = true := decide_eq_true (by omega)
              have i1 : 0 ≤ (j : Int) ∧ (j : Int) < (k : Int) := by omega
              go_wp2_with fail
              refine hD.mono ?_
              rintro e w10 ⟨rfl, f10⟩
              have e0 := cell_keep f10 HC.out (fun h => h)
              have td : (ed != ed) = false := by simp
              have H8 : Hid (Fr none' w9 w10) := ⟨f7.out.trans f10⟩
              clear f10 c0 c1 hD
              go_wp2_with fail
              go_roundw
              case rel => exact ⟨j + 1, by omega, by go_num, H8⟩
              case measure => simp [intOf]; omega
            · obtain rfl : j = k := by omega
              have uk : decide ((j : Int) < (j : Int)) = false := decide_eq_false (by omega)
              have HEnd : Hid (Fr none' w _) := ⟨HF.out.trans (HP.out.fr.trans f7.out)⟩
              clear f7
              go_wp2_with fail
              go_ret
              exact ⟨rfl, HEnd.out.below (Nat.le_refl _) (fun _ h => h.elim)⟩
        · have hS := mov_same hE
          rw [hS] at HP
          have tt : (movE F ⟨an, ai⟩ ⟨bn, bi⟩ == 0) = false := by simpa using hE
          clear hS hE
          generalize movE F ⟨an, ai⟩ ⟨bn, bi⟩ = E at *
          clear HR
          go_wp2_with fail
          refine (plist _ _ t F HP.out).mono ?_
          rintro e w8 ⟨va, rfl, sa, f8⟩
          replace HP : Hid (Pr v0 w8 t F) := ⟨HP.out.keep0 f8⟩
          replace HK : Hid (OwnK 3 1 w8 w3.heap.size (.slice ad k capd) k (F.map fun e => .int .i64 e.d) ∧ RfS w8 w2.heap.size (.slice ab k capb) (F.map (·.a))) := ⟨HK.out.1.keep0 f8, HK.out.2.keep0 f8⟩
          clear f8
          have hr := refs_any _ _ _ _ _ _ _ HK.out.2 sa (by simp; have := HN.out; omega)
          rw [decide_eq_true rfl] at hr
          clear sa
          go_wp2_with fail
          refine hr.mono ?_
          rintro e w9 ⟨rfl, f9⟩
          replace HP : Hid (Pr v0 w9 t F) := ⟨HP.out.keep0 f9⟩
          replace HK : Hid (OwnK 3 1 w9 w3.heap.size (.slice ad k capd) k (F.map fun e => .int .i64 e.d) ∧ RfS w9 w2.heap.size (.slice ab k capb) (F.map (·.a))) := ⟨HK.out.1.keep0 f9, HK.out.2.keep0 f9⟩
          clear hr f9
          go_wp2_with fail
          go_loopw [19] (fun i wr => ∃ j : Nat, j ≤ k ∧ i = .int .i64 (j : Int) ∧ Hid (Fr none' w9 wr)) (fun i _ => k - (intOf i).toNat)
          case atStart => exact ⟨0, by omega, rfl, ⟨Fr.refl _ _⟩⟩
          case round =>
            obtain ⟨j, hj, rfl, f7⟩ := hrel
            by_cases hjN : j < k
            · have hjF : j < F.length := by rw [← HN.out]; exact hjN
              obtain ⟨e, he⟩ : ∃ e, F[j]? = some e := ⟨F[j], List.getElem?_eq_getElem hjF⟩
              obtain ⟨g, rfl, c0, c1⟩ := (HK.out.2.keep0 f7.out).get (i := j) (x := e.a) (by simp [he])
              obtain ⟨g3, rfl, e0⟩ := (HK.out.1.keep0 f7.out).get (i := j) (x := .int .i64 e.d) (by simp [he])
              have hD := pdep _ _ t F (HP.out.keep0 f7.out) e.a (HP.out.wf.ok e (List.mem_of_getElem? he))
              rw [dep_get HP.out.wf.nd he] at hD
              clear he hjF
              obtain ⟨⟨en, ei⟩, ed⟩ := e
              dsimp only at c0 c1 hD e0
              have HC : Hid (wr.cell? ⟨g3, j, none⟩ = some (.int .i64 ed)) := ⟨e0⟩
              clear e0
              have uk : decide ((j : Int) < (k : Int)) = true := decide_eq_true (by omega)
              have i1 : 0 ≤ (j : Int) ∧ (j : Int) < (k : Int) := by omega
              go_wp2_with fail
              refine hD.mono ?_
              rintro e w10 ⟨rfl, f10⟩
              have e0 := cell_keep f10 HC.out (fun h => h)
              have td : (ed != ed) = false := by simp
              have H8 : Hid (Fr none' w9 w10) := ⟨f7.out.trans f10⟩
              clear f10 c0 c1 hD
              go_wp2_with fail
              go_roundw
              case rel => exact ⟨j + 1, by omega, by go_num, H8⟩
              case measure => simp [intOf]; omega
            · obtain rfl : j = k := by omega
              have uk : decide ((j : Int) < (j : Int)) = false := decide_eq_false (by omega)
              have HEnd : Hid (Fr none' w _) := ⟨HF.out.trans (HP.out.fr.trans f7.out)⟩
              clear f7
              go_wp2_with fail
              go_ret
              exact ⟨rfl, HEnd.out.below (Nat.le_refl _) (fun _ h => h.elim)⟩
      · have t0 : (x == 0) = false := by simpa using h0
        by_cases h1 : x = 1
        · subst h1
          have hM := pswp _ _ t F HPf ⟨an, ai⟩ ⟨bn, bi⟩ ha hb
          obtain ⟨a0', a1'⟩ := row2 HR.out.1
          obtain ⟨b0', b1'⟩ := row2 HR.out.2
          clear HPf
          go_wp2_with fail
          refine hM.mono ?_
          rintro e w5 ⟨rfl, P5, ft⟩
          replace HK : Hid (OwnK 3 1 w5 w3.heap.size (.slice ad k capd) k (F.map fun e => .int .i64 e.d) ∧ RfS w5 w2.heap.size (.slice ab k capb) (F.map (·.a))) := ⟨ft.own HK.out.1 (by decide) (by decide), ft.rfs HK.out.2⟩
          replace HR : Hid (Row w5 w.heap.size #[.int .i64 an, .int .i64 ai] 33 ∧ Row w5 (w.heap.size + 1) #[.int .i64 bn, .int .i64 bi] 33) := ⟨ft.row HR.out.1 (by decide) (by decide), ft.row HR.out.2 (by decide) (by decide)⟩
          clear HP
          have HP : Hid (Pr v0 w5 t (swpS F ⟨an, ai⟩ ⟨bn, bi⟩)) := ⟨P5⟩
          clear P5 ft
          clear a0' a1' b0' b1'
          clear hM
          by_cases hE : swpE F ⟨an, ai⟩ ⟨bn, bi⟩ = 0
          · obtain ⟨hE2, hS2⟩ := swp_back hE
            rw [hE]
            have hM := pswp _ _ t _ HP.out ⟨an, ai⟩ ⟨bn, bi⟩ ha hb
            rw [hE2] at hM
            clear hE hE2
            obtain ⟨a0', a1'⟩ := row2 HR.out.1
            obtain ⟨b0', b1'⟩ := row2 HR.out.2
            go_wp2_with fail
            refine hM.mono ?_
            rintro e w6 ⟨rfl, P5, ft⟩
            rw [hS2] at P5
            replace HK : Hid (OwnK 3 1 w6 w3.heap.size (.slice ad k capd) k (F.map fun e => .int .i64 e.d) ∧ RfS w6 w2.heap.size (.slice ab k capb) (F.map (·.a))) := ⟨ft.own HK.out.1 (by decide) (by decide), ft.rfs HK.out.2⟩
            replace HR : Hid (Row w6 w.heap.size #[.int .i64 an, .int .i64 ai] 33 ∧ Row w6 (w.heap.size + 1) #[.int .i64 bn, .int .i64 bi] 33) := ⟨ft.row HR.out.1 (by decide) (by decide), ft.row HR.out.2 (by decide) (by decide)⟩
            clear HP
            have HP : Hid (Pr v0 w6 t (F)) := ⟨P5⟩
            clear P5 ft
            clear a0' a1' b0' b1'
            clear hM hS2
            clear HR
            go_wp2_with fail
            refine (plist _ _ t F HP.out).mono ?_
            rintro e w8 ⟨va, rfl, sa, f8⟩
            replace HP : Hid (Pr v0 w8 t F) := ⟨HP.out.keep0 f8⟩
            replace HK : Hid (OwnK 3 1 w8 w3.heap.size (.slice ad k capd) k (F.map fun e => .int .i64 e.d) ∧ RfS w8 w2.heap.size (.slice ab k capb) (F.map (·.a))) := ⟨HK.out.1.keep0 f8, HK.out.2.keep0 f8⟩
            clear f8
            have hr := refs_any _ _ _ _ _ _ _ HK.out.2 sa (by simp; have := HN.out; omega)
            rw [decide_eq_true rfl] at hr
            clear sa
            go_wp2_with fail
            refine hr.mono ?_
            rintro e w9 ⟨rfl, f9⟩
            replace HP : Hid (Pr v0 w9 t F) := ⟨HP.out.keep0 f9⟩
            replace HK : Hid (OwnK 3 1 w9 w3.heap.size (.slice ad k capd) k (F.map fun e => .int .i64 e.d) ∧ RfS w9 w2.heap.size (.slice ab k capb) (F.map (·.a))) := ⟨HK.out.1.keep0 f9, HK.out.2.keep0 f9⟩
            clear hr f9
            go_wp2_with fail
            go_loopw [19] (fun i wr => ∃ j : Nat, j ≤ k ∧ i = .int .i64 (j : Int) ∧ Hid (Fr none' w9 wr)) (fun i _ => k - (intOf i).toNat)
            case atStart => exact ⟨0, by omega, rfl, ⟨Fr.refl _ _⟩⟩
            case round =>
              obtain ⟨j, hj, rfl, f7⟩ := hrel
              by_cases hjN : j < k
              · have hjF : j < F.length := by rw [← HN.out]; exact hjN
                obtain ⟨e, he⟩ : ∃ e, F[j]? = some e := ⟨F[j], List.getElem?_eq_getElem hjF⟩
                obtain ⟨g, rfl, c0, c1⟩ := (HK.out.2.keep0 f7.out).get (i := j) (x := e.a) (by simp [he])
                obtain ⟨g3, rfl, e0⟩ := (HK.out.1.keep0 f7.out).get (i := j) (x := .int .i64 e.d) (by simp [he])
                have hD := pdep _ _ t F (HP.out.keep0 f7.out) e.a (HP.out.wf.ok e (List.mem_of_getElem? he))
                rw [dep_get HP.out.wf.nd he] at hD
                clear he hjF
                obtain ⟨⟨en, ei⟩, ed⟩ := e
                dsimp only at c0 c1 hD e0
                have HC : Hid (wr.cell? ⟨g3, j, none⟩ = some (.int .i64 ed)) := ⟨e0⟩
                clear e0
                have uk : decide ((j : Int) < (k : Int)) = true := decide_eq_true (by omega)
                have i1 : 0 ≤ (j : Int) ∧ (j : Int) < (k : Int) := by omega
                go_wp2_with fail
                refine hD.mono ?_
                rintro e w10 ⟨rfl, f10⟩
                have e0 := cell_keep f10 HC.out (fun h => h)
                have td : (ed != ed) = false := by simp
                have H8 : Hid (Fr none' w9 w10) := ⟨f7.out.trans f10⟩
                clear f10 c0 c1 hD
                go_wp2_with fail
                go_roundw
                case rel => exact ⟨j + 1, by omega, by go_num, H8⟩
                case measure => simp [intOf]; omega
              · obtain rfl : j = k := by omega
                have uk : decide ((j : Int) < (j : Int)) = false := decide_eq_false (by omega)
                have HEnd : Hid (Fr none' w _) := ⟨HF.out.trans (HP.out.fr.trans f7.out)⟩
                clear f7
                go_wp2_with fail
                go_ret
                exact ⟨rfl, HEnd.out.below (Nat.le_refl _) (fun _ h => h.elim)⟩
          · have hS := swp_same hE
            rw [hS] at HP
            have tt : (swpE F ⟨an, ai⟩ ⟨bn, bi⟩ == 0) = false := by simpa using hE
            clear hS hE
            generalize swpE F ⟨an, ai⟩ ⟨bn, bi⟩ = E at *
            clear HR
            go_wp2_with fail
            refine (plist _ _ t F HP.out).mono ?_
            rintro e w8 ⟨va, rfl, sa, f8⟩
            replace HP : Hid (Pr v0 w8 t F) := ⟨HP.out.keep0 f8⟩
            replace HK : Hid (OwnK 3 1 w8 w3.heap.size (.slice ad k capd) k (F.map fun e => .int .i64 e.d) ∧ RfS w8 w2.heap.size (.slice ab k capb) (F.map (·.a))) := ⟨HK.out.1.keep0 f8, HK.out.2.keep0 f8⟩
            clear f8
            have hr := refs_any _ _ _ _ _ _ _ HK.out.2 sa (by simp; have := HN.out; omega)
            rw [decide_eq_true rfl] at hr
            clear sa
            go_wp2_with fail
            refine hr.mono ?_
            rintro e w9 ⟨rfl, f9⟩
            replace HP : Hid (Pr v0 w9 t F) := ⟨HP.out.keep0 f9⟩
            replace HK : Hid (OwnK 3 1 w9 w3.heap.size (.slice ad k capd) k (F.map fun e => .int .i64 e.d) ∧ RfS w9 w2.heap.size (.slice ab k capb) (F.map (·.a))) := ⟨HK.out.1.keep0 f9, HK.out.2.keep0 f9⟩
            clear hr f9
            go_wp2_with fail
            go_loopw [19] (fun i wr => ∃ j : Nat, j ≤ k ∧ i = .int .i64 (j : Int) ∧ Hid (Fr none' w9 wr)) (fun i _ => k - (intOf i).toNat)
            case atStart => exact ⟨0, by omega, rfl, ⟨Fr.refl _ _⟩⟩
            case round =>
              obtain ⟨j, hj, rfl, f7⟩ := hrel
              by_cases hjN : j < k
              · have hjF : j < F.length := by rw [← HN.out]; exact hjN
                obtain ⟨e, he⟩ : ∃ e, F[j]? = some e := ⟨F[j], List.getElem?_eq_getElem hjF⟩
                obtain ⟨g, rfl, c0, c1⟩ := (HK.out.2.keep0 f7.out).get (i := j) (x := e.a) (by simp [he])
                obtain ⟨g3, rfl, e0⟩ := (HK.out.1.keep0 f7.out).get (i := j) (x := .int .i64 e.d) (by simp [he])
                have hD := pdep _ _ t F (HP.out.keep0 f7.out) e.a (HP.out.wf.ok e (List.mem_of_getElem? he))
                rw [dep_get HP.out.wf.nd he] at hD
                clear he hjF
                obtain ⟨⟨en, ei⟩, ed⟩ := e
                dsimp only at c0 c1 hD e0
                have HC : Hid (wr.cell? ⟨g3, j, none⟩ = some (.int .i64 ed)) := ⟨e0⟩
                clear e0
                have uk : decide ((j : Int) < (k : Int)) = true := decide_eq_true (by omega)
                have i1 : 0 ≤ (j : Int) ∧ (j : Int) < (k : Int) := by omega
                go_wp2_with fail
                refine hD.mono ?_
                rintro e w10 ⟨rfl, f10⟩
                have e0 := cell_keep f10 HC.out (fun h => h)
                have td : (ed != ed) = false := by simp
                have H8 : Hid (Fr none' w9 w10) := ⟨f7.out.trans f10⟩
                clear f10 c0 c1 hD
                go_wp2_with fail
                go_roundw
                case rel => exact ⟨j + 1, by omega, by go_num, H8⟩
                case measure => simp [intOf]; omega
              · obtain rfl : j = k := by omega
                have uk : decide ((j : Int) < (j : Int)) = false := decide_eq_false (by omega)
                have HEnd : Hid (Fr none' w _) := ⟨HF.out.trans (HP.out.fr.trans f7.out)⟩
                clear f7
                go_wp2_with fail
                go_ret
                exact ⟨rfl, HEnd.out.below (Nat.le_refl _) (fun _ h => h.elim)⟩
        · have t1 : (x == 1) = false := by simpa using h1
          have hM := pkid _ _ t F HPf (by have := HN.out; omega) ⟨an, ai⟩ ⟨bn, bi⟩ ha hb
          obtain ⟨a0', a1'⟩ := row2 HR.out.1
          obtain ⟨b0', b1'⟩ := row2 HR.out.2
          clear HPf
          go_wp2_with fail
          refine hM.mono ?_
          rintro e w5 ⟨rfl, P5, ft⟩
          replace HK : Hid (OwnK 3 1 w5 w3.heap.size (.slice ad k capd) k (F.map fun e => .int .i64 e.d) ∧ RfS w5 w2.heap.size (.slice ab k capb) (F.map (·.a))) := ⟨ft.own HK.out.1 (by decide) (by decide), ft.rfs HK.out.2⟩
          replace HR : Hid (Row w5 w.heap.size #[.int .i64 an, .int .i64 ai] 33 ∧ Row w5 (w.heap.size + 1) #[.int .i64 bn, .int .i64 bi] 33) := ⟨ft.row HR.out.1 (by decide) (by decide), ft.row HR.out.2 (by decide) (by decide)⟩
          clear HP
          have HP : Hid (Pr v0 w5 t (kidS F ⟨an, ai⟩ ⟨bn, bi⟩)) := ⟨P5⟩
          clear P5 ft
          clear a0' a1' b0' b1'
          clear hM
          by_cases hE : kidE F ⟨an, ai⟩ ⟨bn, bi⟩ = 0
          · obtain ⟨hE2, hS2⟩ := kid_back HWf.out hE
            rw [hE]
            have hM := prem _ _ t _ HP.out ⟨bn, bi⟩ hb
            rw [hE2] at hM
            clear hE hE2
            obtain ⟨a0', a1'⟩ := row2 HR.out.1
            obtain ⟨b0', b1'⟩ := row2 HR.out.2
            go_wp2_with fail
            refine hM.mono ?_
            rintro e w6 ⟨rfl, P5, ft⟩
            rw [hS2] at P5
            replace HK : Hid (OwnK 3 1 w6 w3.heap.size (.slice ad k capd) k (F.map fun e => .int .i64 e.d) ∧ RfS w6 w2.heap.size (.slice ab k capb) (F.map (·.a))) := ⟨ft.own HK.out.1 (by decide) (by decide), ft.rfs HK.out.2⟩
            replace HR : Hid (Row w6 w.heap.size #[.int .i64 an, .int .i64 ai] 33 ∧ Row w6 (w.heap.size + 1) #[.int .i64 bn, .int .i64 bi] 33) := ⟨ft.row HR.out.1 (by decide) (by decide), ft.row HR.out.2 (by decide) (by decide)⟩
            clear HP
            have HP : Hid (Pr v0 w6 t (F)) := ⟨P5⟩
            clear P5 ft
            clear a0' a1' b0' b1'
            clear hM hS2
            clear HR
            go_wp2_with fail
            refine (plist _ _ t F HP.out).mono ?_
            rintro e w8 ⟨va, rfl, sa, f8⟩
            replace HP : Hid (Pr v0 w8 t F) := ⟨HP.out.keep0 f8⟩
            replace HK : Hid (OwnK 3 1 w8 w3.heap.size (.slice ad k capd) k (F.map fun e => .int .i64 e.d) ∧ RfS w8 w2.heap.size (.slice ab k capb) (F.map (·.a))) := ⟨HK.out.1.keep0 f8, HK.out.2.keep0 f8⟩
            clear f8
            have hr := refs_any _ _ _ _ _ _ _ HK.out.2 sa (by simp; have := HN.out; omega)
            rw [decide_eq_true rfl] at hr
            clear sa
            go_wp2_with fail
            refine hr.mono ?_
            rintro e w9 ⟨rfl, f9⟩
            replace HP : Hid (Pr v0 w9 t F) := ⟨HP.out.keep0 f9⟩
            replace HK : Hid (OwnK 3 1 w9 w3.heap.size (.slice ad k capd) k (F.map fun e => .int .i64 e.d) ∧ RfS w9 w2.heap.size (.slice ab k capb) (F.map (·.a))) := ⟨HK.out.1.keep0 f9, HK.out.2.keep0 f9⟩
            clear hr f9
            go_wp2_with fail
            go_loopw [19] (fun i wr => ∃ j : Nat, j ≤ k ∧ i = .int .i64 (j : Int) ∧ Hid (Fr none' w9 wr)) (fun i _ => k - (intOf i).toNat)
            case atStart => exact ⟨0, by omega, rfl, ⟨Fr.refl _ _⟩⟩
            case round =>
              obtain ⟨j, hj, rfl, f7⟩ := hrel
              by_cases hjN : j < k
              · have hjF : j < F.length := by rw [← HN.out]; exact hjN
                obtain ⟨e, he⟩ : ∃ e, F[j]? = some e := ⟨F[j], List.getElem?_eq_getElem hjF⟩
                obtain ⟨g, rfl, c0, c1⟩ := (HK.out.2.keep0 f7.out).get (i := j) (x := e.a) (by simp [he])
                obtain ⟨g3, rfl, e0⟩ := (HK.out.1.keep0 f7.out).get (i := j) (x := .int .i64 e.d) (by simp [he])
                have hD := pdep _ _ t F (HP.out.keep0 f7.out) e.a (HP.out.wf.ok e (List.mem_of_getElem? he))
                rw [dep_get HP.out.wf.nd he] at hD
                clear he hjF
                obtain ⟨⟨en, ei⟩, ed⟩ := e
                dsimp only at c0 c1 hD e0
                have HC : Hid (wr.cell? ⟨g3, j, none⟩ = some (.int .i64 ed)) := ⟨e0⟩
                clear e0
                have uk : decide ((j : Int) < (k : Int)) = true := decide_eq_true (by omega)
                have i1 : 0 ≤ (j : Int) ∧ (j : Int) < (k : Int) := by omega
                go_wp2_with fail
                refine hD.mono ?_
                rintro e w10 ⟨rfl, f10⟩
                have e0 := cell_keep f10 HC.out (fun h => h)
                have td : (ed != ed) = false := by simp
                have H8 : Hid (Fr none' w9 w10) := ⟨f7.out.trans f10⟩
                clear f10 c0 c1 hD
                go_wp2_with fail
                go_roundw
                case rel => exact ⟨j + 1, by omega, by go_num, H8⟩
                case measure => simp [intOf]; omega
              · obtain rfl : j = k := by omega
                have uk : decide ((j : Int) < (j : Int)) = false := decide_eq_false (by omega)
                have HEnd : Hid (Fr none' w _) := ⟨HF.out.trans (HP.out.fr.trans f7.out)⟩
                clear f7
                go_wp2_with fail
                go_ret
                exact ⟨rfl, HEnd.out.below (Nat.le_refl _) (fun _ h => h.elim)⟩
          · have hS := kid_same hE
            rw [hS] at HP
            have tt : (kidE F ⟨an, ai⟩ ⟨bn, bi⟩ == 0) = false := by simpa using hE
            clear hS hE
            generalize kidE F ⟨an, ai⟩ ⟨bn, bi⟩ = E at *
            clear HR
            go_wp2_with fail
            refine (plist _ _ t F HP.out).mono ?_
            rintro e w8 ⟨va, rfl, sa, f8⟩
            replace HP : Hid (Pr v0 w8 t F) := ⟨HP.out.keep0 f8⟩
            replace HK : Hid (OwnK 3 1 w8 w3.heap.size (.slice ad k capd) k (F.map fun e => .int .i64 e.d) ∧ RfS w8 w2.heap.size (.slice ab k capb) (F.map (·.a))) := ⟨HK.out.1.keep0 f8, HK.out.2.keep0 f8⟩
            clear f8
            have hr := refs_any _ _ _ _ _ _ _ HK.out.2 sa (by simp; have := HN.out; omega)
            rw [decide_eq_true rfl] at hr
            clear sa
            go_wp2_with fail
            refine hr.mono ?_
            rintro e w9 ⟨rfl, f9⟩
            replace HP : Hid (Pr v0 w9 t F) := ⟨HP.out.keep0 f9⟩
            replace HK : Hid (OwnK 3 1 w9 w3.heap.size (.slice ad k capd) k (F.map fun e => .int .i64 e.d) ∧ RfS w9 w2.heap.size (.slice ab k capb) (F.map (·.a))) := ⟨HK.out.1.keep0 f9, HK.out.2.keep0 f9⟩
            clear hr f9
            go_wp2_with fail
            go_loopw [19] (fun i wr => ∃ j : Nat, j ≤ k ∧ i = .int .i64 (j : Int) ∧ Hid (Fr none' w9 wr)) (fun i _ => k - (intOf i).toNat)
            case atStart => exact ⟨0, by omega, rfl, ⟨Fr.refl _ _⟩⟩
            case round =>
              obtain ⟨j, hj, rfl, f7⟩ := hrel
              by_cases hjN : j < k
              · have hjF : j < F.length := by rw [← HN.out]; exact hjN
                obtain ⟨e, he⟩ : ∃ e, F[j]? = some e := ⟨F[j], List.getElem?_eq_getElem hjF⟩
                obtain ⟨g, rfl, c0, c1⟩ := (HK.out.2.keep0 f7.out).get (i := j) (x := e.a) (by simp [he])
                obtain ⟨g3, rfl, e0⟩ := (HK.out.1.keep0 f7.out).get (i := j) (x := .int .i64 e.d) (by simp [he])
                have hD := pdep _ _ t F (HP.out.keep0 f7.out) e.a (HP.out.wf.ok e (List.mem_of_getElem? he))
                rw [dep_get HP.out.wf.nd he] at hD
                clear he hjF
                obtain ⟨⟨en, ei⟩, ed⟩ := e
                dsimp only at c0 c1 hD e0
                have HC : Hid (wr.cell? ⟨g3, j, none⟩ = some (.int .i64 ed)) := ⟨e0⟩
                clear e0
                have uk : decide ((j : Int) < (k : Int)) = true := decide_eq_true (by omega)
                have i1 : 0 ≤ (j : Int) ∧ (j : Int) < (k : Int) := by omega
                go_wp2_with fail
                refine hD.mono ?_
                rintro e w10 ⟨rfl, f10⟩
                have e0 := cell_keep f10 HC.out (fun h => h)
                have td : (ed != ed) = false := by simp
                have H8 : Hid (Fr none' w9 w10) := ⟨f7.out.trans f10⟩
                clear f10 c0 c1 hD
                go_wp2_with fail
                go_roundw
                case rel => exact ⟨j + 1, by omega, by go_num, H8⟩
                case measure => simp [intOf]; omega
              · obtain rfl : j = k := by omega
                have uk : decide ((j : Int) < (j : Int)) = false := decide_eq_false (by omega)
                have HEnd : Hid (Fr none' w _) := ⟨HF.out.trans (HP.out.fr.trans f7.out)⟩
                clear f7
                go_wp2_with fail
                go_ret
                exact ⟨rfl, HEnd.out.below (Nat.le_refl _) (fun _ h => h.elim)⟩

end Go.Proofs.Ytiabloiglmnfpaa
