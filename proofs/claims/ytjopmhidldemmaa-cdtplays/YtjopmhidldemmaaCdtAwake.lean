/-
  The law's own example over the translation: it comes out. No statement is proved here.
-/
import Derived.Test.YtjopmhidldemmaaCdtPr
namespace Go.Proofs.Ytjopmhidldemmaa
open Go.RowKit Go.Maps Go.WideMaps

theorem ok_small {n : Int} (h1 : 0 ≤ n) (h2 : n ≤ 100) : (⟨n, 1⟩ : Rf).Ok := ⟨⟨by show _ ≤ n; omega, by show n ≤ _; omega⟩, ⟨by show (_ : Int) ≤ 1; omega, by show (1 : Int) ≤ _; omega⟩⟩

set_option maxRecDepth 100000 in
set_option maxHeartbeats 4000000 in
theorem awake_any (w : World) : Calls Try.prog 4 #[] w fun e w' => e = .returned (.bool true) ∧ Fr none' w w' := by
  go_enter Try.func4, Try.ntmps4
  go_wp2_with fail
  refine (pnew w w (Fr.refl _ _)).mono ?_
  rintro e w0 ⟨t, rfl, P⟩
  go_wp2_with fail
  refine (name_any 1 _).mono ?_
  rintro e w1 ⟨rfl, f⟩
  replace P := P.keep0 f
  clear f
  go_wp2_with fail
  refine (padd w _ t ([] : List En) P (by simp) (⟨1, 1⟩ : Rf) (ok_small (by omega) (by omega))).mono ?_
  rintro e w2 ⟨rfl, P', ft⟩
  clear P
  have P : Pr w w2 t [⟨⟨1, 1⟩, 0⟩] := P'
  rw [show addE ([] : List En) (⟨1, 1⟩ : Rf) = 0 from rfl]
  clear P' ft
  go_wp2_with fail
  refine (name_any 2 _).mono ?_
  rintro e w3 ⟨rfl, f⟩
  replace P := P.keep0 f
  clear f
  go_wp2_with fail
  refine (padd w _ t ([⟨⟨1, 1⟩, 0⟩] : List En) P (by simp) (⟨2, 1⟩ : Rf) (ok_small (by omega) (by omega))).mono ?_
  rintro e w4 ⟨rfl, P', ft⟩
  clear P
  have P : Pr w w4 t [⟨⟨2, 1⟩, 0⟩, ⟨⟨1, 1⟩, 0⟩] := P'
  rw [show addE ([⟨⟨1, 1⟩, 0⟩] : List En) (⟨2, 1⟩ : Rf) = 0 from rfl]
  clear P' ft
  go_wp2_with fail
  refine (name_any 1 _).mono ?_
  rintro e w5 ⟨rfl, f⟩
  replace P := P.keep0 f
  clear f
  go_wp2_with fail
  refine (name_any 3 _).mono ?_
  rintro e w6 ⟨rfl, f⟩
  replace P := P.keep0 f
  clear f
  go_wp2_with fail
  refine (pkid w _ t ([⟨⟨2, 1⟩, 0⟩, ⟨⟨1, 1⟩, 0⟩] : List En) P (by simp) (⟨1, 1⟩ : Rf) (⟨3, 1⟩ : Rf) (ok_small (by omega) (by omega)) (ok_small (by omega) (by omega))).mono ?_
  rintro e w7 ⟨rfl, P', ft⟩
  clear P
  have P : Pr w w7 t [⟨⟨2, 1⟩, 0⟩, ⟨⟨1, 1⟩, 0⟩, ⟨⟨3, 1⟩, 1⟩] := P'
  rw [show kidE ([⟨⟨2, 1⟩, 0⟩, ⟨⟨1, 1⟩, 0⟩] : List En) (⟨1, 1⟩ : Rf) (⟨3, 1⟩ : Rf) = 0 from rfl]
  clear P' ft
  go_wp2_with fail
  refine (name_any 1 _).mono ?_
  rintro e w8 ⟨rfl, f⟩
  replace P := P.keep0 f
  clear f
  go_wp2_with fail
  refine (name_any 4 _).mono ?_
  rintro e w9 ⟨rfl, f⟩
  replace P := P.keep0 f
  clear f
  go_wp2_with fail
  refine (pkid w _ t ([⟨⟨2, 1⟩, 0⟩, ⟨⟨1, 1⟩, 0⟩, ⟨⟨3, 1⟩, 1⟩] : List En) P (by simp) (⟨1, 1⟩ : Rf) (⟨4, 1⟩ : Rf) (ok_small (by omega) (by omega)) (ok_small (by omega) (by omega))).mono ?_
  rintro e w10 ⟨rfl, P', ft⟩
  clear P
  have P : Pr w w10 t [⟨⟨2, 1⟩, 0⟩, ⟨⟨1, 1⟩, 0⟩, ⟨⟨4, 1⟩, 1⟩, ⟨⟨3, 1⟩, 1⟩] := P'
  rw [show kidE ([⟨⟨2, 1⟩, 0⟩, ⟨⟨1, 1⟩, 0⟩, ⟨⟨3, 1⟩, 1⟩] : List En) (⟨1, 1⟩ : Rf) (⟨4, 1⟩ : Rf) = 0 from rfl]
  clear P' ft
  go_wp2_with fail
  refine (name_any 3 _).mono ?_
  rintro e w11 ⟨rfl, f⟩
  replace P := P.keep0 f
  clear f
  go_wp2_with fail
  refine (name_any 5 _).mono ?_
  rintro e w12 ⟨rfl, f⟩
  replace P := P.keep0 f
  clear f
  go_wp2_with fail
  refine (pkid w _ t ([⟨⟨2, 1⟩, 0⟩, ⟨⟨1, 1⟩, 0⟩, ⟨⟨4, 1⟩, 1⟩, ⟨⟨3, 1⟩, 1⟩] : List En) P (by simp) (⟨3, 1⟩ : Rf) (⟨5, 1⟩ : Rf) (ok_small (by omega) (by omega)) (ok_small (by omega) (by omega))).mono ?_
  rintro e w13 ⟨rfl, P', ft⟩
  clear P
  have P : Pr w w13 t [⟨⟨2, 1⟩, 0⟩, ⟨⟨1, 1⟩, 0⟩, ⟨⟨4, 1⟩, 1⟩, ⟨⟨3, 1⟩, 1⟩, ⟨⟨5, 1⟩, 2⟩] := P'
  rw [show kidE ([⟨⟨2, 1⟩, 0⟩, ⟨⟨1, 1⟩, 0⟩, ⟨⟨4, 1⟩, 1⟩, ⟨⟨3, 1⟩, 1⟩] : List En) (⟨3, 1⟩ : Rf) (⟨5, 1⟩ : Rf) = 0 from rfl]
  clear P' ft
  go_wp2_with fail
  refine (plist w _ t ([⟨⟨2, 1⟩, 0⟩, ⟨⟨1, 1⟩, 0⟩, ⟨⟨4, 1⟩, 1⟩, ⟨⟨3, 1⟩, 1⟩, ⟨⟨5, 1⟩, 2⟩] : List En) P).mono ?_
  rintro e w14 ⟨vs1, rfl, s1, f⟩
  replace P := P.keep0 f
  clear f
  go_wp2_with fail
  refine (name_any 3 _).mono ?_
  rintro e w15 ⟨rfl, f⟩
  replace P := P.keep0 f
  replace s1 := s1.keep0 f
  clear f
  go_wp2_with fail
  refine (prem w _ t ([⟨⟨2, 1⟩, 0⟩, ⟨⟨1, 1⟩, 0⟩, ⟨⟨4, 1⟩, 1⟩, ⟨⟨3, 1⟩, 1⟩, ⟨⟨5, 1⟩, 2⟩] : List En) P (⟨3, 1⟩ : Rf) (ok_small (by omega) (by omega))).mono ?_
  rintro e w16 ⟨rfl, P', ft⟩
  clear P
  have P : Pr w w16 t [⟨⟨2, 1⟩, 0⟩, ⟨⟨1, 1⟩, 0⟩, ⟨⟨4, 1⟩, 1⟩, ⟨⟨5, 1⟩, 1⟩] := P'
  rw [show remE ([⟨⟨2, 1⟩, 0⟩, ⟨⟨1, 1⟩, 0⟩, ⟨⟨4, 1⟩, 1⟩, ⟨⟨3, 1⟩, 1⟩, ⟨⟨5, 1⟩, 2⟩] : List En) (⟨3, 1⟩ : Rf) = 0 from rfl]
  replace s1 := ft.rfs s1
  clear P' ft
  go_wp2_with fail
  refine (name_any 1 _).mono ?_
  rintro e w17 ⟨rfl, f⟩
  replace P := P.keep0 f
  replace s1 := s1.keep0 f
  clear f
  go_wp2_with fail
  refine (name_any 3 _).mono ?_
  rintro e w18 ⟨rfl, f⟩
  replace P := P.keep0 f
  replace s1 := s1.keep0 f
  clear f
  go_wp2_with fail
  refine (pmov w _ t ([⟨⟨2, 1⟩, 0⟩, ⟨⟨1, 1⟩, 0⟩, ⟨⟨4, 1⟩, 1⟩, ⟨⟨5, 1⟩, 1⟩] : List En) P (⟨1, 1⟩ : Rf) (⟨3, 1⟩ : Rf) (ok_small (by omega) (by omega)) (ok_small (by omega) (by omega))).mono ?_
  rintro e w19 ⟨rfl, P', ft⟩
  clear P
  have P : Pr w w19 t [⟨⟨2, 1⟩, 0⟩, ⟨⟨3, 1⟩, 0⟩, ⟨⟨4, 1⟩, 1⟩, ⟨⟨5, 1⟩, 1⟩] := P'
  rw [show movE ([⟨⟨2, 1⟩, 0⟩, ⟨⟨1, 1⟩, 0⟩, ⟨⟨4, 1⟩, 1⟩, ⟨⟨5, 1⟩, 1⟩] : List En) (⟨1, 1⟩ : Rf) (⟨3, 1⟩ : Rf) = 0 from rfl]
  replace s1 := ft.rfs s1
  clear P' ft
  go_wp2_with fail
  refine (name_any 2 _).mono ?_
  rintro e w20 ⟨rfl, f⟩
  replace P := P.keep0 f
  replace s1 := s1.keep0 f
  clear f
  go_wp2_with fail
  refine (name_any 4 _).mono ?_
  rintro e w21 ⟨rfl, f⟩
  replace P := P.keep0 f
  replace s1 := s1.keep0 f
  clear f
  go_wp2_with fail
  refine (pswp w _ t ([⟨⟨2, 1⟩, 0⟩, ⟨⟨3, 1⟩, 0⟩, ⟨⟨4, 1⟩, 1⟩, ⟨⟨5, 1⟩, 1⟩] : List En) P (⟨2, 1⟩ : Rf) (⟨4, 1⟩ : Rf) (ok_small (by omega) (by omega)) (ok_small (by omega) (by omega))).mono ?_
  rintro e w22 ⟨rfl, P', ft⟩
  clear P
  have P : Pr w w22 t [⟨⟨4, 1⟩, 0⟩, ⟨⟨3, 1⟩, 0⟩, ⟨⟨2, 1⟩, 1⟩, ⟨⟨5, 1⟩, 1⟩] := P'
  rw [show swpE ([⟨⟨2, 1⟩, 0⟩, ⟨⟨3, 1⟩, 0⟩, ⟨⟨4, 1⟩, 1⟩, ⟨⟨5, 1⟩, 1⟩] : List En) (⟨2, 1⟩ : Rf) (⟨4, 1⟩ : Rf) = 0 from rfl]
  replace s1 := ft.rfs s1
  clear P' ft
  go_wp2_with fail
  refine (plist w _ t ([⟨⟨4, 1⟩, 0⟩, ⟨⟨3, 1⟩, 0⟩, ⟨⟨2, 1⟩, 1⟩, ⟨⟨5, 1⟩, 1⟩] : List En) P).mono ?_
  rintro e w23 ⟨vs2, rfl, s2, f⟩
  replace P := P.keep0 f
  replace s1 := s1.keep0 f
  clear f
  go_wp2_with fail
  refine (name_any 9 _).mono ?_
  rintro e w24 ⟨rfl, f⟩
  replace P := P.keep0 f
  replace s1 := s1.keep0 f
  replace s2 := s2.keep0 f
  clear f
  go_wp2_with fail
  refine (name_any 8 _).mono ?_
  rintro e w25 ⟨rfl, f⟩
  replace P := P.keep0 f
  replace s1 := s1.keep0 f
  replace s2 := s2.keep0 f
  clear f
  go_wp2_with fail
  refine (pkid w _ t ([⟨⟨4, 1⟩, 0⟩, ⟨⟨3, 1⟩, 0⟩, ⟨⟨2, 1⟩, 1⟩, ⟨⟨5, 1⟩, 1⟩] : List En) P (by simp) (⟨9, 1⟩ : Rf) (⟨8, 1⟩ : Rf) (ok_small (by omega) (by omega)) (ok_small (by omega) (by omega))).mono ?_
  rintro e w26 ⟨rfl, P', ft⟩
  clear P
  have P : Pr w w26 t [⟨⟨4, 1⟩, 0⟩, ⟨⟨3, 1⟩, 0⟩, ⟨⟨2, 1⟩, 1⟩, ⟨⟨5, 1⟩, 1⟩] := P'
  rw [show kidE ([⟨⟨4, 1⟩, 0⟩, ⟨⟨3, 1⟩, 0⟩, ⟨⟨2, 1⟩, 1⟩, ⟨⟨5, 1⟩, 1⟩] : List En) (⟨9, 1⟩ : Rf) (⟨8, 1⟩ : Rf) = 131 from rfl]
  replace s1 := ft.rfs s1
  replace s2 := ft.rfs s2
  clear P' ft
  go_wp2_with fail
  refine (name_any 4 _).mono ?_
  rintro e w27 ⟨rfl, f⟩
  replace P := P.keep0 f
  replace s1 := s1.keep0 f
  replace s2 := s2.keep0 f
  clear f
  go_wp2_with fail
  refine (padd w _ t ([⟨⟨4, 1⟩, 0⟩, ⟨⟨3, 1⟩, 0⟩, ⟨⟨2, 1⟩, 1⟩, ⟨⟨5, 1⟩, 1⟩] : List En) P (by simp) (⟨4, 1⟩ : Rf) (ok_small (by omega) (by omega))).mono ?_
  rintro e w28 ⟨rfl, P', ft⟩
  clear P
  have P : Pr w w28 t [⟨⟨4, 1⟩, 0⟩, ⟨⟨3, 1⟩, 0⟩, ⟨⟨2, 1⟩, 1⟩, ⟨⟨5, 1⟩, 1⟩] := P'
  rw [show addE ([⟨⟨4, 1⟩, 0⟩, ⟨⟨3, 1⟩, 0⟩, ⟨⟨2, 1⟩, 1⟩, ⟨⟨5, 1⟩, 1⟩] : List En) (⟨4, 1⟩ : Rf) = 130 from rfl]
  replace s1 := ft.rfs s1
  replace s2 := ft.rfs s2
  clear P' ft
  go_wp2_with fail
  refine (name_any 2 _).mono ?_
  rintro e w29 ⟨rfl, f⟩
  replace P := P.keep0 f
  replace s1 := s1.keep0 f
  replace s2 := s2.keep0 f
  clear f
  go_wp2_with fail
  refine (name_any 1 _).mono ?_
  rintro e w30 ⟨rfl, f⟩
  replace P := P.keep0 f
  replace s1 := s1.keep0 f
  replace s2 := s2.keep0 f
  clear f
  go_wp2_with fail
  refine (name_any 4 _).mono ?_
  rintro e w31 ⟨rfl, f⟩
  replace P := P.keep0 f
  replace s1 := s1.keep0 f
  replace s2 := s2.keep0 f
  clear f
  go_wp2_with fail
  refine (name_any 3 _).mono ?_
  rintro e w32 ⟨rfl, f⟩
  replace P := P.keep0 f
  replace s1 := s1.keep0 f
  replace s2 := s2.keep0 f
  clear f
  go_wp2_with fail
  refine (name_any 5 _).mono ?_
  rintro e w33 ⟨rfl, f⟩
  replace P := P.keep0 f
  replace s1 := s1.keep0 f
  replace s2 := s2.keep0 f
  clear f
  have fA := (Fr.refl none' w33).alloc (.cells #[.int .i64 2, .int .i64 1, .int .i64 1, .int .i64 1, .int .i64 4, .int .i64 1, .int .i64 3, .int .i64 1, .int .i64 5, .int .i64 1] 33)
  have sL : RfS (w33.alloc (.cells #[.int .i64 2, .int .i64 1, .int .i64 1, .int .i64 1, .int .i64 4, .int .i64 1, .int .i64 3, .int .i64 1, .int .i64 5, .int .i64 1] 33)) w33.heap.size (.slice (some ⟨w33.heap.size, 0, none⟩) 5 5) ([⟨2, 1⟩, ⟨1, 1⟩, ⟨4, 1⟩, ⟨3, 1⟩, ⟨5, 1⟩] : List Rf) := by
    refine Or.inr ⟨w33.heap.size, 5, _, rfl, Nat.le_refl _, by simp, by simp [maxLen], row_alloc w33 _ _, fun i x hi => ?_⟩
    match i, hi with
    | 0, hi => cases hi; exact ⟨rfl, rfl⟩
    | 1, hi => cases hi; exact ⟨rfl, rfl⟩
    | 2, hi => cases hi; exact ⟨rfl, rfl⟩
    | 3, hi => cases hi; exact ⟨rfl, rfl⟩
    | 4, hi => cases hi; exact ⟨rfl, rfl⟩
    | i + 5, hi => simp at hi
  replace P := P.keep0 fA
  replace s1 := s1.keep0 fA
  replace s2 := s2.keep0 fA
  have hr := refs_any _ _ _ _ _ _ _ s1 sL (by simp)
  clear sL fA
  go_wp2_with fail
  refine hr.mono ?_
  rintro e w34 ⟨rfl, f⟩
  replace P := P.keep0 f
  replace s1 := s1.keep0 f
  replace s2 := s2.keep0 f
  clear f hr
  rw [show decide (List.map (fun x => x.a) ([⟨⟨2, 1⟩, 0⟩, ⟨⟨1, 1⟩, 0⟩, ⟨⟨4, 1⟩, 1⟩, ⟨⟨3, 1⟩, 1⟩, ⟨⟨5, 1⟩, 2⟩] : List En) = ([⟨2, 1⟩, ⟨1, 1⟩, ⟨4, 1⟩, ⟨3, 1⟩, ⟨5, 1⟩] : List Rf)) = true from by decide]
  go_wp2_with fail
  refine (name_any 4 _).mono ?_
  rintro e w35 ⟨rfl, f⟩
  replace P := P.keep0 f
  replace s1 := s1.keep0 f
  replace s2 := s2.keep0 f
  clear f
  go_wp2_with fail
  refine (name_any 3 _).mono ?_
  rintro e w36 ⟨rfl, f⟩
  replace P := P.keep0 f
  replace s1 := s1.keep0 f
  replace s2 := s2.keep0 f
  clear f
  go_wp2_with fail
  refine (name_any 2 _).mono ?_
  rintro e w37 ⟨rfl, f⟩
  replace P := P.keep0 f
  replace s1 := s1.keep0 f
  replace s2 := s2.keep0 f
  clear f
  go_wp2_with fail
  refine (name_any 5 _).mono ?_
  rintro e w38 ⟨rfl, f⟩
  replace P := P.keep0 f
  replace s1 := s1.keep0 f
  replace s2 := s2.keep0 f
  clear f
  have fA := (Fr.refl none' w38).alloc (.cells #[.int .i64 4, .int .i64 1, .int .i64 3, .int .i64 1, .int .i64 2, .int .i64 1, .int .i64 5, .int .i64 1] 33)
  have sL : RfS (w38.alloc (.cells #[.int .i64 4, .int .i64 1, .int .i64 3, .int .i64 1, .int .i64 2, .int .i64 1, .int .i64 5, .int .i64 1] 33)) w38.heap.size (.slice (some ⟨w38.heap.size, 0, none⟩) 4 4) ([⟨4, 1⟩, ⟨3, 1⟩, ⟨2, 1⟩, ⟨5, 1⟩] : List Rf) := by
    refine Or.inr ⟨w38.heap.size, 4, _, rfl, Nat.le_refl _, by simp, by simp [maxLen], row_alloc w38 _ _, fun i x hi => ?_⟩
    match i, hi with
    | 0, hi => cases hi; exact ⟨rfl, rfl⟩
    | 1, hi => cases hi; exact ⟨rfl, rfl⟩
    | 2, hi => cases hi; exact ⟨rfl, rfl⟩
    | 3, hi => cases hi; exact ⟨rfl, rfl⟩
    | i + 4, hi => simp at hi
  replace P := P.keep0 fA
  replace s1 := s1.keep0 fA
  replace s2 := s2.keep0 fA
  have hr := refs_any _ _ _ _ _ _ _ s2 sL (by simp)
  clear sL fA
  go_wp2_with fail
  refine hr.mono ?_
  rintro e w39 ⟨rfl, f⟩
  replace P := P.keep0 f
  replace s1 := s1.keep0 f
  replace s2 := s2.keep0 f
  clear f hr
  rw [show decide (List.map (fun x => x.a) ([⟨⟨4, 1⟩, 0⟩, ⟨⟨3, 1⟩, 0⟩, ⟨⟨2, 1⟩, 1⟩, ⟨⟨5, 1⟩, 1⟩] : List En) = ([⟨4, 1⟩, ⟨3, 1⟩, ⟨2, 1⟩, ⟨5, 1⟩] : List Rf)) = true from by decide]
  have HP : Hid _ := ⟨P⟩
  clear P s1 s2
  go_wp2
  go_ret
  exact ⟨rfl, HP.out.fr⟩

end Go.Proofs.Ytjopmhidldemmaa
