/-
  Contracts of package ram's Clear and Lay over the translation, said of the memory's bytes. No statement is proved here.
-/
import Derived.Test.YtcmhndkbcfpbbaaFrame
namespace Go.Proofs.Ytcmhndkbcfpbbaa
open Go.RowKit

theorem zero5 (w : World) : (zeroValue 5).run Try.prog w = .ok (.int .u8 0) w := by
  have hi := info5
  cases hq : Try.prog.info? 5 with
  | none => simp [hq] at hi
  | some i =>
    rw [hq] at hi
    simp only [Option.map_some, Option.some.injEq, Prod.mk.injEq] at hi
    simp [zeroValue, typeInfo, hq, hi.1]

theorem clear_bytes (w : World) (ty t : TypeId) (b o n cap : Nat) (bs : List UInt8) (hr : Row w b (byteVals bs) t) (hn : 0 < n) (hfit : o + n ≤ bs.length) :
    ∃ w2, (Builtin.clear_ #[43] ty #[.slice (some ⟨b, o, none⟩) n cap]).run Try.prog w = .ok (.tuple #[]) w2 ∧ Row w2 b (byteVals (putAt bs o (List.replicate n 0))) t ∧ Fr (at' b) w w2 := by
  refine ⟨w.setCells b o ((List.replicate n 0).map U8), ?_, row_setCells b t _ w o bs hr, fr_setCells b _ w w o (Fr.refl _ _)⟩
  have := Lib.run_clear_slice (P := Try.prog) w 43 5 ty (.int .u8 0) Try.underlying43 zero5 rfl rfl b o n cap hn
    (fun j hj => by rw [hr.cell, byteVals_get bs _ (by omega)]; rfl) (fun j _ => hr.frozen _)
  rw [this, List.map_replicate]
  rfl

set_option maxHeartbeats 400000 in
theorem clear_ok (w : World) (p bf nf : Nat) (bs : List UInt8) (n : Nat) (h : IsRam w p bf nf bs) (hn : n < nf) :
    Calls Try.prog 42 #[.pointer (some ⟨p, 0, none⟩), .int .i64 (n : Int)] w fun e w' => e = .returned (.int .i64 0) ∧ Fr (at' bf) w w' ∧ IsRam w' p bf nf (putAt bs (n * 64) (List.replicate 64 0)) := by
  have hd : decide ((n : Int) < nf) = true := by simp; omega
  have hlt : (n : Int) < (nf : Int) := by omega
  have hle := h.len
  obtain ⟨w2, hcp, hr2, hf2⟩ := clear_bytes w 0 85 bf (n * 64) 64 64 bs h.row (by omega) (by omega)
  have HR : Hid (Fr (at' bf) w w2 ∧ IsRam w2 p bf nf (putAt bs (n * 64) (List.replicate 64 0))) := ⟨hf2, h.head.keep hf2 h.apart, hr2, by rw [length_putAt]; exact h.len, h.most, h.apart⟩
  have hc := h.hcell
  clear hr2 hf2 h hle
  generalize List.replicate 64 0 = zs at *
  go_enter Try.func42, Try.ntmps42
  go_wp2_with (go_at_call 36; refine (has_yes _ _ _ _ _ hc (by omega)).mono ?_; rintro e w' ⟨rfl, rfl⟩)
  go_ret
  exact ⟨rfl, HR⟩

set_option maxHeartbeats 400000 in
theorem clear_bad (w : World) (p bf nf : Nat) (bs : List UInt8) (n : Int) (h : IsRam w p bf nf bs) (hn : ¬ (0 ≤ n ∧ n < (nf : Int))) :
    Calls Try.prog 42 #[.pointer (some ⟨p, 0, none⟩), .int .i64 n] w fun e w' => e = .returned (.int .i64 10) ∧ w = w' := by
  have hc := h.hcell
  clear h
  have HN : Hid (¬ (0 ≤ n ∧ n < (nf : Int))) := hn
  clear hn
  go_enter Try.func42, Try.ntmps42
  go_wp2_with (go_at_call 36; refine (has_no _ _ _ _ _ hc HN).mono ?_; rintro e w' ⟨rfl, rfl⟩)
  go_ret
  exact ⟨rfl, rfl⟩

end Go.Proofs.Ytcmhndkbcfpbbaa
