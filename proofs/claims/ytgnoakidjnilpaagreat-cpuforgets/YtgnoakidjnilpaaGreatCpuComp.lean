/-
  The contracts of package cpu's compute, branch and call, of what they make, and of the functions that they are handed. No statement is proved here.
-/
import Derived.Test.YtgnoakidjnilpaaGreatCpuKeep
namespace Go.Proofs.YtgnoakidjnilpaaGreat
open Go.RowKit



set_option maxRecDepth 100000 in
set_option maxHeartbeats 1600000 in
theorem compute1_any (w : World) (B : Bm) (nf bx : Nat) (M : Mc) (X : Wk) (bc fn : Nat) (g : Nat → Nat → Nat) (hg : ∀ a b, a < 4294967296 → b < 4294967296 → g a b < 4294967296) (hc : w.cell? ⟨bc, 0, none⟩ = some (.func (.func fn) #[] #[]))
    (hen : ∀ (args : Array Value) (w1 : World), (callFunc fn args).run Tryz.prog w1 = .ok (.enter fn args) w1)
    (hF : ∀ (a b : Nat) (w1 : World), a < 4294967296 → b < 4294967296 → Calls Tryz.prog fn #[.int .u32 (a : Int), .int .u32 (b : Int)] w1 fun e w' => e = .returned (.int .u32 ((g a b : Nat) : Int)) ∧ w' = w1)
    (h : Jb w B nf bx M X) :
    Calls Tryz.prog 132 #[.pointer (some ⟨bx, 0, none⟩), .pointer (some ⟨bc, 0, none⟩)] w (Aft w B nf bx M { X with z := X.z.setR X.a (g (X.z.r X.b) (X.z.r X.c)) }) := by
  have nb : ¬ at' bx bc := fun e => by have e' : bc = bx := e; rw [e', h.x.k0] at hc; cases hc
  have hcc := h.c
  have i1 : 0 ≤ (X.c : Int) ∧ (X.c : Int) < 16 := by omega
  have c13 := h.x.k13
  have cr := h.x.reg h.c
  have hb := h.ok.r X.b
  have hc3 := h.ok.r X.c
  have hG := hg _ _ hb hc3
  have hF' := fun w1 => hF (X.z.r X.b) (X.z.r X.c) w1 hb hc3
  obtain ⟨y, hy⟩ : ∃ y, g (X.z.r X.b) (X.z.r X.c) = y := ⟨_, rfl⟩
  rw [hy] at hG hF' ⊢
  clear hy hcc hb hc3 hg hF
  have f0 := Fr.refl none' w
  go_enter Tryz.func132, Tryz.ntmps132
  go_wp2_with fail
  go_region_with (first
    | (go_at_call 133; refine (b_any _ _ _ h.drew.x h.b).mono ?_; rintro e v ⟨rfl, m, rfl⟩; obtain ⟨v, hv, fv⟩ := drewN_new (w := w.drew) m; rw [← hv]; have hJ := h.drew.keep0 fv; have d1 := cell_keep fv (show w.drew.cell? _ = _ from hc) (fun h => h); have d2 := cell_keep fv (show w.drew.cell? _ = _ from c13) (fun h => h); have d3 := cell_keep fv (show w.drew.cell? _ = _ from cr) (fun h => h); replace f0 := f0.drew.trans fv; clear hv fv)
    | (go_at_call 131; refine (setA_any _ _ _ _ hJ.x hJ.a).mono ?_; rintro e v2 ⟨⟨u, rfl⟩, f2, h2⟩; have k1 := cell_keep f2 d1 nb; have k2 := h2.k13)
    | (refine (hF' _).mono ?_; rintro e v1 ⟨rfl, rfl⟩))
  all_goals go_wp2_with fail
  all_goals refine post_void rfl rfl fun u => ?_
  all_goals exact ⟨⟨u, rfl⟩, (fr_0 f0).trans (fr_x f2), hJ.turn f2 h2 (hJ.ok.setR _ hG)⟩

end Go.Proofs.YtgnoakidjnilpaaGreat
