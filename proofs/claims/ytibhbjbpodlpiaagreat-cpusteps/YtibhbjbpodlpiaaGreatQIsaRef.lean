/-
  Contracts over the translation. No statement is proved here.
-/
import Derived.Test.YtibhbjbpodlpiaaGreatQJG
set_option maxRecDepth 100000
set_option maxHeartbeats 8000000
namespace Go.Proofs.YtibhbjbpodlpiaaGreat
open Go.RowKit
open Go.Value renaming int → U, bool → β, pointer → π, tuple → τ
open Go.IntKind renaming i64 → κ, u32 → μ
open Go.Obj renaming cells → ω
open Go.Ending renaming returned → ρ
open Go.Proofs.Tryz renaming prog → pQ
def hasC (k c:Nat):Bool:=vy k (fsz k) c
theorem has_0_97 (w:World):Calls pQ 86 #[.string ⟨#[]⟩,.int .u8 97] w fun e w'=>e=ρ (β false)∧w=w':=by
 go_enter Tryz.func86,Tryz.ntmps86
 go_wp2_with fail
 refine wp_loop_rounds 1 ?_
 rw[rounds_succ];go_wp2
 go_ret
 exact ⟨rfl,rfl⟩
theorem has_0_98 (w:World):Calls pQ 86 #[.string ⟨#[]⟩,.int .u8 98] w fun e w'=>e=ρ (β false)∧w=w':=by
 go_enter Tryz.func86,Tryz.ntmps86
 go_wp2_with fail
 refine wp_loop_rounds 1 ?_
 rw[rounds_succ];go_wp2
 go_ret
 exact ⟨rfl,rfl⟩
theorem has_0_99 (w:World):Calls pQ 86 #[.string ⟨#[]⟩,.int .u8 99] w fun e w'=>e=ρ (β false)∧w=w':=by
 go_enter Tryz.func86,Tryz.ntmps86
 go_wp2_with fail
 refine wp_loop_rounds 1 ?_
 rw[rounds_succ];go_wp2
 go_ret
 exact ⟨rfl,rfl⟩
theorem has_0_105 (w:World):Calls pQ 86 #[.string ⟨#[]⟩,.int .u8 105] w fun e w'=>e=ρ (β false)∧w=w':=by
 go_enter Tryz.func86,Tryz.ntmps86
 go_wp2_with fail
 refine wp_loop_rounds 1 ?_
 rw[rounds_succ];go_wp2
 go_ret
 exact ⟨rfl,rfl⟩
theorem has_1_97 (w:World):Calls pQ 86 #[.string ⟨#[97,105]⟩,.int .u8 97] w fun e w'=>e=ρ (β true)∧w=w':=by
 go_enter Tryz.func86,Tryz.ntmps86
 go_wp2_with fail
 refine wp_loop_rounds 1 ?_
 rw[rounds_succ];go_wp2
 go_ret
 exact ⟨rfl,rfl⟩
theorem has_1_98 (w:World):Calls pQ 86 #[.string ⟨#[97,105]⟩,.int .u8 98] w fun e w'=>e=ρ (β false)∧w=w':=by
 go_enter Tryz.func86,Tryz.ntmps86
 go_wp2_with fail
 refine wp_loop_rounds 3 ?_
 rw[rounds_succ];go_wp2
 rw[rounds_succ];go_wp2
 rw[rounds_succ];go_wp2
 go_ret
 exact ⟨rfl,rfl⟩
theorem has_1_99 (w:World):Calls pQ 86 #[.string ⟨#[97,105]⟩,.int .u8 99] w fun e w'=>e=ρ (β false)∧w=w':=by
 go_enter Tryz.func86,Tryz.ntmps86
 go_wp2_with fail
 refine wp_loop_rounds 3 ?_
 rw[rounds_succ];go_wp2
 rw[rounds_succ];go_wp2
 rw[rounds_succ];go_wp2
 go_ret
 exact ⟨rfl,rfl⟩
theorem has_1_105 (w:World):Calls pQ 86 #[.string ⟨#[97,105]⟩,.int .u8 105] w fun e w'=>e=ρ (β true)∧w=w':=by
 go_enter Tryz.func86,Tryz.ntmps86
 go_wp2_with fail
 refine wp_loop_rounds 2 ?_
 rw[rounds_succ];go_wp2
 rw[rounds_succ];go_wp2
 go_ret
 exact ⟨rfl,rfl⟩
theorem has_2_97 (w:World):Calls pQ 86 #[.string ⟨#[97,98,99]⟩,.int .u8 97] w fun e w'=>e=ρ (β true)∧w=w':=by
 go_enter Tryz.func86,Tryz.ntmps86
 go_wp2_with fail
 refine wp_loop_rounds 1 ?_
 rw[rounds_succ];go_wp2
 go_ret
 exact ⟨rfl,rfl⟩
theorem has_2_98 (w:World):Calls pQ 86 #[.string ⟨#[97,98,99]⟩,.int .u8 98] w fun e w'=>e=ρ (β true)∧w=w':=by
 go_enter Tryz.func86,Tryz.ntmps86
 go_wp2_with fail
 refine wp_loop_rounds 2 ?_
 rw[rounds_succ];go_wp2
 rw[rounds_succ];go_wp2
 go_ret
 exact ⟨rfl,rfl⟩
theorem has_2_99 (w:World):Calls pQ 86 #[.string ⟨#[97,98,99]⟩,.int .u8 99] w fun e w'=>e=ρ (β true)∧w=w':=by
 go_enter Tryz.func86,Tryz.ntmps86
 go_wp2_with fail
 refine wp_loop_rounds 3 ?_
 rw[rounds_succ];go_wp2
 rw[rounds_succ];go_wp2
 rw[rounds_succ];go_wp2
 go_ret
 exact ⟨rfl,rfl⟩
theorem has_2_105 (w:World):Calls pQ 86 #[.string ⟨#[97,98,99]⟩,.int .u8 105] w fun e w'=>e=ρ (β false)∧w=w':=by
 go_enter Tryz.func86,Tryz.ntmps86
 go_wp2_with fail
 refine wp_loop_rounds 4 ?_
 rw[rounds_succ];go_wp2
 rw[rounds_succ];go_wp2
 rw[rounds_succ];go_wp2
 rw[rounds_succ];go_wp2
 go_ret
 exact ⟨rfl,rfl⟩
theorem has_3_97 (w:World):Calls pQ 86 #[.string ⟨#[97,98,105]⟩,.int .u8 97] w fun e w'=>e=ρ (β true)∧w=w':=by
 go_enter Tryz.func86,Tryz.ntmps86
 go_wp2_with fail
 refine wp_loop_rounds 1 ?_
 rw[rounds_succ];go_wp2
 go_ret
 exact ⟨rfl,rfl⟩
theorem has_3_98 (w:World):Calls pQ 86 #[.string ⟨#[97,98,105]⟩,.int .u8 98] w fun e w'=>e=ρ (β true)∧w=w':=by
 go_enter Tryz.func86,Tryz.ntmps86
 go_wp2_with fail
 refine wp_loop_rounds 2 ?_
 rw[rounds_succ];go_wp2
 rw[rounds_succ];go_wp2
 go_ret
 exact ⟨rfl,rfl⟩
theorem has_3_99 (w:World):Calls pQ 86 #[.string ⟨#[97,98,105]⟩,.int .u8 99] w fun e w'=>e=ρ (β false)∧w=w':=by
 go_enter Tryz.func86,Tryz.ntmps86
 go_wp2_with fail
 refine wp_loop_rounds 4 ?_
 rw[rounds_succ];go_wp2
 rw[rounds_succ];go_wp2
 rw[rounds_succ];go_wp2
 rw[rounds_succ];go_wp2
 go_ret
 exact ⟨rfl,rfl⟩
theorem has_3_105 (w:World):Calls pQ 86 #[.string ⟨#[97,98,105]⟩,.int .u8 105] w fun e w'=>e=ρ (β true)∧w=w':=by
 go_enter Tryz.func86,Tryz.ntmps86
 go_wp2_with fail
 refine wp_loop_rounds 3 ?_
 rw[rounds_succ];go_wp2
 rw[rounds_succ];go_wp2
 rw[rounds_succ];go_wp2
 go_ret
 exact ⟨rfl,rfl⟩
theorem has_4_97 (w:World):Calls pQ 86 #[.string ⟨#[105]⟩,.int .u8 97] w fun e w'=>e=ρ (β false)∧w=w':=by
 go_enter Tryz.func86,Tryz.ntmps86
 go_wp2_with fail
 refine wp_loop_rounds 2 ?_
 rw[rounds_succ];go_wp2
 rw[rounds_succ];go_wp2
 go_ret
 exact ⟨rfl,rfl⟩
theorem has_4_98 (w:World):Calls pQ 86 #[.string ⟨#[105]⟩,.int .u8 98] w fun e w'=>e=ρ (β false)∧w=w':=by
 go_enter Tryz.func86,Tryz.ntmps86
 go_wp2_with fail
 refine wp_loop_rounds 2 ?_
 rw[rounds_succ];go_wp2
 rw[rounds_succ];go_wp2
 go_ret
 exact ⟨rfl,rfl⟩
theorem has_4_99 (w:World):Calls pQ 86 #[.string ⟨#[105]⟩,.int .u8 99] w fun e w'=>e=ρ (β false)∧w=w':=by
 go_enter Tryz.func86,Tryz.ntmps86
 go_wp2_with fail
 refine wp_loop_rounds 2 ?_
 rw[rounds_succ];go_wp2
 rw[rounds_succ];go_wp2
 go_ret
 exact ⟨rfl,rfl⟩
theorem has_4_105 (w:World):Calls pQ 86 #[.string ⟨#[105]⟩,.int .u8 105] w fun e w'=>e=ρ (β true)∧w=w':=by
 go_enter Tryz.func86,Tryz.ntmps86
 go_wp2_with fail
 refine wp_loop_rounds 1 ?_
 rw[rounds_succ];go_wp2
 go_ret
 exact ⟨rfl,rfl⟩
theorem has_5_97 (w:World):Calls pQ 86 #[.string ⟨#[98]⟩,.int .u8 97] w fun e w'=>e=ρ (β false)∧w=w':=by
 go_enter Tryz.func86,Tryz.ntmps86
 go_wp2_with fail
 refine wp_loop_rounds 2 ?_
 rw[rounds_succ];go_wp2
 rw[rounds_succ];go_wp2
 go_ret
 exact ⟨rfl,rfl⟩
theorem has_5_98 (w:World):Calls pQ 86 #[.string ⟨#[98]⟩,.int .u8 98] w fun e w'=>e=ρ (β true)∧w=w':=by
 go_enter Tryz.func86,Tryz.ntmps86
 go_wp2_with fail
 refine wp_loop_rounds 1 ?_
 rw[rounds_succ];go_wp2
 go_ret
 exact ⟨rfl,rfl⟩
theorem has_5_99 (w:World):Calls pQ 86 #[.string ⟨#[98]⟩,.int .u8 99] w fun e w'=>e=ρ (β false)∧w=w':=by
 go_enter Tryz.func86,Tryz.ntmps86
 go_wp2_with fail
 refine wp_loop_rounds 2 ?_
 rw[rounds_succ];go_wp2
 rw[rounds_succ];go_wp2
 go_ret
 exact ⟨rfl,rfl⟩
theorem has_5_105 (w:World):Calls pQ 86 #[.string ⟨#[98]⟩,.int .u8 105] w fun e w'=>e=ρ (β false)∧w=w':=by
 go_enter Tryz.func86,Tryz.ntmps86
 go_wp2_with fail
 refine wp_loop_rounds 2 ?_
 rw[rounds_succ];go_wp2
 rw[rounds_succ];go_wp2
 go_ret
 exact ⟨rfl,rfl⟩
theorem has_6_97 (w:World):Calls pQ 86 #[.string ⟨#[98,105]⟩,.int .u8 97] w fun e w'=>e=ρ (β false)∧w=w':=by
 go_enter Tryz.func86,Tryz.ntmps86
 go_wp2_with fail
 refine wp_loop_rounds 3 ?_
 rw[rounds_succ];go_wp2
 rw[rounds_succ];go_wp2
 rw[rounds_succ];go_wp2
 go_ret
 exact ⟨rfl,rfl⟩
theorem has_6_98 (w:World):Calls pQ 86 #[.string ⟨#[98,105]⟩,.int .u8 98] w fun e w'=>e=ρ (β true)∧w=w':=by
 go_enter Tryz.func86,Tryz.ntmps86
 go_wp2_with fail
 refine wp_loop_rounds 1 ?_
 rw[rounds_succ];go_wp2
 go_ret
 exact ⟨rfl,rfl⟩
theorem has_6_99 (w:World):Calls pQ 86 #[.string ⟨#[98,105]⟩,.int .u8 99] w fun e w'=>e=ρ (β false)∧w=w':=by
 go_enter Tryz.func86,Tryz.ntmps86
 go_wp2_with fail
 refine wp_loop_rounds 3 ?_
 rw[rounds_succ];go_wp2
 rw[rounds_succ];go_wp2
 rw[rounds_succ];go_wp2
 go_ret
 exact ⟨rfl,rfl⟩
theorem has_6_105 (w:World):Calls pQ 86 #[.string ⟨#[98,105]⟩,.int .u8 105] w fun e w'=>e=ρ (β true)∧w=w':=by
 go_enter Tryz.func86,Tryz.ntmps86
 go_wp2_with fail
 refine wp_loop_rounds 2 ?_
 rw[rounds_succ];go_wp2
 rw[rounds_succ];go_wp2
 go_ret
 exact ⟨rfl,rfl⟩
theorem has_7_97 (w:World):Calls pQ 86 #[.string ⟨#[97]⟩,.int .u8 97] w fun e w'=>e=ρ (β true)∧w=w':=by
 go_enter Tryz.func86,Tryz.ntmps86
 go_wp2_with fail
 refine wp_loop_rounds 1 ?_
 rw[rounds_succ];go_wp2
 go_ret
 exact ⟨rfl,rfl⟩
theorem has_7_98 (w:World):Calls pQ 86 #[.string ⟨#[97]⟩,.int .u8 98] w fun e w'=>e=ρ (β false)∧w=w':=by
 go_enter Tryz.func86,Tryz.ntmps86
 go_wp2_with fail
 refine wp_loop_rounds 2 ?_
 rw[rounds_succ];go_wp2
 rw[rounds_succ];go_wp2
 go_ret
 exact ⟨rfl,rfl⟩
theorem has_7_99 (w:World):Calls pQ 86 #[.string ⟨#[97]⟩,.int .u8 99] w fun e w'=>e=ρ (β false)∧w=w':=by
 go_enter Tryz.func86,Tryz.ntmps86
 go_wp2_with fail
 refine wp_loop_rounds 2 ?_
 rw[rounds_succ];go_wp2
 rw[rounds_succ];go_wp2
 go_ret
 exact ⟨rfl,rfl⟩
theorem has_7_105 (w:World):Calls pQ 86 #[.string ⟨#[97]⟩,.int .u8 105] w fun e w'=>e=ρ (β false)∧w=w':=by
 go_enter Tryz.func86,Tryz.ntmps86
 go_wp2_with fail
 refine wp_loop_rounds 2 ?_
 rw[rounds_succ];go_wp2
 rw[rounds_succ];go_wp2
 go_ret
 exact ⟨rfl,rfl⟩
theorem has_8_97 (w:World):Calls pQ 86 #[.string ⟨#[45]⟩,.int .u8 97] w fun e w'=>e=ρ (β false)∧w=w':=by
 go_enter Tryz.func86,Tryz.ntmps86
 go_wp2_with fail
 refine wp_loop_rounds 2 ?_
 rw[rounds_succ];go_wp2
 rw[rounds_succ];go_wp2
 go_ret
 exact ⟨rfl,rfl⟩
theorem has_8_98 (w:World):Calls pQ 86 #[.string ⟨#[45]⟩,.int .u8 98] w fun e w'=>e=ρ (β false)∧w=w':=by
 go_enter Tryz.func86,Tryz.ntmps86
 go_wp2_with fail
 refine wp_loop_rounds 2 ?_
 rw[rounds_succ];go_wp2
 rw[rounds_succ];go_wp2
 go_ret
 exact ⟨rfl,rfl⟩
theorem has_8_99 (w:World):Calls pQ 86 #[.string ⟨#[45]⟩,.int .u8 99] w fun e w'=>e=ρ (β false)∧w=w':=by
 go_enter Tryz.func86,Tryz.ntmps86
 go_wp2_with fail
 refine wp_loop_rounds 2 ?_
 rw[rounds_succ];go_wp2
 rw[rounds_succ];go_wp2
 go_ret
 exact ⟨rfl,rfl⟩
theorem has_8_105 (w:World):Calls pQ 86 #[.string ⟨#[45]⟩,.int .u8 105] w fun e w'=>e=ρ (β false)∧w=w':=by
 go_enter Tryz.func86,Tryz.ntmps86
 go_wp2_with fail
 refine wp_loop_rounds 2 ?_
 rw[rounds_succ];go_wp2
 rw[rounds_succ];go_wp2
 go_ret
 exact ⟨rfl,rfl⟩
theorem i_has_any (k c:Nat) (hk:k<9) (hc:c=97∨c=98∨c=99∨c=105) (w:World):Calls pQ 86 #[.string (fs k),.int .u8 (c:Int)] w fun e w'=>e=ρ (β (hasC k c))∧w=w':=by
 have hk':k=0∨k=1∨k=2∨k=3∨k=4∨k=5∨k=6∨k=7∨k=8:=by omega
 rcases hk' with rfl | rfl | rfl | rfl | rfl | rfl | rfl | rfl | rfl
 ·rcases hc with rfl | rfl | rfl | rfl
  ·exact has_0_97 w
  ·exact has_0_98 w
  ·exact has_0_99 w
  ·exact has_0_105 w
 ·rcases hc with rfl | rfl | rfl | rfl
  ·exact has_1_97 w
  ·exact has_1_98 w
  ·exact has_1_99 w
  ·exact has_1_105 w
 ·rcases hc with rfl | rfl | rfl | rfl
  ·exact has_2_97 w
  ·exact has_2_98 w
  ·exact has_2_99 w
  ·exact has_2_105 w
 ·rcases hc with rfl | rfl | rfl | rfl
  ·exact has_3_97 w
  ·exact has_3_98 w
  ·exact has_3_99 w
  ·exact has_3_105 w
 ·rcases hc with rfl | rfl | rfl | rfl
  ·exact has_4_97 w
  ·exact has_4_98 w
  ·exact has_4_99 w
  ·exact has_4_105 w
 ·rcases hc with rfl | rfl | rfl | rfl
  ·exact has_5_97 w
  ·exact has_5_98 w
  ·exact has_5_99 w
  ·exact has_5_105 w
 ·rcases hc with rfl | rfl | rfl | rfl
  ·exact has_6_97 w
  ·exact has_6_98 w
  ·exact has_6_99 w
  ·exact has_6_105 w
 ·rcases hc with rfl | rfl | rfl | rfl
  ·exact has_7_97 w
  ·exact has_7_98 w
  ·exact has_7_99 w
  ·exact has_7_105 w
 ·rcases hc with rfl | rfl | rfl | rfl
  ·exact has_8_97 w
  ·exact has_8_98 w
  ·exact has_8_99 w
  ·exact has_8_105 w
theorem s9 (k c:Nat) (hk:k<9) (hc:c=97∨c=98∨c=99∨c=105) (n m:Int) (w:World):Calls pQ 144 #[.string (fs k),.int .u8 (c:Int),U κ n,U κ m] w fun e w'=>e=ρ (β (fld (hasC k c) n m))∧w=w':=by
 have H:=i_has_any k c hk hc w
 unfold fld
 cases h:hasC k c
 ·rw[h] at H
  go_enter Tryz.func144,Tryz.ntmps144
  go_wp2_with (go_at_call 86;refine H.mono ?_;rintro e w1 ⟨rfl,rfl⟩;clear H)
  go_ret
  exact ⟨rfl,rfl⟩
 ·rw[h] at H
  by_cases h0:0≤n
  ·have t1:decide (0≤n)=true:=by simpa using h0
   rw[t1]
   go_enter Tryz.func144,Tryz.ntmps144
   go_wp2_with (go_at_call 86;refine H.mono ?_;rintro e w1 ⟨rfl,rfl⟩;clear H)
   go_ret
   exact ⟨jk (by simp),rfl⟩
  ·have t1:decide (0≤n)=false:=by simpa using h0
   rw[t1]
   go_enter Tryz.func144,Tryz.ntmps144
   go_wp2_with (go_at_call 86;refine H.mono ?_;rintro e w1 ⟨rfl,rfl⟩;clear H)
   go_ret
   exact ⟨rfl,rfl⟩
theorem fa_A (k:Nat) (hk:k<9) (n:Int) (w:World):Calls pQ 144 #[.string (fs k),.int .u8 97,U κ n,U κ 15] w fun e w'=>e=ρ (β (fld (hA k) n 15))∧w=w':=by
 have:=s9 k 97 hk (by omega) n 15 w
 rwa [show hasC k 97=hA k from(vh k hk).1] at this
theorem fa_B (k:Nat) (hk:k<9) (n:Int) (w:World):Calls pQ 144 #[.string (fs k),.int .u8 98,U κ n,U κ 15] w fun e w'=>e=ρ (β (fld (hB k) n 15))∧w=w':=by
 have:=s9 k 98 hk (by omega) n 15 w
 rwa [show hasC k 98=hB k from(vh k hk).2.1] at this
theorem fa_C (k:Nat) (hk:k<9) (n:Int) (w:World):Calls pQ 144 #[.string (fs k),.int .u8 99,U κ n,U κ 15] w fun e w'=>e=ρ (β (fld (hC k) n 15))∧w=w':=by
 have:=s9 k 99 hk (by omega) n 15 w
 rwa [show hasC k 99=hC k from(vh k hk).2.2.1] at this
theorem fa_I (k:Nat) (hk:k<9) (n:Int) (w:World):Calls pQ 144 #[.string (fs k),.int .u8 105,U κ n,U κ 65535] w fun e w'=>e=ρ (β (fld (hI k) n 65535))∧w=w':=by
 have:=s9 k 105 hk (by omega) n 65535 w
 rwa [show hasC k 105=hI k from(vh k hk).2.2.2] at this
theorem has_C (k:Nat) (hk:k<9) (w:World):Calls pQ 86 #[.string (fs k),.int .u8 99] w fun e w'=>e=ρ (β (hC k))∧w=w':=by
 have:=i_has_any k 99 hk (by omega) w
 rwa [show hasC k 99=hC k from(vh k hk).2.2.1] at this
theorem vo (o a b c i:Int) (w:World) :
  Calls pQ 128 #[.agg #[U κ o,U κ a,U κ b,U κ c,U κ i]] w fun e w'=>e=ρ (β (ge o a b c i))∧Fr bg w w':=by
 have f0:=(Fr.refl bg w).alloc (ω (jw o a b c i) 69)
 have hk:kf o<9:=by have:=kf_le o;omega
 have hz:(fs (kf o)).toList.isEmpty=(kf o == 0):=by
  cases h:(kf o == 0)
  ·exact fs_ne hk (by simpa using h)
  ·rw[show kf o=0 by simpa using h];decide +kernel
 unfold jw at f0
 unfold ge
 rw[show(kf o != 0)=!(kf o == 0) from rfl]
 have KA:=fa_A (kf o) hk a
 have KB:=fa_B (kf o) hk b
 have KC:=fa_C (kf o) hk c
 have KI:=fa_I (kf o) hk i
 have KK:=px o
 generalize (kf o == 0)=z at *
 generalize fld (hA (kf o)) a 15=pa at *
 generalize fld (hB (kf o)) b 15=pb at *
 generalize fld (hC (kf o)) c 15=pc at *
 generalize fld (hI (kf o)) i 65535=pi at *
 clear hk
 go_enter Tryz.func128,Tryz.ntmps128
 go_wp2_with (first
  | (go_at_call 85;refine(KK _).mono ?_;rintro e w1 ⟨rfl,rfl⟩;clear KK)
  | (go_at_call 144;refine(KA _).mono ?_;rintro e w1 ⟨rfl,rfl⟩;clear KA)
  | (go_at_call 144;refine(KB _).mono ?_;rintro e w1 ⟨rfl,rfl⟩;clear KB)
  | (go_at_call 144;refine(KC _).mono ?_;rintro e w1 ⟨rfl,rfl⟩;clear KC)
  | (go_at_call 144;refine(KI _).mono ?_;rintro e w1 ⟨rfl,rfl⟩;clear KI))
 all_goals go_ret
 all_goals exact ⟨jk (by simp_all),f0⟩
theorem qv (o a b c i:Int) (w:World) :
  Calls pQ 87 #[.agg #[U κ o,U κ a,U κ b,U κ c,U κ i]] w fun e w'=>e=ρ (τ #[U μ (kp o a b c i),U κ (mb o a b c i)])∧Fr bg w w':=by
 have f0:=(Fr.refl bg w).alloc (ω (jw o a b c i) 69)
 have r0:=ba w (jw o a b c i) 69
 unfold jw at f0
 unfold kp mb
 cases h:ge o a b c i
 ·go_enter Tryz.func87,Tryz.ntmps87
  go_wp2_with fail
  refine(vo _ _ _ _ _ _).mono ?_
  rintro e w1 ⟨rfl,f1⟩
  rw[h]
  replace f0:=f0.trans f1
  clear f1
  go_wp2
  go_ret2
  exact ⟨rfl,f0⟩
 ·obtain ⟨⟨h1,h1'⟩,⟨h2,h2'⟩,⟨h3,h3'⟩,⟨h4,h4'⟩,⟨h5,h5'⟩,h6⟩:=kw h
  clear h6
  go_enter Tryz.func87,Tryz.ntmps87
  go_wp2_with fail
  refine(vo _ _ _ _ _ _).mono ?_
  rintro e w1 ⟨rfl,f1⟩
  rw[h]
  obtain ⟨c0,c1,c2,c3,c4⟩:=dg (r0.keep f1 (fun h=>h))
  replace f0:=f0.trans f1
  clear f1 r0 h
  go_wp2_with fail
  go_ret2
  exact ⟨ret_ue (by simp[mg];try omega) rfl,f0⟩
theorem wg {k:Nat} (hk:k<9) {z:Bool} (h:hC k=z) (w:World):Calls pQ 86 #[.string (fs k),.int .u8 99] w fun e w'=>e=ρ (β z)∧w=w':=by
 have:=has_C k hk w
 rwa [h] at this
theorem rdec_true_true (x:Nat) (w:World) (hx:x<4294967296) (hz:hC (kf (qo x))=true) (hd:dp x=true) :
  Calls pQ 31 #[U μ (x:Int)] w fun e w'=>e=ρ (τ #[.agg #[U κ (dOp x),U κ (dA x),U κ (dB x),U κ (dC x),U κ (dI x)],U κ (dE x)])∧Fr bg w w':=by
 have hk:kf (qo x)<9:=by have:=kf_le (qo x);omega
 have hc:rc x=((x:Int)%65536):=by simp[rc,hz]
 have hi:ri x=0:=by simp[ri,hz]
 have hr:ge (qo x) (ra x) (rb x) (rc x) (ri x)=true:=(raw_ok x).trans hd
 have hw:=we x
 have Z:Hid (dOp x=(x:Int) / 16777216∧dA x=(x:Int) / 1048576%16∧dB x=(x:Int) / 65536%16∧dC x=((x:Int)%65536)∧dI x=0∧dE x=0):=by
  unfold dOp dA dB dC dI dE
  rw[hd]
  obtain ⟨g1,g2,g3,g4⟩:=xj x hr
  rw[hc] at g3
  rw[hi] at g4
  exact ⟨rfl,g1.symm,g2.symm,g3.symm,g4.symm,rfl⟩
 have hW:kp ((x:Int) / 16777216) ((x:Int) / 1048576%16) ((x:Int) / 65536%16) ((x:Int)%65536) 0=x:=by
  rw[hc,hi] at hr hw
  unfold kp
  rw[show ge ((x:Int) / 16777216) ((x:Int) / 1048576%16) ((x:Int) / 65536%16) ((x:Int)%65536) 0=true from hr]
  exact hw
 have hE:mb ((x:Int) / 16777216) ((x:Int) / 1048576%16) ((x:Int) / 65536%16) ((x:Int)%65536) 0=0:=by
  rw[hc,hi] at hr
  unfold mb
  rw[show ge ((x:Int) / 16777216) ((x:Int) / 1048576%16) ((x:Int) / 65536%16) ((x:Int)%65536) 0=true from hr]
  rfl
 have KK:=px ((x:Int) / 16777216)
 have KH:=wg hk hz
 unfold qo at KH
 have f0:=((Fr.refl bg w).alloc (ω (jw 0 0 0 0 0) 69)).alloc (ω (jw ((x:Int) / 16777216) ((x:Int) / 1048576%16) ((x:Int) / 65536%16) ((x:Int)%65536) 0) 69)
 have r0:=(ba w (jw 0 0 0 0 0) 69).alloc (ω (jw ((x:Int) / 16777216) ((x:Int) / 1048576%16) ((x:Int) / 65536%16) ((x:Int)%65536) 0) 69)
 have q0:=ba (w.alloc (ω (jw 0 0 0 0 0) 69)) (jw ((x:Int) / 16777216) ((x:Int) / 1048576%16) ((x:Int) / 65536%16) ((x:Int)%65536) 0) 69
 rw[show(w.alloc (ω (jw 0 0 0 0 0) 69)).heap.size=w.heap.size+1 by simp] at q0
 unfold jw at f0
 clear hc hi hr hw hk hz hd
 go_enter Tryz.func31,Tryz.ntmps31
 go_wp2_with (first
  | (go_at_call 85;refine(KK _).mono ?_;rintro e w1 ⟨rfl,rfl⟩;clear KK)
  | (go_at_call 86;refine(KH _).mono ?_;rintro e w1 ⟨rfl,rfl⟩;clear KH))
 refine(qv _ _ _ _ _ _).mono ?_
 rintro e w2 ⟨rfl,f2⟩
 rw[hE,hW]
 clear hE hW
 replace r0:=r0.keep f2 (fun h=>h)
 replace q0:=q0.keep f2 (fun h=>h)
 replace f0:=f0.trans f2
 clear f2
 obtain ⟨c0,c1,c2,c3,c4⟩:=dg r0
 obtain ⟨k0,k1,k2,k3,k4⟩:=ka r0
 obtain ⟨d0,d1,d2,d3,d4⟩:=dg q0
 go_wp2_with fail
 refine bodyPost_ret (kd rfl rfl (ny r0) rfl) rfl ?_
 obtain ⟨z0,z1,z2,z3,z4,z5⟩:=Z.out
 rw[z0,z1,z2,z3,z4,z5]
 exact ⟨rfl,sk _ _ _ _ _ f0 (Or.inl (Nat.le_refl _))⟩
theorem xg (x:Nat) (w:World) (hx:x<4294967296) (hz:hC (kf (qo x))=true) (hd:dp x=false) :
  Calls pQ 31 #[U μ (x:Int)] w fun e w'=>e=ρ (τ #[.agg #[U κ (dOp x),U κ (dA x),U κ (dB x),U κ (dC x),U κ (dI x)],U κ (dE x)])∧Fr bg w w':=by
 have hk:kf (qo x)<9:=by have:=kf_le (qo x);omega
 have hc:rc x=((x:Int)%65536):=by simp[rc,hz]
 have hi:ri x=0:=by simp[ri,hz]
 have hr:ge (qo x) (ra x) (rb x) (rc x) (ri x)=false:=(raw_ok x).trans hd
 have Z:Hid (dOp x=0∧dA x=0∧dB x=0∧dC x=0∧dI x=0∧dE x=50):=by
  unfold dOp dA dB dC dI dE
  rw[hd]
  exact ⟨rfl,rfl,rfl,rfl,rfl,rfl⟩
 have hW:kp ((x:Int) / 16777216) ((x:Int) / 1048576%16) ((x:Int) / 65536%16) ((x:Int)%65536) 0=0:=by
  rw[hc,hi] at hr
  unfold kp
  rw[show ge ((x:Int) / 16777216) ((x:Int) / 1048576%16) ((x:Int) / 65536%16) ((x:Int)%65536) 0=false from hr]
  rfl
 have hE:mb ((x:Int) / 16777216) ((x:Int) / 1048576%16) ((x:Int) / 65536%16) ((x:Int)%65536) 0=50:=by
  rw[hc,hi] at hr
  unfold mb
  rw[show ge ((x:Int) / 16777216) ((x:Int) / 1048576%16) ((x:Int) / 65536%16) ((x:Int)%65536) 0=false from hr]
  rfl
 have KK:=px ((x:Int) / 16777216)
 have KH:=wg hk hz
 unfold qo at KH
 have f0:=((Fr.refl bg w).alloc (ω (jw 0 0 0 0 0) 69)).alloc (ω (jw ((x:Int) / 16777216) ((x:Int) / 1048576%16) ((x:Int) / 65536%16) ((x:Int)%65536) 0) 69)
 have r0:=(ba w (jw 0 0 0 0 0) 69).alloc (ω (jw ((x:Int) / 16777216) ((x:Int) / 1048576%16) ((x:Int) / 65536%16) ((x:Int)%65536) 0) 69)
 have q0:=ba (w.alloc (ω (jw 0 0 0 0 0) 69)) (jw ((x:Int) / 16777216) ((x:Int) / 1048576%16) ((x:Int) / 65536%16) ((x:Int)%65536) 0) 69
 rw[show(w.alloc (ω (jw 0 0 0 0 0) 69)).heap.size=w.heap.size+1 by simp] at q0
 unfold jw at f0
 clear hc hi hr hk hz hd
 go_enter Tryz.func31,Tryz.ntmps31
 go_wp2_with (first
  | (go_at_call 85;refine(KK _).mono ?_;rintro e w1 ⟨rfl,rfl⟩;clear KK)
  | (go_at_call 86;refine(KH _).mono ?_;rintro e w1 ⟨rfl,rfl⟩;clear KH))
 refine(qv _ _ _ _ _ _).mono ?_
 rintro e w2 ⟨rfl,f2⟩
 rw[hE,hW]
 clear hE hW
 replace r0:=r0.keep f2 (fun h=>h)
 replace q0:=q0.keep f2 (fun h=>h)
 replace f0:=f0.trans f2
 clear f2
 obtain ⟨c0,c1,c2,c3,c4⟩:=dg r0
 obtain ⟨k0,k1,k2,k3,k4⟩:=ka r0
 obtain ⟨d0,d1,d2,d3,d4⟩:=dg q0
 go_wp2_with fail
 refine bodyPost_ret (kd rfl rfl (ny r0) rfl) rfl ?_
 obtain ⟨z0,z1,z2,z3,z4,z5⟩:=Z.out
 rw[z0,z1,z2,z3,z4,z5]
 exact ⟨rfl,sk _ _ _ _ _ f0 (Or.inl (Nat.le_refl _))⟩
theorem xh (x:Nat) (w:World) (hx:x<4294967296) (hz:hC (kf (qo x))=false) (hd:dp x=true) :
  Calls pQ 31 #[U μ (x:Int)] w fun e w'=>e=ρ (τ #[.agg #[U κ (dOp x),U κ (dA x),U κ (dB x),U κ (dC x),U κ (dI x)],U κ (dE x)])∧Fr bg w w':=by
 have hk:kf (qo x)<9:=by have:=kf_le (qo x);omega
 have hc:rc x=0:=by simp[rc,hz]
 have hi:ri x=((x:Int)%65536):=by simp[ri,hz]
 have hr:ge (qo x) (ra x) (rb x) (rc x) (ri x)=true:=(raw_ok x).trans hd
 have hw:=we x
 have Z:Hid (dOp x=(x:Int) / 16777216∧dA x=(x:Int) / 1048576%16∧dB x=(x:Int) / 65536%16∧dC x=0∧dI x=((x:Int)%65536)∧dE x=0):=by
  unfold dOp dA dB dC dI dE
  rw[hd]
  obtain ⟨g1,g2,g3,g4⟩:=xj x hr
  rw[hc] at g3
  rw[hi] at g4
  exact ⟨rfl,g1.symm,g2.symm,g3.symm,g4.symm,rfl⟩
 have hW:kp ((x:Int) / 16777216) ((x:Int) / 1048576%16) ((x:Int) / 65536%16) 0 ((x:Int)%65536)=x:=by
  rw[hc,hi] at hr hw
  unfold kp
  rw[show ge ((x:Int) / 16777216) ((x:Int) / 1048576%16) ((x:Int) / 65536%16) 0 ((x:Int)%65536)=true from hr]
  exact hw
 have hE:mb ((x:Int) / 16777216) ((x:Int) / 1048576%16) ((x:Int) / 65536%16) 0 ((x:Int)%65536)=0:=by
  rw[hc,hi] at hr
  unfold mb
  rw[show ge ((x:Int) / 16777216) ((x:Int) / 1048576%16) ((x:Int) / 65536%16) 0 ((x:Int)%65536)=true from hr]
  rfl
 have KK:=px ((x:Int) / 16777216)
 have KH:=wg hk hz
 unfold qo at KH
 have f0:=((Fr.refl bg w).alloc (ω (jw 0 0 0 0 0) 69)).alloc (ω (jw ((x:Int) / 16777216) ((x:Int) / 1048576%16) ((x:Int) / 65536%16) 0 ((x:Int)%65536)) 69)
 have r0:=(ba w (jw 0 0 0 0 0) 69).alloc (ω (jw ((x:Int) / 16777216) ((x:Int) / 1048576%16) ((x:Int) / 65536%16) 0 ((x:Int)%65536)) 69)
 have q0:=ba (w.alloc (ω (jw 0 0 0 0 0) 69)) (jw ((x:Int) / 16777216) ((x:Int) / 1048576%16) ((x:Int) / 65536%16) 0 ((x:Int)%65536)) 69
 rw[show(w.alloc (ω (jw 0 0 0 0 0) 69)).heap.size=w.heap.size+1 by simp] at q0
 unfold jw at f0
 clear hc hi hr hw hk hz hd
 go_enter Tryz.func31,Tryz.ntmps31
 go_wp2_with (first
  | (go_at_call 85;refine(KK _).mono ?_;rintro e w1 ⟨rfl,rfl⟩;clear KK)
  | (go_at_call 86;refine(KH _).mono ?_;rintro e w1 ⟨rfl,rfl⟩;clear KH))
 refine(qv _ _ _ _ _ _).mono ?_
 rintro e w2 ⟨rfl,f2⟩
 rw[hE,hW]
 clear hE hW
 replace r0:=r0.keep f2 (fun h=>h)
 replace q0:=q0.keep f2 (fun h=>h)
 replace f0:=f0.trans f2
 clear f2
 obtain ⟨c0,c1,c2,c3,c4⟩:=dg r0
 obtain ⟨k0,k1,k2,k3,k4⟩:=ka r0
 obtain ⟨d0,d1,d2,d3,d4⟩:=dg q0
 go_wp2_with fail
 refine bodyPost_ret (kd rfl rfl (ny r0) rfl) rfl ?_
 obtain ⟨z0,z1,z2,z3,z4,z5⟩:=Z.out
 rw[z0,z1,z2,z3,z4,z5]
 exact ⟨rfl,sk _ _ _ _ _ f0 (Or.inl (Nat.le_refl _))⟩
theorem vw (x:Nat) (w:World) (hx:x<4294967296) (hz:hC (kf (qo x))=false) (hd:dp x=false) :
  Calls pQ 31 #[U μ (x:Int)] w fun e w'=>e=ρ (τ #[.agg #[U κ (dOp x),U κ (dA x),U κ (dB x),U κ (dC x),U κ (dI x)],U κ (dE x)])∧Fr bg w w':=by
 have hk:kf (qo x)<9:=by have:=kf_le (qo x);omega
 have hc:rc x=0:=by simp[rc,hz]
 have hi:ri x=((x:Int)%65536):=by simp[ri,hz]
 have hr:ge (qo x) (ra x) (rb x) (rc x) (ri x)=false:=(raw_ok x).trans hd
 have Z:Hid (dOp x=0∧dA x=0∧dB x=0∧dC x=0∧dI x=0∧dE x=50):=by
  unfold dOp dA dB dC dI dE
  rw[hd]
  exact ⟨rfl,rfl,rfl,rfl,rfl,rfl⟩
 have hW:kp ((x:Int) / 16777216) ((x:Int) / 1048576%16) ((x:Int) / 65536%16) 0 ((x:Int)%65536)=0:=by
  rw[hc,hi] at hr
  unfold kp
  rw[show ge ((x:Int) / 16777216) ((x:Int) / 1048576%16) ((x:Int) / 65536%16) 0 ((x:Int)%65536)=false from hr]
  rfl
 have hE:mb ((x:Int) / 16777216) ((x:Int) / 1048576%16) ((x:Int) / 65536%16) 0 ((x:Int)%65536)=50:=by
  rw[hc,hi] at hr
  unfold mb
  rw[show ge ((x:Int) / 16777216) ((x:Int) / 1048576%16) ((x:Int) / 65536%16) 0 ((x:Int)%65536)=false from hr]
  rfl
 have KK:=px ((x:Int) / 16777216)
 have KH:=wg hk hz
 unfold qo at KH
 have f0:=((Fr.refl bg w).alloc (ω (jw 0 0 0 0 0) 69)).alloc (ω (jw ((x:Int) / 16777216) ((x:Int) / 1048576%16) ((x:Int) / 65536%16) 0 ((x:Int)%65536)) 69)
 have r0:=(ba w (jw 0 0 0 0 0) 69).alloc (ω (jw ((x:Int) / 16777216) ((x:Int) / 1048576%16) ((x:Int) / 65536%16) 0 ((x:Int)%65536)) 69)
 have q0:=ba (w.alloc (ω (jw 0 0 0 0 0) 69)) (jw ((x:Int) / 16777216) ((x:Int) / 1048576%16) ((x:Int) / 65536%16) 0 ((x:Int)%65536)) 69
 rw[show(w.alloc (ω (jw 0 0 0 0 0) 69)).heap.size=w.heap.size+1 by simp] at q0
 unfold jw at f0
 clear hc hi hr hk hz hd
 go_enter Tryz.func31,Tryz.ntmps31
 go_wp2_with (first
  | (go_at_call 85;refine(KK _).mono ?_;rintro e w1 ⟨rfl,rfl⟩;clear KK)
  | (go_at_call 86;refine(KH _).mono ?_;rintro e w1 ⟨rfl,rfl⟩;clear KH))
 refine(qv _ _ _ _ _ _).mono ?_
 rintro e w2 ⟨rfl,f2⟩
 rw[hE,hW]
 clear hE hW
 replace r0:=r0.keep f2 (fun h=>h)
 replace q0:=q0.keep f2 (fun h=>h)
 replace f0:=f0.trans f2
 clear f2
 obtain ⟨c0,c1,c2,c3,c4⟩:=dg r0
 obtain ⟨k0,k1,k2,k3,k4⟩:=ka r0
 obtain ⟨d0,d1,d2,d3,d4⟩:=dg q0
 go_wp2_with fail
 refine bodyPost_ret (kd rfl rfl (ny r0) rfl) rfl ?_
 obtain ⟨z0,z1,z2,z3,z4,z5⟩:=Z.out
 rw[z0,z1,z2,z3,z4,z5]
 exact ⟨rfl,sk _ _ _ _ _ f0 (Or.inl (Nat.le_refl _))⟩
theorem mn (x:Nat) (w:World) (hx:x<4294967296) :
  Calls pQ 31 #[U μ (x:Int)] w fun e w'=>e=ρ (τ #[.agg #[U κ (dOp x),U κ (dA x),U κ (dB x),U κ (dC x),U κ (dI x)],U κ (dE x)])∧Fr bg w w':=by
 cases hz:hC (kf (qo x)) <;> cases hd:dp x
 ·exact vw x w hx hz hd
 ·exact xh x w hx hz hd
 ·exact xg x w hx hz hd
 ·exact rdec_true_true x w hx hz hd
end Go.Proofs.YtibhbjbpodlpiaaGreat
