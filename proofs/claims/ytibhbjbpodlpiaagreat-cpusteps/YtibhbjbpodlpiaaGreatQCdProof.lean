/-
  Proved: the statement CpuStepsSaid: for every world, every state and every list of acts the law CpuSteps of the Go text returns true, and each argument reads afterwards as it read before. No condition but the form's own.
-/
import Derived.Test.YtibhbjbpodlpiaaGreatQCdW
set_option maxRecDepth 100000
set_option maxHeartbeats 8000000
namespace Go.Proofs.YtibhbjbpodlpiaaGreat
open Go.RowKit
open Go.Value renaming int → U, bool → β, pointer → π, tuple → τ
open Go.IntKind renaming i64 → κ, u32 → μ
open Go.Obj renaming cells → ω
open Go.Ending renaming returned → ρ
open Go.Proofs.Tryz renaming prog → pQ
section
open Go.ChangeShapes Go.WideShapes Go.ChangeAt Go.RowKit Go.Deep
theorem steps_any (w:World) (a0 a1:Option Addr) (len cap len1 cap1:Nat) (g:Bool) (vm se:Int) (P:Nat→Pu) (Q:Nat→Wo) (hl:len≤9223372036854775807) (hl1:len1≤9223372036854775807) (hP:Pus w a0 len P) (hQ:Wos w a1 len1 Q) (c:Cp) (hok:c.Ok) (a2:Option Addr) (len2 cap2:Nat) (hl2:len2≤9223372036854775807) (hA:Acts w a2 len2) :
  Calls pQ 3 #[.agg #[.slice a0 len cap,.slice a1 len1 cap1,β g,U κ vm,U κ se],.agg (cpA c),.slice a2 len2 cap2] w fun e w'=>e=ρ (β true)∧Below w.heap.size w w':=
 (steps_walk w a0 a1 len cap len1 cap1 g vm se P Q hl hl1 hP hQ c hok a2 len2 cap2 hl2 hA).mono fun _ _ ⟨he,hf⟩=>⟨he,hf.below (Nat.le_refl _) (fun _ h=>h.elim)⟩
theorem steps_lifted (os:Os) (started:os.Started) (H:Type) (enc:TypeId×Value→H) :
  ReturnsInHanded {} Tryz.checked os 3 .any (Rows.cpuStepsSpec.pre6 enc pQ Tryz.f3 Rows.cpuStepsRow.domain false) (Rows.cpuStepsSpec.post enc pQ Tryz.f3 false true false false):=by
 refine returnsInHanded_of_change (C:=Tryz.checked) own_knob started (by kernel_rfl) Tryz.func3
  (ChangeSpec.witness6 (enc:=enc) (C:=Tryz.checked) false ⟨#[],#[.agg #[.slice none 0 0,.slice none 0 0,β false,U κ 0,U κ 0],.agg #[U μ 0,U μ 0,U μ 0,U μ 0,U μ 0,U μ 0,U μ 0,U μ 0,U μ 0,U μ 0,U μ 0,U μ 0,U μ 0,U μ 0,U μ 0,U μ 0,U κ 0,U μ 0,U μ 0,U μ 0,U μ 0,U μ 0,U μ 0,U μ 0,U μ 0],.slice none 0 0],[]⟩ 8 (by kernel_rfl) (by kernel_rfl) (by kernel_rfl) (by kernel_rfl)) ?_
 intro W base args ds gs before hval0 hW hcnd _
 have hval:∀ (j:Nat) t v,Tryz.f3.params[j]? = some t→args[j]? = some v→Value.okWide pQ W .any base t v:=hval0
 have hW':=hW
 obtain ⟨p,q,hA0,hV,rfl,hfz,hnd⟩:=hW
 have hA:DataW.TrodAll enc pQ W 0 (fun _=>true) true Tryz.f3.params.toList args.toList ds p:=hA0
 rw[Tryz.params3] at hA hval
 obtain ⟨v0,vs0,d0,ds0,p0,q0,hargs,rfl,rfl,h0,r0⟩:=trodAll_cons hA
 obtain ⟨v1,vs1,d1,ds1,p1,q1,rfl,rfl,rfl,h1,r1⟩:=trodAll_cons r0
 obtain ⟨v2,vs2,d2,ds2,p2,q2,rfl,rfl,rfl,h2,r2⟩:=trodAll_cons r1
 obtain ⟨rfl,rfl,rfl⟩:=trodAll_nil r2
 obtain rfl:args=#[v0,v1,v2]:=by cases args;simp_all
 obtain ⟨rfl,rfl⟩:=trodVars_none hV
 have k0:=h0
 have lt0:∀ x ∈ p0,x.block<W.heap.size:=by obtain ⟨m,hm⟩:=k0;exact DataW.trod_lt m _ _ _ hm
 obtain ⟨a0,a1,len,cap,len1,cap1,gg,vm,se,P,Q,rfl,hl0,hl1,hP,hQ⟩:=world_open (hval 0 25 v0 rfl rfl) h0
 have k1:=h1
 have lt1:∀ x ∈ p1,x.block<W.heap.size:=by obtain ⟨m,hm⟩:=k1;exact DataW.trod_lt m _ _ _ hm
 obtain ⟨c1,rfl,hok1⟩:=cpu_open (hval 1 30 v1 rfl rfl) h1
 have k2:=h2
 have lt2:∀ x ∈ p2,x.block<W.heap.size:=by obtain ⟨m,hm⟩:=k2;exact DataW.trod_lt m _ _ _ hm
 obtain ⟨l2,len2,cap2,rfl⟩:=okWide_slice Tryz.underlying31 (hval 2 31 v2 rfl rfl)
 obtain ⟨hl2,hacts2⟩:len2≤9223372036854775807∧Acts W l2 len2:=by
  obtain ⟨fuel,hf⟩:=h2
  exact acts_open (by simpa [Value.cells] using hf)
 clear hA0 hval0
 refine(steps_any W a0 a1 len cap len1 cap1 gg vm se P Q hl0 hl1 hP hQ c1 hok1 l2 len2 cap2 hl2 hacts2).mono fun e W' ⟨he,bel⟩=>?_
 subst he
 exact ⟨_,rfl,_,_,_,[],_,[],hW',trodAll_mk1 (shut_bool Tryz.underlying4 _),(trodAll_cons_mk (Below.trod laid_out (by kernel_rfl) (of_decide_eq_true (by kernel_rfl)) k0 bel lt0) (trodAll_cons_mk (Below.trod laid_out (by kernel_rfl) (of_decide_eq_true (by kernel_rfl)) k1 bel lt1) (trodAll_cons_mk (Below.trod laid_out (by kernel_rfl) (of_decide_eq_true (by kernel_rfl)) k2 bel lt2) trodAll_mk0))),rfl,bel.frame _,fun h=>by cases h⟩
theorem cpuSteps_holds:Rows.CpuStepsSaid:=
 OpenClaim.holds_of_wide 3 Tryz.f3 rfl rfl rfl rfl rfl rfl rfl ⟨rfl,rfl,rfl,rfl,rfl⟩ rfl rfl rfl rfl rfl (by kernel_rfl) Tryz.func3 (by kernel_rfl)
  (of_decide_eq_true (by kernel_rfl)) (by unfold Func.isWrapper;first | (rw[if_pos (by decide +kernel)];kernel_rfl) | (rw[if_neg (by decide +kernel)];exact ⟨rfl,rfl⟩))
  (fun os started H enc _=>steps_lifted os started H enc)
#print axioms cpuSteps_holds
end
end Go.Proofs.YtibhbjbpodlpiaaGreat
