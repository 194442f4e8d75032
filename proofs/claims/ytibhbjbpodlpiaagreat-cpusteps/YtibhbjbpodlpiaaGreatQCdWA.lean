/-
  Contracts over the translation. No statement is proved here.
-/
import Derived.Test.YtibhbjbpodlpiaaGreatQCdN
import Derived.Test.YtibhbjbpodlpiaaGreatQCdV
set_option maxRecDepth 100000
set_option maxHeartbeats 8000000
namespace Go.Proofs.YtibhbjbpodlpiaaGreat
open Go.RowKit
open Go.Value renaming int → U, bool → β, pointer → π, tuple → τ
open Go.IntKind renaming i64 → κ, u32 → μ
open Go.Obj renaming cells → ω
open Go.Ending renaming returned → ρ
open Go.Proofs.Tryz renaming prog → pQ
section
open Go.RowKit
theorem Run_all (w:World) (B:Bm) (nf:Nat) (M:Mc) (c:Cp) (hok:c.Ok) (vm se many:Int) (hM:IsMc w B nf M) {n0:Nat} (hm:M.few n0) (hn0:n0≤900000) :
  Calls pQ 8 #[.agg #[π (some ⟨B.p,0,none⟩),π (some ⟨B.bt,0,none⟩),gu (B.v.map Bk.b)],.agg (cpA c),U κ vm,U κ se,U κ many] w fun e w'=>∃ k M' c' T,e=ρ (τ #[.agg (cpA c'),.agg (trL T),U κ (k:Nat)])∧Fr B.s w w'∧IsMc w' B nf M'∧Ran nf M c vm se (min many 1000).toNat k M' c' T∧c'.Ok:=by
 by_cases h1:many<0
 ·have e0:(min many 1000).toNat=0:=by omega
  rw[e0]
  refine(Run_neg w B nf M c hok vm se many h1 hM).mono ?_
  rintro e w' ⟨rfl,f,m⟩
  exact ⟨0,M,c,_root_.Go.Proofs.YtibhbjbpodlpiaaGreat.t0,rfl,f,m,⟨fun j hj=>absurd hj (Nat.not_lt_zero j),Or.inl ⟨rfl,rfl,rfl,rfl⟩⟩,hok⟩
 ·by_cases h2:1000<many
  ·have e0:(min many 1000).toNat=1000:=by omega
   rw[e0]
   exact Run_pos w B nf M c hok vm se many 1000 (Or.inr ⟨h2,rfl⟩) hM hm hn0
  ·obtain ⟨m,rfl⟩:∃ m:Nat,many=(m:Int):=⟨many.toNat,by omega⟩
   have e0:(min (m:Int) 1000).toNat=m:=by omega
   rw[e0]
   exact Run_pos w B nf M c hok vm se m m (Or.inl ⟨rfl,by omega⟩) hM hm hn0
theorem Ran.seq {nf:Nat} {M:Mc} {c:Cp} {vm se:Int} {many k:Nat} {M':Mc} {c':Cp} {T:Tr} (h:Ran nf M c vm se many k M' c' T):∃ j,j≤many∧M'=(mz nf M c vm se j).1∧c'=(mz nf M c vm se j).2:=by
 rcases h.2 with ⟨h1,h2,h3,_⟩ | ⟨h1,_,h2,h3,_⟩
 ·exact ⟨k,by omega,h2,h3⟩
 ·exact ⟨k+1,by omega,h2,h3⟩
def evM (M:Mc) (i:Int):Mc:={ M with T:=evT M.T i }
theorem bm_g {B:Bm} {b:Bk} (h:B.v=some b) {k:Nat} (e:b.s k):B.g k:=by
 simp only[Bm.g,h]
 exact e
theorem IsBo.dn {w:World} {n:Nat} {O:Bo} {M:Mc} (h:IsBo w n O M):∀ k,O.D.y k→n≤k∧k<w.heap.size:=fun k hk=>⟨by
 obtain ⟨h1,h2,h3,h4⟩:=h.newr
 rcases hk with(e | e | e) | e
 ·rw[e];exact h2
 ·rw[e];exact h3
 ·exact h4 k e
 ·rw[e];exact h1,h.d.lt k hk⟩
theorem IsBo.dap {w:World} {n:Nat} {O:Bo} {M:Mc} (h:IsBo w n O M):∀ k,(O.B.s k∨k=O.B.p)→¬ O.D.y k:=fun k hk e=>by
 obtain ⟨h1,h2,h3,h4⟩:=h.ap k hk
 rcases e with(e | e | e) | e
 ·exact h2 e
 ·exact h3 e
 ·exact h4 k e rfl
 ·exact h1 e
structure Cs (w wr:World) (gx gc g8 gd:Nat) (X:Array Value) (O:Bo) (M M':Mc) (c d:Cp):Prop where
 f:Fr bg w wr
 rx:Row wr gx X 25
 rc:Row wr gc (cpA c) 30
 rd:Row wr gd (cpA d) 30
 r8:Row wr g8 O.a 44
 m:IsMc wr O.B 16 M
 r:IsMd wr O.D 16 M'
 s:∀ k,(O.B.s k∨k=O.B.p)→gc<k∧k<g8
 t:∀ k,O.D.y k→gc<k∧k<g8
 ap:∀ k,(O.B.s k∨k=O.B.p)→¬ O.D.y k
 g:w.heap.size≤gx∧gx<gc∧gc<g8∧g8<gd
section
variable {w wr wr':World} {gx gc g8 gd:Nat} {X:Array Value} {O:Bo} {M M' M2:Mc} {c d c2:Cp}
theorem Cs.keep0 (h:Cs w wr gx gc g8 gd X O M M' c d) (k:Fr bg wr wr'):Cs w wr' gx gc g8 gd X O M M' c d:=
 ⟨h.f.trans k,h.rx.keep k (fun h=>h),h.rc.keep k (fun h=>h),h.rd.keep k (fun h=>h),h.r8.keep k (fun h=>h),h.m.keep0 k,h.r.keep0 k,h.s,h.t,h.ap,h.g⟩
theorem Cs.runP (h:Cs w wr gx gc g8 gd X O M M' c d) (k:Fr O.B.s wr wr') (m:IsMc wr' O.B 16 M2):Cs w wr' gx gc g8 gd X O M2 M' c d:=by
 obtain ⟨h1,h2,h3,h4⟩:=h.g
 have n:∀ j,j≤gc∨g8≤j→¬ O.B.s j:=fun j hj e=>by have:=h.s j (Or.inl e);omega
 exact ⟨fr_far h.f k (fun j e=>by have:=h.s j (Or.inl e);omega),h.rx.keep k (n _ (by omega)),h.rc.keep k (n _ (by omega)),h.rd.keep k (n _ (by omega)),h.r8.keep k (n _ (by omega)),m,h.r.keep k (fun j hj e=>h.ap j (Or.inl e) hj),h.s,h.t,h.ap,h.g⟩
theorem Cs.runD (h:Cs w wr gx gc g8 gd X O M M' c d) (k:Fr O.D.s wr wr') (m:IsMd wr' O.D 16 M2):Cs w wr' gx gc g8 gd X O M M2 c d:=by
 obtain ⟨h1,h2,h3,h4⟩:=h.g
 have n:∀ j,j≤gc∨g8≤j→¬ O.D.s j:=fun j hj e=>by have:=h.t j (Or.inl e);omega
 have a:∀ j,(O.B.s j∨j=O.B.p)→¬ O.D.s j:=fun j hj e=>h.ap j hj (Or.inl e)
 exact ⟨fr_far h.f k (fun j e=>by have:=h.t j (Or.inl e);omega),h.rx.keep k (n _ (by omega)),h.rc.keep k (n _ (by omega)),h.rd.keep k (n _ (by omega)),h.r8.keep k (n _ (by omega)),
  h.m.keep k (a _ (Or.inr rfl)) (a _ (Or.inl (Or.inl rfl))) (a _ (Or.inl (Or.inr (Or.inl rfl)))) (fun j hj=>a j (Or.inl (Or.inr (Or.inr hj)))),m,h.s,h.t,h.ap,h.g⟩
theorem Cs.setC (h:Cs w wr gx gc g8 gd X O M M' c d) (c2:Cp):Cs w (wr.setRow gc (cpA c2)) gx gc g8 gd X O M M' c2 d:=by
 obtain ⟨h1,h2,h3,h4⟩:=h.g
 have k:=bb wr gc (cpA c2)
 have n:∀ j,j≠gc→¬ at' gc j:=fun j h e=>h e
 exact ⟨fr_far h.f k (fun j e=>by have e':j=gc:=e;omega),h.rx.keep k (n _ (by omega)),h.rc.setRow,h.rd.keep k (n _ (by omega)),h.r8.keep k (n _ (by omega)),ja h.m k (fun j hj=>n j (by have:=h.s j hj;omega)),h.r.past k (fun j hj=>by have:=h.t j hj;omega),h.s,h.t,h.ap,h.g⟩
theorem Cs.setD (h:Cs w wr gx gc g8 gd X O M M' c d) (c2:Cp):Cs w (wr.setRow gd (cpA c2)) gx gc g8 gd X O M M' c c2:=by
 obtain ⟨h1,h2,h3,h4⟩:=h.g
 have k:=bb wr gd (cpA c2)
 have n:∀ j,j≠gd→¬ at' gd j:=fun j h e=>h e
 exact ⟨fr_far h.f k (fun j e=>by have e':j=gd:=e;omega),h.rx.keep k (n _ (by omega)),h.rc.keep k (n _ (by omega)),h.rd.setRow,h.r8.keep k (n _ (by omega)),ja h.m k (fun j hj=>n j (by have:=h.s j hj;omega)),h.r.past k (fun j hj=>by have:=h.t j hj;omega),h.s,h.t,h.ap,h.g⟩
theorem Cs.injP (h:Cs w wr gx gc g8 gd X O M M' c d) {B:Bk} {S:Vg} (hv:O.B.v=some B) (ch:Chg wr B S wr'):Cs w wr' gx gc g8 gd X O { M with V:=some S } M' c d:=
 h.runP (ch.1.mono (fun _ _ e=>Or.inr (Or.inr (bm_g hv e)))) ⟨h.m.ram.keep ch.1 (fun e=>h.m.e1 (bm_g hv e)) (fun e=>h.m.e2 (bm_g hv e)),h.m.tlb.keep ch.1 (fun e=>h.m.e3 (bm_g hv e)),by show IsV wr' O.B.v (some S);rw[hv];exact ch.2,h.m.d1,h.m.d2,h.m.d3,h.m.e1,h.m.e2,h.m.e3⟩
theorem Cs.injD (h:Cs w wr gx gc g8 gd X O M M' c d) {b:Nat} {S:Vg} (hv:O.vr=some b) (ch:Rch wr b S wr'):Cs w wr' gx gc g8 gd X O M { M' with V:=some S } c d:=by
 obtain ⟨n1,n2,n3⟩:=h.r.e b hv
 exact h.runD (ch.1.mono (fun k _ e=>Or.inr (Or.inr (by have e':k=b:=e;rw[e'];exact hv)))) ⟨h.r.r.keep ch.1 (fun e=>n1 (Eq.symm e)) (fun e=>n2 (Eq.symm e)),h.r.t.keep ch.1 (fun e=>n3 (Eq.symm e)),by show RvO wr' O.vr (some S);rw[hv];exact ch.2,h.r.d1,h.r.d2,h.r.e⟩
theorem Cs.evP (h:Cs w wr gx gc g8 gd X O M M' c d) {i:Int} (f:Fr (at' O.B.bt) wr wr') (t:jj wr' O.B.bt (evT M.T i) M.fo M.mi):Cs w wr' gx gc g8 gd X O (evM M i) M' c d:=
 h.runP (f.mono (fun _ _ e=>Or.inr (Or.inl e))) ⟨h.m.ram.keep f h.m.d1 h.m.d2,t,h.m.vg.keep f (fun b hb k hk e=>h.m.e3 (by have e':k=O.B.bt:=e;rw[←e'];exact bm_g hb hk)),h.m.d1,h.m.d2,h.m.d3,h.m.e1,h.m.e2,h.m.e3⟩
theorem Cs.evD (h:Cs w wr gx gc g8 gd X O M M' c d) {i:Int} (f:Fr (at' O.bu) wr wr') (t:gj wr' O.bu (evT M'.T i) M'.fo M'.mi):Cs w wr' gx gc g8 gd X O M (evM M' i) c d:=
 h.runD (frd_t f) (h.r.buf f t)
end
structure Gd (M:Mc) (c:Cp) (vm:Int) (k:Nat):Prop where
 few:M.few (2200*k)
 ok:c.Ok
 vz:Vz M vm
theorem Gd.step {M:Mc} {c:Cp} {vm:Int} {k:Nat} (h:Gd M c vm k) (se ix:Int):Gd (dx 16 M c vm se ix).1 (dx 16 M c vm se ix).2.1 vm (k+1):=
 ⟨j0 (few_step h.few 16 c vm se ix) (by omega),ok_step h.ok 16 M vm se ix,vz_step h.vz 16 c se ix⟩
theorem Gd.ran {M:Mc} {c:Cp} {vm:Int} {k:Nat} (h:Gd M c vm k) {se:Int} {many j:Nat} {M':Mc} {c':Cp} {T:Tr} (hm:many≤1000) (r:Ran 16 M c vm se many j M' c' T):Gd M' c' vm (k+1):=by
 obtain ⟨i,hi,rfl,rfl⟩:=r.seq
 exact ⟨j0 (few_seqN h.few c vm se i) (by omega),ok_seq h.ok 16 M vm se i,vz_seq h.vz 16 c se i⟩
theorem Gd.more {M:Mc} {c:Cp} {vm:Int} {k:Nat} (h:Gd M c vm k):Gd M c vm (k+1):=⟨j0 h.few (by omega),h.ok,h.vz⟩
theorem Gd.inj {M:Mc} {c:Cp} {vm:Int} {k:Nat} (h:Gd M c vm k) (V:Option Vg):Gd { M with V:=V } c vm (k+1):=⟨j0 (few_V h.few V) (by omega),h.ok,vz_T h.vz rfl⟩
theorem ev_few {M:Mc} {n:Nat} (h:M.few n) (i:Int):(evM M i).few n:=by
 refine ⟨h.fo,h.mi,h.sum,?_,?_⟩
 ·show kh (evT M.T i)
  unfold evT
  cases inB i 0 7
  ·exact h.good
  ·exact good_upd h.good (Or.inl rfl) _
 ·show vl (evT M.T i)
  unfold evT
  cases inB i 0 7
  ·exact h.uniq
  ·exact uniq_zl h.uniq _
theorem Gd.ev {M:Mc} {c:Cp} {vm:Int} {k:Nat} (h:Gd M c vm k) (i:Int):Gd (evM M i) c vm (k+1):=
 ⟨j0 (ev_few h.few i) (by omega),h.ok,by
  rcases h.vz with v | v
  ·exact Or.inl v
  ·refine Or.inr fun j hj=>?_
   show evT M.T i j=zl
   unfold evT
   cases inB i 0 7
   ·exact v j hj
   ·show upd M.T i.toNat zl j=zl
    by_cases e:j=i.toNat
    ·rw[e,l7]
    ·rw[jm _ _ e];exact v j hj⟩
end
end Go.Proofs.YtibhbjbpodlpiaaGreat
