/-
  Both memories and both buffers, told together, and what each call leaves of them. No statement is proved here.
-/
import Derived.Test.YtknpjfbjalboeaaWalkAwake
import Derived.Test.YtknpjfbjalboeaaWalkOpenAsk
import Derived.Test.YtknpjfbjalboeaaWalkRefReach
import Derived.Test.YtknpjfbjalboeaaTlbLns
namespace Go.Proofs.Ytknpjfbjalboeaa
open Go.RowKit

/-- The six blocks lie behind all that was there, and are six. -/
structure Far (B pm bm pr br bt bu : Nat) : Prop where
  l1 : B ≤ pm
  l2 : B ≤ bm
  l3 : B ≤ pr
  l4 : B ≤ br
  l5 : B ≤ bt
  l6 : B ≤ bu
  t1 : pm ≠ bt
  t2 : bm ≠ bt
  t3 : pr ≠ bt
  t4 : br ≠ bt
  u1 : pm ≠ bu
  u2 : bm ≠ bu
  u3 : pr ≠ bu
  u4 : br ≠ bu
  tu : bt ≠ bu

structure Sta (w0 w : World) (pm bm pr br bt bu : Nat) (bs : List UInt8) (T : Nat → Ln) (fo mi : Int) : Prop where
  fr : Fr none' w0 w
  tw : Twin w w0.heap.size pm bm pr br 16 bs
  tl : IsTlb w bt T fo mi
  tr : IsTref w bu T fo mi

section
variable {w0 w w1 w2 : World} {pm bm pr br bt bu : Nat} {bs bs' : List UInt8} {T T' : Nat → Ln} {fo mi fo' mi' : Int}

theorem Sta.keep0 (h : Sta w0 w pm bm pr br bt bu bs T fo mi) (f : Fr none' w w1) : Sta w0 w1 pm bm pr br bt bu bs T fo mi :=
  ⟨h.fr.trans f, h.tw.keep f (fun h => h) (fun h => h) (fun h => h) (fun h => h), h.tl.keep f (fun h => h), h.tr.keep f (fun h => h)⟩

theorem Sta.puts (h : Sta w0 w pm bm pr br bt bu bs T fo mi) (L : Far w0.heap.size pm bm pr br bt bu) (f1 : Fr (at' bm) w w1) (q1 : IsRam w1 pm bm 16 bs') (f2 : Fr (at' br) w1 w2) (q2 : IsRef w2 pr br 16 bs') : Sta w0 w2 pm bm pr br bt bu bs' T fo mi :=
  ⟨(h.fr.newer f1 L.l2).newer f2 L.l4, ⟨q1.keep f2 h.tw.d1 h.tw.d3, q2, h.tw.d1, h.tw.d2, h.tw.d3, h.tw.lo⟩, (h.tl.keep f1 (fun e => L.t2 e.symm)).keep f2 (fun e => L.t4 e.symm), (h.tr.keep f1 (fun e => L.u2 e.symm)).keep f2 (fun e => L.u4 e.symm)⟩

theorem Sta.bufs (h : Sta w0 w pm bm pr br bt bu bs T fo mi) (L : Far w0.heap.size pm bm pr br bt bu) (f1 : Fr (at' bt) w w1) (q1 : IsTlb w1 bt T' fo' mi') (f2 : Fr (at' bu) w1 w2) (q2 : IsTref w2 bu T' fo' mi') : Sta w0 w2 pm bm pr br bt bu bs T' fo' mi' :=
  ⟨(h.fr.newer f1 L.l5).newer f2 L.l6, (h.tw.keep f1 L.t1 L.t2 L.t3 L.t4).keep f2 L.u1 L.u2 L.u3 L.u4, q1.keep f2 L.tu, q2⟩
end

theorem good_reach {T : Nat → Ln} (h : GoodT T) (bs : List UInt8) (nf : Nat) (vm sd first second page want ix : Int) : GoodT (reachT bs nf T vm sd first second page want ix) := by
  unfold reachT
  repeat' split
  · exact h
  · exact good_fill h _ _
  · exact h
theorem uniq_reach {T : Nat → Ln} (h : Uniq T) (bs : List UInt8) (nf : Nat) (vm sd first second page want ix : Int) : Uniq (reachT bs nf T vm sd first second page want ix) := by
  unfold reachT
  repeat' split
  · exact h
  · exact uniq_fill h _ _
  · exact h

end Go.Proofs.Ytknpjfbjalboeaa
