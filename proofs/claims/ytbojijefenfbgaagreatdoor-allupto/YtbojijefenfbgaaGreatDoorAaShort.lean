/- A short name for the laws of a frame's temporaries. -/
import Derived.WalkKit
namespace Go.Proofs.YtbojijefenfbgaaGreatDoor
open Go
theorem kr{p:Prop}(h:p:=by kernel_rfl):p:=h
theorem oM{p:Prop}(h:p:=by omega):p:=h
theorem dc{p:Prop}(h:p:=by decide):p:=h
theorem sP{p:Prop}(h:p:=by simp):p:=h
theorem rr{p:Prop}(h:p:=by rfl):p:=h
def Hq(p:Prop):Prop:=p
theorem Hq.o{p:Prop}(h:Hq p):p:=h
theorem aa{p:Prop}(h:p):Hq p:=h
theorem lR{n:Nat}:n<=n:=Nat.le_refl n
theorem oL{a b:Prop}(h:a):a\/b:=.inl h
theorem oR{a b:Prop}(h:b):a\/b:=.inr h
theorem eX{α:Sort _}(a:α):∃x,x=a:=⟨a,rfl⟩
theorem aL{α:Type _}{a:Array α}{i:Nat}{x:α}(h:a[i]? =some x):i<a.size:=(Array.getElem?_eq_some_iff.1 h).1
theorem lL{α:Type _}{a:List α}{i:Nat}{x:α}(h:a[i]? =some x):i<a.length:=(List.getElem?_eq_some_iff.1 h).1
theorem zD:(∀(a:Act)(d:Tmp)(v:Value),a.put (some d) v={a with tmps:=a.tmps.setIfInBounds d v})/\(∀(a:Act)(v:Value),a.put none v=a)/\(∀(l:List Value)(i:Nat)(a:Value),l.toArray.setIfInBounds i a=(l.set i a).toArray)/\(∀(x:Value)(l:List Value)(a:Value),(x::l).set 0 a=a::l)/\(∀(x:Value)(l:List Value)(n:Nat)(a:Value),(x::l).set (n+1) a=x::l.set n a):=⟨fun _ _ _=>rfl,fun _ _=>rfl,fun _ _ _=>List.setIfInBounds_toArray ..,fun _ _ _=>rfl,fun _ _ _ _=>rfl⟩
theorem bR{n:Nat}{w:World}:RowKit.Below n w w:=RowKit.Below.refl n w
theorem ca{b:Nat}{w v:World}{o:Obj}(h:RowKit.Below w.heap.size w v)(g:w.heap[b]? =some o):Hq (v.heap[b]? =some o):=(h.block b (aL g)).trans g
theorem cP{b:Nat}{w v:World}{o:Obj}(h:RowKit.Below w.heap.size w v)(g:w.heap[b]? =some o):v.heap[b]? =some o:=(h.block b (aL g)).trans g
theorem tR{u w v:World}(h:RowKit.Below u.heap.size u w)(g:RowKit.Below w.heap.size w v):RowKit.Below u.heap.size u v:=h.trans (g.mono h.size)
theorem tq{u w v:World}(h:RowKit.Below u.heap.size u w)(g:RowKit.Below w.heap.size w v):Hq (RowKit.Below u.heap.size u v):=h.trans (g.mono h.size)
end Go.Proofs.YtbojijefenfbgaaGreatDoor
