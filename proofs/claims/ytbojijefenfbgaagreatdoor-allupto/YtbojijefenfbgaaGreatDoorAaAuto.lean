/- Many plain operations at once: moves, addresses of fields, loads of what is known, tests and sums of numbers. The keys of the book's maps. -/
import Derived.Test.YtbojijefenfbgaaGreatDoorAaPartStore
import Derived.Laws.StructEq
open Array renaming getD_eq_getD_getElem?->aV
open Go.Region renaming wanted->ah
open Go.Sem renaming run_bind->aH,run_pure->aR
open Go.Instr renaming loadAt->cJ,sureAddr->bG,indexAt->dM,keyThatStays->jC
open Go.Result renaming andThen_ok->ar
open Option renaming some->Z,none->Y
open Go.Value renaming int->I,pointer->X,agg->H,bool->Bl
open Go.IntKind renaming i64->J
open Go.Obj renaming cells->Cl
open Go renaming World->D,Value->Vl
open Go.RowKit renaming Below->O
set_option maxHeartbeats 4000000
set_option maxRecDepth 100000
open Go Go.RowKit
variable{P:Program}{T t ty:TypeId}{c x y:Operand}{cap d f i j k len sz:Nat}{cs:List Vl}{fr:Nat×Nat}{l:List Oper}{m:Int}{p:Option Addr}{q:Prop}{vs:Array Vl}
namespace Go.Proofs.YtbojijefenfbgaaGreatDoor
open Tryz
namespace Ks
theorem zD:(∀(a:Act)(d:Tmp)(v:Vl),a.put (Z d) v={a with tmps:=a.tmps.setIfInBounds d v})/\(∀(a:Act)(v:Vl),a.put none v=a)/\(∀(l:List Vl)(i:Nat)(a:Vl),l.toArray.setIfInBounds i a=(l.set i a).toArray)/\(∀(b:Vl)(l:List Vl)(a:Vl),(b::l).set 0 a=a::l)/\(∀(b c:Vl)(l:List Vl)(a:Vl),(b::c::l).set 1 a=b::a::l)/\(∀(b c e:Vl)(l:List Vl)(a:Vl),(b::c::e::l).set 2 a=b::c::a::l)/\(∀(b c e f:Vl)(l:List Vl)(a:Vl),(b::c::e::f::l).set 3 a=b::c::e::a::l)/\(∀(b c e f g:Vl)(l:List Vl)(a:Vl),(b::c::e::f::g::l).set 4 a=b::c::e::f::a::l)/\(∀(b c e f g h:Vl)(l:List Vl)(a:Vl),(b::c::e::f::g::h::l).set 5 a=b::c::e::f::g::a::l)/\(∀(b c e f g h j:Vl)(l:List Vl)(a:Vl),(b::c::e::f::g::h::j::l).set 6 a=b::c::e::f::g::h::a::l)/\(∀(b c e f g h j k:Vl)(l:List Vl)(a:Vl),(b::c::e::f::g::h::j::k::l).set 7 a=b::c::e::f::g::h::j::a::l)/\(∀(b c e f g h j k:Vl)(l:List Vl)(n:Nat)(a:Vl),(b::c::e::f::g::h::j::k::l).set (n+8) a=b::c::e::f::g::h::j::k::l.set n a):=⟨fun _ _ _=>rfl,fun _ _=>rfl,fun _ _ _=>List.setIfInBounds_toArray ..,fun _ _ _=>rfl,fun _ _ _ _=>rfl,fun _ _ _ _ _=>rfl,fun _ _ _ _ _ _=>rfl,fun _ _ _ _ _ _ _=>rfl,fun _ _ _ _ _ _ _ _=>rfl,fun _ _ _ _ _ _ _ _ _=>rfl,fun _ _ _ _ _ _ _ _ _ _=>rfl,fun _ _ _ _ _ _ _ _ _ _ _=>rfl⟩
theorem zE:(∀(l:List Vl)(ds:List Deferred)(i:Nat),Act.eval ⟨l.toArray,ds⟩ (.tmp i)=l.getD i undef)/\(∀(a:Act)(v:Vl),a.eval (.const v)=v)/\(∀(b:Vl)(l:List Vl)(d:Vl),(b::l).getD 0 d=b)/\(∀(b c:Vl)(l:List Vl)(d:Vl),(b::c::l).getD 1 d=c)/\(∀(b c e:Vl)(l:List Vl)(d:Vl),(b::c::e::l).getD 2 d=e)/\(∀(b c e f:Vl)(l:List Vl)(d:Vl),(b::c::e::f::l).getD 3 d=f)/\(∀(b c e f g:Vl)(l:List Vl)(d:Vl),(b::c::e::f::g::l).getD 4 d=g)/\(∀(b c e f g h:Vl)(l:List Vl)(d:Vl),(b::c::e::f::g::h::l).getD 5 d=h)/\(∀(b c e f g h j:Vl)(l:List Vl)(d:Vl),(b::c::e::f::g::h::j::l).getD 6 d=j)/\(∀(b c e f g h j k:Vl)(l:List Vl)(d:Vl),(b::c::e::f::g::h::j::k::l).getD 7 d=k)/\(∀(b c e f g h j k:Vl)(l:List Vl)(n:Nat)(d:Vl),(b::c::e::f::g::h::j::k::l).getD (n+8) d=l.getD n d):=⟨fun l ds i=>by simp[Act.eval],fun _ _=>rfl,fun _ _ _=>rfl,fun _ _ _ _=>rfl,fun _ _ _ _ _=>rfl,fun _ _ _ _ _ _=>rfl,fun _ _ _ _ _ _ _=>rfl,fun _ _ _ _ _ _ _ _=>rfl,fun _ _ _ _ _ _ _ _ _=>rfl,fun _ _ _ _ _ _ _ _ _ _=>rfl,fun _ _ _ _ _ _ _ _ _ _ _=>rfl⟩
structure Bx(q:Prop):Prop where
 o:q
def Fo(T:TypeId)(f k:Nat):Prop:=∀w g n,(Instr.fieldAt T (X (Z ⟨g,n,Y⟩)) f).run prog w= .ok (X (Z ⟨g,n+k,Y⟩)) w
theorem qN:∀T f,(T=73/\f<5)\/(T=213/\f<3)\/(T=71/\f<2)\/(T=66/\f<2)\/(T=86/\f<3)\/(T=225/\f<7)\/(T=32/\f<11)\/(T=123/\f<3)\/(T=132/\f<2)\/(T=126/\f<6)->Fo T f f:=by
 have h:∀f:Nat,f<11->f=0\/f=1\/f=2\/f=3\/f=4\/f=5\/f=6\/f=7\/f=8\/f=9\/f=10:=fun f h=>oM
 intro T f b;rcases b with⟨rfl,a⟩|⟨rfl,a⟩|⟨rfl,a⟩|⟨rfl,a⟩|⟨rfl,a⟩|⟨rfl,a⟩|⟨rfl,a⟩|⟨rfl,a⟩|⟨rfl,a⟩|⟨rfl,a⟩<;>
  rcases h f oM with rfl|rfl|rfl|rfl|rfl|rfl|rfl|rfl|rfl|rfl|rfl<;>
  first|omega|exact fun _ _ _=>kr
theorem Aq:Fo 126 6 7:=fun _ _ _=>kr
def cmpI:BinOp->Int->Int->Bool
 | .lss,m,n=>decide (m<n)
 | .leq,m,n=>decide (m<=n)
 | .gtr,m,n=>decide (n<m)
 | .geq,m,n=>decide (n<=m)
 | .eql,m,n=>decide (m=n)
 |_,m,n=> !decide (m=n)
theorem yl{ops:Array Oper}{a:Act}{b:Bool}(c:(ops.toList[j]?).bind (·.dst)=Z d)(hv:a.eval (.tmp d)=Bl b):yielded ops a.tmps j=Z b:=by
 have h1:(ops[j]?).bind (·.dst)=Z d:=by simpa using c
 have h2:a.tmps[d]? =Z (Bl b):=by
  have:a.tmps.getD d undef=Bl b:=hv;rw[aV] at this;cases h:a.tmps[d]? with
  |none=>rw[h] at this;cases this
  |some v=>rw[h] at this;exact congrArg Z this
 unfold yielded;rw[h1,Option.bind_some,h2]
theorem w0{o:Oper}{y:Nat->Option Bool}(h:o.guard=Y):ah o y=true:=by unfold ah;rw[h]
theorem w1{o:Oper}{ops:Array Oper}{a:Act}{b:Bool}(h:o.guard=Z (j,b))(c:(ops.toList[j]?).bind (·.dst)=Z d)(hv:a.eval (.tmp d)=Bl b):ah o (yielded ops a.tmps)=true:=by
 unfold ah;rw[h];dsimp only;rw[yl c hv];cases b<;>rfl
theorem w2{o:Oper}{ops:Array Oper}{a:Act}{b c:Bool}(h:o.guard=Z (j,b))(f:(ops.toList[j]?).bind (·.dst)=Z d)(hv:a.eval (.tmp d)=Bl c)(e:(b==c)=false):ah o (yielded ops a.tmps)=false:=by
 unfold ah;rw[h];dsimp only;rw[yl f hv];cases b<;>cases c<;>first|rfl|cases e
theorem w3{o:Oper}{ops:Array Oper}{a:Act}{b:Bool}(h:o.guard=Z (j,b))(c:(ops.toList[j]?).bind (·.dst)=Z d)(hv:a.eval (.tmp d)=undef):ah o (yielded ops a.tmps)=false:=by
 have h1:(ops[j]?).bind (·.dst)=Z d:=by simpa using c
 have h2:yielded ops a.tmps j=Y:=by
  have:a.tmps.getD d undef=undef:=hv;rw[aV] at this;unfold yielded;rw[h1,Option.bind_some];cases h:a.tmps[d]? with
  |none=>rfl
  |some v=>
   rw[h] at this;obtain rfl:v=undef:=this;rfl
 unfold ah;rw[h];dsimp only;rw[h2];rfl
def isR:TypeDesc->Bool
 | .struct _=>true
 | .array _ _=>true
 |_=>false
theorem qp{w:D}{g:Nat}{cs:Array Vl}(a:Hq (w.heap[g]? =Z (Cl cs T fr))){v:Vl}(hv:cs.toList[j]? =Z v):w.cell? ⟨g,j,Y⟩=Z v:=cell_of_row w g j _ _ _ a.o▸(by simpa using hv)
theorem Bw{w:D}{g n:Nat}(a:Hq (w.rangeAt g n cs)){v:Vl}(hv:cs[j]? =Z v):w.cell? ⟨g,n+j,Y⟩=Z v:=a.o j v hv
theorem q0{w:D}{g n:Nat}(a:Hq (w.rangeAt g n cs)){v:Vl}(hv:cs[0]? =Z v):w.cell? ⟨g,n,Y⟩=Z v:=a.o 0 v hv
structure Ix(t:TypeId)(sz:Nat):Prop where
 o:∃e,prog.underlying t=Z (.slice e)/\prog.cellsOf e=sz/\(prog.info? e).isSome=true
structure Pl(ty:TypeId):Prop where
 o:∃d,prog.underlying ty=Z d/\d.isRow=false
structure Rw(ty:TypeId):Prop where
 o:∃d,prog.underlying ty=Z d/\isR d=true/\d.isRow=true
structure Ls(ty:TypeId):Prop where
 o:∃e,prog.underlying ty=Z (.slice e)
theorem tk:Pl 3:=⟨_,underlying3,rfl⟩
theorem Bc:Pl 4:=⟨_,underlying4,rfl⟩
theorem Be:Pl 9:=⟨_,underlying9,rfl⟩
theorem Bf:Pl 64:=⟨_,underlying64,rfl⟩
theorem yi:Pl 69:=⟨_,underlying69,rfl⟩
theorem yj:Pl 25:=⟨_,underlying25,rfl⟩
theorem Bg:Pl 83:=⟨_,underlying83,rfl⟩
theorem Bh:Pl 121:=⟨_,underlying121,rfl⟩
theorem Bi:Pl 118:=⟨_,underlying118,rfl⟩
theorem yk:Pl 130:=⟨_,underlying130,rfl⟩
theorem BF:Pl 62:=⟨_,underlying62,rfl⟩
theorem BG:Pl 23:=⟨_,underlying23,rfl⟩
theorem BH:Pl 24:=⟨_,underlying24,rfl⟩
theorem xT:Pl 28:=⟨_,underlying28,rfl⟩
theorem BI:Pl 29:=⟨_,underlying29,rfl⟩
theorem BJ:Pl 30:=⟨_,underlying30,rfl⟩
theorem BK:Pl 26:=⟨_,underlying26,rfl⟩
theorem uo:Rw 73:=⟨_,underlying73,rfl,rfl⟩
theorem uq:Rw 213:=⟨_,underlying213,rfl,rfl⟩
theorem ur:Rw 86:=⟨_,underlying86,rfl,rfl⟩
theorem tm:Rw 132:=⟨_,underlying132,rfl,rfl⟩
theorem uu:Rw 126:=⟨_,underlying126,rfl,rfl⟩
theorem uv:Rw 71:=⟨_,underlying71,rfl,rfl⟩
theorem tn:Rw 66:=⟨_,underlying66,rfl,rfl⟩
theorem A3:Ls 64:=⟨_,underlying64⟩
theorem A4:Ls 69:=⟨_,underlying69⟩
theorem A5:Ls 25:=⟨_,underlying25⟩
theorem A6:Ls 83:=⟨_,underlying83⟩
theorem A7:Ls 121:=⟨_,underlying121⟩
theorem A8:Ls 24:=⟨_,underlying24⟩
theorem A9:Ls 28:=⟨_,underlying28⟩
theorem A':Ls 29:=⟨_,underlying29⟩
theorem Ba:Ls 30:=⟨_,underlying30⟩
theorem Bb:Ls 26:=⟨_,underlying26⟩
theorem BD:Ls 53:=⟨_,underlying53⟩
theorem Aw:Ix 64 5:=⟨_,underlying64,kr,kr⟩
theorem Ax:Ix 69 3:=⟨_,underlying69,kr,kr⟩
theorem Ay:Ix 25 1:=⟨_,underlying25,kr,kr⟩
theorem Az:Ix 83 3:=⟨_,underlying83,kr,kr⟩
theorem AA:Ix 121 2:=⟨_,underlying121,kr,kr⟩
theorem AB:Ix 53 9:=⟨_,underlying53,kr,kr⟩
theorem AD:Ix 24 1:=⟨_,underlying24,kr,kr⟩
theorem AE:Ix 28 1:=⟨_,underlying28,kr,kr⟩
theorem AF:Ix 29 1:=⟨_,underlying29,kr,kr⟩
theorem AG:Ix 30 1:=⟨_,underlying30,kr,kr⟩
section
variable {ops:Array Oper} {rest:List Oper} {o:Oper} {a b:Act} {w:D} {Q:Exit->Act->D->Prop} {K:Act->Prop}
structure WL(ops:Array Oper)(Q:Exit->Act->D->Prop)(l:List Oper)(a:Act)(w:D):Prop where
 o:wpList prog ops Q l a w
structure WQ(ops:Array Oper)(w:D)(K:Act->Prop)(l:List Oper)(a:Act):Prop where
 o:wpQuiet prog ops (Qt.BW w) K l a
structure LX(w:D)(K:Act->Prop)(l:List Oper)(a:Act):Prop where
 o:Qt.Lex prog w K l a
theorem gl(h:∀Q',(∀l a,WL ops Q l a w->WL ops Q' l a w)->WL ops Q' l a w):WL ops Q l a w:=h Q fun _ _ h=>h
theorem gq(h:∀b,(∀l a,WQ ops w K l a->WQ ops w b l a)->WQ ops w b l a):WQ ops w K l a:=h K fun _ _ h=>h
theorem gy(h:∀b,(∀l a,LX w K l a->LX w b l a)->LX w b l a):LX w K l a:=h K fun _ _ h=>h
theorem BS{id:Nat}(h:WL l.toArray Q l a w):(Code.region id l.toArray false).wp prog Q a w:=U0 h.o
theorem ye{K:Act->D->Prop}(h:K a w):WL ops (Exit.then K Q) [] a w:=⟨done h⟩
theorem WB(h:K a):WQ ops w K [] a:=⟨wpQuiet_nil h⟩
theorem x'(h:Q .normal a w):WL ops Q [] a w:=⟨fin h⟩
theorem vb{v:Vl}(d:ah o (yielded ops a.tmps)=true)(c:a.put o.dst v=b)(hv:(execOp a.eval o).run prog w= .ok (.value v) w)(h:WL ops Q rest b w):WL ops Q (o::rest) a w:=by
 subst c;exact⟨ml d _ hv h.o⟩
theorem vq{v:Vl}(d:ah o (yielded ops a.tmps)=true)(c:a.put o.dst v=b)(hv:∀w',O w.heap.size w w'->(execOp a.eval o).run prog w'= .ok (.value v) w')(h:WQ ops w K rest b):WQ ops w K (o::rest) a:=by
 subst c;exact⟨Qg.val d _ hv h.o⟩
theorem vy{v:Vl}(d:o.guard=Y)(c:a.put o.dst v=b)(hv:∀w',O w.heap.size w w'->(execOp a.eval o).run prog w'= .ok (.value v) w')(h:LX w K rest b):LX w K (o::rest) a:=by
 subst c;exact⟨Qt.kb d _ hv h.o⟩
theorem fo(h:WL ops Q rest b w)(_:o.guard.isSome=true:=by rfl)(d:ah o (yielded ops a.tmps)=false:=by first|exact Ks.w2 rr rr (by simp only[Ks.zE];first|done|rfl|fail) rr|exact Ks.w3 rr rr (by simp only[Ks.zE];first|done|rfl|fail)|fail)(c:a.put o.dst undef=b:=by simp only[Ks.zD];first|done|rfl|fail):WL ops Q (o::rest) a w:=by
 subst c;exact⟨off d h.o⟩
theorem Hd(h:WQ ops w K rest b)(_:o.guard.isSome=true:=by rfl)(d:ah o (yielded ops a.tmps)=false:=by first|exact Ks.w2 rr rr (by simp only[Ks.zE];first|done|rfl|fail) rr|exact Ks.w3 rr rr (by simp only[Ks.zE];first|done|rfl|fail)|fail)(c:a.put o.dst undef=b:=by simp only[Ks.zD];first|done|rfl|fail):WQ ops w K (o::rest) a:=by
 subst c;exact⟨Qg.off d h.o⟩
theorem xW(b:o.op= .move x\/o.op= .assign x):(execOp a.eval o).run prog w= .ok (.value (a.eval x)) w:=by unfold execOp;rcases b with b|b<;>rw[b]<;>rfl
theorem mv(h:WL ops Q rest b w)(d:o.op= .move x\/o.op= .assign x:=by first|exact oL rfl|exact oR rfl)(e:ah o (yielded ops a.tmps)=true:=by first|exact Ks.w0 rr|exact Ks.w1 rr rr (by simp only[Ks.zE];first|done|rfl|fail)|fail) (c:a.put o.dst (a.eval x)=b:=by simp only[Ks.zD,Ks.zE];first|done|rfl|fail):WL ops Q (o::rest) a w:=vb e c (xW d) h
theorem HZ(h:WQ ops w K rest b)(d:o.op= .move x\/o.op= .assign x:=by first|exact oL rfl|exact oR rfl)(e:ah o (yielded ops a.tmps)=true:=by first|exact Ks.w0 rr|exact Ks.w1 rr rr (by simp only[Ks.zE];first|done|rfl|fail)|fail) (c:a.put o.dst (a.eval x)=b:=by simp only[Ks.zD,Ks.zE];first|done|rfl|fail):WQ ops w K (o::rest) a:=vq e c (fun _ _=>xW d) h
theorem K0(h:LX w K rest b)(d:o.op= .move x\/o.op= .assign x:=by first|exact oL rfl|exact oR rfl)(e:o.guard=Y:=by rfl) (c:a.put o.dst (a.eval x)=b:=by simp only[Ks.zD,Ks.zE];first|done|rfl|fail):LX w K (o::rest) a:=vy e c (fun _ _=>xW d) h
theorem rZ{p:Addr}(b:o.op= .nilCheck x)(c:a.eval x=X (Z p)):(execOp a.eval o).run prog w= .ok (.value (X (Z p))) w:=by unfold execOp;rw[b];dsimp only;rw[c];rfl
theorem nc(h:WL ops Q rest b w){p:Addr}(d:o.op= .nilCheck x:=by rfl)(e:ah o (yielded ops a.tmps)=true:=by first|exact Ks.w0 rr|exact Ks.w1 rr rr (by simp only[Ks.zE];first|done|rfl|fail)|fail)(f:a.eval x=X (Z p):=by simp only[Ks.zE];first|done|rfl|fail)(c:a.put o.dst (X (Z p))=b:=by simp only[Ks.zD];first|done|rfl|fail):WL ops Q (o::rest) a w:=vb e c (rZ d f) h
theorem H5(h:WQ ops w K rest b){p:Addr}(d:o.op= .nilCheck x:=by rfl)(e:ah o (yielded ops a.tmps)=true:=by first|exact Ks.w0 rr|exact Ks.w1 rr rr (by simp only[Ks.zE];first|done|rfl|fail)|fail)(f:a.eval x=X (Z p):=by simp only[Ks.zE];first|done|rfl|fail)(c:a.put o.dst (X (Z p))=b:=by simp only[Ks.zD];first|done|rfl|fail):WQ ops w K (o::rest) a:=vq e c (fun _ _=>rZ d f) h
theorem K1(h:LX w K rest b){p:Addr}(d:o.op= .nilCheck x:=by rfl)(e:o.guard=Y:=by rfl)(f:a.eval x=X (Z p):=by simp only[Ks.zE];first|done|rfl|fail)(c:a.put o.dst (X (Z p))=b:=by simp only[Ks.zD];first|done|rfl|fail):LX w K (o::rest) a:=vy e c (fun _ _=>rZ d f) h
theorem qT{g n:Nat}(c:o.op= .fieldAddr T x f)(b:Fo T f k)(d:a.eval x=X (Z ⟨g,n,Y⟩)):(execOp a.eval o).run prog w= .ok (.value (X (Z ⟨g,n+k,Y⟩))) w:=by unfold execOp;rw[c];dsimp only;rw[d,aH,b w g n];rfl
theorem fa(h:WL ops Q rest b w){g n:Nat}(e:o.op= .fieldAddr T x f:=by rfl)(i:ah o (yielded ops a.tmps)=true:=by first|exact Ks.w0 rr|exact Ks.w1 rr rr (by simp only[Ks.zE];first|done|rfl|fail)|fail)(d:Fo T f k:=by first|exact Ks.qN _ _ dc|exact Ks.Aq|fail)(j:a.eval x=X (Z ⟨g,n,Y⟩):=by simp only[Ks.zE];first|done|rfl|fail)(c:a.put o.dst (X (Z ⟨g,n+k,Y⟩))=b:=by simp only[Ks.zD,Nat.zero_add,Nat.add_zero];first|done|rfl|fail):WL ops Q (o::rest) a w:=vb i c (qT e d j) h
theorem G'(h:WQ ops w K rest b){g n:Nat}(e:o.op= .fieldAddr T x f:=by rfl)(i:ah o (yielded ops a.tmps)=true:=by first|exact Ks.w0 rr|exact Ks.w1 rr rr (by simp only[Ks.zE];first|done|rfl|fail)|fail)(d:Fo T f k:=by first|exact Ks.qN _ _ dc|exact Ks.Aq|fail)(j:a.eval x=X (Z ⟨g,n,Y⟩):=by simp only[Ks.zE];first|done|rfl|fail)(c:a.put o.dst (X (Z ⟨g,n+k,Y⟩))=b:=by simp only[Ks.zD,Nat.zero_add,Nat.add_zero];first|done|rfl|fail):WQ ops w K (o::rest) a:=vq i c (fun _ _=>qT e d j) h
theorem KU(h:LX w K rest b){g n:Nat}(e:o.op= .fieldAddr T x f:=by rfl)(i:o.guard=Y:=by rfl)(d:Fo T f k:=by first|exact Ks.qN _ _ dc|exact Ks.Aq|fail)(j:a.eval x=X (Z ⟨g,n,Y⟩):=by simp only[Ks.zE];first|done|rfl|fail)(c:a.put o.dst (X (Z ⟨g,n+k,Y⟩))=b:=by simp only[Ks.zD,Nat.zero_add,Nat.add_zero];first|done|rfl|fail):LX w K (o::rest) a:=vy i c (fun _ _=>qT e d j) h
theorem ql{g n:Nat}{v:Vl}(c:o.op= .load ty x)(hu:Pl ty)(e:a.eval x=X (Z ⟨g,n,Y⟩))(b:w.cell? ⟨g,n,Y⟩=Z v):(execOp a.eval o).run prog w= .ok (.value (v)) w:=by
  obtain⟨d,hu,hd⟩:=hu.o;have h1:=sN hu hd b;unfold execOp;simp only[c,e,cJ,bG,aH,aR,ar,h1]
theorem ld(h:WL ops Q rest b w){g n:Nat}{v:Vl}(e:o.op= .load ty x:=by rfl)(f:ah o (yielded ops a.tmps)=true:=by first|exact Ks.w0 rr|exact Ks.w1 rr rr (by simp only[Ks.zE];first|done|rfl|fail)|fail)(hu:Pl ty:=by first|exact Ks.tk|exact Ks.Bc|exact Ks.Be|exact Ks.Bf|exact Ks.yi|exact Ks.yj|exact Ks.Bg|exact Ks.Bh|exact Ks.Bi|exact Ks.yk|exact Ks.BF|exact Ks.BG|exact Ks.BH|exact Ks.xT|exact Ks.BI|exact Ks.BJ|exact Ks.BK|fail)(i:a.eval x=X (Z ⟨g,n,Y⟩):=by simp only[Ks.zE];first|done|rfl|fail)(d:w.cell? ⟨g,n,Y⟩=Z v:=by first|exact Ks.qp ‹_› rr|exact Ks.Bw ‹_› rr|exact Ks.q0 ‹_› rr|fail)(c:a.put o.dst (v)=b:=by simp only[Ks.zD];first|done|rfl|fail):WL ops Q (o::rest) a w:=vb f c (ql e hu i d) h
theorem Hp(h:WQ ops w K rest b){g n:Nat}{v:Vl}(f:o.op= .load ty x:=by rfl)(i:ah o (yielded ops a.tmps)=true:=by first|exact Ks.w0 rr|exact Ks.w1 rr rr (by simp only[Ks.zE];first|done|rfl|fail)|fail)(hu:Pl ty:=by first|exact Ks.tk|exact Ks.Bc|exact Ks.Be|exact Ks.Bf|exact Ks.yi|exact Ks.yj|exact Ks.Bg|exact Ks.Bh|exact Ks.Bi|exact Ks.yk|exact Ks.BF|exact Ks.BG|exact Ks.BH|exact Ks.xT|exact Ks.BI|exact Ks.BJ|exact Ks.BK|fail)(j:a.eval x=X (Z ⟨g,n,Y⟩):=by simp only[Ks.zE];first|done|rfl|fail)(c:w.cell? ⟨g,n,Y⟩=Z v:=by first|exact Ks.qp ‹_› rr|exact Ks.Bw ‹_› rr|exact Ks.q0 ‹_› rr|fail)(d:a.put o.dst (v)=b:=by simp only[Ks.zD];first|done|rfl|fail):WQ ops w K (o::rest) a:=vq i d (fun w' e=>ql f hu j (by rw[e.cell (by exact block_lt_of_cell c)];exact c)) h
theorem KW(h:LX w K rest b){g n:Nat}{v:Vl}(f:o.op= .load ty x:=by rfl)(i:o.guard=Y:=by rfl)(hu:Pl ty:=by first|exact Ks.tk|exact Ks.Bc|exact Ks.Be|exact Ks.Bf|exact Ks.yi|exact Ks.yj|exact Ks.Bg|exact Ks.Bh|exact Ks.Bi|exact Ks.yk|exact Ks.BF|exact Ks.BG|exact Ks.BH|exact Ks.xT|exact Ks.BI|exact Ks.BJ|exact Ks.BK|fail)(j:a.eval x=X (Z ⟨g,n,Y⟩):=by simp only[Ks.zE];first|done|rfl|fail)(c:w.cell? ⟨g,n,Y⟩=Z v:=by first|exact Ks.qp ‹_› rr|exact Ks.Bw ‹_› rr|exact Ks.q0 ‹_› rr|fail)(d:a.put o.dst (v)=b:=by simp only[Ks.zD];first|done|rfl|fail):LX w K (o::rest) a:=vy i d (fun w' e=>ql f hu j (by rw[e.cell (by exact block_lt_of_cell c)];exact c)) h
theorem vV{g:Nat}{cs:Array Vl}(c:o.op= .load ty x)(hu:Rw ty)(e:a.eval x=X (Z ⟨g,0,Y⟩))(b:Hq (w.heap[g]? =Z (Cl cs t fr)))(hi:(prog.info? ty).map (·.size)=Z cs.size):(execOp a.eval o).run prog w= .ok (.value (H cs)) w:=by
  obtain⟨d,hu,hd,_⟩:=hu.o;unfold execOp;simp only[c,e,cJ,bG,aH,aR,ar,run_loadVar_row w g t ty cs fr d b.o hu (by cases d<;>first|rfl|simp[isR] at hd) hi]
theorem lw(h:WL ops Q rest b w){g:Nat}{cs:Array Vl}(e:o.op= .load ty x:=by rfl)(f:ah o (yielded ops a.tmps)=true:=by first|exact Ks.w0 rr|exact Ks.w1 rr rr (by simp only[Ks.zE];first|done|rfl|fail)|fail)(hu:Rw ty:=by first|exact Ks.uo|exact Ks.uq|exact Ks.ur|exact Ks.tm|exact Ks.uu|exact Ks.uv|exact Ks.tn|fail)(i:a.eval x=X (Z ⟨g,0,Y⟩):=by simp only[Ks.zE];first|done|rfl|fail)(d:Hq (w.heap[g]? =Z (Cl cs t fr)):=by assumption)(hi:(prog.info? ty).map (·.size)=Z cs.size:=by kernel_rfl)(c:a.put o.dst (H cs)=b:=by simp only[Ks.zD];first|done|rfl|fail):WL ops Q (o::rest) a w:=vb f c (vV e hu i d hi) h
theorem HJ(h:WQ ops w K rest b){g:Nat}{cs:Array Vl}(f:o.op= .load ty x:=by rfl)(i:ah o (yielded ops a.tmps)=true:=by first|exact Ks.w0 rr|exact Ks.w1 rr rr (by simp only[Ks.zE];first|done|rfl|fail)|fail)(hu:Rw ty:=by first|exact Ks.uo|exact Ks.uq|exact Ks.ur|exact Ks.tm|exact Ks.uu|exact Ks.uv|exact Ks.tn|fail)(j:a.eval x=X (Z ⟨g,0,Y⟩):=by simp only[Ks.zE];first|done|rfl|fail)(c:Hq (w.heap[g]? =Z (Cl cs t fr)):=by assumption)(hi:(prog.info? ty).map (·.size)=Z cs.size:=by kernel_rfl)(d:a.put o.dst (H cs)=b:=by simp only[Ks.zD];first|done|rfl|fail):WQ ops w K (o::rest) a:=vq i d (fun _ e=>vV f hu j ((e.block g (aL c.o)).trans c.o) hi) h
theorem KZ(h:LX w K rest b){g:Nat}{cs:Array Vl}(f:o.op= .load ty x:=by rfl)(i:o.guard=Y:=by rfl)(hu:Rw ty:=by first|exact Ks.uo|exact Ks.uq|exact Ks.ur|exact Ks.tm|exact Ks.uu|exact Ks.uv|exact Ks.tn|fail)(j:a.eval x=X (Z ⟨g,0,Y⟩):=by simp only[Ks.zE];first|done|rfl|fail)(c:Hq (w.heap[g]? =Z (Cl cs t fr)):=by assumption)(hi:(prog.info? ty).map (·.size)=Z cs.size:=by kernel_rfl)(d:a.put o.dst (H cs)=b:=by simp only[Ks.zD];first|done|rfl|fail):LX w K (o::rest) a:=vy i d (fun _ e=>vV f hu j ((e.block g (aL c.o)).trans c.o) hi) h
theorem BN{g n:Nat}(c:o.op= .load ty x)(hu:Rw ty)(e:a.eval x=X (Z ⟨g,n,Y⟩))(b:Hq (w.rangeAt g n cs))(hi:(prog.info? ty).map (·.size)=Z cs.length):(execOp a.eval o).run prog w= .ok (.value (H cs.toArray)) w:=by
  obtain⟨d,hu,_,hd⟩:=hu.o;unfold execOp;simp only[c,e,cJ,bG,aH,aR,ar,run_loadVar_mid w g n ty cs d b.o hu hd hi]
theorem lr(h:WL ops Q rest b w){g n:Nat}(e:o.op= .load ty x:=by rfl)(f:ah o (yielded ops a.tmps)=true:=by first|exact Ks.w0 rr|exact Ks.w1 rr rr (by simp only[Ks.zE];first|done|rfl|fail)|fail)(hu:Rw ty:=by first|exact Ks.uo|exact Ks.uq|exact Ks.ur|exact Ks.tm|exact Ks.uu|exact Ks.uv|exact Ks.tn|fail)(i:a.eval x=X (Z ⟨g,n,Y⟩):=by simp only[Ks.zE];first|done|rfl|fail)(d:Hq (w.rangeAt g n cs):=by assumption)(hi:(prog.info? ty).map (·.size)=Z cs.length:=by kernel_rfl)(c:a.put o.dst (H cs.toArray)=b:=by simp only[Ks.zD];first|done|rfl|fail):WL ops Q (o::rest) a w:=vb f c (BN e hu i d hi) h
theorem Hw(h:WQ ops w K rest b){g n:Nat}(f:o.op= .load ty x:=by rfl)(i:ah o (yielded ops a.tmps)=true:=by first|exact Ks.w0 rr|exact Ks.w1 rr rr (by simp only[Ks.zE];first|done|rfl|fail)|fail)(hu:Rw ty:=by first|exact Ks.uo|exact Ks.uq|exact Ks.ur|exact Ks.tm|exact Ks.uu|exact Ks.uv|exact Ks.tn|fail)(k:a.eval x=X (Z ⟨g,n,Y⟩):=by simp only[Ks.zE];first|done|rfl|fail)(c:Hq (w.rangeAt g n cs):=by assumption)(hi:(prog.info? ty).map (·.size)=Z cs.length:=by kernel_rfl)(d:a.put o.dst (H cs.toArray)=b:=by simp only[Ks.zD];first|done|rfl|fail):WQ ops w K (o::rest) a:=vq i d (fun w' e=>BN f hu k (fun j v hv=>by rw[e.cell (by exact block_lt_of_cell (c.o j v hv))];exact c.o j v hv) hi) h
theorem KY(h:LX w K rest b){g n:Nat}(f:o.op= .load ty x:=by rfl)(i:o.guard=Y:=by rfl)(hu:Rw ty:=by first|exact Ks.uo|exact Ks.uq|exact Ks.ur|exact Ks.tm|exact Ks.uu|exact Ks.uv|exact Ks.tn|fail)(k:a.eval x=X (Z ⟨g,n,Y⟩):=by simp only[Ks.zE];first|done|rfl|fail)(c:Hq (w.rangeAt g n cs):=by assumption)(hi:(prog.info? ty).map (·.size)=Z cs.length:=by kernel_rfl)(d:a.put o.dst (H cs.toArray)=b:=by simp only[Ks.zD];first|done|rfl|fail):LX w K (o::rest) a:=vy i d (fun w' e=>BN f hu k (fun j v hv=>by rw[e.cell (by exact block_lt_of_cell (c.o j v hv))];exact c.o j v hv) hi) h
theorem BL{g n:Nat}(j:o.op= .indexAddr t x y)(l:Ix t sz)(m:a.eval x= .slice (Z ⟨g,n,Y⟩) len cap)(p:a.eval y=I J (k:Int))(h:k<len):(execOp a.eval o).run prog w= .ok (.value (X (Z ⟨g,n+k*sz,Y⟩))) w:=by
  obtain⟨e,h1,h2,h3⟩:=l.o;obtain⟨i,f⟩:=Option.isSome_iff_exists.1 h3;have b:(underlying t).run prog w= .ok (.slice e) w:=run_underlying h1 w;have c:(sizeOf e).run prog w= .ok sz w:=by rw[<-h2];exact run_sizeOf w f
  have d:(dM t (.slice (Z ⟨g,n,Y⟩) len cap) (I J (k:Int))).run prog w= .ok (X (Z ⟨g,n+k*sz,Y⟩)) w:=by simp[dM,asIntOf,b,c,h,Addr.add_mid]
  unfold execOp;simp only[j,m,p,aH,aR,ar,d]
theorem ix(h:WL ops Q rest b w){g n:Nat}(e:o.op= .indexAddr t x y:=by rfl)(i:ah o (yielded ops a.tmps)=true:=by first|exact Ks.w0 rr|exact Ks.w1 rr rr (by simp only[Ks.zE];first|done|rfl|fail)|fail)(f:Ix t sz:=by first|exact Ks.Aw|exact Ks.Ax|exact Ks.Ay|exact Ks.Az|exact Ks.AA|exact Ks.AB|exact Ks.AD|exact Ks.AE|exact Ks.AF|exact Ks.AG|fail)(j:a.eval x= .slice (Z ⟨g,n,Y⟩) len cap:=by simp only[Ks.zE];first|done|rfl|fail)(l:a.eval y=I J (k:Int):=by simp only[Ks.zE];first|done|rfl|fail)(d:k<len:=by omega)(c:a.put o.dst (X (Z ⟨g,n+k*sz,Y⟩))=b:=by simp only[Ks.zD,Nat.zero_add];first|done|rfl|fail):WL ops Q (o::rest) a w:=vb i c (BL e f j l d) h
theorem Hn(h:WQ ops w K rest b){g n:Nat}(e:o.op= .indexAddr t x y:=by rfl)(i:ah o (yielded ops a.tmps)=true:=by first|exact Ks.w0 rr|exact Ks.w1 rr rr (by simp only[Ks.zE];first|done|rfl|fail)|fail)(f:Ix t sz:=by first|exact Ks.Aw|exact Ks.Ax|exact Ks.Ay|exact Ks.Az|exact Ks.AA|exact Ks.AB|exact Ks.AD|exact Ks.AE|exact Ks.AF|exact Ks.AG|fail)(j:a.eval x= .slice (Z ⟨g,n,Y⟩) len cap:=by simp only[Ks.zE];first|done|rfl|fail)(l:a.eval y=I J (k:Int):=by simp only[Ks.zE];first|done|rfl|fail)(d:k<len:=by omega)(c:a.put o.dst (X (Z ⟨g,n+k*sz,Y⟩))=b:=by simp only[Ks.zD,Nat.zero_add];first|done|rfl|fail):WQ ops w K (o::rest) a:=vq i c (fun _ _=>BL e f j l d) h
theorem KV(h:LX w K rest b){g n:Nat}(e:o.op= .indexAddr t x y:=by rfl)(i:o.guard=Y:=by rfl)(f:Ix t sz:=by first|exact Ks.Aw|exact Ks.Ax|exact Ks.Ay|exact Ks.Az|exact Ks.AA|exact Ks.AB|exact Ks.AD|exact Ks.AE|exact Ks.AF|exact Ks.AG|fail)(j:a.eval x= .slice (Z ⟨g,n,Y⟩) len cap:=by simp only[Ks.zE];first|done|rfl|fail)(l:a.eval y=I J (k:Int):=by simp only[Ks.zE];first|done|rfl|fail)(d:k<len:=by omega)(c:a.put o.dst (X (Z ⟨g,n+k*sz,Y⟩))=b:=by simp only[Ks.zD,Nat.zero_add];first|done|rfl|fail):LX w K (o::rest) a:=vy i c (fun _ _=>BL e f j l d) h
theorem BM{n c:Nat}(d:o.op= .call {callee:=.builtin .len,args:= #[x],argTypes:= #[t]})(hu:Ls t)(f:a.eval x= .slice p n c):(execOp a.eval o).run prog w= .ok (.value (I J (n:Int))) w:=by
  obtain⟨e,hu⟩:=hu.o;have b:prog.elem t=e:=by simp[Program.elem,hu]
  unfold execOp;rw[d];simp only[resolve,invoke,builtin,aH,aR,ar,List.map_toArray,List.map_cons,List.map_nil,f];rw[run_len_slice _ t _ p n c (by rw[b];exact hu)];rfl
theorem ln(h:WL ops Q rest b w){n c:Nat}(e:o.op= .call {callee:=.builtin .len,args:= #[x],argTypes:= #[t]}:=by rfl)(f:ah o (yielded ops a.tmps)=true:=by first|exact Ks.w0 rr|exact Ks.w1 rr rr (by simp only[Ks.zE];first|done|rfl|fail)|fail)(hu:Ls t:=by first|exact Ks.A3|exact Ks.A4|exact Ks.A5|exact Ks.A6|exact Ks.A7|exact Ks.A8|exact Ks.A9|exact Ks.A'|exact Ks.Ba|exact Ks.Bb|exact Ks.BD|fail)(g:a.eval x= .slice p n c:=by simp only[Ks.zE];first|done|rfl|fail)(d:a.put o.dst (I J (n:Int))=b:=by simp only[Ks.zD];first|done|rfl|fail):WL ops Q (o::rest) a w:=vb f d (BM e hu g) h
theorem Hu(h:WQ ops w K rest b){n c:Nat}(e:o.op= .call {callee:=.builtin .len,args:= #[x],argTypes:= #[t]}:=by rfl)(f:ah o (yielded ops a.tmps)=true:=by first|exact Ks.w0 rr|exact Ks.w1 rr rr (by simp only[Ks.zE];first|done|rfl|fail)|fail)(hu:Ls t:=by first|exact Ks.A3|exact Ks.A4|exact Ks.A5|exact Ks.A6|exact Ks.A7|exact Ks.A8|exact Ks.A9|exact Ks.A'|exact Ks.Ba|exact Ks.Bb|exact Ks.BD|fail)(g:a.eval x= .slice p n c:=by simp only[Ks.zE];first|done|rfl|fail)(d:a.put o.dst (I J (n:Int))=b:=by simp only[Ks.zD];first|done|rfl|fail):WQ ops w K (o::rest) a:=vq f d (fun _ _=>BM e hu g) h
theorem KX(h:LX w K rest b){n c:Nat}(e:o.op= .call {callee:=.builtin .len,args:= #[x],argTypes:= #[t]}:=by rfl)(f:o.guard=Y:=by rfl)(hu:Ls t:=by first|exact Ks.A3|exact Ks.A4|exact Ks.A5|exact Ks.A6|exact Ks.A7|exact Ks.A8|exact Ks.A9|exact Ks.A'|exact Ks.Ba|exact Ks.Bb|exact Ks.BD|fail)(g:a.eval x= .slice p n c:=by simp only[Ks.zE];first|done|rfl|fail)(d:a.put o.dst (I J (n:Int))=b:=by simp only[Ks.zD];first|done|rfl|fail):LX w K (o::rest) a:=vy f d (fun _ _=>BM e hu g) h
theorem xU{c:BinOp}{n:Int}(d:o.op= .binOp c 3 x y 3)(b:(c== .lss||c== .leq||c== .gtr||c== .geq||c== .eql||c== .neq)=true)(e:a.eval x=I J m)(f:a.eval y=I J n):(execOp a.eval o).run prog w= .ok (.value (Bl (cmpI c m n))) w:=by
  unfold execOp;rw[d];dsimp only;rw[e,f];cases c<;>simp at b<;>simp[go_sem,cmpI]<;>rfl
theorem bo(h:WL ops Q rest b w){c:BinOp}{n:Int}(f:o.op= .binOp c 3 x y 3:=by rfl)(g:ah o (yielded ops a.tmps)=true:=by first|exact Ks.w0 rr|exact Ks.w1 rr rr (by simp only[Ks.zE];first|done|rfl|fail)|fail)(e:(c== .lss||c== .leq||c== .gtr||c== .geq||c== .eql||c== .neq)=true:=by rfl)(i:a.eval x=I J m:=by simp only[Ks.zE];first|done|rfl|fail)(j:a.eval y=I J n:=by simp only[Ks.zE];first|done|rfl|fail)(d:a.put o.dst (Bl (cmpI c m n))=b:=by simp only[Ks.zD,Ks.cmpI];first|done|rfl|fail):WL ops Q (o::rest) a w:=vb g d (xU f e i j) h
theorem G8(h:WQ ops w K rest b){c:BinOp}{n:Int}(f:o.op= .binOp c 3 x y 3:=by rfl)(g:ah o (yielded ops a.tmps)=true:=by first|exact Ks.w0 rr|exact Ks.w1 rr rr (by simp only[Ks.zE];first|done|rfl|fail)|fail)(e:(c== .lss||c== .leq||c== .gtr||c== .geq||c== .eql||c== .neq)=true:=by rfl)(i:a.eval x=I J m:=by simp only[Ks.zE];first|done|rfl|fail)(j:a.eval y=I J n:=by simp only[Ks.zE];first|done|rfl|fail)(d:a.put o.dst (Bl (cmpI c m n))=b:=by simp only[Ks.zD,Ks.cmpI];first|done|rfl|fail):WQ ops w K (o::rest) a:=vq g d (fun _ _=>xU f e i j) h
theorem KT(h:LX w K rest b){c:BinOp}{n:Int}(f:o.op= .binOp c 3 x y 3:=by rfl)(g:o.guard=Y:=by rfl)(e:(c== .lss||c== .leq||c== .gtr||c== .geq||c== .eql||c== .neq)=true:=by rfl)(i:a.eval x=I J m:=by simp only[Ks.zE];first|done|rfl|fail)(j:a.eval y=I J n:=by simp only[Ks.zE];first|done|rfl|fail)(d:a.put o.dst (Bl (cmpI c m n))=b:=by simp only[Ks.zD,Ks.cmpI];first|done|rfl|fail):LX w K (o::rest) a:=vy g d (fun _ _=>xU f e i j) h
theorem IA(b:o.op= .binOp .add 3 x y 3)(d:a.eval y=I J 1)(c:a.eval x=I J (k:Int))(e:k<9223372036854775807):(execOp a.eval o).run prog w= .ok (.value (I J ((k+1:Nat):Int))) w:=by
  unfold execOp;rw[b];dsimp only;rw[c,d];simp[go_sem];rw[IntWalk.i64_in _ ⟨oM,oM⟩]
theorem ic(h:WL ops Q rest b w)(d:o.op= .binOp .add 3 x y 3:=by rfl)(f:ah o (yielded ops a.tmps)=true:=by first|exact Ks.w0 rr|exact Ks.w1 rr rr (by simp only[Ks.zE];first|done|rfl|fail)|fail)(i:a.eval y=I J 1:=by simp only[Ks.zE];first|done|rfl|fail)(g:a.eval x=I J (k:Int):=by simp only[Ks.zE];first|done|rfl|fail)(e:k<9223372036854775807:=by omega)(c:a.put o.dst (I J ((k+1:Nat):Int))=b:=by simp only[Ks.zD];first|done|rfl|fail):WL ops Q (o::rest) a w:=vb f c (IA d i g e) h
theorem Hm(h:WQ ops w K rest b)(d:o.op= .binOp .add 3 x y 3:=by rfl)(f:ah o (yielded ops a.tmps)=true:=by first|exact Ks.w0 rr|exact Ks.w1 rr rr (by simp only[Ks.zE];first|done|rfl|fail)|fail)(i:a.eval y=I J 1:=by simp only[Ks.zE];first|done|rfl|fail)(g:a.eval x=I J (k:Int):=by simp only[Ks.zE];first|done|rfl|fail)(e:k<9223372036854775807:=by omega)(c:a.put o.dst (I J ((k+1:Nat):Int))=b:=by simp only[Ks.zD];first|done|rfl|fail):WQ ops w K (o::rest) a:=vq f c (fun _ _=>IA d i g e) h
theorem Iy{n:Int}(b:o.op= .binOp .add 3 x y 3)(c:a.eval x=I J m)(d:a.eval y=I J n)(e: -9223372036854775808<=m+n/\m+n<=9223372036854775807):(execOp a.eval o).run prog w= .ok (.value (I J (m+n))) w:=by
  unfold execOp;rw[b];dsimp only;rw[c,d];simp[go_sem];rw[IntWalk.i64_in _ ⟨oM,oM⟩]
theorem ad(h:WL ops Q rest b w){n:Int}(d:o.op= .binOp .add 3 x y 3:=by rfl)(f:ah o (yielded ops a.tmps)=true:=by first|exact Ks.w0 rr|exact Ks.w1 rr rr (by simp only[Ks.zE];first|done|rfl|fail)|fail)(g:a.eval x=I J m:=by simp only[Ks.zE];first|done|rfl|fail)(i:a.eval y=I J n:=by simp only[Ks.zE];first|done|rfl|fail)(e: -9223372036854775808<=m+n/\m+n<=9223372036854775807:=by omega)(c:a.put o.dst (I J (m+n))=b:=by simp only[Ks.zD];first|done|rfl|fail):WL ops Q (o::rest) a w:=vb f c (Iy d g i e) h
theorem G7(h:WQ ops w K rest b){n:Int}(d:o.op= .binOp .add 3 x y 3:=by rfl)(f:ah o (yielded ops a.tmps)=true:=by first|exact Ks.w0 rr|exact Ks.w1 rr rr (by simp only[Ks.zE];first|done|rfl|fail)|fail)(g:a.eval x=I J m:=by simp only[Ks.zE];first|done|rfl|fail)(i:a.eval y=I J n:=by simp only[Ks.zE];first|done|rfl|fail)(e: -9223372036854775808<=m+n/\m+n<=9223372036854775807:=by omega)(c:a.put o.dst (I J (m+n))=b:=by simp only[Ks.zD];first|done|rfl|fail):WQ ops w K (o::rest) a:=vq f c (fun _ _=>Iy d g i e) h
theorem IB{t:Bool}(b:o.op= .unOp .not T x)(c:a.eval x=Bl t):(execOp a.eval o).run prog w= .ok (.value (Bl (!t))) w:=by unfold execOp;rw[b];dsimp only;rw[c];rfl
theorem nt(h:WL ops Q rest b w){t:Bool}(d:o.op= .unOp .not T x:=by rfl)(e:ah o (yielded ops a.tmps)=true:=by first|exact Ks.w0 rr|exact Ks.w1 rr rr (by simp only[Ks.zE];first|done|rfl|fail)|fail)(f:a.eval x=Bl t:=by simp only[Ks.zE];first|done|rfl|fail)(c:a.put o.dst (Bl (!t))=b:=by simp only[Ks.zD,Bool.not_true,Bool.not_false];first|done|rfl|fail):WL ops Q (o::rest) a w:=vb e c (IB d f) h
theorem H7(h:WQ ops w K rest b){t:Bool}(d:o.op= .unOp .not T x:=by rfl)(e:ah o (yielded ops a.tmps)=true:=by first|exact Ks.w0 rr|exact Ks.w1 rr rr (by simp only[Ks.zE];first|done|rfl|fail)|fail)(f:a.eval x=Bl t:=by simp only[Ks.zE];first|done|rfl|fail)(c:a.put o.dst (Bl (!t))=b:=by simp only[Ks.zD,Bool.not_true,Bool.not_false];first|done|rfl|fail):WQ ops w K (o::rest) a:=vq e c (fun _ _=>IB d f) h
theorem BP{t:Bool}(b:o.op= .pick c x y)(d:a.eval c=Bl t):(execOp a.eval o).run prog w= .ok (.value (cond t (a.eval x) (a.eval y))) w:=by unfold execOp;rw[b];dsimp only;rw[d];cases t<;>rfl
theorem pk(h:WL ops Q rest b w){t:Bool}(e:o.op= .pick c x y:=by rfl)(f:ah o (yielded ops a.tmps)=true:=by first|exact Ks.w0 rr|exact Ks.w1 rr rr (by simp only[Ks.zE];first|done|rfl|fail)|fail)(g:a.eval c=Bl t:=by simp only[Ks.zE];first|done|rfl|fail)(d:a.put o.dst (cond t (a.eval x) (a.eval y))=b:=by simp only[Ks.zD,Ks.zE,cond_true,cond_false];first|done|rfl|fail):WL ops Q (o::rest) a w:=vb f d (BP e g) h
theorem H'(h:WQ ops w K rest b){t:Bool}(e:o.op= .pick c x y:=by rfl)(f:ah o (yielded ops a.tmps)=true:=by first|exact Ks.w0 rr|exact Ks.w1 rr rr (by simp only[Ks.zE];first|done|rfl|fail)|fail)(g:a.eval c=Bl t:=by simp only[Ks.zE];first|done|rfl|fail)(d:a.put o.dst (cond t (a.eval x) (a.eval y))=b:=by simp only[Ks.zD,Ks.zE,cond_true,cond_false];first|done|rfl|fail):WQ ops w K (o::rest) a:=vq f d (fun _ _=>BP e g) h
theorem xV{v:Vl}(b:o.op= .extract x i)(c:a.eval x= .tuple vs)(hv:vs[i]? =Z v):(execOp a.eval o).run prog w= .ok (.value (v)) w:=by unfold execOp;rw[b];dsimp only;rw[c];simp[Instr.extract,hv]
theorem ex(h:WL ops Q rest b w){v:Vl}(d:o.op= .extract x i:=by rfl)(e:ah o (yielded ops a.tmps)=true:=by first|exact Ks.w0 rr|exact Ks.w1 rr rr (by simp only[Ks.zE];first|done|rfl|fail)|fail)(f:a.eval x= .tuple vs:=by simp only[Ks.zE];first|done|rfl|fail)(hv:vs[i]? =Z v:=by rfl)(c:a.put o.dst (v)=b:=by simp only[Ks.zD];first|done|rfl|fail):WL ops Q (o::rest) a w:=vb e c (xV d f hv) h
theorem G9(h:WQ ops w K rest b){v:Vl}(d:o.op= .extract x i:=by rfl)(e:ah o (yielded ops a.tmps)=true:=by first|exact Ks.w0 rr|exact Ks.w1 rr rr (by simp only[Ks.zE];first|done|rfl|fail)|fail)(f:a.eval x= .tuple vs:=by simp only[Ks.zE];first|done|rfl|fail)(hv:vs[i]? =Z v:=by rfl)(c:a.put o.dst (v)=b:=by simp only[Ks.zD];first|done|rfl|fail):WQ ops w K (o::rest) a:=vq e c (fun _ _=>xV d f hv) h
end
def fz(f:Nat->Vl):List (Nat×Vl)->Nat->Nat->List Vl
 |_,_,0=>[]
 |[],i,n+1=>f i::fz f [] (i+1) n
 |(j,v)::r,i,n+1=>cond (j==i) (v::fz f r (i+1) n) (f i::fz f ((j,v)::r) (i+1) n)
def Fm(n:Nat)(l:List (Nat×Vl))(f:Nat->Vl):Act:={tmps:=(fz f l 0 n).toArray,defers:=[]}
abbrev pt(b o:Nat):Vl:=X (Z ⟨b,o,Y⟩)
def nN(n:Nat)(l:List (Nat×Vl))(a:Act):Prop:=a=Fm n l fun j=>a.tmps.getD j undef
theorem nN.ex{n:Nat}{l:List (Nat×Vl)}{a:Act}(h:nN n l a):∃f,a=Fm n l f:=⟨_,h⟩
theorem gY{n:Nat}{l:List (Nat×Vl)}{a:Act}(h:a=Fm n l fun j=>a.tmps.getD j undef):nN n l a:=h
theorem lp{c:Code}{Q:Exit->Act->D->Prop}{a:Act}{w:D}{i:Type}(n:Nat)(L:i->List (Nat×Vl))(b:Nat->i->D->Prop)(m:Nat)(s:i)(o:b m s w)(round:∀m s w f,b m s w->c.wp P (Exit.then (fun j w'=>∃d g,d<m/\nN n (L g) j/\b d g w') Q) (Fm n (L s) f) w)(l:nN n (L s) a:=by unfold Ks.nN;kernel_rfl):(Code.loop c).wp P Q a w:=
 loop (fun m a w=>∃s f,a=Fm n (L s) f/\b m s w) m ⟨s,_,l,o⟩ (by
  rintro m a w ⟨s,f,rfl,h⟩;refine wp_mono (round m s w f h) ?_;intro e j w' k;cases e with
  |normal=>
   obtain⟨d,g,h1,h2,h3⟩:=k;exact⟨d,h1,g,_,h2,h3⟩
  |_=>exact k)
theorem sk{a:Act}{w:D}{Q:Exit->Act->D->Prop}{K:Act->D->Prop}(h:K a w):Code.skip.wp P (Exit.then K Q) a w:=wp_skip h
theorem au{p:Prop}(h:q)(k:Bx q->p:=by intro h;(try with_reducible refine Ks.WL.o ?_);(repeat (first|(refine Ks.gl ?_;intro Q' a;(first|refine Ks.fo ?_|refine Ks.mv ?_|refine Ks.nc ?_|refine Ks.fa ?_|refine Ks.ld ?_|refine Ks.lw ?_|refine Ks.lr ?_|refine Ks.ix ?_|refine Ks.bo ?_|refine Ks.ln ?_|refine Ks.ic ?_|refine Ks.ad ?_|refine Ks.ex ?_|refine Ks.nt ?_|refine Ks.pk ?_);(repeat (first|refine Ks.fo ?_|refine Ks.mv ?_|refine Ks.nc ?_|refine Ks.fa ?_|refine Ks.ld ?_|refine Ks.lw ?_|refine Ks.lr ?_|refine Ks.ix ?_|refine Ks.bo ?_|refine Ks.ln ?_|refine Ks.ic ?_|refine Ks.ad ?_|refine Ks.ex ?_|refine Ks.nt ?_|refine Ks.pk ?_));refine a _ _ ?_;clear a Q')|with_reducible refine Ks.ye ?_|with_reducible refine Ks.x' ?_|(with_reducible first|refine wp_seq ?_|refine Ks.BS ?_|refine Ks.sk ?_|refine wp_skip ?_|refine km ?_|refine wp_block ?_|refine wp_exit ?_|refine Ks.ys ?_|refine Ks.oF ?_|refine Ks.mr ?_|refine wp_ret ?_|refine kt ?_|refine Ks.mB ?_)|((with_reducible refine wp_cond_true ?_ ?_);exact rfl)|((with_reducible refine wp_cond_false ?_ ?_);exact rfl)));(try with_reducible refine Ks.WL.mk ?_);exact h.o):p:=k ⟨h⟩
theorem af{p:Prop}(h:q)(k:Bx q->p:=by intro h;simp only[Ks.Fm,Ks.fz,Nat.reduceBEq,cond_true,cond_false,Nat.reduceAdd];(repeat (first|(refine Ks.gl ?_;intro Q' a;(first|refine Ks.fo ?_|refine Ks.mv ?_|refine Ks.nc ?_|refine Ks.fa ?_|refine Ks.ld ?_|refine Ks.lw ?_|refine Ks.lr ?_|refine Ks.ix ?_|refine Ks.bo ?_|refine Ks.ln ?_|refine Ks.ic ?_|refine Ks.ad ?_|refine Ks.ex ?_|refine Ks.nt ?_|refine Ks.pk ?_);(repeat (first|refine Ks.fo ?_|refine Ks.mv ?_|refine Ks.nc ?_|refine Ks.fa ?_|refine Ks.ld ?_|refine Ks.lw ?_|refine Ks.lr ?_|refine Ks.ix ?_|refine Ks.bo ?_|refine Ks.ln ?_|refine Ks.ic ?_|refine Ks.ad ?_|refine Ks.ex ?_|refine Ks.nt ?_|refine Ks.pk ?_));refine a _ _ ?_;clear a Q')|with_reducible refine Ks.ye ?_|with_reducible refine Ks.x' ?_|(with_reducible first|refine wp_seq ?_|refine Ks.BS ?_|refine Ks.sk ?_|refine wp_skip ?_|refine km ?_|refine wp_block ?_|refine wp_exit ?_|refine Ks.ys ?_|refine Ks.oF ?_|refine Ks.mr ?_|refine wp_ret ?_|refine kt ?_|refine Ks.mB ?_)|((with_reducible refine wp_cond_true ?_ ?_);exact rfl)|((with_reducible refine wp_cond_false ?_ ?_);exact rfl)));(try with_reducible refine Ks.WL.mk ?_);exact h.o):p:=k ⟨h⟩
theorem aw{p:Prop}(h:q)(k:Bx q->p:=by intro h;(try with_reducible refine Ks.WL.o ?_);(repeat (first|(refine Ks.gl ?_;intro Q' a;(first|refine Ks.fo ?_|refine Ks.mv ?_|refine Ks.nc ?_|refine Ks.fa ?_|refine Ks.ld ?_|refine Ks.lw ?_|refine Ks.lr ?_|refine Ks.ix ?_|refine Ks.bo ?_|refine Ks.ln ?_|refine Ks.ic ?_|refine Ks.ad ?_|refine Ks.ex ?_|refine Ks.nt ?_|refine Ks.pk ?_);(repeat (first|refine Ks.fo ?_|refine Ks.mv ?_|refine Ks.nc ?_|refine Ks.fa ?_|refine Ks.ld ?_|refine Ks.lw ?_|refine Ks.lr ?_|refine Ks.ix ?_|refine Ks.bo ?_|refine Ks.ln ?_|refine Ks.ic ?_|refine Ks.ad ?_|refine Ks.ex ?_|refine Ks.nt ?_|refine Ks.pk ?_));refine a _ _ ?_;clear a Q')|with_reducible refine Ks.ye ?_|with_reducible refine Ks.x' ?_|(with_reducible first|refine wp_seq ?_|refine Ks.BS ?_|refine Ks.sk ?_|refine wp_skip ?_|refine km ?_|refine wp_block ?_|refine wp_exit ?_|refine Ks.ys ?_|refine Ks.oF ?_|refine Ks.mr ?_|refine wp_ret ?_|refine kt ?_|refine Ks.mB ?_)|((with_reducible refine wp_cond_true ?_ ?_);exact rfl)|((with_reducible refine wp_cond_false ?_ ?_);exact rfl)));exact h.o):p:=k ⟨h⟩
theorem al{p:Prop}(h:q)(k:Bx q->p:=by intro h;(try with_reducible refine Ks.WL.o ?_);(repeat (first|(refine Ks.gl ?_;intro Q' a;(first|refine Ks.fo ?_|refine Ks.mv ?_|refine Ks.nc ?_|refine Ks.fa ?_|refine Ks.ld ?_|refine Ks.lw ?_|refine Ks.lr ?_|refine Ks.ix ?_|refine Ks.bo ?_|refine Ks.ln ?_|refine Ks.ic ?_|refine Ks.ad ?_|refine Ks.ex ?_|refine Ks.nt ?_|refine Ks.pk ?_);(repeat (first|refine Ks.fo ?_|refine Ks.mv ?_|refine Ks.nc ?_|refine Ks.fa ?_|refine Ks.ld ?_|refine Ks.lw ?_|refine Ks.lr ?_|refine Ks.ix ?_|refine Ks.bo ?_|refine Ks.ln ?_|refine Ks.ic ?_|refine Ks.ad ?_|refine Ks.ex ?_|refine Ks.nt ?_|refine Ks.pk ?_));refine a _ _ ?_;clear a Q')|with_reducible refine Ks.ye ?_|with_reducible refine Ks.x' ?_));(try with_reducible refine Ks.WL.mk ?_);exact h.o):p:=k ⟨h⟩
theorem aq{p:Prop}(h:q)(k:Bx q->p:=by intro h;(try with_reducible refine Ks.WQ.o ?_);(repeat (first|(refine Ks.gq ?_;intro Q' a;(first|refine Ks.Hd ?_|refine Ks.HZ ?_|refine Ks.H5 ?_|refine Ks.G' ?_|refine Ks.Hp ?_|refine Ks.HJ ?_|refine Ks.Hw ?_|refine Ks.Hn ?_|refine Ks.G8 ?_|refine Ks.Hu ?_|refine Ks.Hm ?_|refine Ks.G7 ?_|refine Ks.G9 ?_|refine Ks.H7 ?_|refine Ks.H' ?_);(repeat (first|refine Ks.Hd ?_|refine Ks.HZ ?_|refine Ks.H5 ?_|refine Ks.G' ?_|refine Ks.Hp ?_|refine Ks.HJ ?_|refine Ks.Hw ?_|refine Ks.Hn ?_|refine Ks.G8 ?_|refine Ks.Hu ?_|refine Ks.Hm ?_|refine Ks.G7 ?_|refine Ks.G9 ?_|refine Ks.H7 ?_|refine Ks.H' ?_));refine a _ _ ?_;clear a Q')|refine Ks.WB ?_));exact h.o):p:=k ⟨h⟩
theorem ay{p:Prop}(h:q)(k:Bx q->p:=by intro h;(try with_reducible refine Ks.LX.o ?_);(repeat (first|(refine Ks.gy ?_;intro Q' a;(first|refine Ks.K0 ?_|refine Ks.K1 ?_|refine Ks.KU ?_|refine Ks.KW ?_|refine Ks.KZ ?_|refine Ks.KY ?_|refine Ks.KV ?_|refine Ks.KX ?_|refine Ks.KT ?_);(repeat (first|refine Ks.K0 ?_|refine Ks.K1 ?_|refine Ks.KU ?_|refine Ks.KW ?_|refine Ks.KZ ?_|refine Ks.KY ?_|refine Ks.KV ?_|refine Ks.KX ?_|refine Ks.KT ?_));refine a _ _ ?_;clear a Q')));refine Ks.LX.mk ?_;exact h.o):p:=k ⟨h⟩
end Ks
namespace Gt
open Mp Bk
theorem RH{l:List Field}{a b:String×TypeId×Nat}(h:l.map (fun f=>(f.name,f.type,f.offset))=[a,b]):∃f g:Field,l=[f,g]/\(f.name,f.type,f.offset)=a/\(g.name,g.type,g.offset)=b:=by
 match l,h with
 |[],h=>simp at h
 |[f],h=>simp at h
 |[f,g],h=>
  simp only[List.map_cons,List.map_nil,List.cons.injEq,and_true] at h;exact⟨f,g,rfl,h.1,h.2⟩
 |f::g::k::r,h=>simp at h
theorem EY{n m:String}(k:(prog.fieldsOf t).toList.map (fun f=>(f.name,f.type,f.offset))=[(n,3,0),(m,3,1)])(p:n≠ "_")(o:m≠ "_")(s:prog.underlying t=Z (.struct (prog.fieldsOf t)))(q:prog.stoodInHeld t=false)(w:D)(a b:Int×Int):
  (Op.equal t (two a) (two b)).run prog w= .ok (decide (a=b)) w:=by
 obtain⟨f,g,l,h1,h2⟩:=RH k;injection h1 with h h1
 injection h1 with i j
 injection h2 with g1 h2
 injection h2 with g2 g3
 have r:=run_equalIn_struct (P:=prog) w 9999 t #[I J a.1,I J a.2] #[I J b.1,I J b.2] s q;have u:=fun x y:Int=>run_part_plain (P:=prog) w (e:=3) (xs:= #[I J x,I J y]) (off:=0) (v:=I J x) kr rfl;have d:=fun x y:Int=>run_part_plain (P:=prog) w (e:=3) (xs:= #[I J x,I J y]) (off:=1) (v:=I J y) kr rfl;have c:∀x y:Int,(Op.equalIn 9999 3 (I J x) (I J y)).run prog w= .ok (x==y) w:=fun x y=>run_equalIn_int (P:=prog) (w:=w) 9998 3 .i64 .i64 x y underlying3;unfold Op.equal two;show(Op.equalIn (9999+1) t _ _).run _ w=_;rw[r,l];simp only[Op.eqFields,h,g1,i,g2,j,g3,ne_eq,p,o,not_false_eq_true,if_true,aH,u,c,ar];by_cases h1:a.1=b.1
 ·by_cases h2:a.2=b.2
  ·have:a=b:=Prod.ext h1 h2
   simp[this,d,c]
  ·have:a≠b:=fun e=>h2 (by rw[e])
   simp[h1,h2,this,d,c]
 ·have:a≠b:=fun e=>h1 (by rw[e])
  simp[h1,this]
theorem Je(w:D)(a:Int×Int):(jC (two a) (two a)).run prog w= .ok (two a) w:=by
 simp[jC,Instr.sameBits,two]
theorem ua:pq prog 154 two where
 und:=⟨_,underlying154,fun _ _=>rfl⟩
 eq:=EY (n:= "Gate") (m:= "Number") kr dc dc kr kr
 inj:=xj
 check:=fun w em a=>by
  unfold two;kernel_rfl
 stays:=Je
theorem yd:pq prog 150 two where
 und:=⟨_,underlying150,fun _ _=>rfl⟩
 eq:=EY (n:= "Epoch") (m:= "Serial") kr dc dc kr kr
 inj:=xj
 check:=fun w em a=>by
  unfold two;kernel_rfl
 stays:=Je
theorem qG:prog.underlying 137=Z (.map 154 194):=kr
theorem oH:prog.underlying 138=Z (.map 154 150):=kr
theorem uk:prog.underlying 139=Z (.map 150 194):=kr
theorem Jj(w:D):(zeroValue 194).run prog w= .ok (H #[]) w:=kr
theorem T2(w:D):(zeroValue 150).run prog w= .ok (two (0,0)) w:=by
 unfold two;kernel_rfl
