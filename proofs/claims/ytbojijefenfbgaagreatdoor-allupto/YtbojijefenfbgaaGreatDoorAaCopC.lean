/- Walks of the law's copies: copiedDigest. A region that draws its order, with guards, in which a whole row is written ('return x, a && f(b)'). Walks of the law: tell. What is known in the midst of 'n, ok := w.tell(p, q.y.Digest(), o.N)', in whatever order its operations come up. -/
import Derived.Test.YtbojijefenfbgaaGreatDoorAaWldB
open Prod renaming fst->aj
open Go.Value renaming oneCell'->av
open Nat renaming le_trans->ag,zero_le->aF,le_refl->bA,zero_add->bC,reduceEqDiff->ez
open List renaming length->dH,mem_of_getElem?->aJ,take_succ_cons->ak,take_zero->aE,drop_succ_cons->ax,drop_zero->aK,mem_map->aU
open Go.Obj renaming cells->cK
open Go.Region renaming waitsFor->aI,wanted->ah
open Eq renaming trans->aN
open Bool renaming noConfusion->aW
open Option renaming some->Z,none->Y
open Go.Value renaming int->I,pointer->X,agg->H,bool->Bl,string->sT,tuple->Tp
open Go.IntKind renaming i64->J
open Go.Obj renaming cells->Cl
open Go.Ending renaming returned->Re
open Go renaming World->D,Value->Vl
open Go.RowKit renaming Below->O
set_option maxHeartbeats 4000000
set_option maxRecDepth 100000
open Go Go.RowKit
open Go.Proofs.YtbojijefenfbgaaGreatDoor
open Ks(au box decl pt aq pure w0)
open Qt(nD nE iK wM lG qL)
variable{F S:Nat->Prop}{g:Nat}
namespace Go.Proofs.YtbojijefenfbgaaGreatDoor
open Tryz
namespace Gt
open Mp Bk Tk
theorem Yg(w:D)(a:Int)(v:Vl)(k:List (Sn×Vl))(hv:mi F w v k)(hl:k.length<=1000000000)(hm:∀p∈k,p.1.more.length<=1000000000):Calls prog 207 #[H #[I J a,v]] w fun e w'=>∃v' l,e=Re (H #[I J a,v'])/\l.map aj=k.map aj/\ia (fun k=>w.heap.size<=k) w' v' l/\O w.heap.size w w':=by
 obtain⟨p,cap,rfl,t⟩:=hv.row.form qE;have HV:Hq (mi F w (.slice p k.length cap) k):=hv;have HP:Hq (∀i x,k[i]? =Z x->∃b off,p=Z ⟨b,off,Y⟩/\b<w.heap.size/\w.rangeAt b (off+i*3) (jY x.1 x.2)):=t;clear hv t;go_enter func207,ntmps207
 refine au ?_;refine box rfl _ _ rfl #[I J a,.slice p k.length cap] rfl ?_;intro w1 b1 l4 W a7 l2;simp only[zD];refine Ks.alloc rfl _ rfl (H #[I J 0,.slice none 0 0]) kr #[I J 0,.slice none 0 0] rfl ?_;intro w2 j b6 Q a8 l3;have a6:=ca a8 W;have c8:=tR a7 a8;have l7:w.heap.size<=j:=by rw[b6.o];exact a7.o.size
 have o4:b1≠j:=fun e=>by have:=(aL W.o);have:=b6.o;omega
 clear W a7 a8 l2 l3 l4 b6;simp only[zD];refine au ?_;refine kv (H #[I J a,.slice none 0 0]) ?_;refine decl rfl _ rfl (H #[I J 0,.slice none 0 0]) kr rfl _ _ rfl #[I J a,.slice none 0 0] (fun _=>rfl) (fun _=>rfl) kr rfl (by simp[av]) ?_;intro w3 n R e7 P;have l8:w.heap.size<=n:=ag c8.size R.o;have l5:b1≠n:=fun e=>by have:=(aL a6.o);have:=R.o;omega
 have l6:j≠n:=fun e=>by have:=(aL Q.o);have:=R.o;omega
 have c9:=ca P a6;have q:Hq (RD w j n a (.slice none 0 0) [] w3):=⟨c8.trans (P.o.mono c8.size),(P.o.block _ (aL Q.o)).trans Q.o,e7.o,ia.nil _ _⟩;clear a6 Q P e7 R;simp only[zD];refine au ?_;refine Ks.lp 46 (fun i:Nat=>[(1,pt b1 0),(2,pt j 0),(3,pt n 0),(4,I J (i:Int))]) (fun m i wr=>i<=k.length/\m=k.length-i/\∃vs l,l.map aj=(k.map aj).take i/\RD w j n a vs l wr/\wr.heap[b1]? =Z (Cl #[I J a,.slice p k.length cap] 71 (0,0))) k.length 0 ⟨aF _,rfl,_,[],rfl,q.o,c9.o⟩ ?_;clear q c9;rintro m i wr f ⟨hi,rfl,vs,l,c6,hX,hA⟩;have q:Hq (RD w j n a vs l wr):=hX;have HA:Hq (wr.heap[b1]? =_):=hA;clear hX hA;have o5:l.length<=k.length:=by have:=congrArg dH c6;simp at this;omega
 refine Ks.af ?_;refine wp_cond_split rfl ?_ ?_
 ·intro K
  have K:i<k.length:=by have:=of_decide_eq_true K;omega
  obtain⟨⟨s,mv⟩,U⟩:∃y,k[i]? =Z y:=⟨_,List.getElem?_eq_getElem K⟩;obtain⟨bb,o1,rfl,h1,h2⟩:=HP.o i _ U;have h6:=hm _ (aJ U);have HM:=HV.o.more _ (aJ U);have hr:Hq (∀w',O w.heap.size w w'->Hq (w'.rangeAt bb (o1+i*3) (jY s mv))):=fun w' N=>lX h2 N h1;have R1:=hr.o wr q.o.kx;clear h2;refine au ?_;refine Qt.tT 13 (fun u w'=>∃b,u=X (Z ⟨b,0,Y⟩)/\wr.heap.size<=b/\w'.heap[b]? =Z (Cl #[I J 0,I J 0,.slice none 0 0] 213 (0,0))) kr kr (fun u w w' ⟨b,e,h1,h2⟩ N=>⟨b,e,h1,(N.block b (aL h2)).trans h2⟩) _ rfl ?_;simp only[ak,aE];refine Ks.ay ?_;refine yV (H (jY s (.slice none 0 0)).toArray) ?_;refine Qt.gh ⟨fun w' N=> ?_,?_⟩
  ·exact⟨⟨w'.heap.size,rfl,N.size,Go.heap_alloc_new w' _⟩,⟨rfl,rfl,rfl,sP,fun k G=>Go.heap_alloc_old w' _ G⟩⟩
  simp only[ax,aK];rintro u w4 h0 ⟨b5,rfl,h5,V⟩;have h9:vs.ownBlock≠Z b5:=fun e=>by have:=q.o.seen.row.lt _ e;omega
  have B:Hq (RD w j n a vs l w4):=q.o.below h0;have e1:=ca h0 HA;have j0:=q.o.kx;clear q HA R1;simp only[zD];refine Ks.whole rfl _ _ _ rfl b5 (jY s (.slice none 0 0)).toArray rfl rfl V kr rfl (by simp[jY,av]) ?_;intro w5 e5 z g H4;have A:∀{b cs},w4.heap[b]? =Z (cK cs 71 (0,0))->w5.heap[b]? =Z (cK cs 71 (0,0)):=fun{b cs} h=>(g.o b fun e=>by
   rw[e,V] at h;cases h).trans h
  have b0:Hq (RD w j n a vs l w5):=⟨B.o.kx.trans ((z.o (fun _=>False) w.heap.size (oR (ag j0.size h5))).below lR (fun _ _ h=>h)),A B.o.res,A B.o.d,⟨Row.other B.o.seen.row h9 g.o,fun p t=>Row.other (B.o.seen.more p t) (kV (B.o.seen.more p t) V dc) g.o,B.o.seen.apart⟩⟩;have e2:Hq (w5.heap[b1]? =_):=A e1.o;clear B e1 z g H4 A V;have R5:=hr.o w5 b0.o.kx;simp only[Act.put];refine au ?_;refine Qg.im 8 kr kr ?_;refine aq ?_;intro w6 b7;have M:Hq (RD w j n a vs l w6):=b0.o.below b7;have e3:=ca b7 e2;have e6:=ca b7 e5;clear b0 e2 e5 R5;refine EO rfl _ _ _ rfl 3 (I J 0) 1 8 underlying25 qC rfl oM rfl mv s.more.length (s.more.map hE) rfl (HM.below M.o.kx) (fun c S=>by
   obtain⟨x,_,rfl⟩:=aU.1 S;rfl) (by simp only at h6;unfold maxLen;omega) (by simp only at h6;omega) ?_
  intro E w7 c7 b8;have C:Hq (RD w j n a vs l w7):=M.o.below b8;have e4:=ca b8 e3;have L:=ca b8 e6;have n5:∀p∈l,∀k,p.2.ownBlock=Z k->E.ownBlock≠Z k:=fun p t k h3 h4=>by
   have:=(M.o.seen.more p t).lt k h3;have:=c7.2 k h4;omega
  have T:Row (fun k=>w.heap.size<=k) w7 3 1 E s.more.length (s.more.map hE):=c7.mono fun k G=>ag M.o.kx.size G;clear M e3 e6 c7;simp only[zD];refine Ks.al ?_;refine Ks.store rfl _ _ _ rfl b5 2 E rfl rfl L.o (by show 2<3;omega) kr (row_one T) (jY s E).toArray rfl ?_;intro w8 n9 z g H4;have l9:O w.heap.size w w8:=C.o.kx.trans ((z.o (fun _=>False) w.heap.size (oR (ag j0.size h5))).below lR (fun _ _ h=>h));have A:∀{b cs},w7.heap[b]? =Z (cK cs 71 (0,0))->w8.heap[b]? =Z (cK cs 71 (0,0)):=fun{b cs} h=>(g.o b fun e=>by
   rw[e,L.o] at h;cases h).trans h
  have r:Hq (RD w j n a vs l w8):=⟨l9,A C.o.res,A C.o.d,⟨Row.other C.o.seen.row h9 g.o,fun p t=>Row.other (C.o.seen.more p t) (kV (C.o.seen.more p t) L.o dc) g.o,C.o.seen.apart⟩⟩;have j2:Hq (w8.heap[b1]? =_):=A e4.o;have h7:=Row.other T (kV T L.o dc) g.o;have o0:Hq (w8.heap[n]? =_):=r.o.d;clear C e4 L T z g H4 A;simp only[Act.put];refine au ?_;refine Ks.push rfl rfl 69 213 _ _ _ rfl rfl (H (jY s E).toArray) (H #[I J 0,I J 0,.slice none 0 0]) rfl (jY s E).toArray 3 40 underlying69 wL dc dc kr rfl dc _ vs l.length (oq l) (fun _=>rfl) (fun _=>rfl) r.o.seen.row rfl (fun c S=>by
   simp[jY] at S;rcases S with rfl|rfl|rfl
   ·rfl
   ·rfl
   ·exact row_one h7) oM ?_
  intro u j1 w9 h8 c0;have c4:∀{b cs},w8.heap[b]? =Z (cK cs 71 (0,0))->w9.heap[b]? =Z (cK cs 71 (0,0)):=fun{b cs} h=>(c0.block b (aL h) (kV r.o.seen.row h dc)).trans h;have e9:Hq (w9.heap[n]? =_):=c4 r.o.d;have l1:Hq (w9.heap[j]? =_):=c4 r.o.res;have j5:Hq (w9.heap[b1]? =_):=c4 j2.o;have n0:O w.heap.size w w9:=r.o.kx.trans (c0.below r.o.kx.size fun k G e=>absurd (r.o.seen.row.2 k e) oM);simp only[zD];refine au ?_;refine Ks.store rfl _ _ _ rfl n 1 _ rfl rfl e9.o (by show 1<2;omega) kr (row_one h8) #[I J a,j1] rfl ?_;intro wa j9 z g H4;simp only[Act.put];refine au ?_;refine⟨k.length-(i+1),i+1,oM,Ks.gY kr,K,rfl,j1,l++[(s,E)],?_,⟨n0.trans ((z.o (fun _=>False) w.heap.size (oR l8)).below lR (fun _ _ h=>h)),(g.o j l6).trans l1.o,j9.o,?_⟩,(g.o b1 l5).trans j5.o⟩
  ·rw[List.map_append,c6,nd (l:=k.map aj) (x:=s) (by rw[List.getElem?_map,U];rfl)]
   rfl
  ·exact((ia.Ez r.o.seen s h7 n5 h8 c0).other e9.o dc dc g.o).mono fun k G=>G.elim id fun e=>ag r.o.kx.size e
 ·intro K
  obtain rfl:i=k.length:=by have:=of_decide_eq_false K;omega
  have HD:Hq (wr.heap[n]? =_):=q.o.d;refine au ?_;refine Ks.whole rfl _ _ _ rfl j #[I J a,vs] rfl rfl q.o.res kr rfl (by simp[row_one q.o.seen.row];rfl) ?_;intro w5 l0 z g H4;simp only[Act.put];refine au ?_;refine Own.jM results207 rfl j _ #[I J a,vs] _ _ rfl l0.o underlying71 rfl kr ⟨vs,l,rfl,?_,q.o.seen.other q.o.res dc dc g.o,q.o.kx.trans ((z.o (fun _=>False) w.heap.size (oR l7)).below lR (fun _ _ h=>h))⟩;rw[c6,List.take_of_length_le sP]
end Gt
namespace Qt
def uP(P:Program)(ops:Array Oper)(w:D)(r:Nat)(a:Nat->Vl)(F:(Nat->Vl)->Act):List Oper->Nat->Prop
 |[],_=>True
 |o::l,k=>(∀U w',Fr (fun b=>b=r) w.heap.size w w'->(∀j,aI .any ops k j=true->U j=a j)->ah o (yielded ops (F U).tmps)=true/\((execOp (F U).eval o).run P w'= .ok (.value (a k)) w'\/∃f args,(execOp (F U).eval o).run P w'= .ok (.enter f args) w'/\Calls P f args w' fun e c=>e=Re (a k)/\O w'.heap.size w' c))/\uP P ops w r a F l (k+1)
theorem uP.get{P:Program}{ops:Array Oper}{w:D}{r:Nat}{a:Nat->Vl}{F:(Nat->Vl)->Act}:∀(l:List Oper)(k:Nat),uP P ops w r a F l k->∀i o,l[i]? =Z o->∀U w',Fr (fun b=>b=r) w.heap.size w w'->(∀j,aI .any ops (k+i) j=true->U j=a j)->ah o (yielded ops (F U).tmps)=true/\((execOp (F U).eval o).run P w'= .ok (.value (a (k+i))) w'\/∃f args,(execOp (F U).eval o).run P w'= .ok (.enter f args) w'/\Calls P f args w' fun e g=>e=Re (a (k+i))/\O w'.heap.size w' g)
 |[],_,_,i,o,h=>by simp at h
 |d::l,k,⟨h1,h2⟩,i,o,h=>by
  cases i with
  |zero=>
   obtain rfl:d=o:=by simpa using h
   exact h1
  |succ i=>
   intro U w' c hd;have:=uP.get l (k+1) h2 i o (by simpa using h) U w' c (fun j m=>hd j (by rwa [show k+(i+1)=k+1+i by omega]));rwa [show k+(i+1)=k+1+i by omega]
theorem Ov{P:Program}{id:Nat}{Q:Exit->Act->D->Prop}{a:Act}{w:D}{l:List Oper}(n:Nat)(g:Nat->Vl)(r:Nat)(hQ cs:Array Vl)(T:TypeId)(K:P.follows .mixedOrders=true)(q:relGB l.toArray (n+1)=true)(t:w.heap[r]? =Z (Cl hQ T (0,0)))(V:(P.info? T).map (·.size)=Z cs.size)(M:hQ.size=cs.size)(h1:cs.all (·.oneCell')=true)
  (os:Oper) (N:l[n]? =Z os) (L:os.guard=Y) (x y:Operand) (R:os.op= .store T x y) (a6:∀U,(∀j,j<n->aI .any l.toArray n j=true->U j=g j)->(gu U (l.take (n+1)) 0 a).eval x=X (Z ⟨r,0,Y⟩)/\(gu U (l.take (n+1)) 0 a).eval y=H cs)
  (B:uP P l.toArray w r g (fun U=>gu U (l.take (n+1)) 0 a) (l.take n) 0)
  (I:∀U w',Fr (fun b=>b=r) w.heap.size w w'->w'.heap[r]? =Z (Cl cs T (0,0))->(∀j,j<n->U j=g j)->wpList P l.toArray Q (l.drop (n+1)) (gu U (l.take (n+1)) 0 a) w'):(Code.region id l.toArray true).wp P Q a w:=by
 have a8:=(aL t);have F:∀i j,i<n+1->aI .any l.toArray i j=true->j<i:=fun i j hi c=>back q hi c;have E:∀{u v:D},Fr (fun b=>b=r) w.heap.size w u->O u.heap.size u v->Fr (fun b=>b=r) w.heap.size w v:=fun h p=>h.calls p h.size;refine G1 (m:=n) (T:=fun i u v=>if i=n then v=u.setRow r cs else O u.heap.size u v) (G:=fun b w'=>Fr (fun b=>b=r) w.heap.size w w'/\w'.heap[r]? =Z (Cl (if b then cs else hQ) T (0,0))) (n+1) (fun j x _=>j≠n->x=g j) ⟨⟨rfl,rfl,rfl,bA _,fun _ _ _=>rfl⟩,t⟩ K ?_ ?_ q ?_ ?_ oM ?_
 ·intro i b u v hi ⟨g1,g2⟩ d
  rw[if_neg hi] at d;exact⟨E g1 d,(d.block r (aL g2)).trans g2⟩
 ·intro u v ⟨g1,g2⟩ d
  rw[if_pos rfl] at d;rw[d];exact⟨g1.setRow r cs (oL rfl),setRow_heap u r _ cs T (0,0) g2⟩
 ·intro i j x u v _ _ _ _ b _ _ hx _
  exact hx
 ·intro i o hi s U w' b p ⟨g1,g2⟩ hd
  by_cases e:i=n
  ·subst e
   obtain rfl:os=o:=Option.some.inj (N.symm.trans s);obtain rfl:b=false:=p rfl;obtain⟨z,A⟩:=a6 U fun j c W=>hd j oM W oM;refine⟨by simp[ah,L],?_⟩;have S:=run_storeVar_row (P:=P) w' r T T hQ cs g2 V M h1;unfold execOp;simp only[R,z,A,Instr.storeAt,Instr.sureAddr,Sem.run_bind,Sem.run_pure,Result.andThen_ok,S];exact⟨fun h=>absurd rfl h,sP⟩
  ·have J:i<n:=by omega
   have h3:=uP.get (l.take n) 0 B i o (by rw[List.getElem?_take_of_lt J];exact s) U w' g1 (fun j c=>by
    rw[bC] at c;have a7:=F i j hi c;exact hd j oM c oM)
   rw[bC] at h3;refine⟨h3.1,?_⟩;simp only[if_neg e];rcases h3.2 with k|⟨f,args,k,C⟩
   ·rw[k]
    exact⟨fun _=>rfl,Below.refl _ _⟩
   ·rw[k]
    exact C.mono fun e b0 ⟨a1,a2⟩=>⟨_,a1,fun _=>rfl,a2⟩
 ·intro U w' ⟨g1,g2⟩ hd
  exact I U w' g1 g2 fun j c=>hd j oM oM
end Qt
namespace Gt
open Mp Bk
section
variable {o:Oper} {a:Act} {w:D} {c x y:Operand} {v:Vl}
theorem pM(b:o.op= .move x\/o.op= .assign x)(c:a.eval x=v):(execOp a.eval o).run prog w= .ok (.value v) w:=c▸Ks.xW b
theorem xX(d:o.op= .pick c x y)(b:a.eval c=Bl true)(e:a.eval x=v):(execOp a.eval o).run prog w= .ok (.value v) w:=by
 rw[Ks.BP d b,cond_true,e]
theorem Iz{m:Int}(b:o.op= .binOp .eql 3 x y 3)(c:a.eval x=I J m)(d:a.eval y=I J m):(execOp a.eval o).run prog w= .ok (.value (Bl true)) w:=by
 rw[Ks.xU b rfl c d];simp[Ks.cmpI]
theorem Jx{e:Int}(d:Array TypeId)(b:o.op= .call {callee:=.value (.func 22),args:= #[x],argTypes:=d})(c:a.eval x=I J e):(execOp a.eval o).run prog w= .ok (.enter 22 #[I J e]) w:=by
 have h:(execOp a.eval o).run prog w= .ok (.enter 22 #[a.eval x]) w:=by
  unfold execOp;rw[b];kernel_rfl
 rw[h,c]
end
def uh(F:Int)(d:List Sn)(a:Int):Prop:=mY F d=true/\0<=a
instance (F:Int) (d:List Sn) (most:Int):Decidable (uh F d most):=inferInstanceAs (Decidable (_/\_))
def tA(s:St)(F:Int)(d:List Sn)(a:Int):List UInt8:=if uh F d a then(if F<s.floor then s.order else []) else []
def rJ(s:St)(F:Int)(d:List Sn)(a:Int):List It:=if uh F d a then oD s.l d a.toNat else []
def tz(F:Int)(d:List Sn)(a:Int):Int:=if uh F d a then 0 else 2
theorem P8{s:St}(a:Inv s)(F:Int)(d:List Sn)(b:Int):(rJ s F d b).length<=16000:=by
 have c:=a.kB;unfold rJ;split
 ·unfold oD
  have h1:=List.length_filter_le (fun x:It=> !has d x.key) s.l;rw[List.length_take];omega
 ·exact aF _
def Told(w:D)(o:List UInt8)(L:List It)(e:Int)(u:Vl)(w':D):Prop:=(∃hv,u=Tp #[H #[str o,hv],I J e]/\Row (fun k=>w.heap.size<=k) w' 73 5 hv L.length (gi L))/\O w.heap.size w w'
theorem GR{T:Nat->Prop}{w:D}{s:St}(h:gg S w g s)(j:Inv s)(F:Int)(sv:Vl)(l:List (Sn×Vl))(b:Int)(hd:ia T w sv l)(c:l.length<=1000000000)(d:∀p∈l,p.1.more.length<=1000000000):
  Calls prog 28 #[X (Z ⟨g,0,Y⟩),H #[I J F,sv],I J b] w fun e w'=>∃u,e=Re u/\Told w (tA s F (l.map aj) b) (rJ s F (l.map aj) b) (tz F (l.map aj) b) u w':=by
 by_cases a:uh F (l.map aj) b
 ·unfold tA rJ tz
  rw[if_pos a,if_pos a,if_pos a];obtain⟨m,rfl⟩:∃m:Nat,b=m:=⟨b.toNat,by have:=a.2;omega⟩;exact P9 h j F sv l m hd c d a.1
 ·unfold tA rJ tz
  rw[if_neg a,if_neg a,if_neg a];refine(Mn h F sv l b hd c d ?_).mono ?_
  ·by_cases h1:mY F (l.map aj)=true
   ·exact oR (Int.not_le.1 fun h2=>a ⟨h1,h2⟩)
   ·exact oL (by simpa using h1)
  ·rintro e w' ⟨f,i⟩
   exact⟨_,f,⟨_,rfl,Row.nil _ _ _ _⟩,i⟩
theorem Mo{w:D}{kn:Nat}{s:St}(h:jh S w g s kn)(j:Inv s)(b:Int)(sv:Vl)(l:List (Sn×Vl))(c:Int)(hd:mi F w sv l)(k:l.length<=1000000000)(m:∀p∈l,p.1.more.length<=1000000000):
  Calls prog 208 #[X (Z ⟨g,0,Y⟩),H #[I J b,sv],I J c] w fun e w'=>∃u,e=Re u/\Told w (tA s b (l.map aj) c) (rJ s b (l.map aj) c) (tz b (l.map aj) c) u w':=by
 refine(N9 h j b sv l c hd k m).mono ?_;rintro e w' ⟨u,f,d,i⟩;refine⟨u,f,?_,i⟩;by_cases a:uh b (l.map aj) c
 ·unfold tA rJ tz
  rw[if_pos a,if_pos a,if_pos a];rw[if_pos (show _/\_ from a)] at d;exact d
 ·unfold tA rJ tz
  rw[if_neg a,if_neg a,if_neg a];rw[if_neg (show¬(_/\_) from a)] at d;exact⟨_,d,Row.nil _ _ _ _⟩
theorem FH{Oa:Nat->Nat->Prop}{N:Nat}{w:D}{W B K c:Nat}{ps:List Pr}{n:Nat}{lv:Vl}{ks:List lS}(h:ij Oa N w W B K c ps n lv ks){i:Nat}{p:Pr}(hp:ps[i]? =Z p)(he:p.s=p.t)(m:Int)(sv:Vl)(k:List (Sn×Vl))(b0:Int)(hd:mi F w sv k)(hk:k.length<=1100000)(o5:∀q∈k,q.1.more.length<=1000000000)(hc:c<=5790000000000):
  Calls prog 133 #[X (Z ⟨W,0,Y⟩),H (lP p).toArray,H #[I J m,sv],I J b0] w fun e w'=>∃v,e=Re v/\(∃o hv l,v=Tp #[H #[str o,hv],Bl true]/\l.length<=16000/\∃O' F',ij O' N w' W B K (c+4*k.length+12) ps n lv ks/\Sl F' w' 5 hv l.length (gi l)/\(∀b j,F' b->¬O' b j)/\(∀b j,O' b j->Oa b j\/w.heap.size<=b)/\∀b,F' b->w.heap.size<=b/\b<w'.heap.size)/\Fr (fun b=>Oa b 2) w.heap.size w w':=by
 obtain⟨D8,D9,l0,Lp⟩:=h.gates i p hp;obtain⟨pv,cv,rfl⟩:∃pv cv,sv= .slice pv k.length cv:=by
  obtain⟨_,pv,cv,e,_⟩:=hd.row;exact⟨pv,cv,e⟩
 have Ho:Hq (ij Oa N w W B K c ps n lv ks):=h;have HD:Hq (mi F w (.slice pv k.length cv) k):=hd;have HX:Hq (gg (fun b=>Oa b (5+2*i)) w p.x p.s):=D8;have HY:Hq (jh (fun b=>Oa b (6+2*i)) w p.y p.t K):=D9;have YK:=h.wN;have o6:∀b j,Oa b j->b<w.heap.size:=fun b j a=>(h.lt b j a).2;clear h D8 D9 hd;go_enter func133,ntmps133
 refine au ?_;refine box rfl _ _ rfl (lP p).toArray rfl ?_;intro w1 bp DY e3 c6 La;simp only[zD];refine box rfl _ _ rfl #[I J m,.slice pv k.length cv] rfl ?_;intro w2 bd DT r5 b1 Lb;simp only[zD];refine Ks.alloc rfl _ rfl (H #[sT ⟨#[]⟩,.slice none 0 0]) kr #[sT ⟨#[]⟩,.slice none 0 0] rfl ?_;intro w3 G DZ j9 b3 Lc;have y9:Hq (w3.heap[bp]? =_):=(b3.o.block _ (Nat.lt_of_lt_of_le (aL e3.o) b1.o.size)).trans ((b1.o.block _ (aL e3.o)).trans e3.o);have r6:=ca b3 r5;have p7:O w.heap.size w w3:=(tR c6 b1).trans (b3.o.mono (ag c6.o.size b1.o.size));have YI:=DY.o;have YD:=DT.o;have YJ:=DZ.o;have z1:=c6.o.size;have z2:=b1.o.size;have z3:=b3.o.size;have lr:=(aL j9.o);clear e3 r5 c6 b1 b3 La Lb Lc DY DT DZ;simp only[zD];refine au ?_;refine Ks.call rfl 207 #[H #[I J m,.slice pv k.length cv]] kr (R:=fun v w'=>∃v' l,v=H #[I J m,v']/\l.map aj=k.map aj/\ia (fun k=>w3.heap.size<=k) w' v' l/\O w3.heap.size w3 w') ((Yg w3 m _ k (HD.o.below p7) oM o5).mono ?_) ?_
 ·rintro e w' ⟨v',l,e1,h1⟩
  exact⟨_,e1,v',l,rfl,h1⟩
 rintro _ w4 ⟨gv,g,rfl,eg,n5,l6⟩;obtain⟨pg,cg,rfl,_⟩:=Row.form n5.row;have Lt:g.length=k.length:=by have:=congrArg dH eg;simpa using this
 have e9:∀q∈g,q.1.more.length<=1000000000:=fun q hq=>by
  have h1:q.1∈k.map aj:=eg▸List.mem_map_of_mem hq;obtain⟨r,hr,e⟩:=aU.1 h1;rw[<-e];exact o5 r hr
 simp only[zD];refine decl rfl _ rfl (H #[I J 0,.slice none 0 0]) kr rfl _ _ rfl #[I J m,.slice pg g.length cg] (fun _=>rfl) (fun _=>rfl) kr rfl (by simp[av]) ?_;intro w5 bg DU s5 c7;have c4:=tR l6 c7;have p8:=tR p7 c4;have DA:=ca c4 y9;have r7:=ca c4 r6;have DC:=ca c4 j9;have n9:=n5.cut.below c7.o;have YE:=DU.o;have z4:=l6.size;have z5:=c7.o.size;clear y9 r6 j9 l6 n5 c7 DU c4 p7;simp only[zD];obtain⟨o,ho⟩:=eX (tA p.s m (k.map aj) b0);obtain⟨L,hL⟩:=eX (rJ p.s m (k.map aj) b0);obtain⟨e,n0⟩:=eX (tz m (k.map aj) b0);have Lq:L.length<=16000:=by rw[hL];exact P8 l0 _ _ _
 refine au ?_;refine Ks.call rfl 28 _ kr (R:=Told w5 o L e) (by rw[ho,hL,n0,<-eg];exact GR (HX.o.below p8) l0 m _ g b0 n9 oM e9) ?_;rintro _ w6 ⟨⟨v1,rfl,b7⟩,l7⟩;obtain⟨q1,c1,rfl,_⟩:=Row.form b7;simp only[zD];refine au ?_;refine decl rfl _ rfl (H #[sT ⟨#[]⟩,.slice none 0 0]) kr rfl _ _ rfl #[str o,.slice q1 L.length c1] (fun _=>rfl) (fun _=>rfl) kr rfl (by simp[av,str]) ?_;intro w7 bn DW x3 c8;have a8:=tR l7 c8;have p9:=tR p8 a8;have DB:=ca a8 DA;have r8:=ca a8 r7;have DD:=ca a8 DC;have s6:=ca a8 s5;have o0:=n9.below a8;have D':Row (fun b=>w5.heap.size<=b/\b<w6.heap.size) w7 73 5 (.slice q1 L.length c1) L.length (gi L):=Row.below ⟨b7.1,fun b a=>⟨b7.2 b a,b7.lt b a⟩⟩ c8.o lR;have YG:=DW.o;have z6:=l7.size;have z7:=c8.o.size;clear DA r7 DC s5 l7 b7 c8 DW a8 p8 n9;simp only[zD];refine au ?_;refine Ks.call rfl 28 _ kr (R:=Told w7 o L e) (by rw[ho,hL,n0,<-eg];exact GR (HX.o.below p9) l0 m _ g b0 o0 oM e9) ?_;rintro _ w8 ⟨⟨v2,rfl,b8⟩,l8⟩;obtain⟨q2,c2,rfl,_⟩:=Row.form b8;simp only[zD];refine au ?_;refine decl rfl _ rfl (H #[sT ⟨#[]⟩,.slice none 0 0]) kr rfl _ _ rfl #[str o,.slice q2 L.length c2] (fun _=>rfl) (fun _=>rfl) kr rfl (by simp[av,str]) ?_;intro w9 bo DX x9 c9;have V:=tR l8 c9;have h0:=tR p9 V;have K9:=ca V DB;have r9:=ca V r8;have DE:=ca V DD;have s7:=ca V s6;have x4:=ca V x3;have D3:=o0.below V;have vz:=D'.below V lR;have vF:Row (fun b=>w7.heap.size<=b/\b<w8.heap.size) w9 73 5 (.slice q2 L.length c2) L.length (gi L):=Row.below ⟨b8.1,fun b a=>⟨b8.2 b a,b8.lt b a⟩⟩ c9.o lR;have YH:=DX.o;have z8:=l8.size;have z9:=c9.o.size;clear DB r8 DD s6 x3 l8 b8 c9 DX V p9 o0 D';simp only[zD];refine au ?_;refine Ks.call rfl 208 _ kr (R:=Told w9 o L e) (by rw[ho,hL,n0,he];exact Mo (HY.o.below h0) Lp m _ k b0 (HD.o.below h0) oM o5) ?_;rintro _ wa ⟨⟨v3,rfl,c0⟩,l9⟩;obtain⟨q3,c3,rfl,_⟩:=Row.form c0;simp only[zD];refine au ?_;refine decl rfl _ rfl (H #[sT ⟨#[]⟩,.slice none 0 0]) kr rfl _ _ rfl #[str o,.slice q3 L.length c3] (fun _=>rfl) (fun _=>rfl) kr rfl (by simp[av,str]) ?_;intro wb bm DV u4 e2;have P:=tR l9 e2;have Ea:=tR h0 P;have s0:=ca P r9;have DF:=ca P DE;have s8:=ca P s7;have x5:=ca P x4;have y0:=ca P x9;have D4:=D3.below P;have o7:=vz.below P lR;have vG:=vF.below P lR;have p2:Row (fun b=>w9.heap.size<=b/\b<wa.heap.size) wb 73 5 (.slice q3 L.length c3) L.length (gi L):=Row.below ⟨c0.1,fun b a=>⟨c0.2 b a,c0.lt b a⟩⟩ e2.o lR;have YF:=DV.o;have za:=l9.size;have zb:=e2.o.size;clear K9 r9 DE s7 x4 x9 l9 c0 e2 DV P h0 D3 vz vF;simp only[zD];refine au ?_;refine pure (w0 rfl) 209 #[H #[str o,.slice q1 L.length c1],H #[str o,.slice q3 L.length c3]] kr (Ct wb ⟨o.toArray⟩ _ _ L (Sl.mf o7) (Sl.mf p2) oM) ?_;intro wc u;have Eb:=tR Ea u;have s4:=ca u s0;have DG:=ca u DF;have s9:=ca u s8;have x6:=ca u x5;have y1:=ca u y0;have u5:=ca u u4;have D5:=D4.below u;have vA:=o7.below u lR;have o9:=vG.below u lR;have p3:=p2.below u lR;have zc:=u.size;clear s0 DF s8 x5 y0 u4 u D4 o7 vG p2 Ea;simp only[zD];refine au ?_;refine pure (w0 rfl) 209 #[H #[str o,.slice q2 L.length c2],H #[str o,.slice q3 L.length c3]] kr (Ct wc ⟨o.toArray⟩ _ _ L (Sl.mf o9) (Sl.mf p3) oM) ?_;intro wd z;have q5:=tR Eb z;have K5:=ca z s4;have DH:=ca z DG;have u0:=ca z s9;have x7:=ca z x6;have y2:=ca z y1;have u6:=ca z u5;have o4:=D5.below z;have vB:=vA.below z lR;have vH:=o9.below z lR;have vM:=p3.below z lR;have zd:=z.size;clear s4 DG s9 x6 y1 u5 z D5 vA o9 p3 Eb;simp only[zD];refine au ?_;refine pure (w0 rfl) 141 #[H #[I J m,.slice pg g.length cg],H #[I J m,.slice pv k.length cv]] kr (Dr wd m _ _ g k (mi.uM o4) (HD.o.below q5) eg oM e9) ?_;intro we A;have q6:=tR q5 A;have DI:=ca A DH;have K6:=ca A u0;have x8:=ca A x7;have y5:=ca A y2;have u9:=ca A u6;have D6:=o4.below A;have vC:=vB.below A lR;have vI:=vH.below A lR;have vN:=vM.below A lR;have He:Hq _:=Ho.o.below q6;have Ld:Hq (we.heap[W]? =_):=He.o.world;have ze:=A.size;clear K5 DH u0 x7 y2 u6 A o4 vB vH vM q5;simp only[zD];refine au ?_;refine Qg.im 5 kr kr ?_;refine aq ?_;intro wf E;have q7:=tR q6 E;have DJ:=ca E DI;have j2:=ca E x8;have j5:=ca E y5;have j1:=ca E u9;have D7:=D6.below E;have o8:=vC.below E lR;have p0:=vI.below E lR;have p4:=vN.below E lR;have Hf:Hq _:=He.o.below E;have zf:=E.size;have ln:=(aL j2.o);have lo:=(aL j5.o);have lm:=(aL j1.o);clear DI K6 x8 y5 u9 E D6 vC vI vN He Ld q6;refine Ks.call rfl 142 _ kr (Hf.o.sJ (S:=fun b=>w3.heap.size<=b/\b<w4.heap.size) (c':=c+4*g.length+4) (fun b a=>⟨oM,fun j hj=>by have:=o6 b j hj;omega⟩) fun C d hK hS=>Dq hK m _ g D7 hS oM e9 oM) ?_;rintro _ wg ⟨⟨O1,h1,e4⟩,e5⟩;rw[Lt] at h1;have a7:∀b,w.heap.size<=b->b<wf.heap.size->(b<w3.heap.size\/w4.heap.size<=b)->wg.heap[b]? =wf.heap[b]? :=fun b h1 h2 h3=>e5.block b h2 fun x=>x.elim (fun x=>by have:=o6 b 2 x;omega) fun x=>oM
 have q8:∀b j,w.heap.size<=b->b<wf.heap.size->(b<w3.heap.size\/w4.heap.size<=b)->¬O1 b j:=fun b j h1 h2 h3 x=>by
  rcases e4 b j x with x|x|x
  ·have:=o6 b j x
   omega
  ·omega
  ·omega
 have DK:Hq (wg.heap[G]? =_):=(a7 G oM oM oM).trans DJ.o;have K7:Hq (wg.heap[bn]? =_):=(a7 bn oM ln oM).trans j2.o;have y7:Hq (wg.heap[bo]? =_):=(a7 bo oM lo oM).trans j5.o;have v7:Hq (wg.heap[bm]? =_):=(a7 bm oM lm oM).trans j1.o;have vD:=o8.congr (w':=wg) fun b a=>by have:=o8.2 b a;exact a7 b oM oM oM
 have vJ:=p0.congr (w':=wg) fun b a=>by have:=p0.2 b a;exact a7 b oM oM oM
 have vO:=p4.congr (w':=wg) fun b a=>by have:=p4.2 b a;exact a7 b oM oM oM
 have Hg:Hq _:=h1;have Le:Hq (wg.heap[W]? =_):=h1.world;have l1:=(Fr.kq q7 lR).trans (e5.mono q7.size fun b a x=>x.elim id fun x=>oM);have zg:=e5.size;clear DJ j2 j5 j1 D7 o8 p0 p4 e5 Hf h1 a7 q7;simp only[zD];refine au ?_;refine Qg.im 6 kr kr ?_;refine aq ?_;intro wh M;have DL:=ca M DK;have y8:=ca M y7;have v8:=ca M v7;have vE:=vD.below M lR;have p1:=vJ.below M lR;have p5:=vO.below M lR;have Hh:Hq _:=Hg.o.below M;have l2:=l1.calls M l1.size;have zh:=M.size;clear DK K7 y7 v7 vD vJ vO Hg Le M l1;refine Ks.call rfl 210 _ kr (Hh.o.sJ (S:=fun b=>w5.heap.size<=b/\b<w6.heap.size) (c':=c+4*k.length+8) (fun b a=>⟨oM,fun j=>q8 b j oM oM oM⟩) fun C d hK hS=>Dt hK _ L.length _ vE hS oM oM) ?_;rintro _ wi ⟨⟨O2,h2,l5⟩,e6⟩;have b2:∀b,w.heap.size<=b->b<wf.heap.size->(b<w3.heap.size\/w4.heap.size<=b)->(b<w5.heap.size\/w6.heap.size<=b)->wi.heap[b]? =wh.heap[b]? :=fun b h1 h2 h3 h4=>e6.block b oM fun x=>x.elim (q8 b 2 h1 h2 h3) fun x=>oM
 have q9:∀b j,w.heap.size<=b->b<wf.heap.size->(b<w3.heap.size\/w4.heap.size<=b)->(b<w5.heap.size\/w6.heap.size<=b)->¬O2 b j:=fun b j h1 h2 h3 h4 x=>by
  rcases l5 b j x with x|x|x
  ·exact q8 b j h1 h2 h3 x
  ·omega
  ·omega
 have DM:Hq (wi.heap[G]? =_):=(b2 G oM oM oM oM).trans DL.o;have K8:Hq (wi.heap[bo]? =_):=(b2 bo oM lo oM oM).trans y8.o;have x0:Hq (wi.heap[bm]? =_):=(b2 bm oM lm oM oM).trans v8.o;have vK:=p1.congr (w':=wi) fun b a=>by have:=p1.2 b a;exact b2 b oM oM oM oM
 have vP:=p5.congr (w':=wi) fun b a=>by have:=p5.2 b a;exact b2 b oM oM oM oM
 have Hi:Hq _:=h2;have Lf:Hq (wi.heap[W]? =_):=h2.world;have l3:=l2.trans (e6.mono l2.size fun b a x=>x.elim (fun x=>(e4 b 2 x).elim id fun x=>oM) fun x=>oM);have zi:=e6.size;clear DL y8 v8 vE p1 p5 e6 Hh h2 b2 l2;simp only[zD];refine au ?_;refine Qg.im 6 kr kr ?_;refine aq ?_;intro wj a6;have DN:=ca a6 DM;have x1:=ca a6 x0;have vL:=vK.below a6 lR;have p6:=vP.below a6 lR;have Hj:Hq _:=Hi.o.below a6;have l4:=l3.calls a6 l3.size;have zj:=a6.size;clear DM K8 x0 vK vP Hi Lf a6 l3;refine Ks.call rfl 210 _ kr (Hj.o.sJ (S:=fun b=>w7.heap.size<=b/\b<w8.heap.size) (c':=c+4*k.length+12) (fun b a=>⟨oM,fun j=>q9 b j oM oM oM oM⟩) fun C d hK hS=>Dt hK _ L.length _ vL hS oM oM) ?_;rintro _ wz ⟨⟨O3,h3,D2⟩,e7⟩;have j0:∀b,w.heap.size<=b->b<wf.heap.size->(b<w3.heap.size\/w9.heap.size<=b)->wz.heap[b]? =wj.heap[b]? :=fun b h1 h2 h3=>e7.block b oM fun x=>x.elim (q9 b 2 h1 h2 oM oM) fun x=>oM
 have Ec:∀b j,w.heap.size<=b->b<wf.heap.size->(b<w3.heap.size\/w9.heap.size<=b)->¬O3 b j:=fun b j h1 h2 h3 x=>by
  rcases D2 b j x with x|x|x
  ·exact q9 b j h1 h2 oM oM x
  ·omega
  ·omega
 have K':Hq (wz.heap[G]? =_):=(j0 G oM oM oM).trans DN.o;have x2:Hq (wz.heap[bm]? =_):=(j0 bm oM lm oM).trans x1.o;have Au:=p6.congr (w':=wz) fun b a=>by have:=p6.2 b a;exact j0 b oM oM oM
 have D1:=l4.trans (e7.mono l4.size fun b a x=>x.elim (fun x=>(l5 b 2 x).elim (fun x=>(e4 b 2 x).elim id fun x=>oM) fun x=>oM) fun x=>oM);have zz:=e7.size;have R9:=(aL x2.o);have As:¬bm=G:=oM
 clear DN x1 vL p6 e7 Hj j0 l4;simp only[zD];refine au ?_;refine Qt.Ov 20 (fun j=>[H #[str o,.slice q3 L.length c3],Bl true,Bl true,Bl true,Bl true,Bl true,Bl true,Bl true,Bl true,I J e,I J e,I J e,Bl true,Bl true,Bl true,I J e,I J e,I J e,Bl true,Bl true].getD j undef) G _ #[str o,.slice q3 L.length c3] 66 kr kr K'.o kr rfl (by simp[av,str]) _ rfl rfl _ _ rfl (fun U h=>⟨kr,aN kr (h 0 dc kr)⟩) ?_ ?_
 ·refine⟨?_,?_,?_,?_,?_,?_,?_,?_,?_,?_,?_,?_,?_,?_,?_,?_,?_,?_,?_,?_,trivial⟩
  ·intro U w' f h
   have Lu:Hq _:=(f.block bm R9 As).trans x2.o;exact⟨w0 rfl,oL (Ks.vV rfl Ks.tn kr Lu kr)⟩
  ·intro U w' f h
   exact⟨w0 rfl,oL (pM (oL rfl) kr)⟩
  ·intro U w' f h
   have h1:=h 1 kr;exact⟨w0 rfl,oL (pM (oL rfl) (aN kr h1))⟩
  ·intro U w' f h
   have h2:=h 2 kr;exact⟨Ks.w1 rfl rfl (aN kr h2),oL (pM (oL rfl) kr)⟩
  ·intro U w' f h
   have h2:=h 2 kr;have h3:=h 3 kr;exact⟨w0 rfl,oL (xX rfl (aN kr h2) (aN kr h3))⟩
  ·intro U w' f h
   have h4:=h 4 kr;exact⟨w0 rfl,oL (pM (oL rfl) (aN kr h4))⟩
  ·intro U w' f h
   have h5:=h 5 kr;exact⟨Ks.w1 rfl rfl (aN kr h5),oL (pM (oL rfl) kr)⟩
  ·intro U w' f h
   have h5:=h 5 kr;have h6:=h 6 kr;exact⟨w0 rfl,oL (xX rfl (aN kr h5) (aN kr h6))⟩
  ·intro U w' f h
   have h7:=h 7 kr;exact⟨w0 rfl,oL (pM (oL rfl) (aN kr h7))⟩
  ·intro U w' f h
   have T:=h 8 kr;exact⟨Ks.w1 rfl rfl (aN kr T),oL (pM (oL rfl) kr)⟩
  ·intro U w' f h
   have T:=h 8 kr;have h9:=h 9 kr;exact⟨Ks.w1 rfl rfl (aN kr T),oR ⟨_,_,(Jx _ rfl (aN kr h9)),(Gw.tv e w')⟩⟩
  ·intro U w' f h
   have T:=h 8 kr;exact⟨Ks.w1 rfl rfl (aN kr T),oL (pM (oL rfl) kr)⟩
  ·intro U w' f h
   have T:=h 8 kr;have Lg:=h 10 kr;have Lh:=h 11 kr;exact⟨Ks.w1 rfl rfl (aN kr T),oL (Iz rfl (aN kr Lg) (aN kr Lh))⟩
  ·intro U w' f h
   have T:=h 8 kr;have Li:=h 12 kr;exact⟨w0 rfl,oL (xX rfl (aN kr T) (aN kr Li))⟩
  ·intro U w' f h
   have Lj:=h 13 kr;exact⟨w0 rfl,oL (pM (oL rfl) (aN kr Lj))⟩
  ·intro U w' f h
   have Q:=h 14 kr;exact⟨Ks.w1 rfl rfl (aN kr Q),oL (pM (oL rfl) kr)⟩
  ·intro U w' f h
   have Q:=h 14 kr;have Lk:=h 15 kr;exact⟨Ks.w1 rfl rfl (aN kr Q),oR ⟨_,_,(Jx _ rfl (aN kr Lk)),(Gw.tv e w')⟩⟩
  ·intro U w' f h
   have Q:=h 14 kr;exact⟨Ks.w1 rfl rfl (aN kr Q),oL (pM (oL rfl) kr)⟩
  ·intro U w' f h
   have Q:=h 14 kr;have Ll:=h 16 kr;have Lm:=h 17 kr;exact⟨Ks.w1 rfl rfl (aN kr Q),oL (Iz rfl (aN kr Ll) (aN kr Lm))⟩
  ·intro U w' f h
   have Q:=h 14 kr;have Ln:=h 18 kr;exact⟨w0 rfl,oL (xX rfl (aN kr Q) (aN kr Ln))⟩
 intro U wy b6 Lv hU;have Ar:=hU 19 dc;simp only[Qt.gu,ak,aE,ax,aK,Ar,bC,Nat.reduceAdd];simp only[zD];refine au ?_;refine Ww.pB results133 rfl G _ #[str o,.slice q3 L.length c3] _ _ (Bl true) rfl rfl Lv underlying66 rfl kr ⟨_,rfl,⟨o,_,L,rfl,Lq,O3,fun b=>w9.heap.size<=b/\b<wa.heap.size,?_,?_,fun b j a=>Ec b j oM oM oM,fun b j a=> ?_,fun b a=>⟨oM,by have:=b6.size;omega⟩⟩,?_⟩
 ·exact h3.other b6 fun j=>Ec G j oM oM oM
 ·exact(Sl.mf Au).congr (fun _ h=>h) b6.size fun b a Lr=>b6.block b Lr oM
 ·rcases D2 b j a with x|x|x
  ·rcases l5 b j x with x|x|x
   ·rcases e4 b j x with x|x|x
    ·exact oL x
    ·exact oR oM
    ·exact oR oM
   ·exact oR oM
   ·exact oR oM
  ·exact oR oM
  ·exact oR oM
 ·exact D1.trans (b6.mono D1.size fun k hk e=>oM)
structure Mt(N W B K c:Nat)(ps:List Pr)(n:Nat)(lv:Vl)(ks:List lS)(w5:D)(Oa:Nat->Nat->Prop)(u7:Vl)(v:D)(lo hi:Nat)(ord:List UInt8)(hv:Vl)(L:List It)(O':Nat->Nat->Prop)(F':Nat->Prop):Prop where
 val:u7=Tp #[H #[str ord,hv],Bl true]
 BT:ij O' N v W B K (c+400012) ps n lv ks
 sl:Sl F' v 5 hv L.length (gi L)
 kB:L.length<=16000
 free:∀b j,F' b->¬O' b j
 hQ:∀b j,O' b j->Oa b j\/(lo<=b/\b<hi)
 new:∀b,F' b->lo<=b/\b<hi
 base:w5.heap.size<=lo
 top:hi<=v.heap.size
 fr:Fr (fun b=>Oa b 2) w5.heap.size w5 v
def Sd(t:Bool)(ord:List UInt8)(hv:Vl):Array Vl:=if t then #[str ord,hv] else #[sT ⟨#[]⟩,.slice none 0 0]
structure MJ(fl:Int)(ds:List Sn)(Vq:Nat->Vl)(N W B K c:Nat)(ps:List Pr)(n:Nat)(lv:Vl)(ks:List lS)(w5:D)(Oa:Nat->Nat->Prop)(b:Nat->Bool)(U:Nat->Vl)(v:D):Prop where
 q:∀j,j<7->j≠4->b j=true->U j=Vq j
 pre:b 7=false->O w5.heap.size w5 v/\(b 4=true->∃sv l,U 4=H #[I J fl,sv]/\l.map aj=ds/\ia (fun k=>w5.heap.size<=k) v sv l)
 post:∃lo hi r ord hv L O' F',(b 7=true->Mt N W B K c ps n lv ks w5 Oa (U 7) v lo hi ord hv L O' F')/\(b 8=true->U 8=Tp #[H #[str ord,hv],Bl true])/\(b 9=true->U 9=H #[str ord,hv])/\(b 10=true->U 10=Bl true)/\(b 11=true->U 11=pt r 0/\w5.heap.size<=r/\v.heap[r]? =Z (Cl (Sd (b 12) ord hv) 66 (0,0))/\(b 7=true->r<lo\/hi<=r))
namespace MJ
variable {fl:Int} {ds:List Sn} {Vq:Nat->Vl} {N W B K c:Nat} {ps:List Pr} {n:Nat} {lv:Vl} {ks:List lS} {w5:D} {Oa:Nat->Nat->Prop} {b:Nat->Bool} {U:Nat->Vl} {v v':D}
theorem start(a:O w5.heap.size w5 v):MJ fl ds Vq N W B K c ps n lv ks w5 Oa (fun _=>false) U v:=
 ⟨fun _ _ _ h=>aW h,fun _=>⟨a,fun h=>aW h⟩,0,0,0,[],undef,[],Oa,fun _=>False,fun h=>aW h,fun h=>aW h,fun h=>aW h,fun h=>aW h,fun h=>aW h⟩
theorem plain(h:MJ fl ds Vq N W B K c ps n lv ks w5 Oa b U v){j:Nat}(i:j<7)(a:j≠4):MJ fl ds Vq N W B K c ps n lv ks w5 Oa (nD b j) (nE U j (Vq j)) v:=by
 refine⟨fun k f g d=> ?_,?_,?_⟩
 ·by_cases e:k=j
  ·rw[e,qL]
  ·rw[lG e]
   rw[iK e] at d;exact h.q k f g d
 ·rw[iK oM,iK (fun e=>a e.symm),lG (fun e=>a e.symm)]
  exact h.pre
 ·rw[iK oM,iK oM,iK oM,iK oM,iK oM,iK oM,lG oM,lG oM,lG oM,lG oM,lG oM]
  exact h.post
theorem ph(h:MJ fl ds Vq N W B K c ps n lv ks w5 Oa b U v)(g:b 7=false)(a:O v.heap.size v v'){sv:Vl}{l:List (Sn×Vl)}(i:l.map aj=ds)(j:ia (fun k=>v.heap.size<=k) v' sv l):MJ fl ds Vq N W B K c ps n lv ks w5 Oa (nD b 4) (nE U 4 (H #[I J fl,sv])) v':=by
 have f:=(h.pre g).1;refine⟨fun k d e a=> ?_,fun _=>⟨f.trans (a.mono f.size),fun _=>⟨sv,l,qL,i,j.mono fun k d=>ag f.size d⟩⟩,?_⟩
 ·rw[lG e]
  rw[iK e] at a;exact h.q k d e a
 ·rw[iK oM,iK oM,iK oM,iK oM,iK oM,iK oM,lG oM,lG oM,lG oM,lG oM,lG oM]
  obtain⟨m,hi,r,ord,hv,L,O',F',a1,a2,a3,a4,a5⟩:=h.post;exact⟨m,hi,r,ord,hv,L,O',F',fun x=>aW (g.symm.trans x),a2,a3,a4,fun x=>⟨(a5 x).1,(a5 x).2.1,(a.block r (Array.getElem?_eq_some_iff.1 (a5 x).2.2.1).1).trans (a5 x).2.2.1,(a5 x).2.2.2⟩⟩
theorem tell(h:MJ fl ds Vq N W B K c ps n lv ks w5 Oa b U v)(p:b 7=false)(s:b 8=false)(t:b 9=false)(m:b 10=false)(o:b 12=false)(z:∀b j,Oa b j->b<w5.heap.size){u:Vl}{ord:List UInt8}{hv:Vl}{L:List It}{O':Nat->Nat->Prop}{F':Nat->Prop}(hu:u=Tp #[H #[str ord,hv],Bl true])(w:L.length<=16000)(e:ij O' N v' W B K (c+400012) ps n lv ks)(G:Sl F' v' 5 hv L.length (gi L))(A:∀b j,F' b->¬O' b j)(F:∀b j,O' b j->Oa b j\/v.heap.size<=b)(E:∀b,F' b->v.heap.size<=b/\b<v'.heap.size)(g:Fr (fun b=>Oa b 2) v.heap.size v v'):MJ fl ds Vq N W B K c ps n lv ks w5 Oa (nD b 7) (nE U 7 u) v':=by
 have d:=(h.pre p).1;refine⟨fun k C D f=> ?_,fun x=>aW (wM.symm.trans x),?_⟩
 ·rw[lG oM]
  rw[iK oM] at f;exact h.q k C D f
 ·obtain⟨I,hi,r,_,_,_,_,_,a1,a2,a3,a4,a5⟩:=h.post
  refine⟨v.heap.size,v'.heap.size,r,ord,hv,L,O',F',fun _=>⟨by rw[qL];exact hu,e,G,w,A,fun b j x=>(F b j x).imp id fun y=>⟨y,(e.lt b j x).2⟩,E,d.size,bA _,(Fr.kq d lR).trans (g.mono d.size fun _ _ h=>h)⟩,fun x=> ?_,fun x=> ?_,fun x=> ?_,fun x=> ?_⟩
  ·rw[iK oM,s] at x
   cases x
  ·rw[iK oM,t] at x
   cases x
  ·rw[iK oM,m] at x
   cases x
  ·rw[iK oM] at x
   obtain⟨b1,l,a,_⟩:=a5 x;have i:=(aL a);rw[lG oM,iK oM];rw[o] at a⊢;exact⟨b1,l,(g.block r i fun y=>by have:=z r 2 y;omega).trans a,fun _=>oL i⟩
theorem Sb(h:MJ fl ds Vq N W B K c ps n lv ks w5 Oa b U v)(a:b 7=true):MJ fl ds Vq N W B K c ps n lv ks w5 Oa (nD b 8) (nE U 8 (U 7)) v:=by
 refine⟨fun k e f d=> ?_,fun x=>aW (((iK oM).trans a).symm.trans x),?_⟩
 ·rw[lG oM]
  rw[iK oM] at d;exact h.q k e f d
 ·obtain⟨g,hi,r,ord,hv,L,O',F',a1,a2,a3,a4,a5⟩:=h.post
  simp only[nD,nE,ez,reduceIte];exact⟨g,hi,r,ord,hv,L,O',F',a1,fun _=>(a1 a).val,a3,a4,a5⟩
theorem Sc(h:MJ fl ds Vq N W B K c ps n lv ks w5 Oa b U v)(d:b 7=true)(e:b 8=true):∃vs,U 8= .tuple vs/\∃x,vs[0]? =Z x/\MJ fl ds Vq N W B K c ps n lv ks w5 Oa (nD b 9) (nE U 9 x) v:=by
 obtain⟨i,hi,r,ord,hv,L,O',F',a1,a2,a3,a4,a5⟩:=h.post;refine⟨_,a2 e,_,rfl,fun k f g a=> ?_,fun x=>aW (((iK oM).trans d).symm.trans x),?_⟩
 ·rw[lG oM]
  rw[iK oM] at a;exact h.q k f g a
 ·simp only[nD,nE,ez,reduceIte]
  exact⟨i,hi,r,ord,hv,L,O',F',a1,a2,fun _=>rfl,a4,a5⟩
theorem Wm(h:MJ fl ds Vq N W B K c ps n lv ks w5 Oa b U v)(d:b 7=true)(e:b 8=true):∃vs,U 8= .tuple vs/\∃x,vs[1]? =Z x/\MJ fl ds Vq N W B K c ps n lv ks w5 Oa (nD b 10) (nE U 10 x) v:=by
 obtain⟨i,hi,r,ord,hv,L,O',F',a1,a2,a3,a4,a5⟩:=h.post;refine⟨_,a2 e,_,rfl,fun k f g a=> ?_,fun x=>aW (((iK oM).trans d).symm.trans x),?_⟩
 ·rw[lG oM]
  rw[iK oM] at a;exact h.q k f g a
 ·simp only[nD,nE,ez,reduceIte]
  exact⟨i,hi,r,ord,hv,L,O',F',a1,a2,a3,fun _=>rfl,a5⟩
theorem alloc(h:MJ fl ds Vq N W B K c ps n lv ks w5 Oa b U v)(g:b 12=false)(o:w5.heap.size<=v.heap.size):MJ fl ds Vq N W B K c ps n lv ks w5 Oa (nD b 11) (nE U 11 (pt v.heap.size 0)) (v.alloc (Cl #[sT ⟨#[]⟩,.slice none 0 0] 66 (0,0))):=by
 have a:O v.heap.size v (v.alloc (Cl #[sT ⟨#[]⟩,.slice none 0 0] 66 (0,0))):=(Below.refl _ _).alloc lR _;refine⟨fun k i j a=> ?_,fun x=> ?_,?_⟩
 ·rw[lG oM]
  rw[iK oM] at a;exact h.q k i j a
 ·rw[iK oM] at x
  rw[iK oM,lG oM];obtain⟨a1,a2⟩:=h.pre x;refine⟨a1.trans (a.mono a1.size),fun y=> ?_⟩;obtain⟨sv,l,d,e,f⟩:=a2 y;exact⟨sv,l,d,e,f.below a⟩
 ·obtain⟨p,hi,r,ord,hv,L,O',F',a1,a2,a3,a4,a5⟩:=h.post
  simp only[nD,nE,ez,reduceIte];refine⟨p,hi,v.heap.size,ord,hv,L,O',F',fun x=> ?_,a2,a3,a4,fun _=>⟨rfl,o,?_,fun x=>oR (a1 x).top⟩⟩
  ·have m:=a1 x
   exact⟨m.val,m.BT.below a,m.sl.below a,m.kB,m.free,m.hQ,m.new,m.base,ag m.top a.size,m.fr.calls a m.fr.size⟩
  ·rw[g]
   exact heap_alloc_new v _
theorem store(h:MJ fl ds Vq N W B K c ps n lv ks w5 Oa b U v)(g:b 7=true)(p:b 9=true)(l:b 11=true)(o:b 12=false)(s:∀b j,Oa b j->b<w5.heap.size):∃r cs,U 11=pt r 0/\U 9=H cs/\v.heap[r]? =Z (Cl #[sT ⟨#[]⟩,.slice none 0 0] 66 (0,0))/\cs.size=2/\cs.all (·.oneCell')=true/\MJ fl ds Vq N W B K c ps n lv ks w5 Oa (nD b 12) (nE U 12 undef) (v.setRow r cs):=by
 obtain⟨A,hi,r,ord,hv,L,O',F',a1,a2,a3,a4,a5⟩:=h.post;obtain⟨b1,i,f,b4⟩:=a5 l;have m:=a1 g;rw[o] at f;have C:=(aL f);have b5:=b4 g;have z:∀j,¬O' r j:=fun j x=>(m.hQ r j x).elim (fun y=>by have:=s r j y;omega) fun y=>oM
 have d:Fr (fun b=>b=r) v.heap.size v (v.setRow r #[str ord,hv]):=(Fr.refl _ _ v).setRow r _ (oL rfl);refine⟨r,#[str ord,hv],b1,a3 p,f,rfl,by simp[str,m.sl.one];rfl,fun k u w a=> ?_,fun x=>aW (((iK oM).trans g).symm.trans x),?_⟩
 ·rw[lG oM]
  rw[iK oM] at a;exact h.q k u w a
 ·simp only[nD,nE,ez,reduceIte]
  refine⟨A,hi,r,ord,hv,L,O',F',fun _=>⟨m.val,m.BT.other d z,m.sl.congr (fun _ h=>h) d.size fun b a t=>d.block b t fun e=>by have:=m.new b a;omega,m.kB,m.free,m.hQ,m.new,m.base,ag m.top d.size,m.fr.trans (d.mono m.fr.size fun b a e=>oM)⟩,a2,a3,a4,fun _=>⟨b1,i,setRow_heap v r _ _ _ _ f,b4⟩⟩
