/- Walks of the program's gate: sameAhead, twice. Walks of the program's gate: twice. Walk of the program's gate: Twice. Walk of the book: ownsTwice. -/
import Derived.Test.YtbojijefenfbgaaGreatDoorAaHearC
open Option renaming isSome_iff_exists->dC,map_some->da,map_none->cZ
open Go.Sem renaming run_bind->aH,run_pure->aR
open Go.Result renaming andThen_ok->ar
open List renaming getElem?_eq_getElem->ae,mem_append->bV,mem_singleton->cm,getElem?_map->ct,length_map->aS,not_mem_nil->eG,length_append->ao,takeWhile_append_dropWhile->gP,pairwise_append->eH,mem_cons->cr,length->dH,mem_of_getElem?->aJ,mem_of_mem_take->dz
open Nat renaming zero_le->aF,le_refl->bA,le_of_eq->bO,mul_one->fA,le_trans->ag
open Go.Act renaming put->aD
open Prod renaming fst->aj
open Go.Value renaming oneCell'->av,slice->aZ
open Option renaming some->Z,none->Y
open Go.Value renaming int->I,pointer->X,agg->H,bool->Bl,tuple->Tp
open Go.IntKind renaming i64->J
open Go.Obj renaming cells->Cl
open Go.Ending renaming returned->Re
open Go renaming World->D,Value->Vl
open Go.RowKit renaming Below->O
set_option maxHeartbeats 4000000
set_option maxRecDepth 100000
open Go Go.RowKit
open Go.Proofs.YtbojijefenfbgaaGreatDoor
open Ks(au loop oF lp pt af gY vb w0 al rI uF)
variable{P:Program}{S:Nat->Prop}{a:Act}{b k sz:Nat}{f:Operand->Vl}{l:List Int}{o:Oper}{ops:Array Oper}{w w':D}
namespace Go.Proofs.YtbojijefenfbgaaGreatDoor
open Tryz
theorem JR(w:D)(t e:TypeId)(sz:Nat)(hu:P.underlying t=Z (.slice e))(f:P.cellsOf e=sz)(a:(P.info? e).isSome=true)(b off len cap n:Nat)(d:n<len):(Instr.indexAt t (.slice (Z ⟨b,off,Y⟩) len cap) (I J (n:Int))).run P w= .ok (X (Z ⟨b,off+n*sz,Y⟩)) w:=by
 obtain⟨i,c⟩:=dC.1 a;have h1:(underlying t).run P w= .ok (.slice e) w:=run_underlying hu w;have h2:(sizeOf e).run P w= .ok sz w:=by rw[<-f];exact run_sizeOf w c
 simp[Instr.indexAt,asIntOf,h1,h2,d,Addr.add_mid]
namespace Ks
theorem uc{rest:List Oper}{w:D}{Q:Exit->Act->D->Prop}(j:Region.wanted o (yielded ops a.tmps)=true)(t:TypeId)(x ix:Operand)(f:o.op= .indexAddr t x ix)(e:TypeId)(sz:Nat)(hu:P.underlying t=Z (.slice e))(i:P.cellsOf e=sz)(c:(P.info? e).isSome=true)(b off len cap n:Nat)
  (k:a.eval x= .slice (Z ⟨b,off,Y⟩) len cap) (hi:a.eval ix=I J (n:Int)) (d:n<len) (h:wpList P ops Q rest (a.put o.dst (X (Z ⟨b,off+n*sz,Y⟩))) w):wpList P ops Q (o::rest) a w:=by
 refine ml j _ ?_ h;have g:=JR (P:=P) w t e sz hu i c b off len cap n d;unfold execOp;simp only[f,k,hi,aH,aR,ar,g]
end Ks
namespace Qg
open Qt
theorem uc{w:D}{Q:Act->Prop}{rest:List Oper}(j:Region.wanted o (yielded ops a.tmps)=true)(t:TypeId)(x ix:Operand)(f:o.op= .indexAddr t x ix)(e:TypeId)(sz:Nat)(hu:P.underlying t=Z (.slice e))(i:P.cellsOf e=sz)(c:(P.info? e).isSome=true)(b off len cap n:Nat)
  (k:a.eval x= .slice (Z ⟨b,off,Y⟩) len cap) (hi:a.eval ix=I J (n:Int)) (d:n<len) (h:wpQuiet P ops (BW w) Q rest (a.put o.dst (X (Z ⟨b,off+n*sz,Y⟩)))):wpQuiet P ops (BW w) Q (o::rest) a:=by
 refine val j _ (fun w' _=> ?_) h;have g:=JR (P:=P) w' t e sz hu i c b off len cap n d;unfold execOp;simp only[f,k,hi,aH,aR,ar,g]
end Qg
namespace Gt
open Mp Bk Tk
structure nF(w:D)(g off:Nat)(es:List En):Prop where
 lt:g<w.heap.size
 yt:w.rangeAt g off (es.flatMap eC)
theorem nF.below{g off:Nat}{es:List En}(h:nF w g off es)(a:O w.heap.size w w'):nF w' g off es:=⟨Nat.lt_of_lt_of_le h.lt a.size,mG h.yt a h.lt⟩
theorem nF.D0{g off:Nat}{es:List En}(h:nF w g off es){x:En}(b:es[k]? =Z x):w.rangeAt g (off+k*4) (eC x):=fun j v hv=>by
 have a:j<4:=by
  have:=(lL hv);rwa [uS] at this
 have h1:=flat_get eC 4 uS es k j x b a;rw[hv] at h1;have:=h.yt _ v h1;rwa [show off+k*4+j=off+(k*4+j) by omega]
theorem nF.pass{g off:Nat}{es:List En}(h:nF w g off es){x:En}(a:es[k]? =Z x):w.rangeAt g (off+k*4+2) [I J x.2.1,I J x.2.2]:=fun j v hv=>by
 have h1:=h.D0 a (j+2) v (by
  match j,hv with
  |0,hv=>simpa [eC] using hv
  |1,hv=>simpa [eC] using hv)
 rwa [show off+k*4+2+j=off+k*4+(j+2) by omega]
def runN:List En->Nat
 |[]=>0
 |e::r=>((e::r).takeWhile fun x=>decide (x.2=e.2)).length
theorem Kc{c:Type}{p:c->Bool}:∀{l:List c}{k:Nat},k<=l.length->(∀x∈l.take k,p x=true)->(k=l.length\/∃x,l[k]? =Z x/\p x=false)->(l.takeWhile p).length=k
 |[],k,a,_,_=>by simp at a;simp[a]
 |x::r,0,_,_,h=>by
  rcases h with h|⟨y,b,d⟩
  ·simp at h
  ·simp at b
   subst b;simp[d]
 |x::r,k+1,a,h1,h2=>by
  have e:p x=true:=h1 x sP;have:=Kc (p:=p) (l:=r) (k:=k) (by simpa using a) (fun y b=>h1 y (by simp[b])) (by simpa using h2);simp[e,this]
theorem L4{es:List En}{e:En}(hd:es[0]? =Z e)(b:k<=es.length)(h1:∀x∈es.take k,x.2=e.2)(h2:k=es.length\/∃x,es[k]? =Z x/\x.2≠e.2):runN es=k:=by
 cases es with
 |nil=>cases hd
 |cons y r=>
  have d:y=e:=by simpa using hd
  subst d;exact Kc b (fun x a=>by simp[h1 x a]) (h2.imp id fun⟨x,a,c⟩=>⟨x,a,by simp[c]⟩)
def ta(g off n cap k:Nat)(f:Nat->Vl):Act:={tmps:= #[.slice (Z ⟨g,off,Y⟩) n cap,f 1,I J 0,I J (k:Int),f 4,f 5,f 6,f 7,f 8,f 9,f 10,f 11,f 12,f 13,f 14,f 15,f 16,f 17,f 18,f 19,f 20,f 21,f 22],defers:=[]}
theorem Xn(w:D)(g off cap:Nat)(es:List En)(h:nF w g off es)(C:0<es.length)(M:es.length<=1000000):Rt 81 #[.slice (Z ⟨g,off,Y⟩) es.length cap] w (I J (runN es:Int)):=by
 obtain⟨e0,B⟩:∃e0,es[0]? =Z e0:=⟨_,ae C⟩;go_enter func81,ntmps81
 refine au ?_;refine loop (fun m a wr=>∃(k:Nat)(f:Nat->Vl),k<=es.length/\m=es.length-k/\(∀x∈es.take k,x.2=e0.2)/\O w.heap.size w wr/\a=ta g off es.length cap k f) es.length ⟨0,fun _=>undef,aF _,rfl,sP,Below.refl _ _,rfl⟩ ?_;rintro m a wr ⟨k,f,F,rfl,u,r,rfl⟩;have p:=h.below r;have fin:∀(b:Act)(w':D)(n:Nat),k<n->n<=es.length->(∀x∈es.take n,x.2=e0.2)->O w.heap.size w w'->b=ta g off es.length cap n (fun j=>b.tmps.getD j undef)->∃m,m<es.length-k/\∃(k:Nat)(f:Nat->Vl),k<=es.length/\m=es.length-k/\(∀x∈es.take k,x.2=e0.2)/\O w.heap.size w w'/\b=ta g off es.length cap k f:=fun b w' n q1 q2 q3 q4 K=>⟨es.length-n,oM,n,_,q2,rfl,q3,q4,K⟩;obtain⟨c,q⟩:∃c:Bool,c=true↔∃x,es[k]? =Z x/\x.2=e0.2:=by
  by_cases A:∃x,es[k]? =Z x/\x.2=e0.2
  ·exact⟨true,by simp[A]⟩
  ·exact⟨false,by simp[A]⟩
 unfold ta;refine wp_seq ?_;refine Ks.cut (fun b w'=>O w.heap.size w w'/\∃f:Nat->Vl,f 19=Bl c/\b=ta g off es.length cap k f) ?_ ?_
 ·have t:∀(b:Act)(w':D),O wr.heap.size wr w'->b.tmps.getD 19 undef=Bl c->b=ta g off es.length cap k (fun j=>b.tmps.getD j undef)->O w.heap.size w w'/\∃f:Nat->Vl,f 19=Bl c/\b=ta g off es.length cap k f:=fun b w' o h1 h2=>⟨r.trans (o.mono r.size),_,h1,h2⟩
  refine Qt.lW kr kr ?_;refine qv (I J (k:Int)) ?_;refine qv (.slice (Z ⟨g,off,Y⟩) es.length cap) ?_;refine qv (I J (es.length:Int)) ?_;refine qv (Bl (decide ((k:Int)<es.length))) ?_;refine qv (Bl (decide ((k:Int)<es.length))) ?_;by_cases d:k<es.length
  ·rw[decide_eq_true (by omega:(k:Int)<es.length)]
   obtain⟨x,i⟩:∃x,es[k]? =Z x:=⟨_,ae d⟩;have s:c=decide (x.2=e0.2):=by
    rw[Bool.eq_iff_iff,q,decide_eq_true_eq];constructor
    ·rintro⟨y,l,e⟩
     rw[i] at l;cases l;exact e
    ·exact fun e=>⟨x,i,e⟩
   refine qv (.slice (Z ⟨g,off,Y⟩) es.length cap) ?_;refine qv (I J (k:Int)) ?_;refine Qg.uc kr _ _ _ rfl 245 4 underlying155 kr kr g off es.length cap k rfl rfl d ?_;simp only[zD];refine qv (X (Z ⟨g,off+k*4+2,Y⟩)) ?_;refine Qg.pj kr _ _ rfl g (off+k*4+2) rfl [I J x.2.1,I J x.2.2] p.lt (p.pass i) underlying150 rfl kr ?_;simp only[zD];refine qv (.slice (Z ⟨g,off,Y⟩) es.length cap) ?_;refine Qg.uc kr _ _ _ rfl 245 4 underlying155 kr kr g off es.length cap 0 rfl rfl C ?_;simp only[zD];refine qv (X (Z ⟨g,off+0*4+2,Y⟩)) ?_;refine Qg.pj kr _ _ rfl g (off+0*4+2) rfl [I J e0.2.1,I J e0.2.2] p.lt (p.pass B) underlying150 rfl kr ?_;simp only[zD];refine Qg.val kr (Bl c) (fun w' _=>by
    rw[s];exact Ks.zx _ _ _ _ rfl _ _ rfl rfl kr _ (yd.eq w' x.2 e0.2)) ?_
   simp only[zD];refine qv (Bl c) ?_;refine wpQuiet_nil ?_;intro w' o;exact t _ w' o rfl rfl
  ·rw[decide_eq_false (by omega:¬(k:Int)<es.length)]
   have s:c=false:=by
    cases c
    ·rfl
    ·obtain⟨x,i,_⟩:=q.1 rfl
     exact absurd (lL i) d
   (with_reducible refine qn ?_;refine qn ?_;refine qn ?_;refine qn ?_;refine qn ?_;refine qn ?_;refine qn ?_;refine qn ?_;refine qn ?_;refine qn ?_);refine qv (Bl false) ?_;refine wpQuiet_nil ?_;intro w' o;exact t _ w' o (by rw[s];rfl) rfl
 ·rintro b w2 ⟨z,L,E,rfl⟩
  unfold ta;rw[E];cases c with
  |true=>
   obtain⟨x,i,H⟩:=q.1 rfl;have d:=(lL i);refine wp_cond_true rfl (wp_skip ?_);refine km (wp_block ?_);refine kX (kv (I J (k:Int)) ?_);refine Ks.val rfl (I J ((k+1:Nat):Int)) (by
    simp[execOp,go_sem];rw[IntWalk.i64_in _ ⟨oM,oM⟩]) ?_
   simp only[zD];refine au ?_;refine fin _ w2 (k+1) oM d ?_ z rfl;rw[nd i];intro y l;rcases bV.1 l with l|l
   ·exact u y l
   ·obtain rfl:y=x:=cm.1 l
    exact H
  |false=>
   have G:runN es=k:=by
    refine L4 B F u ?_;by_cases d:k<es.length
    ·refine oR ⟨es[k],ae d,fun e=> ?_⟩
     have:=q.2 ⟨es[k],ae d,e⟩;cases this
    ·exact oL oM
   rw[G];refine wp_cond_false rfl (wp_exit (oF ?_));refine wp_seq (kX (kv (I J (k:Int)) ?_));refine kv (I J (k:Int)) ?_;refine kd (wp_ret ?_);repeat (refine kt ?_)
   refine bodyPost_ret (v:=I J (k:Int)) kr rfl ?_;exact⟨rfl,z⟩
end Gt
namespace Ks
theorem Vg{ops:Array Oper}{rest:List Oper}{w:D}{Q:Exit->Act->D->Prop}(m:o.guard=Y)(l c:Operand)(t:TypeId)(q:o.op=Op.makeSlice t l c)(e:TypeId)(z:Vl)(d:Nat)(h1:P.underlying t=Z (.slice e))(h2:(P.info? e).map (fun i=>(i.zero,i.size,i.bytes))=Z (Z z,1,d))(r:z.cells= #[z])(n:Nat)(p:a.eval l=I J (n:Int))(k:a.eval c=I J (n:Int))(g:d*n<=281474976710656)(j:n<=281474976710656)
  (h:∀w' b,Hq (b=w.heap.size)->(∃f:Array Vl,w'.heap[b]? =Z (Cl f e (0,0))/\f.size=n)->Hq (O w.heap.size w w')->wpList P ops Q rest (a.put o.dst (.slice (Z ⟨b,0,Y⟩) n n)) w'):wpList P ops Q (o::rest) a w:=by
 refine Own.Dl w m l c t q e z d h1 h2 r .i64 .i64 n n n p k rfl rfl g j ?_;refine h _ _ rfl ⟨_,heap_alloc_new _ _,?_⟩ ((Below.refl _ _).alloc lR _);simp[Own.lA,Own.dk]
end Ks
namespace Gt
open Mp Bk Tk
theorem SU:(prog.info? 3).map (fun i=>(i.zero,i.size,i.bytes))=Z (Z (I J 0),1,8):=kr
structure qF(w:D)(b n:Nat)(l:List Int)(k:Nat):Prop where
 row:∃cur,w.heap[b]? =Z (Cl cur 3 (0,0))/\cur.size=n/\∀j,j<k->cur[j]? =(l[j]?).map hE
theorem qF.below{n:Nat}(h:qF w b n l k)(c:O w.heap.size w w'):qF w' b n l k:=by
 obtain⟨a,h1,h2⟩:=h.row;exact⟨a,(c.block b (aL h1)).trans h1,h2⟩
theorem qF.full(h:qF w b l.length l l.length)(e:l.length<=1000000):Row (fun k=>k=b) w 3 1 (.slice (Z ⟨b,0,Y⟩) l.length l.length) l.length (l.map hE):=by
 obtain⟨a,h1,h2,h3⟩:=h.row;refine⟨⟨sP,oR ⟨b,l.length,a,rfl,aF _,h1,bA _,?_,by rw[h2];omega,?_⟩⟩,fun k d=>(Option.some.inj d).symm⟩
 ·unfold maxLen;omega
 ·rw[List.take_of_length_le (by simp[h2])]
  apply List.ext_getElem?;intro j;rw[Array.getElem?_toList,ct];by_cases c:j<l.length
  ·exact h3 j c
  ·rw[Array.getElem?_eq_none oM,List.getElem?_eq_none oM]
   rfl
def zH(g off n cap a b k:Nat)(f:Nat->Vl):Act:={tmps:= #[.slice (Z ⟨g,off,Y⟩) n cap,f 1,X (Z ⟨a,0,Y⟩),.slice (Z ⟨b,0,Y⟩) n n,f 4,f 5,f 6,f 7,f 8,.slice (Z ⟨g,off,Y⟩) n cap,I J (n:Int),I J (k:Int),f 12,f 13,f 14,f 15,f 16,f 17,f 18,f 19,f 20,f 21,f 22,f 23,f 24,f 25,f 26,f 27,f 28,f 29,f 30,f 31,f 32,f 33,f 34],defers:=[]}
theorem Ms(w:D)(g off cap:Nat)(es:List En)(h:nF w g off es)(e0:En)(E:es[0]? =Z e0)(hl:es.length<=1000000):Calls prog 82 #[.slice (Z ⟨g,off,Y⟩) es.length cap] w fun e w'=>∃v,e=Re v/\(∃m,v=H #[I J e0.2.1,I J e0.2.2,m]/\Row (fun k=>w.heap.size<=k) w' 3 1 m es.length ((es.map fun x=>x.1.1).map hE))/\O w.heap.size w w':=by
 have W:0<es.length:=(lL E);go_enter func82,ntmps82
 refine au ?_;refine Ks.alloc rfl _ rfl (H #[I J 0,I J 0,.slice none 0 0]) kr #[I J 0,I J 0,.slice none 0 0] rfl ?_;intro w1 c M G u a8;simp only[zD];refine kd (wp_seq ?_);refine kX (kv (.slice (Z ⟨g,off,Y⟩) es.length cap) ?_);refine kv (I J (es.length:Int)) ?_;refine Ks.Vg rfl _ _ _ rfl 3 (I J 0) 8 underlying25 SU rfl es.length rfl rfl oM oM ?_;rintro w2 b L ⟨b6,U,a7⟩ y;have Q:=cP y G;have N:=tR u y;have S:w.heap.size<=b:=by rw[L.o];exact u.o.size
 have c8:w.heap.size<=c:=bO M.o.symm;have P:qF w2 b es.length (es.map fun x=>x.1.1) 0:=⟨⟨b6,U,a7,fun j V=>absurd V (Nat.not_lt_zero _)⟩⟩;clear u y G a8 L M U a7;simp only[zD];refine kv (.slice (Z ⟨b,0,Y⟩) es.length es.length) ?_;refine kd (wp_seq ?_);refine wp_seq (kX (kv (.slice (Z ⟨g,off,Y⟩) es.length cap) ?_));refine kv (I J (es.length:Int)) ?_;refine kv (I J 0) ?_;refine kd (wp_block ?_);refine loop (fun m a wr=>∃(k:Nat)(f:Nat->Vl),k<=es.length/\m=es.length-k/\qF wr b es.length (es.map fun x=>x.1.1) k/\wr.heap[c]? =Z (Cl #[I J 0,I J 0,.slice none 0 0] 86 (0,0))/\O w.heap.size w wr/\a=zH g off es.length cap c b k f) es.length ⟨0,fun j=>Array.getD #[undef,undef,undef,undef,undef,undef,.slice (Z ⟨g,off,Y⟩) es.length cap,I J (es.length:Int),.slice (Z ⟨b,0,Y⟩) es.length es.length] j undef,aF _,rfl,P,Q,N,rfl⟩ ?_;clear P Q N;rintro m a wr ⟨k,f,hk,rfl,A,r,q,rfl⟩;have fin:∀(p:Act)(w':D)(i:Nat),k<i->i<=es.length->qF w' b es.length (es.map fun x=>x.1.1) i->w'.heap[c]? =Z (Cl #[I J 0,I J 0,.slice none 0 0] 86 (0,0))->O w.heap.size w w'->p=zH g off es.length cap c b i (fun j=>p.tmps.getD j undef)->∃m,m<es.length-k/\∃(k:Nat)(f:Nat->Vl),k<=es.length/\m=es.length-k/\qF w' b es.length (es.map fun x=>x.1.1) k/\w'.heap[c]? =Z (Cl #[I J 0,I J 0,.slice none 0 0] 86 (0,0))/\O w.heap.size w w'/\p=zH g off es.length cap c b k f:=fun p w' i q1 q2 q3 q4 q5 q6=>⟨es.length-i,oM,i,_,q2,rfl,q3,q4,q5,q6⟩;have l:=h.below q;unfold zH;refine au ?_;refine wp_cond_split rfl ?_ ?_
 ·intro d
  have d:k<es.length:=by have:=of_decide_eq_true d;omega
  obtain⟨x,hx⟩:∃x,es[k]? =Z x:=⟨_,ae d⟩;refine au ?_;refine Ks.uc kr _ _ _ rfl 245 4 underlying155 kr kr g off es.length cap k rfl rfl d ?_;simp only[zD];refine Ks.pj rfl _ _ rfl g (off+k*4) rfl (eC x) (l.D0 hx) underlying245 rfl kr ?_;simp only[zD];refine Ks.alloc rfl _ rfl (H #[I J 0,I J 0,I J 0,I J 0]) kr #[I J 0,I J 0,I J 0,I J 0] rfl ?_;intro w3 b4 b2 K F b1;simp only[zD];refine kv (I J (k:Int)) ?_;refine Ks.whole rfl _ _ _ rfl b4 (eC x).toArray rfl rfl K.o kr rfl kr ?_;intro w4 z n t H4;have s:O wr.heap.size wr w4:=F.o.trans ((n.o (fun _=>False) wr.heap.size (oR (bO b2.o.symm))).below lR fun _ _ h=>h);have c4:=A.below s;have B:=cP s r;have b8:=tR q s;clear K F b1 n t H4 s A r;simp only[aD];refine kd (kX (kv (.slice (Z ⟨b,0,Y⟩) es.length es.length) ?_));refine kv (I J (k:Int)) ?_;refine kv (X (Z ⟨b4,0,Y⟩)) ?_;refine kv (X (Z ⟨b4,0,Y⟩)) ?_;refine Ks.cell rfl _ _ rfl underlying3 rfl b4 0 (I J x.1.1) rfl (fy z.o 0 rfl) ?_;simp only[zD];refine Ks.idx kr _ _ _ rfl 3 1 underlying25 kr kr b es.length es.length k rfl rfl d ?_;simp only[zD];obtain⟨b3,T,c9,e1⟩:=c4.row;refine Ks.store rfl _ _ _ rfl b (k*1) (I J x.1.1) rfl rfl T oM kr rfl (b3.setIfInBounds (k*1) (I J x.1.1)) rfl ?_;intro w5 HC HF HO HS;have c7:w5.heap[c]? =Z (Cl #[I J 0,I J 0,.slice none 0 0] 86 (0,0)):=(HO.o c fun e=>by rw[e,T] at B;cases B).trans B;have c0:O w.heap.size w w5:=b8.trans ((HF.o (fun _=>False) w.heap.size (oR S)).below lR fun _ _ h=>h);have c6:qF w5 b es.length (es.map fun x=>x.1.1) (k+1):=⟨_,HC.o,by simpa using c9,fun j V=>by
   rw[Array.getElem?_setIfInBounds];by_cases e:k=j
   ·subst e
    rw[fA,if_pos rfl,if_pos oM,ct,hx];rfl
   ·rw[fA,if_neg e]
    exact e1 j oM⟩
  simp only[aD];refine Ks.fin (Ks.mr (kX ?_));refine Ks.val rfl (I J ((k+1:Nat):Int)) (by
   simp[execOp,go_sem];rw[IntWalk.i64_in _ ⟨oM,oM⟩]) ?_
  simp only[zD];refine kv (I J ((k+1:Nat):Int)) ?_;refine kd ?_;exact fin _ w5 (k+1) oM d c6 c7 c0 rfl
 ·intro d
  obtain rfl:k=es.length:=by have:=of_decide_eq_false d;omega
  refine wp_exit (oF ?_);refine km ?_;have e2:Row (fun k=>w.heap.size<=k) wr 3 1 (.slice (Z ⟨b,0,Y⟩) es.length es.length) es.length ((es.map fun x=>x.1.1).map hE):=by
   have h1:qF wr b (es.map fun x=>x.1.1).length (es.map fun x=>x.1.1) (es.map fun x=>x.1.1).length:=by rw[aS];exact A
   have:=h1.full (by rw[aS];exact hl);rw[aS] at this;exact this.mono fun _ e=>e▸S
  refine wp_seq (Qg.im 12 kr kr ?_);simp only[List.take_succ_cons,List.take_zero,List.drop_succ_cons,List.drop_zero];refine qv (.slice (Z ⟨g,off,Y⟩) es.length cap) ?_;refine Qg.uc kr _ _ _ rfl 245 4 underlying155 kr kr g off es.length cap 0 rfl rfl W ?_;simp only[zD];refine qv (X (Z ⟨g,off+0*4+2,Y⟩)) ?_;refine qv (X (Z ⟨g,off+0*4+2,Y⟩)) ?_;refine Qg.cell kr _ _ rfl underlying3 rfl g (off+0*4+2) (I J e0.2.1) rfl l.lt (l.pass E 0 _ rfl) ?_;simp only[zD];refine qv (.slice (Z ⟨g,off,Y⟩) es.length cap) ?_;refine Qg.uc kr _ _ _ rfl 245 4 underlying155 kr kr g off es.length cap 0 rfl rfl W ?_;simp only[zD];refine qv (X (Z ⟨g,off+0*4+2,Y⟩)) ?_;refine qv (X (Z ⟨g,off+0*4+3,Y⟩)) ?_;refine Qg.cell kr _ _ rfl underlying3 rfl g (off+0*4+3) (I J e0.2.2) rfl l.lt (l.pass E 1 _ rfl) ?_;simp only[zD];refine qv (.slice (Z ⟨b,0,Y⟩) es.length es.length) ?_;refine qv (H #[I J e0.2.1,I J e0.2.2,.slice (Z ⟨b,0,Y⟩) es.length es.length]) ?_;refine wpQuiet_nil ?_;intro w3 C;have R:w3.heap[c]? =Z (Cl #[I J 0,I J 0,.slice none 0 0] 86 (0,0)):=(Below.block C c (aL r)).trans r;have a6:=e2.below C lR;have b7:O w.heap.size w w3:=q.trans (Below.mono C q.size);refine Ks.whole rfl _ _ _ rfl c #[I J e0.2.1,I J e0.2.2,.slice (Z ⟨b,0,Y⟩) es.length es.length] rfl rfl R kr rfl kr ?_;intro w4 z n t H4;simp only[aD];refine kd (wp_ret ?_);exact Own.jM results82 rfl c _ #[I J e0.2.1,I J e0.2.2,.slice (Z ⟨b,0,Y⟩) es.length es.length] _ _ rfl z.o underlying86 rfl kr ⟨_,rfl,⟨_,rfl,Row.other a6 (kV a6 R dc) t.o⟩,b7.trans ((n.o (fun _=>False) w.heap.size (oR c8)).below lR (fun _ _ h=>h))⟩
def po(l:List (Tw×Vl)):List Vl:=l.flatMap fun p=>[I J p.1.br,I J p.1.ba,p.2]
theorem yK:(prog.info? 86).map (fun i=>(i.zero,i.size,i.bytes))=Z (Z (H #[I J 0,I J 0,.slice none 0 0]),3,40):=kr
structure nu(S:Nat->Prop)(w:D)(v:Vl)(l:List (Tw×Vl)):Prop where
 row:Row S w 86 3 v l.length (po l)
 more:∀p∈l,Row S w 3 1 p.2 p.1.gates.length (p.1.gates.map hE)
theorem nu.nil(S:Nat->Prop)(w:D):nu S w (.slice none 0 0) []:=⟨Row.nil _ _ _ _,fun _ a=>(eG a).elim⟩
theorem nu.below{S:Nat->Prop}{w w':D}{v:Vl}{l:List (Tw×Vl)}(h:nu S w v l)(a:O w.heap.size w w'):nu S w' v l:=⟨h.row.below a lR,fun p b=>(h.more p b).below a lR⟩
theorem nu.mono{S T:Nat->Prop}{w:D}{v:Vl}{l:List (Tw×Vl)}(h:nu S w v l)(a:∀k,S k->T k):nu T w v l:=⟨h.row.mono a,fun p b=>(h.more p b).mono a⟩
theorem nu.push{v v':Vl}{l:List (Tw×Vl)}(h:nu S w v l){t:Tw}{m:Vl}(i:Row S w 3 1 m t.gates.length (t.gates.map hE))(j:Row (fun k=>S k\/w.heap.size<=k) w' 86 3 v' (l.length+1) (po l++[I J t.br,I J t.ba,m]))(g:Fr (fun k=>v.ownBlock=Z k) w.heap.size w w'):nu (fun k=>S k\/w.heap.size<=k) w' v' (l++[(t,m)]):=by
 have d:∀{u:Vl}{n:Nat}{xs:List Vl},Row S w 3 1 u n xs->Row (fun k=>S k\/w.heap.size<=k) w' 3 1 u n xs:=fun hu=>by
  refine(hu.congr fun b c=>g.block b (hu.lt b c) fun e=> ?_).mono fun _ h=>oL h;obtain⟨o,f⟩:=Row.kl h.row e;exact kV hu f dc c
 refine⟨?_,?_⟩
 ·rw[ao]
  simpa [po] using j
 ·intro p a
  rcases bV.1 a with a|a
  ·exact d (h.more p a)
  ·obtain rfl:p=_:=cm.1 a
   exact d i
structure mP(S:Nat->Prop)(w:D)(v:Vl)(l:List (Tw×Vl)):Prop extends nu S w v l where
 apart:l.Pairwise fun a b=>∀k,a.2.ownBlock=Z k->b.2.ownBlock≠Z k
theorem mP.nil(S:Nat->Prop)(w:D):mP S w (.slice none 0 0) []:=⟨nu.nil S w,List.Pairwise.nil⟩
theorem mP.below{S:Nat->Prop}{w w':D}{v:Vl}{l:List (Tw×Vl)}(h:mP S w v l)(a:O w.heap.size w w'):mP S w' v l:=⟨h.tonu.below a,h.apart⟩
theorem mP.mono{S T:Nat->Prop}{w:D}{v:Vl}{l:List (Tw×Vl)}(h:mP S w v l)(a:∀k,S k->T k):mP T w v l:=⟨h.tonu.mono a,h.apart⟩
def yv(w:D)(v:Vl)(rest:List En):Prop:=∃p cap,v= .slice p rest.length cap/\rest.length<=cap/\(0<rest.length->∃g off a,p=Z ⟨g,off,Y⟩/\nF w g off rest/\w.heap[g]? =Z (Cl a 245 (0,0)))
theorem yv.mf{v:Vl}{es:List En}(h:Row S w 245 4 v es.length (es.flatMap eC)):yv w v es:=by
 rcases h.1.2 with⟨rfl,d⟩|⟨g,cap,c,rfl,_,b,f,_,_,e⟩
 ·exact⟨Y,0,by rw[d],oM,fun h=>absurd h oM⟩
 ·refine⟨Z ⟨g,0,Y⟩,cap,rfl,f,fun _=>⟨g,0,c,rfl,⟨(aL b),fun j x a=> ?_⟩,b⟩⟩
  rw[Nat.zero_add];refine(cell_of_row w g j _ _ _ b).trans ?_;rw[<-e] at a;have:=(lL a);rw[List.length_take] at this;rw[List.getElem?_take_of_lt oM] at a;simpa using a
theorem nF.split{g off:Nat}{a b:List En}(h:nF w g off (a++b)):nF w g off a/\nF w g (off+a.length*4) b:=by
 have d:(a.flatMap eC).length=a.length*4:=by
  clear h;induction a with
  |nil=>rfl
  |cons x r ih=>rw[List.flatMap_cons,ao,ih,uS,List.length_cons];omega
 have c:=h.yt;rw[List.flatMap_append] at c;refine⟨⟨h.lt,fun j v hv=>c j v (by rw[List.getElem?_append_left (lL hv)];exact hv)⟩,⟨h.lt,fun j v hv=> ?_⟩⟩;have:=c (a.length*4+j) v (by rw[List.getElem?_append_right oM,d,Nat.add_sub_cancel_left];exact hv);rwa [show off+a.length*4+j=off+(a.length*4+j) by omega]
theorem TI{rest:List En}{e0:En}(c:rest[0]? =Z e0)(b:rest.Pairwise LtE):∃run e,rest=run++e/\runN rest=run.length/\run[0]? =Z e0/\(∀x∈run,x.2=e0.2)/\∀y∈e,Lt2 e0.2 y.2:=by
 cases rest with
 |nil=>cases c
 |cons z r=>
  obtain rfl:z=e0:=by simpa using c
  refine⟨(z::r).takeWhile fun x=>decide (x.2=z.2),(z::r).dropWhile fun x=>decide (x.2=z.2),(gP ..).symm,rfl,sP,fun x f=>by
   have:=List.all_eq_true.1 (List.all_takeWhile (p:=fun x:En=>decide (x.2=z.2)) (l:=z::r)) x f;simpa using this,?_⟩
  have i:z∈(z::r).takeWhile fun x=>decide (x.2=z.2):=by simp
  rw[<-gP (p:=fun x:En=>decide (x.2=z.2)) (l:=z::r),eH] at b;generalize d:(z::r).dropWhile (fun x=>decide (x.2=z.2))=T at b⊢;cases T with
  |nil=>intro y a;cases a
  |cons y0 T=>
   have g:y0.2≠z.2:=by
    have:=List.head_dropWhile_not (fun x:En=>decide (x.2=z.2)) (l:=z::r) (by rw[d];simp);simp only[d,List.head_cons] at this;simpa using this
   have h1:Lt2 z.2 y0.2:=by
    rcases b.2.2 z i y0 sP with h|h
    ·exact h
    ·exact absurd h.1.symm g
   intro y a;rcases cr.1 a with rfl|a
   ·exact h1
   ·rcases (List.pairwise_cons.1 b.2.1).1 y a with h|h
    ·exact h1.trans h
    ·exact h.1▸h1
theorem SI{w:D}(t:TypeId)(x y:Operand)(h:o.op= .slice t x none (Z y) Y)(c:P.underlying t=Z (.slice (P.elem t)))(j:P.cellsOf (P.elem t)=sz)(d:(P.info? (P.elem t)).isSome=true)(b off n cap k:Nat)(l:f x= .slice (Z ⟨b,off,Y⟩) n cap)(m:f y=I J (k:Int))(p:k<=cap):
  (execOp f o).run P w= .ok (.value (.slice (Z ⟨b,off,Y⟩) k cap)) w:=by
 obtain⟨i,g⟩:=dC.1 d;have h2:(sizeOf (P.elem t)).run P w= .ok sz w:=by rw[<-j];exact run_sizeOf w g
 have a:=run_slice_h (P:=P) w t (Z ⟨b,off,Y⟩) n cap c .i64 (k:Int) oM oM;rw[h2,ar] at a;have e:sliced (Z ⟨b,off,Y⟩) 0 (k:Int).toNat cap sz= .slice (Z ⟨b,off,Y⟩) k cap:=by
  unfold sliced;split<;>simp[Addr.add_mid]
 rw[e] at a;unfold execOp;simp only[h,l,m,da,cZ,aH,aR,ar,run_sliceAt_slice w t _ _ _ _ c,a]
theorem SJ{w:D}(t:TypeId)(x y:Operand)(h:o.op= .slice t x (Z y) none Y)(c:P.underlying t=Z (.slice (P.elem t)))(j:P.cellsOf (P.elem t)=sz)(d:(P.info? (P.elem t)).isSome=true)(b off n cap k:Nat)(l:f x= .slice (Z ⟨b,off,Y⟩) n cap)(m:f y=I J (k:Int))(p:k<=n):
  (execOp f o).run P w= .ok (.value (.slice (Z ⟨b,if cap=k then off else off+k*sz,Y⟩) (n-k) (cap-k))) w:=by
 obtain⟨i,g⟩:=dC.1 d;have h2:(sizeOf (P.elem t)).run P w= .ok sz w:=by rw[<-j];exact run_sizeOf w g
 have a:=run_slice_l (P:=P) w t (Z ⟨b,off,Y⟩) n cap c .i64 (k:Int) oM oM;rw[h2,ar] at a;have e:sliced (Z ⟨b,off,Y⟩) (k:Int).toNat n cap sz= .slice (Z ⟨b,if cap=k then off else off+k*sz,Y⟩) (n-k) (cap-k):=by
  unfold sliced;rw[Int.toNat_natCast];split<;>simp[Addr.add_mid]
 rw[e] at a;unfold execOp;simp only[h,l,m,da,cZ,aH,aR,ar,run_sliceAt_slice w t _ _ _ _ c,a]
def te(g:Nat)(lv rv:Vl)(f:Nat->Vl):Act:={tmps:= #[X (Z ⟨g,0,Y⟩),f 1,.slice none 0 0,lv,rv,f 5,f 6,f 7,f 8,f 9,f 10,f 11,f 12,f 13,f 14,f 15,f 16,f 17,f 18,f 19,f 20,f 21,f 22,f 23,f 24,f 25,f 26,f 27,f 28,f 29],defers:=[]}
structure AR(B:Nat)(w wr:D)(es done rest:List En)(lv rv:Vl)(l:List (Tw×Vl)):Prop where
 eq:es=done++rest
 at_:mP (fun k=>B<=k) wr lv l
 left:yv wr rv rest
 of_:qu done (l.map aj)
 lt:∀x∈done,∀y∈rest,Lt2 x.2 y.2
 below:O B w wr
 kB:l.length<=done.length
theorem JB{g:Nat}{s:St}(h:gg S w g s)(W:Inv s):Calls prog 33 #[X (Z ⟨g,0,Y⟩)] w fun e w'=>∃v,e=Re v/\(∃l:List (Tw×Vl),sH s.l (l.map aj)/\mP (fun k=>w.heap.size<=k) w' v l)/\O w.heap.size w w':=by
 go_enter func33,ntmps33
 refine wp_seq (kX (kv (.slice none 0 0) ?_));refine kd (wp_seq ?_);refine wp_seq (kX (kv (X (Z ⟨g,0,Y⟩)) ?_));refine kv (Bl false) ?_;refine kd (wp_cond_false rfl ?_);refine wp_skip (km ?_);refine wp_seq (kX (kv (.slice none 0 0) ?_));refine kd (wp_seq ?_);refine wp_seq (kX (kv (X (Z ⟨g,0,Y⟩)) ?_));refine kv (X (Z ⟨g,0,Y⟩)) ?_;refine kv (X (Z ⟨g,3,Y⟩)) ?_;refine Ks.call rfl 80 #[X (Z ⟨g,3,Y⟩)] kr (SH h W) ?_;rintro N w1 ⟨⟨es,b8,c7,c6⟩,b2⟩;have j9:es.length<=16000:=by
  rw[b8.length_eq,aS];exact ag (List.length_filter_le _ _) W.kB
 simp only[zD];refine kv (N) ?_;refine kd (wp_block (loop (fun m a wr=>∃(done rest:List En)(lv rv:Vl)(l:List (Tw×Vl))(f:Nat->Vl),m=rest.length/\AR w.heap.size w wr es done rest lv rv l/\a=te g lv rv f) es.length ⟨[],es,_,N,[],fun j=>Array.getD #[undef,undef,undef,undef,undef,undef,X (Z ⟨g,0,Y⟩),Bl false,X (Z ⟨g,0,Y⟩),X (Z ⟨g,0,Y⟩),X (Z ⟨g,3,Y⟩),N] j undef,rfl,⟨rfl,mP.nil _ _,yv.mf c6,qu.nil,fun x o=>(by cases o),b2,bA _⟩,rfl⟩ ?_));clear c6 b2;rintro m a wr ⟨done,rest,lv,rv,l,f,rfl,i,rfl⟩;have fin:∀(n:Act)(w':D)(M K:List En)(c L:Vl)(d:List (Tw×Vl)),K.length<rest.length->AR w.heap.size w w' es M K c L d->n=te g c L (fun j=>n.tmps.getD j undef)->∃m,m<rest.length/\∃(done rest:List En)(lv rv:Vl)(l:List (Tw×Vl))(f:Nat->Vl),m=rest.length/\AR w.heap.size w w' es done rest lv rv l/\n=te g lv rv f:=fun n w' M K c L d q1 q2 q3=>⟨_,q1,M,K,c,L,d,_,rfl,q2,q3⟩;obtain⟨p,cap,rfl,j5,j0⟩:=i.left;unfold te;refine wp_seq (wp_seq ?_);refine kX (kv (.slice p rest.length cap) ?_);refine kv (I J (rest.length:Int)) ?_;refine kv (Bl (decide (0<(rest.length:Int)))) ?_;refine kd ?_;refine wp_cond_split rfl ?_ ?_
 ·intro r
  have r:0<rest.length:=by have:=of_decide_eq_true r;omega
  obtain⟨b,off,q,rfl,V,h5⟩:=j0 r;have l2:rest.length<=16000:=by
   have:=congrArg dH i.eq;rw[ao] at this;omega
  obtain⟨e0,b7⟩:∃e0,rest[0]? =Z e0:=⟨_,ae r⟩;obtain⟨run,b0,A,hn,c0,c4,j1⟩:=TI b7 (by
   have:=c7;rw[i.eq] at this;exact(eH.1 this).2.1)
  have l3:0<run.length:=(lL c0);have l0:rest.length=run.length+b0.length:=by rw[A,ao]
  have C:=i.of_.run c4 fun x o=>i.lt x o e0 (aJ b7);refine au ?_;refine Ks.call rfl 81 #[.slice (Z ⟨b,off,Y⟩) rest.length cap] kr (R:=fun v w'=>v=I J (runN rest:Int)/\O wr.heap.size wr w') (Calls.mono (Xn wr b off cap rest V r oM) fun e w' h=>⟨_,h.1,rfl,h.2⟩) ?_;rintro _ w2 ⟨rfl,E⟩;rw[hn];simp only[zD];refine kv (I J (run.length:Int)) ?_;refine kd ?_;have B:=V.below E;have b6:w2.heap[b]? =Z (Cl q 245 (0,0)):=(E.block b V.lt).trans h5;have Q:O w.heap.size w w2:=i.below.trans (E.mono i.below.size);have P:=i.at_.below E;refine Ks.cut (fun n w'=>∃(c:Vl)(d:List (Tw×Vl))(f:Nat->Vl),mP (fun k=>w.heap.size<=k) w' c d/\qu (done++run) (d.map aj)/\nF w' b off rest/\w'.heap[b]? =Z (Cl q 245 (0,0))/\O w.heap.size w w'/\d.length<=done.length+run.length/\f 5=I J (run.length:Int)/\n=te g c (.slice (Z ⟨b,off,Y⟩) rest.length cap) f) ?_ ?_
  ·have b1:∀(n:Act)(w':D)(c:Vl)(d:List (Tw×Vl)),mP (fun k=>w.heap.size<=k) w' c d->qu (done++run) (d.map aj)->nF w' b off rest->w'.heap[b]? =Z (Cl q 245 (0,0))->O w.heap.size w w'->d.length<=done.length+run.length->n.tmps.getD 5 undef=I J (run.length:Int)->n=te g c (.slice (Z ⟨b,off,Y⟩) rest.length cap) (fun j=>n.tmps.getD j undef)->∃(c:Vl)(d:List (Tw×Vl))(f:Nat->Vl),mP (fun k=>w.heap.size<=k) w' c d/\qu (done++run) (d.map aj)/\nF w' b off rest/\w'.heap[b]? =Z (Cl q 245 (0,0))/\O w.heap.size w w'/\d.length<=done.length+run.length/\f 5=I J (run.length:Int)/\n=te g c (.slice (Z ⟨b,off,Y⟩) rest.length cap) f:=fun n w' c d q1 q2 q3 q4 q5 q6 q7 q8=>⟨c,d,_,q1,q2,q3,q4,q5,q6,q7,q8⟩
   refine au ?_;refine wp_cond_split rfl ?_ ?_
   ·intro h1
    have h1:1<run.length:=by have:=of_decide_eq_true h1;omega
    rw[if_pos h1] at C;refine au ?_;refine Ks.val rfl (.slice (Z ⟨b,off,Y⟩) run.length cap) (SI _ _ _ rfl underlying155 (sz:=4) kr kr b off rest.length cap run.length rfl rfl oM) ?_;simp only[zD];have e7:nF w2 b off run:=by
     have:=B;rw[A] at this;exact this.split.1
    refine Ks.call rfl 82 #[.slice (Z ⟨b,off,Y⟩) run.length cap] kr (Ms w2 b off cap run e7 e0 c0 oM) ?_;rintro _ w3 ⟨⟨m,rfl,hm⟩,F⟩;have z:=P.below F;have h9:Row (fun k=>w.heap.size<=k) w3 3 1 m run.length ((run.map fun x=>x.1.1).map hE):=hm.mono fun k G=>ag Q.size G;have b3:=B.below F;have a6:w3.heap[b]? =Z (Cl q 245 (0,0)):=(F.block b B.lt).trans b6;have U:=tR Q F;have h8:lv.ownBlock≠Z b:=kV z.row a6 dc;simp only[zD];have l1:l.length<=16000:=by
     have:=congrArg dH i.eq;rw[ao] at this;have:=i.kB;omega
    refine Ks.push rfl rfl 83 86 _ _ _ rfl rfl (H #[I J e0.2.1,I J e0.2.2,m]) (H #[I J 0,I J 0,.slice none 0 0]) rfl #[I J e0.2.1,I J e0.2.2,m] 3 40 underlying83 yK dc dc kr rfl dc _ lv l.length (po l) (fun _=>rfl) (fun _=>rfl) z.row rfl (by have:=Row.one hm;simp[av] at this⊢;exact this) oM ?_;intro u c w4 j2 a8;have c8:mP _ w4 c _:=⟨z.tonu.push (t:=⟨e0.2.1,e0.2.2,run.map fun x=>x.1.1⟩) (m:=m) (by rw[aS];exact h9) j2 a8,eH.2 ⟨z.apart,List.pairwise_singleton _ _,fun a ha b hb k h3 h4=>by
     obtain rfl:=cm.1 hb;have:=(P.more a ha).lt k h3;have:=hm.2 k h4;omega⟩⟩
    have c9:=c8.mono (T:=fun k=>w.heap.size<=k) fun k G=>G.elim id fun h=>ag U.size h;have a7:w4.heap[b]? =Z (Cl q 245 (0,0)):=(a8.block b b3.lt h8).trans a6;have e4:nF w4 b off rest:=⟨(aL a7),fun j v hv=>by
     have:=b3.yt j v hv;rw[cell_of_row _ _ _ _ _ _ a6] at this;rw[cell_of_row _ _ _ _ _ _ a7];exact this⟩
    have e2:O w.heap.size w w4:=U.trans (a8.below U.size fun k G e=>by have:=z.row.2 k e;omega);simp only[zD];refine au ?_;refine b1 _ w4 c _ c9 ?_ e4 a7 e2 (by have:=i.kB;rw[ao,List.length_singleton];omega) rfl rfl;rw[List.map_append];exact C
   ·intro h1
    have h1:¬1<run.length:=by have:=of_decide_eq_false h1;omega
    rw[if_neg h1] at C;refine wp_skip ?_;exact b1 _ w2 lv l P C B b6 Q (ag i.kB (Nat.le_add_right _ _)) rfl rfl
  ·rintro n w5 ⟨c,d,f',e1,e9,e6,h6,e3,h7,e5,rfl⟩
   unfold te;rw[e5];refine au ?_;refine Ks.val rfl (.slice (Z ⟨b,if cap=run.length then off else off+run.length*4,Y⟩) (rest.length-run.length) (cap-run.length)) (SJ _ _ _ rfl underlying155 (sz:=4) kr kr b off rest.length cap run.length rfl rfl oM) ?_;simp only[zD];refine au ?_;refine fin _ w5 (done++run) b0 c _ d oM ⟨?_,e1,?_,e9,?_,e3,by rw[ao];exact h7⟩ rfl
   ·rw[i.eq,A,List.append_assoc]
   ·refine⟨_,_,by rw[show rest.length-run.length=b0.length by omega],oM,fun h0=>⟨b,off+run.length*4,q,?_,?_,h6⟩⟩
    ·rw[if_neg oM]
    ·have:=e6
     rw[A] at this;exact this.split.2
   ·intro x o y hy
    rcases bV.1 o with o|o
    ·exact i.lt x o y (by rw[A];exact List.mem_append_right _ hy)
    ·rw[c4 x o]
     exact j1 y hy
 ·intro r
  obtain rfl:rest=[]:=List.length_eq_zero_iff.1 (by have:=of_decide_eq_false r;omega);refine wp_exit (oF ?_);refine wp_seq (kX (kv (lv) ?_));refine kv (lv) ?_;refine kd (wp_ret ?_);repeat (refine kt ?_)
  refine bodyPost_ret (v:=lv) kr rfl ?_;have hd:es=done:=by rw[i.eq,List.append_nil]
  exact⟨lv,rfl,⟨l,OZ W.g' b8 c7 (by rw[hd];exact i.of_),i.at_⟩,i.below⟩
end Gt
namespace Gt
open Mp Bk Fu
theorem Mb:(prog.info? 83).map (fun i=>(i.zero,i.size,i.bytes))=Z (Z (.slice none 0 0),1,24):=kr
def sm(m:Int):List Vl:=[I J m,I J 0,.slice none 0 0]
theorem VE{m:Int}(j:Nat)(a:j<3):(sm m)[j]? =Z (fT 3 m j):=by
 rcases (show j=0\/j=1\/j=2 by omega) with rfl|rfl|rfl<;>rfl
theorem Kk{C:Nat->Nat->Prop}{B c:Nat}{d:Bd}(h:lH C w B c d)(sv:Vl)(l:List (Tw×Vl))(hd:mP S w sv l)(hS:∀b j,S b->¬C b j)(hl:l.length<=1000000000)(G:∀p∈l,p.1.gates.length<=1000000000)(hc:c+4*l.length<=5800000000000):
  Calls prog 140 #[X (Z ⟨B,0,Y⟩),sv] w fun e w'=>e=Re (Tp #[])/\kU C S w w' B (c+4*l.length+4):=by
 obtain⟨n,hn⟩:=eX l.length;obtain⟨p,cap,rfl,_⟩:=Row.form hd.row;have HK:Hq (lH C w B c d):=h;have t:Hq (mP S w (.slice p l.length cap) l):=hd;clear h hd;go_enter func140,ntmps140
 have e7:Hq (∀i wr c',kU C (mA l i) w wr B c'->Row S wr 86 3 (.slice p l.length cap) l.length (po l)/\∀b,(aZ p l.length cap).ownBlock=Z b->¬mA l i b):=by
  rintro i wr c' ⟨N,d1,h1,h2,h3,h4⟩;have Q:∀b,mA l i b->b<w.heap.size/\∃E,w.heap[b]? =Z (Cl E 3 (0,0)):=fun b ⟨q,U,a⟩=>⟨(t.o.more q (dz U)).lt b a,(t.o.more q (dz U)).kl a⟩;have c6:∀b,(aZ p l.length cap).ownBlock=Z b->¬mA l i b:=fun b a x=>by
   obtain⟨_,E,h8⟩:=Q b x;exact kV t.o.row h8 dc a
  refine⟨t.o.row.congr fun b a=>h4.block b (t.o.row.lt b a) fun x=> ?_,c6⟩;rcases x with⟨j,hj⟩|x
  ·exact hS b j (t.o.row.2 b a) hj
  ·exact c6 b a x
 have b8:kU C (mA l 0) w w B (c+4*0):=kU.start HK.o _;refine au ?_;refine lp 80 (fun i:Nat=>[(0,pt B 0),(1,.slice p l.length cap),(4,I J (i:Int))]) (fun m i wr=>i<=l.length/\m=l.length-i/\kU C (mA l i) w wr B (c+4*i)) l.length 0 ⟨aF _,rfl,b8⟩ ?_;clear b8;rintro m i wr f ⟨hi,rfl,hO⟩;obtain⟨O,Q⟩:=e7.o i wr _ hO;refine af ?_;refine wp_cond_split rfl ?_ ?_
 ·intro r
  have r:i<l.length:=by have:=of_decide_eq_true r;omega
  obtain⟨⟨s,mv⟩,hy⟩:∃y,l[i]? =Z y:=⟨_,ae r⟩;obtain⟨g,cp,E,e,_,hg,_,_,_,ht⟩:=O.cases.resolve_left (fun x=>absurd x.2.1 oM);cases e;have HR:Hq (wr.rangeAt g (i*3) [I J s.br,I J s.ba,mv]):=Row.range (f:=fun p:Tw×Vl=>[I J p.1.br,I J p.1.ba,p.2]) (fun _=>rfl) hg ht hy;refine au ?_;have h7:=kU.int (f:=fun s:Tw=>s.gates) t.o.more t.o.apart hS hy hO (G _ (aJ hy)) oM;refine Ks.call rfl 215 #[pt B 0,mv] kr (R:=fun _ w'=>kU C (mA l (i+1)) w w' B (c+4*(i+1))) h7 ?_;intro v w2 h6;simp only[zD];refine au ?_;exact⟨l.length-(i+1),i+1,oM,gY kr,r,rfl,h6⟩
 ·intro r
  obtain rfl:i=l.length:=by have:=of_decide_eq_false r;omega
  obtain⟨N,d1,k1,k2,k3,k4⟩:=hO;obtain⟨m,G⟩:=eX (d1.next-1);have e2:=k1.next;have j5:=k1.kB 3 oM;have M:Hq (lH N wr B (c+4*l.length) d1):=k1;have b0:Hq (wr.heap[B]? =Z (Cl (kh d1) 32 (0,0))):=k1.book;have c0:=O.self;have P:∀b j,(aZ p l.length cap).ownBlock=Z b->¬N b j:=fun b j a hj=>by
   rcases k3 b j hj with x|x|x
   ·exact hS b j (O.2 b a) x
   ·have:=t.o.row.lt b a
    omega
   ·exact Q b a x
  have a7:(aZ p l.length cap).ownBlock≠Z B:=fun x=>P B 2 x k1.oB;have h9:∀w',kU N (fun b=>(aZ p l.length cap).ownBlock=Z b) wr w' B (c+4*l.length+4)->kU C S w w' B (c+4*l.length+4):=fun w' h5=>(kU.step k2 k3 k4 h5).mono (fun b a=>a.elim (fun⟨q,U,a⟩=>(t.o.more q (dz U)).2 b a) fun x=>t.o.row.2 b x) lR;clear k1 k2 k3 k4 O Q e7 t HK;refine au ?_;refine(vb (v:=I J m) (w0 rfl) rfl (by rw[G];exact xY rfl rfl rfl oM) ?_).o;refine Ks.WL.mk ?_;simp only[zD];refine al ?_;refine Ks.store rfl _ _ _ rfl B 10 _ rfl rfl b0.o (by show 10<11;omega) kr rfl (kh {d1 with next:=m}) rfl ?_;intro w2 b1 A K H4;have b7:nA (fun b=>(aZ p l.length cap).ownBlock=Z b) w2 86 3 (.slice p l.length cap) l.length (fT 3 m) 0:=nA.start (c0.congr fun b a=>K.o b fun e=>a7 (e▸a)) _;have z:Fr (fun b=>b=B\/(aZ p l.length cap).ownBlock=Z b) wr.heap.size wr w2:=A.o _ _ (oL (oL rfl));clear b0 A K H4 c0;simp only[aD];refine au ?_;refine lp 80 (fun i:Nat=>[(0,pt B 0),(1,.slice p l.length cap),(5,I J m),(6,I J (i:Int))]) (fun k i wx=>i<=l.length/\k=l.length-i/\nA (fun b=>(aZ p l.length cap).ownBlock=Z b) wx 86 3 (.slice p l.length cap) l.length (fT 3 m) i/\Fr (fun b=>b=B\/(aZ p l.length cap).ownBlock=Z b) wr.heap.size wr wx/\wx.heap[B]? =Z (Cl (kh {d1 with next:=m}) 32 (0,0))) l.length 0 ⟨aF _,rfl,b7,z,b1.o⟩ ?_;clear b7 z b1;rintro k i wx f2 ⟨hi,rfl,hF,F,hB⟩;refine af ?_;refine wp_cond_split rfl ?_ ?_
  ·intro r
   have r:i<l.length:=by have:=of_decide_eq_true r;omega
   obtain⟨g,cp,E,e,c4,hg,j9,e2⟩:=hF.at oM;cases e;have j0:i*3+3<=E.size:=oM
   refine au ?_;refine(vb (v:=H (sm m).toArray) (w0 rfl) rfl kr ?_).o;refine Ks.WL.mk ?_;simp only[zD];refine al ?_;refine Ks.part rfl _ _ _ rfl g (i*3) (sm m) rfl rfl hg j0 kr (by simp[sm,av]) (Ks.setL E (i*3) (sm m)) rfl ?_;intro w3 HG A K H4;simp only[aD];refine au ?_;exact⟨l.length-(i+1),i+1,oM,gY kr,r,rfl,e2 w3 _ HG.o rfl VE r,F.trans (A.o _ _ (oL (oR c4))),(K.o B fun e=>a7 (e▸c4)).trans hB⟩
  ·intro r
   obtain rfl:i=l.length:=by have:=of_decide_eq_false r;omega
   have e6:=hF.done;clear hF;refine au ?_;refine(vb (v:=H (sm m).toArray) (w0 rfl) rfl kr ?_).o;refine Ks.WL.mk ?_;simp only[zD];refine al ?_;refine rI rfl rfl 83 86 1 _ _ _ rfl rfl (H #[I J 0,I J 0,.slice none 0 0]) (fT 3 m) 3 40 underlying83 yK dc dc kr rfl _ _ l.length (fun _=>rfl) (fun _=>rfl) e6 (rR 3 m) (by unfold maxLen;omega) oM ?_;intro u1 v1 w3 V c9 _ T;obtain⟨p1,c1,rfl,_⟩:=Row.form V;simp only[zD];refine au ?_;refine(vb (v:=H (sm m).toArray) (w0 rfl) rfl kr ?_).o;refine Ks.WL.mk ?_;simp only[zD];refine al ?_;refine(vb (v:=H (sm m).toArray) (w0 rfl) rfl kr ?_).o;refine Ks.WL.mk ?_;simp only[zD];refine al ?_;refine rI rfl rfl 83 86 2 _ _ _ rfl rfl (H #[I J 0,I J 0,.slice none 0 0]) (fT 3 m) 3 40 underlying83 yK dc dc kr rfl _ _ l.length (fun _=>rfl) (fun _=>rfl) c9 (rR 3 m) (by unfold maxLen;omega) oM ?_;intro u2 v2 w4 W e1 e3 z;obtain⟨p2,c2,rfl,_⟩:=Row.form W;simp only[zD];have s0:=F.size;have s1:=T.size;have s2:=z.size;have a6:Hq (Fr (fun b=>b=B\/(aZ p l.length cap).ownBlock=Z b) wr.heap.size wr w4):=(F.trans (T.mono s0 fun b _ x=>oR x)).trans (z.mono oM fun b _ x=>oR x);have b2:Hq (w4.heap[B]? =Z (Cl (kh {d1 with next:=m}) 32 (0,0))):=by
    have q:∀{u v:D},Fr (fun j=>(aZ p l.length cap).ownBlock=Z j) u.heap.size u v->u.heap[B]? =Z (Cl (kh {d1 with next:=m}) 32 (0,0))->v.heap[B]? =Z (Cl (kh {d1 with next:=m}) 32 (0,0)):=fun F h=>(F.block B (aL h) a7).trans h;exact q z (q T hB)
   have HN:Hq (∀u∈ [.slice p l.length cap,.slice p1 (l.length+1) c1,.slice p2 (l.length+2) c2],Fl w4 (eT 3) (rq 3) (fT 3 (d1.next-1)) u/\∀b,u.ownBlock=Z b->(aZ p l.length cap).ownBlock=Z b\/wr.heap.size<=b):=by
    rw[<-G];intro u hu;simp only[cr,eG,or_false] at hu;rcases hu with rfl|rfl|rfl
    ·exact⟨mf e1,fun b a=>oL a⟩
    ·exact⟨e3 _ (mf V),fun b a=>(V.2 b a).imp id fun x=>oM⟩
    ·exact⟨mf W,fun b a=>(W.2 b a).imp id fun x=>oM⟩
   clear T z F hB V W c9 e1 e3 e6;have j2:=(M.o.vx (k:=3) oM P a6.o).1;refine au ?_;refine uF rfl rfl 30 83 3 _ _ _ rfl rfl (.slice none 0 0) #[.slice p l.length cap,.slice p1 (l.length+1) c1,.slice p2 (l.length+2) c2] 1 24 underlying30 Mb dc dc kr rfl _ (d1.v 3) (d1.L 3).length ((d1.L 3).map aj) (fun _=>rfl) (fun _=>rfl) j2 rfl (by simp[av]) (by unfold maxLen;omega) oM ?_;intro u4 vs w5 e4 a8;have b3:Hq (w5.heap[B]? =Z (Cl (kh {d1 with next:=m}) 32 (0,0))):=M.o.xH (k:=3) oM b2.o a8;clear b2;simp only[zD];refine au ?_;refine Ks.store rfl _ _ _ rfl B 8 _ rfl rfl b3.o (by show 8<11;omega) kr e4.one (kh {d1 with next:=m,v:=fun j=>if j=3 then vs else d1.v j}) rfl ?_;intro w6 b6 A K H4;have c7:=A.o (fun b=>b=B) w5.heap.size (oL rfl);have j1:=M.o.xI (k:=3) oM P a6.o a8 c7;simp only[aD];refine au ?_;refine uF rfl rfl 25 3 3 _ _ _ rfl rfl (I J 0) #[I J m,I J m,I J m] 1 8 underlying25 qC dc dc kr rfl _ (d1.m 3) (d1.L 3).length ((d1.L 3).map fun p=>hE p.2) (fun _=>rfl) (fun _=>rfl) j1 rfl (by simp[av]) (by unfold maxLen;omega) oM ?_;intro u6 ms w7 e5 c8;have e9:Hq (w7.heap[B]? =Z _):=M.o.xJ (k:=3) oM b6.o c8;clear b6 b3;simp only[zD];refine au ?_;refine Ks.store rfl _ _ _ rfl B 9 _ rfl rfl e9.o (by show 9<11;omega) kr e5.one (kh (d1.set 3 vs ms (d1.next-1) [.slice p l.length cap,.slice p1 (l.length+1) c1,.slice p2 (l.length+2) c2])) (by rw[<-G];rfl) ?_;intro w8 h0 G2 G3 G4;simp only[aD];refine au ?_;refine bodyPost_end (v:=Tp #[]) kr rfl ?_;exact⟨rfl,h9 _ (M.o.fin (k:=3) oM P (by exact Nat.le_succ 3) a6.o HN.o e4 a8 c7 (by rw[<-G];exact e5) c8 (G2.o _ _ (oL rfl)) h0.o)⟩
