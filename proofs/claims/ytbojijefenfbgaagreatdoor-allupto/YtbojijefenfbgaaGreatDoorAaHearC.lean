/- Walks of the program's gate: takes, hearOrder. Walk of the program's gate: hearItem. Walk of the program's gate: Hear. Walk of the program's book: Entries. -/
import Derived.Test.YtbojijefenfbgaaGreatDoorAaTellA
open List renaming mem_of_getElem?->aJ,getElem?_eq_getElem->ae,take_of_length_le->aT,take_succ_cons->ak,take_zero->aE,drop_succ_cons->ax,drop_zero->aK,mem_map->aU,getElem_of_mem->eQ,length_map->aS
open Array renaming getD->dS
open Nat renaming zero_le->aF,le_trans->ag,le_of_eq->bO
open Prod renaming fst->aj
open List.Pairwise renaming of_map->eV,and->jP,nil->cX
open Option renaming some->Z,none->Y
open Go.Value renaming int->I,pointer->X,agg->H,bool->Bl,string->sT,tuple->Tp
open Go.IntKind renaming i64->J
open Go.Obj renaming cells->Cl
open Go.Ending renaming returned->Re
open Go renaming World->D,Value->Vl
open Go.RowKit renaming Below->O
set_option maxHeartbeats 4000000
set_option maxRecDepth 100000
open Go Go.RowKit
open Go.Proofs.YtbojijefenfbgaaGreatDoor
open Ks(pure au decl mB mr oF box)
open Gw(ga)
variable{F:Int}{P:Program}{Q:Exit->Act->D->Prop}{R:List UInt8->List UInt8->List UInt8->Bool}{S T:Nat->Prop}{a:Act}{o:List UInt8}{w:D}
namespace Go.Proofs.YtbojijefenfbgaaGreatDoor
open Tryz
namespace Gt
open Mp Bk Tk
def sX(g:Nat)(p:Option Addr)(n cap k:Nat)(f:Nat->Vl):Act:={tmps:= #[X (Z ⟨g,0,Y⟩),.slice p n cap,f 2,f 3,Bl false,f 5,f 6,f 7,f 8,f 9,f 10,f 11,f 12,f 13,.slice p n cap,I J (n:Int),I J (k:Int),f 17,f 18,f 19,f 20,f 21,f 22,f 23,f 24,f 25,f 26,f 27,f 28,f 29,f 30,f 31,f 32,f 33,f 34,f 35,f 36],defers:=[]}
theorem Ug{a:Type}{p:a->Bool}{l:List a}{k:Nat}{x:a}(h:l[k]? =Z x)(b:p x=false):l.all p=false:=by
 rw[List.all_eq_false];exact⟨x,aJ h,by simp[b]⟩
theorem Mm{g:Nat}{s:St}(h:gg S w g s)(v:Vl)(l:List It)(N:Row T w 73 5 v l.length (gi l))(hl:l.length<=1000000000):Rt 89 #[X (Z ⟨g,0,Y⟩),v] w (Bl (oh s l)):=by
 obtain⟨p,cap,rfl,mT⟩:=Row.form N;obtain⟨R,e⟩:=eX (oh s l);have A:=Xz w _ l N hl;rw[<-e];unfold oh at e;generalize nz l=b at e A;go_enter func89,ntmps89
 refine wp_seq (kX (kv (Bl false) ?_));refine kd (wp_seq ?_);refine wp_seq (kX (kv (X (Z ⟨g,0,Y⟩)) ?_));refine kv (Bl false) ?_;refine kv (Bl false) ?_;refine kg (.slice p l.length cap) ?_;refine pure kr 162 #[.slice p l.length cap] kr A ?_;intro w1 E;simp only[zD];refine kg (Bl (!b)) ?_;refine kv (Bl (!b)) ?_;refine kd ?_;cases b with
 |false=>
  obtain rfl:R=false:=by rw[e];rfl
  refine wp_cond_true rfl (wp_seq ?_);refine kX (kv (Bl false) ?_);refine kd (wp_ret ?_);repeat (refine kt ?_)
  refine bodyPost_ret (v:=Bl false) kr rfl ?_;exact⟨rfl,E⟩
 |true=>
  rw[Bool.true_and] at e;refine au ?_;refine Ks.loop (fun m a wr=>∃(k:Nat)(f:Nat->Vl),k<=l.length/\m=l.length-k/\(l.take k).all (mD s)=true/\O w.heap.size w wr/\a=sX g p l.length cap k f) l.length ⟨0,fun j=>dS #[undef,undef,undef,undef,undef,undef,undef,X (Z ⟨g,0,Y⟩),Bl false,Bl false,.slice p l.length cap,Bl true,Bl (!true),Bl (!true)] j undef,aF _,rfl,rfl,E,rfl⟩ ?_;clear E A;rintro m a wr ⟨k,f,hk,rfl,z,B,rfl⟩;have fin:∀(c:Act)(w':D)(n:Nat),k<n->n<=l.length->(l.take n).all (mD s)=true->O w.heap.size w w'->c=sX g p l.length cap n (fun j=>c.tmps.getD j undef)->∃m,m<l.length-k/\∃(k:Nat)(f:Nat->Vl),k<=l.length/\m=l.length-k/\(l.take k).all (mD s)=true/\O w.heap.size w w'/\c=sX g p l.length cap k f:=fun c w' n q1 q2 q3 q4 q5=>⟨l.length-n,oM,n,_,q2,rfl,q3,q4,q5⟩;unfold sX;refine au ?_;refine wp_cond_split rfl ?_ ?_
  ·intro i
   have i:k<l.length:=by have:=of_decide_eq_true i;omega
   obtain⟨r,b0,rfl,M,a7⟩:=mT k i;have W:=(aL M);obtain⟨x,hx⟩:∃x,l[k]=x:=⟨_,rfl⟩;have F:l[k]? =Z x:=by rw[ae i,hx]
   have b1:wr.rangeAt r (k*5) (fF x):=mG (Row.range yZ M a7 F) B W;refine au ?_;refine decl rfl _ rfl (H #[I J 0,I J 0,I J 0,I J 0,Bl false]) kr rfl _ _ rfl (fF x).toArray (fun _=>rfl) (fun _=>rfl) kr rfl kr ?_;intro w2 q a8 y P;have C:=tR B P;have t:=h.below C;have L:=(aL y.o);have a6:(l.take (k+1)).all (mD s)=mD s x:=by rw[nd F,List.all_append,z];simp
   have V:mD s x=false->R=false:=fun U=>by rw[e];exact Ug F U
   simp only[zD];refine kd ?_;refine Ks.cut (fun c w'=>O w.heap.size w w'/\∃f:Nat->Vl,f 35=Bl (!mD s x)/\c=sX g (Z ⟨r,0,Y⟩) l.length cap k f) ?_ ?_
   ·have G:∀(c:Act)(w':D),O w2.heap.size w2 w'->c.tmps.getD 35 undef=Bl (!mD s x)->c=sX g (Z ⟨r,0,Y⟩) l.length cap k (fun j=>c.tmps.getD j undef)->O w.heap.size w w'/\∃f:Nat->Vl,f 35=Bl (!mD s x)/\c=sX g (Z ⟨r,0,Y⟩) l.length cap k f:=fun c w' d h1 h2=>⟨C.trans (d.mono C.size),_,h1,h2⟩
    refine Qt.lW kr kr ?_;refine qv (X (Z ⟨q,0,Y⟩)) ?_;refine Qg.cell kr _ _ rfl underlying3 rfl q 0 (I J x.gate) rfl L (fy y.o 0 rfl) ?_;simp only[zD];refine qv (X (Z ⟨g,0,Y⟩)) ?_;refine qv (X (Z ⟨g,0,Y⟩)) ?_;refine qv (X (Z ⟨g,0,Y⟩)) ?_;refine Qg.cell kr _ _ rfl underlying3 rfl g 0 (I J s.number) rfl t.lt t.Fx ?_;simp only[zD];refine qv (Bl (decide (x.gate=s.number))) ?_;refine qv (Bl (decide (x.gate=s.number))) ?_;by_cases u:x.gate=s.number
    ·rw[decide_eq_true u]
     refine qv (X (Z ⟨q,1,Y⟩)) ?_;refine Qg.cell kr _ _ rfl underlying3 rfl q 1 (I J x.fi) rfl L (fy y.o 1 rfl) ?_;simp only[zD];refine qv (X (Z ⟨g,0,Y⟩)) ?_;refine qv (X (Z ⟨g,0,Y⟩)) ?_;refine qv (X (Z ⟨g,2,Y⟩)) ?_;refine Qg.cell kr _ _ rfl underlying3 rfl g 2 (I J s.own) rfl t.lt t.wH ?_;simp only[zD];refine qv (Bl (decide (s.own<x.fi))) ?_;refine qv (Bl (decide (s.own<x.fi))) ?_;refine wpQuiet_nil ?_;intro w' d;refine km ?_;exact G _ w' d (by show Value.bool _=_;unfold mD;rw[decide_eq_true u];simp) rfl
    ·rw[decide_eq_false u]
     (with_reducible refine qn ?_;refine qn ?_;refine qn ?_;refine qn ?_;refine qn ?_;refine qn ?_;refine qn ?_);refine qv (Bl false) ?_;refine wpQuiet_nil ?_;intro w' d;refine km ?_;exact G _ w' d (by show Value.bool _=_;unfold mD;rw[decide_eq_false u];simp) rfl
   ·rintro c w3 ⟨K,f',Q,rfl⟩
    unfold sX;rw[Q];cases d:mD s x with
    |false=>
     obtain rfl:R=false:=V d;refine wp_cond_true rfl (wp_seq ?_);refine kX (kv (Bl false) ?_);refine kd (wp_ret ?_);repeat (refine kt ?_)
     refine mB ?_;repeat (refine kt ?_)
     refine mB ?_;repeat (refine kt ?_)
     exact bodyPost_ret (v:=Bl false) kr rfl ⟨rfl,K⟩
    |true=>
     refine wp_cond_false rfl (wp_skip ?_);refine mr (kX ?_);refine Ks.val rfl (I J ((k+1:Nat):Int)) (by
      simp[execOp,go_sem];rw[IntWalk.i64_in _ ⟨oM,oM⟩]) ?_
     simp only[zD];refine kv (I J ((k+1:Nat):Int)) ?_;refine kd ?_;exact fin _ w3 (k+1) oM i (by rw[a6];exact d) K rfl
  ·intro i
   obtain rfl:k=l.length:=by have:=of_decide_eq_false i;omega
   rw[aT lR] at z;obtain rfl:R=true:=by rw[e];exact z
   refine wp_exit (oF ?_);refine km (wp_seq ?_);refine kX (kv (Bl true) ?_);refine kd (wp_ret ?_);repeat (refine kt ?_)
   refine bodyPost_ret (v:=Bl true) kr rfl ?_;exact⟨rfl,B⟩
def pJ(R:List UInt8->List UInt8->List UInt8->Bool)(s:St)(o:List UInt8):Int×St:=if o=[] then(0,s) else if (ki R s o).1=6 then(0,s) else ki R s o
theorem BV{s:St}:(ki R s o).1≠0->(ki R s o).2=s:=by
 unfold ki;split
 ·exact fun _=>rfl
 ·split
  ·exact fun _=>rfl
  ·split
   ·exact fun _=>rfl
   ·exact fun h=>absurd rfl h
theorem W1{g:Nat}{s:St}(h:gg S w g s)(o:List UInt8)(l:Hs.kc w):Calls prog 90 #[X (Z ⟨g,0,Y⟩),sT ⟨o.toArray⟩] w fun e w'=>∃v,e=Re v/\v=I J (pJ ga s o).1/\gg S w' g (pJ ga s o).2/\Fr S w.heap.size w w':=by
 go_enter func90,ntmps90
 refine au ?_;refine Ks.val rfl (Bl (decide (o=[]))) (by
  simp[execOp,go_sem];cases o<;>rfl) ?_
 simp only[zD];refine kd ?_;by_cases b:o=[]
 ·rw[decide_eq_true b]
  refine wp_cond_true rfl (wp_seq ?_);refine kX (kv (I J 0) ?_);refine kd (wp_ret ?_);repeat (refine kt ?_)
  refine bodyPost_ret (v:=I J 0) kr rfl ?_;unfold pJ;rw[if_pos b];exact⟨_,rfl,rfl,h,Fr.refl _ _ _⟩
 ·rw[decide_eq_false b]
  have j:pJ ga s o=if (mw s o).1=6 then(0,s) else mw s o:=if_neg b
  rw[j];refine au ?_;refine Ks.call rfl 71 #[X (Z ⟨g,0,Y⟩),sT ⟨o.toArray⟩] kr (R:=fun v w'=>v=I J (mw s o).1/\gg S w' g (mw s o).2/\Fr S w.heap.size w w') ((F9 h o l).mono fun e w' i=>⟨_,i.1,rfl,i.2⟩) ?_;rintro _ w1 ⟨rfl,d,hF⟩;obtain⟨c,f⟩:=eX ((mw s o).1);rw[<-f];simp only[zD];refine kv (I J c) ?_;refine kd (wp_seq ?_);refine kX (kv (I J c) ?_);refine kv (Bl (!decide (c=6))) ?_;refine kd ?_;by_cases a:c=6
  ·rw[decide_eq_true a,if_pos a]
   have k:(mw s o).2=s:=BV (by show(mw s o).1≠0;rw[<-f,a];decide);rw[k] at d;refine wp_cond_false rfl (wp_skip ?_);refine km (wp_seq ?_);refine kX (kv (I J 0) ?_);refine kd (wp_ret ?_);repeat (refine kt ?_)
   refine bodyPost_ret (v:=I J 0) kr rfl ?_;exact⟨_,rfl,rfl,d,hF⟩
  ·rw[decide_eq_false a,if_neg a]
   refine wp_cond_true rfl (wp_seq ?_);refine kX (kv (I J c) ?_);refine kv (I J c) ?_;refine kd (wp_ret ?_);repeat (refine kt ?_)
   refine bodyPost_ret (v:=I J c) kr rfl ?_;exact⟨_,rfl,by rw[f],d,hF⟩
end Gt
namespace Ks
theorem BA{id:Nat}(h:Q .normal a w):Exit.inBlock id Q .normal a w:=h
end Ks
namespace Gt
open Mp Bk Tk
def sC(g:Nat)(v:Vl)(a b4:Nat)(f:Nat->Vl):Act:={tmps:= #[X (Z ⟨g,0,Y⟩),v,f 2,X (Z ⟨a,0,Y⟩),X (Z ⟨b4,0,Y⟩),f 5,f 6,f 7,f 8,f 9,f 10,f 11,f 12,f 13,f 14,f 15,f 16,f 17,f 18,f 19,f 20,f 21,f 22,f 23,f 24,f 25,f 26,f 27,f 28,f 29,f 30,f 31,f 32,f 33,f 34,f 35,f 36,f 37,f 38,f 39,f 40,f 41,f 42],defers:=[]}
theorem SN{x:It}(i:lU x=true)(h:x.gone=true\/x.br<F):jn F x=⟨x.gate,x.fi,0,0,true⟩:=by
 have g:=(GB i).2.2.2.2;unfold jn;cases f:x.gone
 ·rw[if_pos ⟨rfl,h.resolve_left (by simp[f])⟩]
 ·rw[if_neg sP]
  obtain⟨a,b,c,d,e⟩:=x;simp only at f g;obtain⟨rfl,rfl⟩:=g f;rw[f]
theorem SO{x:It}(_h1:x.gone=false)(h2:¬x.br<F):jn F x=x:=by
 unfold jn;rw[if_neg fun h=>h2 h.2]
theorem XO{g:Nat}{s:St}(h:gg S w g s)(x:It)(hx:lU x=true):Calls prog 91 #[X (Z ⟨g,0,Y⟩),pE x] w fun e w'=>∃v,e=Re v/\v=Tp #[]/\gg (fun k=>S k\/w.heap.size<=k) w' g (mg s x)/\Fr S w.heap.size w w':=by
 unfold pE;go_enter func91,ntmps91
 refine au ?_;refine box rfl _ _ rfl #[I J x.gate,I J x.fi,I J x.br,I J x.ba,Bl x.gone] rfl ?_;intro w1 a a7 n N a6;simp only[zD];refine kd (wp_seq ?_);refine kX (kv (X (Z ⟨a,0,Y⟩)) ?_);refine Ks.cell rfl _ _ rfl underlying3 rfl a 0 (I J x.gate) rfl (fy n.o 0 rfl) ?_;simp only[zD];refine kv (X (Z ⟨a,1,Y⟩)) ?_;refine Ks.cell rfl _ _ rfl underlying3 rfl a 1 (I J x.fi) rfl (fy n.o 1 rfl) ?_;simp only[zD];refine kv (two x.key) ?_;refine decl rfl _ rfl (H #[I J 0,I J 0]) kr rfl _ _ rfl #[I J x.gate,I J x.fi] (fun _=>rfl) (fun _=>rfl) kr rfl kr ?_;intro w2 b4 a8 y t;have P:=ca t n;have T:=tR N t;have b2:=h.below T;clear n N t a6 a7 a8;simp only[zD];refine kd (wp_block ?_);have b6:=(aL P.o);have b7:=(aL y.o);refine Ks.cut (fun b w'=>O w2.heap.size w2 w'/\∃f:Nat->Vl,f 20=Bl (decide (x.key∈s.l.map It.key))/\b=sC g (H #[I J x.gate,I J x.fi,I J x.br,I J x.ba,Bl x.gone]) a b4 f) ?_ ?_
 ·have fin:∀(b:Act)(w':D),O w2.heap.size w2 w'->b.tmps.getD 20 undef=Bl (decide (x.key∈s.l.map It.key))->b=sC g (H #[I J x.gate,I J x.fi,I J x.br,I J x.ba,Bl x.gone]) a b4 (fun j=>b.tmps.getD j undef)->O w2.heap.size w2 w'/\∃f:Nat->Vl,f 20=Bl (decide (x.key∈s.l.map It.key))/\b=sC g (H #[I J x.gate,I J x.fi,I J x.br,I J x.ba,Bl x.gone]) a b4 f:=fun b w' h1 h2 h3=>⟨h1,_,h2,h3⟩
  refine Qt.lW kr kr ?_;refine qv (X (Z ⟨g,0,Y⟩)) ?_;refine qv (X (Z ⟨g,0,Y⟩)) ?_;refine qv (X (Z ⟨g,3,Y⟩)) ?_;refine Qg.row kr _ _ rfl b4 rfl _ _ _ _ y.o underlying154 rfl kr ?_;simp only[zD];refine Qg.call kr 163 #[X (Z ⟨g,3,Y⟩),two x.key] (Bl (decide (x.key∈s.l.map It.key))) (fun _=>kr) (fun w' m=>U8 (b2.below m) x.key) ?_;simp only[zD];refine qv (Bl (decide (x.key∈s.l.map It.key))) ?_;refine wpQuiet_nil ?_;intro w' m;refine km ?_;exact fin _ w' m rfl rfl
 ·rintro b w3 ⟨C,f,b0,rfl⟩
  unfold sC;rw[b0];have A:=tR T C;have U:=h.below A;have p:w3.heap[a]? =Z (Cl #[I J x.gate,I J x.fi,I J x.br,I J x.ba,Bl x.gone] 73 (0,0)):=(C.block _ b6).trans P.o;have Q:w3.heap[b4]? =Z (Cl #[I J x.gate,I J x.fi] 154 (0,0)):=(C.block _ b7).trans y.o;have E:=(aL p);have b8:=(aL Q);by_cases d:x.key∈s.l.map It.key
  ·rw[decide_eq_true d]
   have M:mg s x=s:=if_pos d;rw[M];refine au ?_;refine Ks.BA ?_;refine bodyPost_end (v:=Tp #[]) kr rfl ?_;exact⟨_,rfl,rfl,U.mono fun _ h=>oL h,Fr.kq A lR⟩
  ·rw[decide_eq_false d]
   have M:mg s x={s with l:=ins (jn s.floor x) s.l}:=if_neg d;rw[M];refine wp_cond_false rfl ?_;refine Ks.cut (fun b w'=>O w3.heap.size w3 w'/\∃f:Nat->Vl,f 26=Bl (x.gone||decide (x.br<s.floor))/\b=sC g (H #[I J x.gate,I J x.fi,I J x.br,I J x.ba,Bl x.gone]) a b4 f) ?_ ?_
   ·have fin:∀(b:Act)(w':D),O w3.heap.size w3 w'->b.tmps.getD 26 undef=Bl (x.gone||decide (x.br<s.floor))->b=sC g (H #[I J x.gate,I J x.fi,I J x.br,I J x.ba,Bl x.gone]) a b4 (fun j=>b.tmps.getD j undef)->O w3.heap.size w3 w'/\∃f:Nat->Vl,f 26=Bl (x.gone||decide (x.br<s.floor))/\b=sC g (H #[I J x.gate,I J x.fi,I J x.br,I J x.ba,Bl x.gone]) a b4 f:=fun b w' h1 h2 h3=>⟨h1,_,h2,h3⟩
    refine Qt.lW kr kr ?_;refine qv (X (Z ⟨a,4,Y⟩)) ?_;refine Qg.cell kr _ _ rfl underlying4 rfl a 4 (Bl x.gone) rfl E (fy p 4 rfl) ?_;simp only[zD];refine qv (Bl x.gone) ?_;cases W:x.gone with
    |true=>
     rw[W] at fin;(with_reducible refine qn ?_;refine qn ?_;refine qn ?_;refine qn ?_;refine qn ?_;refine qn ?_;refine qn ?_);refine qv (Bl true) ?_;refine qv (Bl true) ?_;refine wpQuiet_nil ?_;intro w' m;refine km ?_;exact fin _ w' m rfl rfl
    |false=>
     rw[W] at fin;refine qv (X (Z ⟨a,2,Y⟩)) ?_;refine Qg.cell kr _ _ rfl underlying3 rfl a 2 (I J x.br) rfl E (fy p 2 rfl) ?_;simp only[zD];refine qv (X (Z ⟨g,0,Y⟩)) ?_;refine qv (X (Z ⟨g,0,Y⟩)) ?_;refine qv (X (Z ⟨g,3,Y⟩)) ?_;refine Qg.call kr 75 #[X (Z ⟨g,3,Y⟩)] (I J s.floor) (fun _=>kr) (fun w' m=>uJ (U.below m)) ?_;simp only[zD];refine qv (Bl (decide (x.br<s.floor))) ?_;refine qv (Bl (decide (x.br<s.floor))) ?_;refine qv (Bl (decide (x.br<s.floor))) ?_;refine wpQuiet_nil ?_;intro w' m;refine km ?_;exact fin _ w' m rfl rfl
   ·rintro b w4 ⟨G,f',b1,rfl⟩
    unfold sC;rw[b1];have q:=tR A G;have u:w4.heap[a]? =Z (Cl #[I J x.gate,I J x.fi,I J x.br,I J x.ba,Bl x.gone] 73 (0,0)):=(G.block _ E).trans p;have z:w4.heap[b4]? =Z (Cl #[I J x.gate,I J x.fi] 154 (0,0)):=(G.block _ b8).trans Q;have V:=(aL u);have c4:=(aL z);cases ho:(x.gone||decide (x.br<s.floor)) with
    |true=>
     have hf:=SN (F:=s.floor) hx (by simpa using ho);have c0:(⟨x.gate,x.fi,0,0,true⟩:It).key=x.key:=rfl;rw[hf];refine wp_cond_true rfl (Qg.im 4 kr kr ?_);simp only[ak,aE,ax,aK];refine qv (X (Z ⟨g,0,Y⟩)) ?_;refine qv (X (Z ⟨g,0,Y⟩)) ?_;refine qv (X (Z ⟨g,3,Y⟩)) ?_;refine Qg.row kr _ _ rfl b4 rfl _ _ _ _ z underlying154 rfl kr ?_;simp only[zD];refine wpQuiet_nil ?_;intro w5 K;have i:O w.heap.size w w5:=q.trans (Below.mono K q.size);have r:=h.below i;refine Ks.call rfl 151 #[X (Z ⟨g,3,Y⟩),two x.key] kr (Fv r x.key) ?_;rintro _ w6 ⟨rfl,⟨bh,bd,bu,lh,ld,lu,Ho,c⟩,hF⟩;simp only[zD];refine Ks.fin (Ks.BA ?_);refine bodyPost_end (v:=Tp #[]) kr rfl ?_;have B:gg (fun k=>S k\/w5.heap.size<=k) w6 g {s with l:=ins ⟨x.gate,x.fi,0,0,true⟩ s.l}:=by
      have hN:=Ho.note (x:=⟨x.gate,x.fi,0,0,true⟩) rfl (by rw[c0];exact d);exact⟨oL r.1,_,_,_,c.gate,oR ⟨bh,bd,bu,_,_,_,rfl,rfl,rfl,c.sh,c.sd,c.su,c.hd,c.du,c.hu,c.ih,c.id,c.iu,hN⟩⟩
     exact⟨_,rfl,rfl,B.mono fun k d=>d.imp id fun h=>ag i.size h,(Fr.kq i lR).trans (hF.mono i.size fun _ _ h=>h)⟩
    |false=>
     have L:x.gone=false/\¬x.br<s.floor:=by simpa using ho
     rw[SO L.1 L.2];refine wp_cond_false rfl (Qg.im 9 kr kr ?_);simp only[ak,aE,ax,aK];refine qv (X (Z ⟨g,0,Y⟩)) ?_;refine qv (X (Z ⟨g,0,Y⟩)) ?_;refine qv (X (Z ⟨g,3,Y⟩)) ?_;refine Qg.row kr _ _ rfl b4 rfl _ _ _ _ z underlying154 rfl kr ?_;simp only[zD];refine qv (X (Z ⟨a,2,Y⟩)) ?_;refine Qg.cell kr _ _ rfl underlying3 rfl a 2 (I J x.br) rfl V (fy u 2 rfl) ?_;simp only[zD];refine qv (X (Z ⟨a,3,Y⟩)) ?_;refine Qg.cell kr _ _ rfl underlying3 rfl a 3 (I J x.ba) rfl V (fy u 3 rfl) ?_;simp only[zD];refine qv (two x.pass) ?_;refine wpQuiet_nil ?_;intro w5 K;have i:O w.heap.size w w5:=q.trans (Below.mono K q.size);have r:=h.below i;refine Ks.call rfl 79 #[X (Z ⟨g,3,Y⟩),two x.key,two x.pass] kr (R:=fun v w'=>v=Tp #[]/\gg (fun k=>S k\/w5.heap.size<=k) w' g {s with l:=ins x s.l}/\Fr S w5.heap.size w5 w') ((Ei r x d L.1).mono fun e w' hy=>⟨_,hy.1,rfl,hy.2⟩) ?_;rintro _ w6 ⟨rfl,B,hF⟩;simp only[zD];refine Ks.fin (Ks.BA ?_);refine bodyPost_end (v:=Tp #[]) kr rfl ?_;exact⟨_,rfl,rfl,B.mono fun k d=>d.imp id fun h=>ag i.size h,(Fr.kq i lR).trans (hF.mono i.size fun _ _ h=>h)⟩
theorem SA(R:List UInt8->List UInt8->List UInt8->Bool)(s:St)(o:List UInt8):(ki R s o).1=4\/(ki R s o).1=5\/(ki R s o).1=6\/(ki R s o).1=0:=by
 unfold ki;split
 ·exact oL rfl
 ·split
  ·exact oR (oL rfl)
  ·split
   ·exact oR (oR (oL rfl))
   ·exact oR (oR (oR rfl))
theorem Ri(R:List UInt8->List UInt8->List UInt8->Bool)(s:St)(o:List UInt8)(l:List It)(b:oh s l=true):lf R s o l=if (pJ R s o).1=0 then(0,l.foldl mg (pJ R s o).2) else((pJ R s o).1,s):=by
 unfold lf;rw[if_neg (by rw[b];simp)];by_cases a:o=[]
 ·have e:pJ R s o=(0,s):=if_pos a
  rw[if_pos a,e,if_pos rfl]
 ·rw[if_neg a]
  have e:pJ R s o=if (ki R s o).1=6 then(0,s) else ki R s o:=if_neg a
  rcases SA R s o with h|h|h|h
  ·rw[if_pos (oL h),e,if_neg (by rw[h];decide:¬(ki R s o).1=6),if_neg (by rw[h];decide)]
  ·rw[if_pos (oR h),e,if_neg (by rw[h];decide:¬(ki R s o).1=6),if_neg (by rw[h];decide)]
  ·rw[if_neg (by rw[h];decide),e,if_pos h,if_pos rfl,BV (by rw[h];decide)]
  ·rw[if_neg (by rw[h];decide),e,if_neg (by rw[h];decide:¬(ki R s o).1=6),if_pos h]
theorem Rh{s:St}(h:(pJ R s o).1≠0):(pJ R s o).2=s:=by
 revert h
 unfold pJ;by_cases a:o=[]
 ·rw[if_pos a];exact fun _=>rfl
 ·rw[if_neg a]
  split
  ·exact fun _=>rfl
  ·exact BV
def zB(g:Nat)(b:Vl)(a:Nat)(p:Option Addr)(n cap k:Nat)(f:Nat->Vl):Act:={tmps:= #[X (Z ⟨g,0,Y⟩),b,f 2,X (Z ⟨a,0,Y⟩),I J 0,f 5,f 6,f 7,f 8,f 9,f 10,f 11,f 12,f 13,f 14,f 15,f 16,f 17,f 18,f 19,f 20,.slice p n cap,I J (n:Int),I J (k:Int),f 24,f 25,f 26,f 27,f 28,f 29,f 30],defers:=[]}
theorem Nk{g:Nat}{s:St}(h:gg S w g s)(o:List UInt8)(v:Vl)(l:List It)(N:Row T w 73 5 v l.length (gi l))(hT:∀k,T k->¬S k)(hl:l.length<=1000000000)(ht:Hs.kc w):
  Calls prog 37 #[X (Z ⟨g,0,Y⟩),H #[str o,v]] w fun e w'=>∃u,e=Re u/\u=I J (lf ga s o l).1/\gg (fun k=>S k\/w.heap.size<=k) w' g (lf ga s o l).2/\Fr S w.heap.size w w':=by
 obtain⟨p,cap,rfl,mT⟩:=Row.form N;go_enter func37,ntmps37
 refine au ?_;refine box rfl _ _ rfl #[str o,.slice p l.length cap] rfl ?_;intro w1 b Q P A a6;simp only[zD];refine au ?_;refine pure kr 89 #[X (Z ⟨g,0,Y⟩),.slice p l.length cap] kr (Mm (h.below A.o) _ l (N.below A.o lR) hl) ?_;intro w2 L;have E:=ca L P;have n:=tR A L;have c8:w.heap.size<=b:=bO Q.o.symm;clear P A a6 L Q;simp only[zD];refine au ?_;cases M:oh s l with
 |false=>
  have hh:lf ga s o l=(4,s):=if_pos M;rw[hh];refine wp_cond_true rfl (wp_seq ?_);refine kX (kv (I J 4) ?_);refine kd (wp_ret ?_);repeat (refine kt ?_)
  refine bodyPost_ret (v:=I J 4) kr rfl ?_;exact⟨_,rfl,rfl,(h.below n).mono fun _ h=>oL h,Fr.kq n lR⟩
 |true=>
  rw[Ri _ s o l M];have c0:=yQ M;refine au ?_;have U:gg (fun k=>S k/\k<w.heap.size) w2 g s:=(h.cut lR).congr (fun _ h=>h) fun k z _=>n.block k z.2;refine Ks.call rfl 90 #[X (Z ⟨g,0,Y⟩),sT ⟨o.toArray⟩] kr (W1 U o (ht.below n ht.lt)) ?_;rintro _ w3 ⟨rfl,y,F⟩;have G:Fr S w.heap.size w w3:=(Fr.kq n lR).trans (F.mono n.size fun _ _ h=>h.1);have a7:w3.heap[b]? =Z (Cl #[str o,.slice p l.length cap] 66 (0,0)):=(F.block b (aL E.o) fun h=>by have:=h.2;omega).trans E.o;have W:=Rh (R:=ga) (s:=s) (o:=o);generalize pJ ga s o=q at*;obtain⟨c,s1⟩:=q;simp only at W y⊢;simp only[zD];refine kv (I J c) ?_;refine kd (wp_seq ?_);refine kX (kv (I J c) ?_);refine kv (Bl (!decide (c=0))) ?_;refine kd ?_;by_cases r:c=0
  ·rw[decide_eq_true r,if_pos r]
   subst r;refine au ?_;refine Ks.loop (fun m a wr=>∃(k:Nat)(f:Nat->Vl),k<=l.length/\m=l.length-k/\gg (fun k=>S k\/w.heap.size<=k) wr g ((l.take k).foldl mg s1)/\Fr S w.heap.size w wr/\a=zB g (H #[str o,.slice p l.length cap]) b p l.length cap k f) l.length ⟨0,fun j=>dS #[undef,undef,undef,undef,undef,I J 0,undef,undef,X (Z ⟨g,0,Y⟩),X (Z ⟨b,1,Y⟩),.slice p l.length cap,Bl true,Bl (!true),X (Z ⟨g,0,Y⟩),X (Z ⟨b,0,Y⟩),str o,I J 0,I J 0,Bl (!true),undef,X (Z ⟨b,1,Y⟩)] j undef,aF _,rfl,y.mono fun _ h=>oL h.1,G,rfl⟩ ?_;clear y F G a7 E U;rintro m a wr ⟨k,f,z,rfl,K,hF,rfl⟩;have fin:∀(B:Act)(w':D)(i:Nat),k<i->i<=l.length->gg (fun k=>S k\/w.heap.size<=k) w' g ((l.take i).foldl mg s1)->Fr S w.heap.size w w'->B=zB g (H #[str o,.slice p l.length cap]) b p l.length cap i (fun j=>B.tmps.getD j undef)->∃m,m<l.length-k/\∃(k:Nat)(f:Nat->Vl),k<=l.length/\m=l.length-k/\gg (fun k=>S k\/w.heap.size<=k) w' g ((l.take k).foldl mg s1)/\Fr S w.heap.size w w'/\B=zB g (H #[str o,.slice p l.length cap]) b p l.length cap k f:=fun B w' i q1 q2 q3 q4 q5=>⟨l.length-i,oM,i,_,q2,rfl,q3,q4,q5⟩;unfold zB;refine au ?_;refine wp_cond_split rfl ?_ ?_
   ·intro d
    have d:k<l.length:=by have:=of_decide_eq_true d;omega
    obtain⟨t,a8,rfl,V,c6⟩:=mT k d;have b8:=(aL V);obtain⟨x,hx⟩:∃x,l[k]=x:=⟨_,rfl⟩;have O:l[k]? =Z x:=by rw[ae d,hx]
    have b6:wr.heap[t]? =Z (Cl a8 73 (0,0)):=(hF.block t b8 (hT t (N.2 t rfl))).trans V;have c9:wr.rangeAt t (k*5) (fF x):=Row.range yZ b6 c6 O;refine au ?_;refine decl rfl _ rfl (H #[I J 0,I J 0,I J 0,I J 0,Bl false]) kr rfl _ _ rfl (fF x).toArray (fun _=>rfl) (fun _=>rfl) kr rfl kr ?_;intro wa b7 c7 HX C;simp only[zD];refine au ?_;refine Ks.call rfl 91 #[X (Z ⟨g,0,Y⟩),pE x] kr (XO (K.below C.o) x (c0 x (aJ O)).1) ?_;rintro _ wb ⟨rfl,b2,b0⟩;have c4:w.heap.size<=wa.heap.size:=ag hF.size C.o.size;have b1:Fr S w.heap.size w wb:=(hF.calls C.o hF.size).trans (b0.mono c4 fun k z h=>h.elim id fun h=>absurd h oM);simp only[zD];refine Ks.fin (mr (kX ?_));refine Ks.val rfl (I J ((k+1:Nat):Int)) (by
     simp[execOp,go_sem];rw[IntWalk.i64_in _ ⟨oM,oM⟩]) ?_
    simp only[zD];refine kv (I J ((k+1:Nat):Int)) ?_;refine kd ?_;refine fin _ wb (k+1) oM d ?_ b1 rfl;rw[nd O,List.foldl_append];exact b2.mono fun k z=>z.elim id fun h=>oR oM
   ·intro d
    obtain rfl:k=l.length:=by have:=of_decide_eq_false d;omega
    rw[aT lR] at K;refine wp_exit (oF ?_);refine km (wp_seq ?_);refine kX (kv (I J 0) ?_);refine kd (wp_ret ?_);repeat (refine kt ?_)
    refine bodyPost_ret (v:=I J 0) kr rfl ?_;exact⟨_,rfl,rfl,K,hF⟩
  ·rw[decide_eq_false r,if_neg r]
   have hs:=W r;rw[hs] at y;refine wp_cond_true rfl (wp_seq ?_);refine kX (kv (I J c) ?_);refine kv (I J c) ?_;refine kd (wp_ret ?_);repeat (refine kt ?_)
   refine bodyPost_ret (v:=I J c) kr rfl ?_;exact⟨_,rfl,rfl,y.mono fun _ h=>oL h.1,G⟩
end Gt
namespace Ks
theorem Vn{c:Code}(h:c.wp P (Exit.then (fun _ _=>False) Q) a w):(Code.loop c).wp P Q a w:=
 loop (fun _ b w'=>b=a/\w'=w) 0 ⟨rfl,rfl⟩ (by
  rintro n b w' ⟨rfl,rfl⟩;refine wp_mono h ?_;intro e a w d;cases e with
  |normal=>exact d.elim
  |_=>exact d)
theorem Vf{ops:Array Oper}{rest:List Oper}{o:Oper}{w:D}{Q:Exit->Act->D->Prop}(p:o.guard=Y)(l c:Operand)(t:TypeId)(s:o.op=Op.makeSlice t l c)(e:TypeId)(z:Vl)(sz d:Nat)(h1:P.underlying t=Z (.slice e))(h2:(P.info? e).map (fun i=>(i.zero,i.size,i.bytes))=Z (Z z,sz,d))(n:Nat)(r:a.eval l=I J 0)(m:a.eval c=I J (n:Int))(f:d*n<=281474976710656)(g:n<=maxLen)
  (h:∀w' b,Hq (w.heap.size<=b)->Row (fun k=>w.heap.size<=k) w' e sz (.slice (Z ⟨b,0,Y⟩) 0 n) 0 []->Hq (O w.heap.size w w')->wpList P ops Q rest (a.put o.dst (.slice (Z ⟨b,0,Y⟩) 0 n)) w'):wpList P ops Q (o::rest) a w:=by
 refine wpList_plain p fun K j=> ?_;obtain⟨i,hi,x,y,A⟩:=info_parts h2;obtain⟨w',v,u,q⟩:=run_make_own (P:=P) w w.heap.size t e i z sz h1 hi x y .i64 .i64 n (by rw[A];exact f) g lR;unfold Oper.wp;simp[execOp,s,r,m,v,Result.andThen];exact j _ _ (h w' _ lR (Row.RV u fun _ h=>h) ((Below.refl _ _).grown q lR fun _ e=>by cases e))
end Ks
namespace Gt
open Mp Bk Tk
theorem Gg:(prog.info? 245).map (fun i=>(i.zero,i.size,i.bytes))=Z (Z (H #[I J 0,I J 0,I J 0,I J 0]),4,32):=kr
theorem C8{e:TypeId}{sz:Nat}{v:Vl}{n:Nat}{xs:List Vl}(h:Row S w e sz v n xs){r:Nat}{b:Obj}(f:w.heap[r]? =Z b)(d:b.isCells=false):v.ownBlock≠Z r:=fun c=>by
 obtain⟨g,a⟩:=Row.kl h c;rw[f] at a;cases a;cases d
theorem SD{ld out:List En}{left:Int×Int->Bool}(g:nP ld left (out.map aj))(m:∀q∈out,q∈ld)(k:(ld.map aj).Nodup)(r:∀p∈ld,left p.1=false):out.Perm ld:=by
 have h1:out.Nodup:=eV aj (fun a b h e=>h (by rw[e])) g.nodup;have h2:ld.Nodup:=eV aj (fun a b h e=>h (by rw[e])) k;refine(List.perm_ext_iff_of_nodup h1 h2).2 fun q=>⟨m q,fun c=> ?_⟩;have o:q.1∈out.map aj:=(g.left q.1 (aU.2 ⟨q,c,rfl⟩)).1 (r q c);obtain⟨q',l,e⟩:=aU.1 o;have:q'=q:=by
  obtain⟨i,hi,d⟩:=eQ (m q' l);obtain⟨j,n,f⟩:=eQ c;have:=sR k (ae hi) (ae n) (by rw[d,f,e]);subst this;rw[<-d,<-f]
 rw[<-this];exact l
def sV(g:Nat)(lv:Vl)(vd:Vl)(r:Nat)(f:Nat->Vl):Act:={tmps:= #[X (Z ⟨g,3,Y⟩),f 1,.slice none 0 0,lv,f 4,f 5,f 6,f 7,f 8,f 9,f 10,f 11,f 12,f 13,f 14,vd,X (Z ⟨r,0,Y⟩),f 17,f 18,f 19,f 20,f 21,f 22,f 23,f 24,f 25,f 26,f 27,f 28,f 29,f 30],defers:=[]}
theorem SH{g:Nat}{s:St}(h:gg S w g s)(hI:Inv s):Calls prog 80 #[X (Z ⟨g,3,Y⟩)] w fun e w'=>∃v,e=Re v/\(∃es:List En,es.Perm ((held s.l).map pair)/\es.Pairwise LtE/\Row (fun k=>w.heap.size<=k) w' 245 4 v es.length (es.flatMap eC))/\O w.heap.size w w':=by
 obtain⟨_,vh,vd,vu,hg,hm⟩:=h;have o7:=(aL hg);have HC:Hq (w.cell? ⟨g,5,Y⟩=Z vd):=fy hg 5 rfl;obtain⟨lh,ld,lu,V1,V2,V3,N⟩:=hm.ask;have o5:=hI.kB;have r7:ld.length<=16000:=by
  rw[N.Iu];exact ag (List.length_filter_le _ _) o5
 have e6:(ld.map aj).Nodup:=by
  have h1:((held s.l).map It.key).Nodup:=List.Nodup.sublist (List.Sublist.map _ List.filter_sublist) hI.g'.keys;have h2:(ld.map aj).Perm ((held s.l).map It.key):=by
   have:=N.held.map aj;rwa [List.map_map] at this
  exact h2.nodup_iff.2 h1
 have p1:=N.held;clear N V1 V3 hm hg;go_enter func80,ntmps80
 refine wp_seq (kX (kv (.slice none 0 0) ?_));refine kd (wp_seq ?_);refine kX (kv (X (Z ⟨g,3,Y⟩)) ?_);refine kv (X (Z ⟨g,3,Y⟩)) ?_;refine kv (X (Z ⟨g,5,Y⟩)) ?_;refine Ks.cell rfl _ _ rfl oH rfl g 5 vd rfl HC.o ?_;simp only[zD];refine Cu _ rfl _ _ rfl oH rfl V2 ?_;simp only[zD];refine Ks.Vf rfl _ _ _ rfl 245 (H #[I J 0,I J 0,I J 0,I J 0]) 4 32 underlying155 Gg ld.length rfl rfl oM (by unfold maxLen;omega) ?_;intro w1 b Hb b6 t;simp only[zD];refine kv (.slice (Z ⟨b,0,Y⟩) 0 ld.length) ?_;refine kd ?_;refine Ks.cut (fun d w'=>∃(lv:Vl)(out:List En)(f:Nat->Vl)(r:Nat),out.Perm ld/\Row (fun k=>w.heap.size<=k) w' 245 4 lv out.length (out.flatMap eC)/\O w.heap.size w w'/\d=sV g lv vd r f) ?_ ?_
 ·refine wp_seq (kX (kv (X (Z ⟨g,3,Y⟩)) ?_));refine kv (X (Z ⟨g,3,Y⟩)) ?_;refine kv (X (Z ⟨g,5,Y⟩)) ?_;refine Ks.cell rfl _ _ rfl oH rfl g 5 vd rfl (by rw[t.o.cell (by exact o7)];exact HC.o) ?_;simp only[zD];rcases V2 with⟨rfl,rfl⟩|⟨bd,rfl,b2⟩
  ·refine Ks.I6 rfl _ _ rfl oH rfl ?_
   intro w2 r Hr l1 c4;simp only[zD];refine au ?_;refine Ks.Vn ?_;refine au ?_;refine Ks.JI rfl _ rfl r rfl l1.o ?_;simp only[zD];refine au ?_;exact⟨_,[],fun j=>dS #[undef,undef,undef,undef,undef,undef,X (Z ⟨g,3,Y⟩),X (Z ⟨g,3,Y⟩),X (Z ⟨g,5,Y⟩),.map Y,I J 0,.slice (Z ⟨b,0,Y⟩) 0 0,X (Z ⟨g,3,Y⟩),X (Z ⟨g,3,Y⟩),X (Z ⟨g,5,Y⟩),undef,undef,Tp #[Bl false],Bl false] j undef,r,List.Perm.refl _,b6.below c4.o lR,t.o.trans (c4.o.mono t.o.size),rfl⟩
  ·refine Mp.Kd _ rfl _ _ rfl oH rfl (b2.congr (t.o.block bd b2.lt)) ?_
   intro w2 G ⟨i,h6⟩;have a8:O w1.heap.size w1 w2:=by rw[h6];exact(Below.refl _ _).alloc lR _
   have n0:bd≠w1.heap.size:=Nat.ne_of_lt (Nat.lt_of_lt_of_le b2.lt t.o.size);have h5:w.heap.size<=w1.heap.size:=t.o.size;have e9:Row (fun k=>w.heap.size<=k) w2 245 4 (.slice (Z ⟨b,0,Y⟩) 0 ld.length) 0 []:=b6.below a8 lR;generalize w1.heap.size=r at*;have l6:O w.heap.size w w2:=t.o.trans (a8.mono h5);simp only[zD];refine au ?_;refine Ks.loop (fun m a wr=>∃(lv:Vl)(out:List En)(left:Int×Int->Bool)(f:Nat->Vl),iz wr bd r two two ld left/\nP ld left (out.map aj)/\(∀q∈out,q∈ld)/\Row (fun k=>w.heap.size<=k) wr 245 4 lv out.length (out.flatMap eC)/\O w.heap.size w wr/\m=ld.length-out.length/\a=sV g lv (.map (Z bd)) r f) ld.length ?_ ?_
   ·exact⟨_,[],_,fun j=>dS #[undef,undef,undef,undef,undef,undef,X (Z ⟨g,3,Y⟩),X (Z ⟨g,3,Y⟩),X (Z ⟨g,5,Y⟩),.map (Z bd),I J (ld.length:Int),.slice (Z ⟨b,0,Y⟩) 0 ld.length,X (Z ⟨g,3,Y⟩),X (Z ⟨g,3,Y⟩),X (Z ⟨g,5,Y⟩)] j undef,G,nP.start ld,fun q A=>(by cases A),e9,l6,rfl,rfl⟩
   clear G a8 h6 b6 e9 t;rintro m a wr ⟨lv,out,left,f,G,hC,hs,B,z,rfl,rfl⟩;have fin:∀(d:Act)(w':D)(lv:Vl)(C:List En)(U:Int×Int->Bool),ld.length-C.length<ld.length-out.length->iz w' bd r two two ld U->nP ld U (C.map aj)->(∀q∈C,q∈ld)->Row (fun k=>w.heap.size<=k) w' 245 4 lv C.length (C.flatMap eC)->O w.heap.size w w'->d=sV g lv (.map (Z bd)) r (fun j=>d.tmps.getD j undef)->∃m,m<ld.length-out.length/\∃(lv:Vl)(out:List En)(left:Int×Int->Bool)(f:Nat->Vl),iz w' bd r two two ld left/\nP ld left (out.map aj)/\(∀q∈out,q∈ld)/\Row (fun k=>w.heap.size<=k) w' 245 4 lv out.length (out.flatMap eC)/\O w.heap.size w w'/\m=ld.length-out.length/\d=sV g lv (.map (Z bd)) r f:=fun d w' lv C U q1 q2 q3 q4 q5 q6 q7=>⟨_,q1,lv,C,U,_,q2,q3,q4,q5,q6,rfl,q7⟩;have l3:∀(d:Act),(∀p∈ld,left p.1=false)->d=sV g lv (.map (Z bd)) r (fun j=>d.tmps.getD j undef)->∃(lv:Vl)(out:List En)(f:Nat->Vl)(r:Nat),out.Perm ld/\Row (fun k=>w.heap.size<=k) wr 245 4 lv out.length (out.flatMap eC)/\O w.heap.size w wr/\d=sV g lv (.map (Z bd)) r f:=fun d h1 h2=>⟨lv,out,_,r,SD hC hs e6 h1,B,z,h2⟩;unfold sV;refine au ?_;refine Mp.Ko _ rfl _ rfl xj n0 rfl G ?_ ?_
   ·intro p0
    simp only[zD];refine au ?_;exact l3 _ p0 rfl
   ·intro c v w3 b0 e4 b3 e3 r9 o0
    have o8:∃i,wr.heap[r]? =Z i/\i.isCells=false:=by
     obtain⟨es,clock,h7,seen,c0,_,F,_⟩:=G;exact⟨_,F,rfl⟩
    obtain⟨i,p5,p6⟩:=o8;have p9:Row (fun k=>w.heap.size<=k) w3 245 4 lv out.length (out.flatMap eC):=B.congr fun k E=>e3.block k (B.lt k E) fun e=>C8 B p5 p6 (by rw[E,<-e]);have l7:O w.heap.size w w3:=z.grown e3 z.size fun k e=>by cases e;exact h5
    have e5:=hC.len b0 e4;have l9:=hC.step b0 e4;simp only[zD];refine au ?_;refine Ks.entry rfl _ rfl r (Tp #[two c,two v]) rfl o0 ?_;simp only[zD];refine au ?_;refine Ks.alloc rfl _ rfl (H #[I J 0,I J 0]) kr #[I J 0,I J 0] rfl ?_;intro w4 b4 j9 c7 V j1;simp only[zD];refine Ks.alloc rfl _ rfl (H #[I J 0,I J 0]) kr #[I J 0,I J 0] rfl ?_;intro w5 b5 l0 a6 W j2;have M:=cP W c7;have e1:=tR V W;have c9:b4≠b5:=fun e=>by rw[e,a6.o] at M;cases M
    have l4:w3.heap.size<=b4:=bO j9.o.symm;have l5:w3.heap.size<=b5:=by rw[l0.o];exact V.o.size
    simp only[zD];refine Ks.whole rfl _ _ _ rfl b4 #[I J c.1,I J c.2] rfl rfl M kr rfl kr ?_;intro w6 c6 H2 H3 H4;have c8:w6.heap[b5]? =Z (Cl #[I J 0,I J 0] 150 (0,0)):=(H3.o b5 (fun e=>c9 e.symm)).trans a6.o;have e2:O w3.heap.size w3 w6:=e1.trans ((H2.o (fun _=>False) w3.heap.size (oR l4)).below lR fun _ _ h=>h);simp only[Act.put];refine Ks.whole rfl _ _ _ rfl b5 #[I J v.1,I J v.2] rfl rfl c8 kr rfl kr ?_;intro w7 j0 b7 b8 h9;have j5:w7.heap[b4]? =Z (Cl #[I J c.1,I J c.2] 154 (0,0)):=(b8.o b4 c9).trans c6.o;have P:O w3.heap.size w3 w7:=e2.trans ((b7.o (fun _=>False) w3.heap.size (oR l5)).below lR fun _ _ h=>h);have K:iz w7 bd r two two ld (fun x=>left x&&decide (x≠c)):=b3.congr (P.block bd b3.is.lt) (P.block r (iz.lt b3));have R:=p9.below P lR;have a7:=tR l7 P;clear H2 H3 H4 b7 b8 h9 c6 c8 e2 e1 M c7 a6 V W j1 j2;simp only[Act.put];refine au ?_;refine Ks.row rfl _ _ rfl b4 rfl j5 underlying154 rfl kr ?_;simp only[zD];refine Ks.row rfl _ _ rfl b5 rfl j0.o underlying150 rfl kr ?_;simp only[zD];refine kv (H (eC (c,v)).toArray) ?_;refine Ks.push rfl rfl 155 245 _ _ _ rfl rfl (H (eC (c,v)).toArray) (H #[I J 0,I J 0,I J 0,I J 0]) rfl (eC (c,v)).toArray 4 32 underlying155 Gg dc dc kr rfl dc _ _ out.length (out.flatMap eC) (fun _=>rfl) (fun _=>rfl) R rfl (by simp[eC,Value.oneCell']) (by rw[aS] at e5;omega) ?_;intro u q9 w8 p7 b1;have o9:∃i,w7.heap[r]? =Z i/\i.isCells=false:=by
     obtain⟨es,clock,h7,seen,c0,_,F,_⟩:=K;exact⟨_,F,rfl⟩
    have p2:∃i,w7.heap[bd]? =Z i/\i.isCells=false:=by
     obtain⟨es,clock,h7,seen,c0,F,_⟩:=K;exact⟨_,F,rfl⟩
    obtain⟨o1,p3,n5⟩:=o9;obtain⟨o2,p4,n9⟩:=p2;have p8:iz w8 bd r two two ld (fun x=>left x&&decide (x≠c)):=K.congr (b1.block bd K.is.lt (C8 R p4 n9)) (b1.block r (iz.lt K) (C8 R p3 n5));have l8:O w.heap.size w w8:=a7.trans (b1.below a7.size fun k E e=>by have:=R.2 k e;omega);simp only[zD];refine au ?_;refine fin _ w8 q9 (out++[(c,v)]) _ ?_ p8 ?_ ?_ ?_ l8 rfl
    ·rw[aS] at e5
     simp;omega
    ·rw[List.map_append]
     exact l9
    ·intro q A
     rcases List.mem_append.1 A with A|A
     ·exact hs q A
     ·obtain rfl:q=(c,v):=List.mem_singleton.1 A
      exact b0
    ·rw[List.length_append,List.flatMap_append]
     have:=p7.mono (T:=fun k=>w.heap.size<=k) fun k E=>E.elim id fun h=>ag a7.size h;simpa using this
 ·rintro d w3 ⟨lv,out,f,r,hp,B,z,rfl⟩
  unfold sV;have r8:out.length=ld.length:=hp.length_eq;refine au ?_;have h8:∀(es:List En),es.Perm out->(es.Pairwise fun x y=>¬LtE y x)->es.Perm ((held s.l).map pair)/\es.Pairwise LtE:=by
   intro es h1 h2;have o4:es.Nodup:=by
    have h3:ld.Nodup:=eV aj (fun a b h e=>h (by rw[e])) e6;exact(h1.trans hp).nodup_iff.2 h3
   refine⟨(h1.trans hp).trans p1,?_⟩;have:=jP h2 o4;refine this.imp fun{a b} h=> ?_;rcases LtE.total h.1 with e|h3
   ·exact absurd e.symm h.2
   ·exact h3
  rcases B.1.2 with⟨rfl,h0⟩|⟨n,cap,r5,rfl,r6,o6,h1,h2,h3,h4⟩
  ·obtain rfl:out=[]:=List.length_eq_zero_iff.1 h0
   have hn:Calls prog 152 #[.slice none 0 0,.func (.func 153) #[] #[]] w3 fun e w'=>∃v,e=Re v/\v=Tp #[]/\w'=w3:=by
    have:=AnyF.slices_SortFunc_none GO none 0 (.func (.func 153) #[] #[]) w3;exact Calls.mono this fun e w' h=>⟨_,h.1,rfl,h.2⟩
   refine Ks.call rfl 152 #[.slice none 0 0,.func (.func 153) #[] #[]] kr hn ?_;rintro _ _ ⟨rfl,rfl⟩;simp only[zD];refine kd (wp_seq ?_);refine kX (kv (.slice none 0 0) ?_);refine kv (.slice none 0 0) ?_;refine kd (wp_ret ?_);repeat (refine kt ?_)
   refine bodyPost_ret (v:=.slice none 0 0) kr rfl ?_;have L:=h8 [] (List.Perm.refl _) cX;exact⟨_,rfl,⟨[],L.1,L.2,Row.nil _ _ _ _⟩,z⟩
  ·have s0:w.heap.size<=n:=B.2 n rfl
   refine Ks.call rfl 152 #[.slice (Z ⟨n,0,Y⟩) out.length cap,.func (.func 153) #[] #[]] kr (TN out w3 n cap o6 h4 (by rw[h3];omega) oM) ?_;rintro _ w4 ⟨rfl,⟨es,e7,q8,l2,c1,c2,c3⟩,hf⟩;have L:=h8 es e7 q8;have Q:es.length=out.length:=e7.length_eq;simp only[zD];refine kd (wp_seq ?_);refine kX (kv (.slice (Z ⟨n,0,Y⟩) out.length cap) ?_);refine kv (.slice (Z ⟨n,0,Y⟩) out.length cap) ?_;refine kd (wp_ret ?_);repeat (refine kt ?_)
   refine bodyPost_ret (v:=.slice (Z ⟨n,0,Y⟩) out.length cap) kr rfl ?_;refine⟨_,rfl,⟨es,L.1,L.2,⟨?_,?_⟩,fun b hb=> ?_⟩,z.trans (hf.below z.size fun k E e=>oM)⟩
   ·rw[<-c3,List.length_take,Q]
    simp only[Array.length_toList];omega
   ·exact oR ⟨n,cap,l2,by rw[Q],aF _,c1,by rw[Q];exact h1,h2,by rw[c2,h3],by rw[Q];exact c3⟩
   ·injection hb with hb
    have e:n=b:=hb;show w.heap.size<=b;omega
