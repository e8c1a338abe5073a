/- Walks of the program's book and talk: Pass, Item. Walk of the program's gate: unheard. Walk of the program's gate: Tell. Walks of the program's talk: what may be news. Walks of the program's talk: AreItems. -/
import Derived.Test.YtbojijefenfbgaaGreatDoorAaMeetMath
open Prod renaming fst->aj
open List renaming mem_map->aU,mem_filter->bK,getElem_of_mem->eQ,getElem?_eq_getElem->ae,take_succ_cons->ak,take_zero->aE,setIfInBounds_toArray->bI,set_cons_zero->cw,set_cons_succ->cz,take_of_length_le->aT
open Nat renaming lt_of_lt_of_le->aB,zero_le->aF,le_trans->ag
open Go.Act renaming put->aD
open Go.Value renaming agg->fX,oneCell'->av
open Go.IntWalk renaming i64_in->az
open Option renaming some->Z,none->Y
open Go.Value renaming int->I,pointer->X,agg->H,bool->Bl,string->sT,tuple->Tp
open Go.IntKind renaming i64->J
open Go.Obj renaming cells->Cl
open Go.Ending renaming returned->Re
open Go renaming World->D,Value->Vl
open Go.RowKit renaming Below->O
set_option maxHeartbeats 4000000
set_option maxRecDepth 100000
open Go Go.RowKit
open Go.Proofs.YtbojijefenfbgaaGreatDoor
open Ks(au whole loop decl pure mr oF ml mB)
open Qt(uO nn gh lW)
variable{F:Int}{S T:Nat->Prop}{g:Nat}{w:D}
namespace Go.Proofs.YtbojijefenfbgaaGreatDoor
open Tryz
namespace Gt
open Mp Bk Tk
def qg(x:It):Int×Int:=if x.gone then(0,0) else x.pass
theorem Gm{l:List It}(f:qt l){lh ld lu}(a:Has l lh ld lu){x:It}(g:x∈l):na x.key ld=if x.gone then none else Z x.pass:=by
 have n:(ld.map aj).Nodup:=by
  have h1:((held l).map It.key).Nodup:=List.Nodup.sublist (List.Sublist.map _ List.filter_sublist) f.keys;have h2:(ld.map aj).Perm ((held l).map It.key):=by
   have:=a.held.map aj;rwa [List.map_map] at this
  exact h2.nodup_iff.2 h1
 cases d:x.gone
 ·rw[if_neg sP]
  refine XA n (a.held.mem_iff.2 (aU.2 ⟨x,bK.2 ⟨g,by simp[d]⟩,rfl⟩))
 ·rw[if_pos rfl,CT]
  intro p o e;obtain⟨y,q,rfl⟩:=aU.1 (a.held.mem_iff.1 o);have h:=(bK.1 q);have k:y.key=x.key:=e;obtain⟨i,hi,c⟩:=eQ h.1;obtain⟨j,m,b⟩:=eQ g;have:i=j:=sR f.keys (l:=l) (ae hi) (ae m) (by rw[c,b,k]);subst this;rw[c] at b;subst b;simp[d] at h
theorem NN{s:St}(h:gg S w g s)(v:qt s.l)(x:It)(k:x∈s.l):Rt 147 #[X (Z ⟨g,3,Y⟩),two x.key] w (Tp #[two (qg x),Bl (!x.gone)]):=by
 obtain⟨_,vh,vd,vu,j,u⟩:=h;have m:Hq (w.cell? ⟨g,5,Y⟩=Z vd):=fy j 5 rfl;have t:=(aL j);clear j;obtain⟨lh,ld,lu,N,V2,V3,f⟩:=u.ask;have i:Hq (((na x.key ld).map two).getD (two (0,0))=two (qg x)):=by
  show _=_;rw[Gm v f k];unfold qg;cases x.gone<;>rfl
 have P:Hq ((na x.key ld).isSome= !x.gone):=by
  show _=_;rw[Gm v f k];cases x.gone<;>rfl
 clear f N V3 u;generalize qg x=q at*;generalize (!x.gone)=b at*;generalize T:x.key=c at*;clear T k;go_enter func147,ntmps147
 refine au ?_;refine Ks.box rfl _ _ rfl #[I J c.1,I J c.2] rfl ?_;intro w1 b1 M n d F;simp only[zD];refine Ks.alloc rfl _ rfl (H #[I J 0,I J 0]) kr #[I J 0,I J 0] rfl ?_;intro w2 b4 p C e G;have L:=ca e n;have a:=tq d e;have K:Hq (V w2 vd two two ld):=by
  rcases V2 with h1|⟨b,i,h1⟩
  ·exact oL h1
  ·exact oR ⟨b,i,h1.congr (a.o.block b h1.lt)⟩
 have A:Hq (w2.cell? ⟨g,5,Y⟩=Z vd):=by
  show _=_;rw[a.o.cell (by exact t)];exact m.o
 have Q:g<w2.heap.size:=aB t a.o.size;have R:w.heap.size<=b4:=by rw[p.o];exact d.o.size
 clear n d e F G M p m V2;simp only[zD];refine au ?_;refine uO 9 kr kr _ _ rfl rfl 150 rfl #[I J 0,I J 0] kr _ _ rfl #[I J q.1,I J q.2] kr rfl kr ?_;simp only[ak,aE];refine yw (X (Z ⟨g,3,Y⟩)) ?_;refine yw (X (Z ⟨g,3,Y⟩)) ?_;refine yV (X (Z ⟨g,5,Y⟩)) ?_;refine mz rfl _ _ rfl oH rfl g 5 vd rfl Q A.o ?_;simp only[zD];refine nn rfl _ _ rfl _ rfl _ _ _ _ L.o underlying154 rfl kr ?_;simp only[zD];refine Bv rfl _ _ _ rfl ua oH T2 rfl K.o c rfl ?_;rw[i.o,P.o];simp only[zD];refine yw (Tp #[two q,Bl b]) ?_;refine yw (two q) ?_;refine yV (Bl b) ?_;refine gh ⟨fun _=>rfl,fun _=>rfl,?_⟩;intro O w3 W B r;have D:=ca r C;have z:=tq a r;simp only[bI,cw,cz];refine au ?_;refine Ks.row rfl _ _ rfl O rfl B underlying150 rfl kr ?_;simp only[zD];refine kv (Bl b) ?_;refine whole rfl _ _ _ rfl b4 #[I J q.1,I J q.2] rfl rfl D.o kr rfl kr ?_;intro w4 E y U H4;simp only[aD];refine kv (Bl b) ?_;refine kd (wp_ret ?_);repeat (refine kt ?_)
 exact Ww.pB results147 rfl b4 _ #[I J q.1,I J q.2] _ _ (Bl b) rfl rfl E.o underlying150 rfl kr ⟨rfl,z.o.trans ((y.o (fun _=>False) w.heap.size (oR R)).below lR (fun _ _ h=>h))⟩
def Ee(a p:Int×Int)(k:Bool):It:=if k then⟨a.1,a.2,p.1,p.2,false⟩ else⟨a.1,a.2,0,0,true⟩
theorem Nq(a p:Int×Int)(k:Bool)(w:D):Rt 148 #[two a,two p,Bl k] w (pE (Ee a p k)):=by
 go_enter func148,ntmps148
 refine au ?_;refine Ks.box rfl _ _ rfl #[I J a.1,I J a.2] rfl ?_;intro w1 b B q m y;simp only[zD];refine Ks.box rfl _ _ rfl #[I J p.1,I J p.2] rfl ?_;intro w2 b4 C s i z;have r:=ca i q;have g:=tq m i;clear q m i y z B C;simp only[zD];refine Ks.alloc rfl _ rfl (H #[I J 0,I J 0,I J 0,I J 0,Bl false]) kr #[I J 0,I J 0,I J 0,I J 0,Bl false] rfl ?_;intro w3 c u n d A;have e:=ca d r;have t:=ca d s;have l:=tq g d;have v:w.heap.size<=c:=by rw[u.o];exact g.o.size
 clear r s g d A u;simp only[zD];refine au ?_;cases k with
 |false=>
  refine wp_cond_true rfl (wp_seq ?_);refine kX (kv (X (Z ⟨b,0,Y⟩)) ?_);refine Ks.cell rfl _ _ rfl underlying3 rfl b 0 (I J a.1) rfl (fy e.o 0 rfl) ?_;simp only[zD];refine kv (X (Z ⟨b,1,Y⟩)) ?_;refine Ks.cell rfl _ _ rfl underlying3 rfl b 1 (I J a.2) rfl (fy e.o 1 rfl) ?_;simp only[zD];refine kv (H #[I J a.1,I J a.2,I J 0,I J 0,Bl true]) ?_;refine whole rfl _ _ _ rfl c #[I J a.1,I J a.2,I J 0,I J 0,Bl true] rfl rfl n.o kr rfl kr ?_;intro w4 j f x H4;simp only[aD];refine kd (wp_ret ?_);repeat (refine kt ?_)
  exact Own.jM results148 rfl c _ #[I J a.1,I J a.2,I J 0,I J 0,Bl true] _ _ rfl j.o underlying73 rfl kr ⟨rfl,l.o.trans ((f.o (fun _=>False) w.heap.size (oR v)).below lR (fun _ _ h=>h))⟩
 |true=>
  refine wp_cond_false rfl (wp_skip ?_);refine km (wp_seq ?_);refine kX (kv (X (Z ⟨b,0,Y⟩)) ?_);refine Ks.cell rfl _ _ rfl underlying3 rfl b 0 (I J a.1) rfl (fy e.o 0 rfl) ?_;simp only[zD];refine kv (X (Z ⟨b,1,Y⟩)) ?_;refine Ks.cell rfl _ _ rfl underlying3 rfl b 1 (I J a.2) rfl (fy e.o 1 rfl) ?_;simp only[zD];refine kv (X (Z ⟨b4,0,Y⟩)) ?_;refine Ks.cell rfl _ _ rfl underlying3 rfl b4 0 (I J p.1) rfl (fy t.o 0 rfl) ?_;simp only[zD];refine kv (X (Z ⟨b4,1,Y⟩)) ?_;refine Ks.cell rfl _ _ rfl underlying3 rfl b4 1 (I J p.2) rfl (fy t.o 1 rfl) ?_;simp only[zD];refine kv (H #[I J a.1,I J a.2,I J p.1,I J p.2,Bl false]) ?_;refine whole rfl _ _ _ rfl c #[I J a.1,I J a.2,I J p.1,I J p.2,Bl false] rfl rfl n.o kr rfl kr ?_;intro w4 j f x H4;simp only[aD];refine kd (wp_ret ?_);repeat (refine kt ?_)
  exact Own.jM results148 rfl c _ #[I J a.1,I J a.2,I J p.1,I J p.2,Bl false] _ _ rfl j.o underlying73 rfl kr ⟨rfl,l.o.trans ((f.o (fun _=>False) w.heap.size (oR v)).below lR (fun _ _ h=>h))⟩
theorem Np{s:St}(c:Inv s){x:It}(d:x∈s.l):Ee x.key (qg x) (!x.gone)=x:=by
 have f:=c.fair x d;obtain⟨g,a,e,h,b⟩:=x;cases b
 ·rfl
 ·have:=f.gone rfl
  simp only at this;obtain⟨rfl,rfl⟩:=this;rfl
def zF(g:Nat)(a:Vl)(b b4:Nat)(lv:Vl)(p:Option Addr)(n cap k:Nat)(f:Nat->Vl):Act:={tmps:= #[X (Z ⟨g,0,Y⟩),a,I J (b:Int),f 3,X (Z ⟨b4,0,Y⟩),f 5,.slice none 0 0,lv,f 8,f 9,f 10,f 11,f 12,f 13,f 14,.slice p n cap,I J (n:Int),I J (k:Int),f 18,f 19,f 20,f 21,f 22,f 23,f 24,f 25,f 26,f 27,f 28,f 29,f 30,f 31,f 32,f 33,f 34,f 35,f 36,f 37,f 38,f 39,f 40,f 41,f 42,f 43,f 44,f 45],defers:=[]}
structure tZ{S T:Nat->Prop}(w w3:D)(g:Nat)(s:St)(F:Int)(sv:Vl)(l:List (Sn×Vl))(b4:Nat)(out:List It)(lv:Vl)(wr:D):Prop where
 gate:gg S wr g s
 ph:ia T wr sv l
 box:wr.heap[b4]? =Z (Cl #[I J F,sv] 71 (0,0))
 row:Row (fun k=>w3.heap.size<=k) wr 73 5 lv out.length (gi out)
 low:w.heap.size<=w3.heap.size
 b4:b4<w3.heap.size
 lN:O w3.heap.size w3 wr
 below:O w.heap.size w wr
theorem tZ.later{w3:D}{s:St}{sv:Vl}{l:List (Sn×Vl)}{b4:Nat}{out:List It}{lv:Vl}{wr w':D}(h:tZ (S:=S) (T:=T) w w3 g s F sv l b4 out lv wr)(a:O wr.heap.size wr w'):tZ (S:=S) (T:=T) w w3 g s F sv l b4 out lv w':=
 ⟨h.gate.below a,h.ph.below a,(a.block b4 (aL h.box)).trans h.box,h.row.below a lR,h.low,h.b4,h.lN.trans (a.mono h.lN.size),h.below.trans (a.mono h.below.size)⟩
theorem Rn:(prog.info? 73).map (fun i=>(i.zero,i.size,i.bytes))=Z (Z (H #[I J 0,I J 0,I J 0,I J 0,Bl false]),5,40):=kr
theorem TV{s:St}(h:gg S w g s)(C:Inv s)(F:Int)(sv:Vl)(l:List (Sn×Vl))(c:Nat)(hd:ia T w sv l)(hl:l.length<=1000000000)(hm:∀p∈l,p.1.more.length<=1000000000/\p.1.more.Pairwise (· < ·)):
  Calls prog 74 #[X (Z ⟨g,0,Y⟩),H #[I J F,sv],I J (c:Int)] w fun e w'=>∃v,e=Re v/\Row (fun k=>w.heap.size<=k) w' 73 5 v (oD s.l (l.map aj) c).length (gi (oD s.l (l.map aj) c))/\O w.heap.size w w':=by
 have h0:=C.kB;obtain⟨b,hD⟩:=eX (l.map aj);rw[<-hD];have b2:(fX #[I J F,sv]).cells= #[I J F,sv]:=by
  rcases hd.row.1.2 with⟨rfl,_⟩|⟨g,cap,c6,rfl,_⟩<;>rfl
 go_enter func74,ntmps74
 refine au ?_;refine Ks.box rfl _ _ rfl #[I J F,sv] b2 ?_;intro w1 b4 c0 A t b8;simp only[zD];refine kv (.slice none 0 0) ?_;refine kd (wp_seq ?_);refine kX (kv (.slice none 0 0) ?_);refine kd (wp_seq ?_);refine wp_seq (kX (kv (X (Z ⟨g,0,Y⟩)) ?_));refine kv (X (Z ⟨g,0,Y⟩)) ?_;refine kv (X (Z ⟨g,3,Y⟩)) ?_;refine Ks.call rfl 88 #[X (Z ⟨g,3,Y⟩)] kr (J4 (h.below t.o) C) ?_;rintro v w2 ⟨e4,z⟩;simp only[zD];obtain⟨p,cap,rfl,mT⟩:=Row.form e4;refine kv (I J (s.l.length:Int)) ?_;refine kv (I J 0) ?_;refine kd ?_;have N:=tR t z;have c7:b4<w2.heap.size:=aB (aL A.o) z.size;refine wp_block ?_;refine loop (fun m a wr=>∃(k:Nat)(lv:Vl)(f:Nat->Vl),k<=s.l.length/\m=s.l.length-k/\((s.l.take k).filter fun x=> !has b x.key).length<=c/\tZ (S:=S) (T:=T) w w2 g s F sv l b4 ((s.l.take k).filter fun x=> !has b x.key) lv wr/\a=zF g (H #[I J F,sv]) c b4 lv p s.l.length cap k f) s.l.length ?_ ?_
 ·refine⟨0,.slice none 0 0,fun j=>Array.getD #[undef,undef,undef,undef,undef,undef,undef,undef,undef,undef,undef,undef,X (Z ⟨g,0,Y⟩),X (Z ⟨g,0,Y⟩),X (Z ⟨g,3,Y⟩)] j undef,aF _,rfl,sP,⟨(h.below t.o).below z,(hd.below t.o).below z,(z.block b4 (aL A.o)).trans A.o,Row.nil _ _ _ _,N.size,c7,Below.refl _ _,N⟩,rfl⟩
 clear A t b8 c0 b2;rintro m a wr ⟨k,lv,f,hk,rfl,R,hU,rfl⟩;have fin:∀(B:Act)(w':D)(i:Nat)(lv:Vl),k<i->i<=s.l.length->((s.l.take i).filter fun x=> !has b x.key).length<=c->tZ (S:=S) (T:=T) w w2 g s F sv l b4 ((s.l.take i).filter fun x=> !has b x.key) lv w'->B=zF g (H #[I J F,sv]) c b4 lv p s.l.length cap i (fun j=>B.tmps.getD j undef)->∃m,m<s.l.length-k/\∃(k:Nat)(lv:Vl)(f:Nat->Vl),k<=s.l.length/\m=s.l.length-k/\((s.l.take k).filter fun x=> !has b x.key).length<=c/\tZ (S:=S) (T:=T) w w2 g s F sv l b4 ((s.l.take k).filter fun x=> !has b x.key) lv w'/\B=zF g (H #[I J F,sv]) c b4 lv p s.l.length cap k f:=fun B w' i lv q1 q2 q3 q4 q5=>⟨s.l.length-i,oM,i,lv,_,q2,rfl,q3,q4,q5⟩;have b1:oD s.l b c=(s.l.take k).filter (fun x=> !has b x.key)->Row (fun k=>w.heap.size<=k) wr 73 5 lv (oD s.l b c).length (gi (oD s.l b c)):=fun e=>by rw[e];exact hU.row.mono fun j r=>ag hU.low r
 unfold zF;refine au ?_;refine wp_cond_split rfl ?_ ?_
 ·intro d
  have d:k<s.l.length:=by have:=of_decide_eq_true d;omega
  obtain⟨M,c6,rfl,a8,e5⟩:=mT k d;have e2:=(aL a8);obtain⟨x,hx⟩:∃x,s.l[k]=x:=⟨_,rfl⟩;have V:s.l[k]? =Z x:=by rw[ae d,hx]
  have b0:x∈s.l:=List.mem_of_getElem? V;have e3:wr.rangeAt M (k*2) (kC x.key):=mG (Row.range wD a8 e5 (by rw[List.getElem?_map,V];rfl)) hU.lN e2;refine au ?_;refine Ks.idx kr _ _ _ rfl 154 2 underlying167 kr kr M s.l.length cap k rfl rfl d ?_;simp only[zD];refine Ks.pj rfl _ _ rfl M (k*2) rfl (kC x.key) e3 underlying154 rfl kr ?_;simp only[zD];refine decl rfl _ rfl (H #[I J 0,I J 0]) kr rfl _ _ rfl #[I J x.gate,I J x.fi] (fun _=>rfl) (fun _=>rfl) kr rfl kr ?_;intro wa b9 e7 W b7;replace hU:=hU.later b7.o
  simp only[zD];refine kd ?_;obtain⟨q,L,rfl,hq⟩:=Row.form hU.row;refine au ?_;refine wp_cond_split rfl ?_ ?_
  ·intro n
   have n:((s.l.take k).filter fun x=> !has b x.key).length=c:=by have:=of_decide_eq_true n;omega
   have U:=KH n;refine wp_exit (Ks.OJ dc ?_);refine km (wp_seq ?_);refine kX (kv (.slice q ((s.l.take k).filter fun x=> !has b x.key).length L) ?_);refine kv (.slice q ((s.l.take k).filter fun x=> !has b x.key).length L) ?_;refine kd (wp_ret ?_);repeat (refine kt ?_)
   refine bodyPost_ret (v:=.slice q ((s.l.take k).filter fun x=> !has b x.key).length L) kr rfl ?_;exact⟨_,rfl,by rw[U];exact hU.row.mono fun j r=>ag hU.low r,hU.below⟩
  ·intro n
   have n:((s.l.take k).filter fun x=> !has b x.key).length≠c:=fun e=>by have:=of_decide_eq_false n;omega
   have h4:((s.l.take k).filter fun x=> !has b x.key).length<=16000:=ag (List.length_filter_le _ _) (by rw[List.length_take];omega);have G:((s.l.take (k+1)).filter fun x=> !has b x.key)=((s.l.take k).filter fun x=> !has b x.key)++if has b x.key then [] else [x]:=by
    rw[nd V,List.filter_append];cases E:has b x.key<;>simp[E]
   generalize ((s.l.take k).filter fun x=> !has b x.key)=out at*;refine au ?_;refine Ks.row rfl _ _ rfl b4 rfl hU.box underlying71 rfl kr ?_;simp only[zD];refine Ks.row rfl _ _ rfl b9 rfl W.o underlying154 rfl kr ?_;simp only[zD];refine pure kr 146 #[H #[I J F,sv],H #[I J x.gate,I J x.fi]] kr (U9 wa F sv l x.gate x.fi hU.ph hl hm) ?_;intro wb a6;rw[<-hD];replace hU:=hU.later a6
   have K:=cP a6 W;have e6:has b (x.gate,x.fi)=has b x.key:=rfl;rw[e6];simp only[zD];refine kv (Bl (!has b x.key)) ?_;refine kd ?_;cases E:has b x.key with
   |true=>
    rw[E] at G;refine wp_cond_false rfl (wp_skip ?_);refine mr (kX ?_);refine Ks.val rfl (I J ((k+1:Nat):Int)) (by
     simp[execOp,go_sem];rw[az _ ⟨oM,oM⟩]) ?_
    simp only[zD];refine kv (I J ((k+1:Nat):Int)) ?_;refine kd ?_;have y:((s.l.take (k+1)).filter fun x=> !has b x.key)=out:=by rw[G];simp
    exact fin _ wb (k+1) _ oM d (by rw[y];exact R) (by rw[y];exact hU) rfl
   |false=>
    rw[E] at G;refine au ?_;have c8:=(aL K);refine uO 8 kr kr _ _ rfl rfl 150 rfl #[I J 0,I J 0] kr _ _ rfl #[I J (qg x).1,I J (qg x).2] kr rfl kr ?_;simp only[ak,aE];refine yV (X (Z ⟨g,0,Y⟩)) ?_;refine yV (X (Z ⟨g,0,Y⟩)) ?_;refine yV (X (Z ⟨g,3,Y⟩)) ?_;refine nn rfl _ _ rfl _ rfl _ _ _ _ K underlying154 rfl kr ?_;simp only[zD];refine Qt.ev rfl 147 #[X (Z ⟨g,3,Y⟩),two x.key] (Tp #[two (qg x),Bl (!x.gone)]) (fun _=>kr) (fun w' hb=>NN (hU.gate.below hb) C.g' x b0) ?_;simp only[zD];refine yV (Tp #[two (qg x),Bl (!x.gone)]) ?_;refine yV (two (qg x)) ?_;refine yV (Bl (!x.gone)) ?_;refine gh ⟨fun _=>rfl,fun _=>rfl,?_⟩;intro c4 wc e9 HP a7;replace hU:=hU.later a7
    have b6:wc.heap[b9]? =Z (Cl #[I J x.gate,I J x.fi] 154 (0,0)):=(a7.block b9 c8).trans K;simp only[bI,cw,cz];refine au ?_;refine Ks.row rfl _ _ rfl b9 rfl b6 underlying154 rfl kr ?_;simp only[zD];refine Ks.row rfl _ _ rfl c4 rfl HP underlying150 rfl kr ?_;simp only[zD];refine kv (Bl (!x.gone)) ?_;refine pure kr 148 #[two x.key,two (qg x),Bl (!x.gone)] kr (Nq x.key (qg x) (!x.gone) wc) ?_;intro wd c9;rw[Np C b0];replace hU:=hU.later c9
    simp only[zD];refine Ks.push rfl rfl 64 73 _ _ _ rfl rfl (pE x) (H #[I J 0,I J 0,I J 0,I J 0,Bl false]) rfl (fF x).toArray 5 40 underlying64 Rn dc dc kr rfl dc _ _ out.length (gi out) (fun _=>rfl) (fun _=>rfl) hU.row rfl (by simp[fF,av]) oM ?_;intro u b3 we hr hf;have Q:O w2.heap.size w2 we:=hU.lN.trans (hf.below hU.lN.size fun j r e=>by have:=hU.row.2 j e;omega);simp only[zD];refine kv (b3) ?_;refine Ks.fin (mr (kX ?_));refine Ks.val rfl (I J ((k+1:Nat):Int)) (by
     simp[execOp,go_sem];rw[az _ ⟨oM,oM⟩]) ?_
    simp only[zD];refine kv (I J ((k+1:Nat):Int)) ?_;refine kd ?_;have y:((s.l.take (k+1)).filter fun x=> !has b x.key)=out++[x]:=by rw[G];simp
    refine fin _ we (k+1) b3 oM d (by rw[y];simp;omega) ?_ rfl;rw[y];have P:=tR N Q;refine⟨h.below P,hd.below P,(Q.block b4 hU.b4).trans ((hU.lN.block b4 hU.b4).symm.trans hU.box),?_,hU.low,hU.b4,Q,P⟩;rw[sQ,List.length_append];exact hr.mono fun j r=>r.elim id fun h=>ag hU.lN.size h
 ·intro d
  obtain rfl:k=s.l.length:=by have:=of_decide_eq_false d;omega
  rw[aT lR] at R b1;have U:=Jf R;refine wp_exit (oF ?_);refine km (wp_seq ?_);refine kX (kv (lv) ?_);refine kv (lv) ?_;refine kd (wp_ret ?_);repeat (refine kt ?_)
  refine bodyPost_ret (v:=lv) kr rfl ?_;exact⟨_,rfl,b1 U,hU.below⟩
theorem UE{a:List Sn}(h:mY F a=true):∀s∈a,s.more.Pairwise (· < ·):=by
 unfold mY at h;rw[Bool.and_eq_true] at h;intro s b;have h2:=((Dp h.2).2 s b).2.2;unfold px at h2;simp only[Bool.and_eq_true] at h2;exact(J8 h2.2).1
theorem Mn{s:St}(_h:gg S w g s)(F:Int)(sv:Vl)(l:List (Sn×Vl))(c:Int)(hd:ia T w sv l)(D:l.length<=1000000000)(E:∀p∈l,p.1.more.length<=1000000000)(v:mY F (l.map aj)=false\/c<0):
  Rt 28 #[X (Z ⟨g,0,Y⟩),H #[I J F,sv],I J c] w (Tp #[H #[sT ⟨#[]⟩,.slice none 0 0],I J 2]):=by
 have K:(fX #[I J F,sv]).cells= #[I J F,sv]:=by
  rcases hd.row.1.2 with⟨rfl,_⟩|⟨g,cap,M,rfl,_⟩<;>rfl
 have m:Hq (∀w',O w.heap.size w w'->Rt 73 #[H #[I J F,sv]] w' (Bl (mY F (l.map aj)))):=fun w' C=>Kx w' F sv l (hd.below C) D E;generalize mY F (l.map aj)=b at m v;go_enter func28,ntmps28
 refine au ?_;refine Ks.box rfl _ _ rfl #[I J F,sv] K ?_;intro w1 b4 B q e z;simp only[zD];refine Ks.alloc rfl _ rfl (H #[sT ⟨#[]⟩,.slice none 0 0]) kr #[sT ⟨#[]⟩,.slice none 0 0] rfl ?_;intro w2 a r y f A;have L:=ca f q;have j:=tq e f;have u:w.heap.size<=a:=by rw[r.o];exact e.o.size
 clear q e f z A B r;simp only[zD];refine au ?_;refine pure kr 73 #[H #[I J F,sv]] kr (m.o w2 j.o) ?_;intro w3 t;have n:=ca t y;have k:=tq j t;simp only[zD];refine au ?_;cases b with
 |false=>
  (with_reducible refine ab ?_;refine ab ?_);refine kv (Bl true) ?_;refine kd (wp_cond_true rfl ?_);refine wp_seq (kX (kv (H #[sT ⟨#[]⟩,.slice none 0 0]) ?_));refine whole rfl _ _ _ rfl a #[sT ⟨#[]⟩,.slice none 0 0] rfl rfl n.o kr rfl kr ?_;intro w4 i d x H4;simp only[aD];refine kv (I J 2) ?_;refine kd (wp_ret ?_);repeat (refine kt ?_)
  exact Ww.pB results28 rfl a _ #[sT ⟨#[]⟩,.slice none 0 0] _ _ (I J 2) rfl rfl i.o underlying66 rfl kr ⟨rfl,k.o.trans ((d.o (fun _=>False) w.heap.size (oR u)).below lR (fun _ _ h=>h))⟩
 |true=>
  have G:c<0:=v.resolve_left sP;refine kg (I J c) ?_;refine ml kr (Bl true) (by simp[execOp,go_sem,G]) ?_;simp only[zD];refine kv (Bl true) ?_;refine kd (wp_cond_true rfl ?_);refine wp_seq (kX (kv (H #[sT ⟨#[]⟩,.slice none 0 0]) ?_));refine whole rfl _ _ _ rfl a #[sT ⟨#[]⟩,.slice none 0 0] rfl rfl n.o kr rfl kr ?_;intro w4 i d x H4;simp only[aD];refine kv (I J 2) ?_;refine kd (wp_ret ?_);repeat (refine kt ?_)
  exact Ww.pB results28 rfl a _ #[sT ⟨#[]⟩,.slice none 0 0] _ _ (I J 2) rfl rfl i.o underlying66 rfl kr ⟨rfl,k.o.trans ((d.o (fun _=>False) w.heap.size (oR u)).below lR (fun _ _ h=>h))⟩
def yJ(a b:Nat)(f:Nat->Vl):Act:={tmps:= #[f 0,f 1,f 2,f 3,f 4,f 5,X (Z ⟨a,0,Y⟩),f 7,X (Z ⟨b,0,Y⟩),f 9,f 10,f 11,f 12,f 13,f 14,f 15,f 16,f 17,f 18,f 19,f 20,f 21,f 22,f 23,f 24,f 25,f 26,f 27,f 28,f 29,f 30,f 31,f 32,f 33,f 34,f 35,f 36,f 37],defers:=[]}
theorem gg.PB{s:St}(h:gg S w g s):w.cell? ⟨g,7,Y⟩=Z (str s.order):=by
 obtain⟨_,vh,vd,vu,a,_⟩:=h;exact fy a 7 rfl
theorem P9{s:St}(h:gg S w g s)(hI:Inv s)(F:Int)(sv:Vl)(l:List (Sn×Vl))(i:Nat)(hd:ia T w sv l)(hl:l.length<=1000000000)(hm:∀p∈l,p.1.more.length<=1000000000)(c8:mY F (l.map aj)=true):
  Calls prog 28 #[X (Z ⟨g,0,Y⟩),H #[I J F,sv],I J (i:Int)] w fun e w'=>∃u,e=Re u/\(∃hv,u=Tp #[H #[str (if F<s.floor then s.order else []),hv],I J 0]/\Row (fun k=>w.heap.size<=k) w' 73 5 hv (oD s.l (l.map aj) i).length (gi (oD s.l (l.map aj) i)))/\O w.heap.size w w':=by
 have h0:=UE c8;obtain⟨m,c7⟩:=eX (oD s.l (l.map aj) i);obtain⟨x,t⟩:=eX (if F<s.floor then s.order else [])
 rw[<-c7,<-t];have e9:∀p∈l,p.1.more.length<=1000000000/\p.1.more.Pairwise (· < ·):=fun p hp=>⟨hm p hp,h0 p.1 (aU.2 ⟨p,hp,rfl⟩)⟩;have h4:(fX #[I J F,sv]).cells= #[I J F,sv]:=by
  rcases hd.row.1.2 with⟨rfl,_⟩|⟨g,cap,h6,rfl,_⟩<;>rfl
 have HI:Hq (∀w',O w.heap.size w w'->Rt 73 #[H #[I J F,sv]] w' (Bl true)):=fun w' W=>by rw[<-c8];exact Kx w' F sv l (hd.below W) hl hm
 go_enter func28,ntmps28
 refine au ?_;refine Ks.box rfl _ _ rfl #[I J F,sv] h4 ?_;intro w1 b4 e3 b1 G e1;simp only[zD];refine Ks.alloc rfl _ rfl (H #[sT ⟨#[]⟩,.slice none 0 0]) kr #[sT ⟨#[]⟩,.slice none 0 0] rfl ?_;intro w2 a b7 a7 K e2;have b2:=ca K b1;have E:=tq G K;have e6:w.heap.size<=a:=by rw[b7.o];exact G.o.size
 clear b1 G K e1 e2 e3 b7;simp only[zD];refine au ?_;refine pure kr 73 #[H #[I J F,sv]] kr (HI.o w2 E.o) ?_;intro w3 z;have P:=ca z a7;have b3:=ca z b2;have n:=tq E z;clear a7 b2 E z;simp only[zD];refine au ?_;refine ml kr (Bl false) (by simp[execOp,go_sem]) ?_;simp only[zD];refine au ?_;refine Ks.call rfl 74 #[X (Z ⟨g,0,Y⟩),H #[I J F,sv],I J (i:Int)] kr (TV (h.below n.o) hI F sv l i (hd.below n.o) hl e9) ?_;rintro hv w4 ⟨v,A⟩;rw[<-c7] at v;have C:=Row.one v;simp only[zD];refine Ks.val rfl (H #[sT ⟨#[]⟩,hv]) (by
  obtain⟨q,cq,rfl,-⟩:=Row.form v;kernel_rfl) ?_
 simp only[zD];refine decl rfl _ rfl (H #[sT ⟨#[]⟩,.slice none 0 0]) kr rfl _ _ rfl #[sT ⟨#[]⟩,hv] (fun _=>rfl) (fun _=>rfl) kr rfl (by
  simp[av] at C⊢;exact C) ?_
 intro w5 b U M L;have B:=tR A L;have Q:=ca B P;have R:=ca B b3;have c4:=v.below L.o lR;have y:=tR n B;have c0:w.heap.size<=w3.heap.size:=n.o.size;have e4:b≠a:=fun e=>by
  have h1:=(aL P.o);have h2:=U.o;have h3:=A.size;omega
 have e7:w.heap.size<=b:=ag (ag c0 A.size) U.o;clear P b3 n A B L v U;simp only[zD];refine kd ?_;refine Ks.cut (fun c w'=>w'.heap[a]? =Z (Cl #[sT ⟨#[]⟩,.slice none 0 0] 66 (0,0))/\w'.heap[b]? =Z (Cl #[str x,hv] 66 (0,0))/\Row (fun k=>w.heap.size<=k) w' 73 5 hv m.length (gi m)/\O w.heap.size w w'/\∃f:Nat->Vl,c=yJ a b f) ?_ ?_
 ·have fin:∀(c:Act)(w':D),w'.heap[a]? =Z (Cl #[sT ⟨#[]⟩,.slice none 0 0] 66 (0,0))->w'.heap[b]? =Z (Cl #[str x,hv] 66 (0,0))->Row (fun k=>w.heap.size<=k) w' 73 5 hv m.length (gi m)->O w.heap.size w w'->c=yJ a b (fun j=>c.tmps.getD j undef)->w'.heap[a]? =Z (Cl #[sT ⟨#[]⟩,.slice none 0 0] 66 (0,0))/\w'.heap[b]? =Z (Cl #[str x,hv] 66 (0,0))/\Row (fun k=>w.heap.size<=k) w' 73 5 hv m.length (gi m)/\O w.heap.size w w'/\∃f:Nat->Vl,c=yJ a b f:=fun c w' q1 q2 q3 q4 q5=>⟨q1,q2,q3,q4,_,q5⟩
  refine wp_seq (lW kr kr ?_);refine qv (X (Z ⟨g,0,Y⟩)) ?_;refine qv (X (Z ⟨g,0,Y⟩)) ?_;refine qv (X (Z ⟨g,3,Y⟩)) ?_;refine Qg.call kr 75 #[X (Z ⟨g,3,Y⟩)] (I J s.floor) (fun _=>kr) (fun w' W=>uJ ((h.below y).below W)) ?_;simp only[zD];refine qv (X (Z ⟨b4,0,Y⟩)) ?_;refine Qg.cell kr _ _ rfl underlying3 rfl b4 0 (I J F) rfl (aL R.o) (fy R.o 0 rfl) ?_;simp only[zD];refine qv (Bl (decide (F<s.floor))) ?_;refine wpQuiet_nil ?_;intro w6 r;have a8:w6.heap[a]? =Z (Cl #[sT ⟨#[]⟩,.slice none 0 0] 66 (0,0)):=(Below.block r _ (aL Q.o)).trans Q.o;have N:w6.heap[b]? =Z (Cl #[sT ⟨#[]⟩,hv] 66 (0,0)):=(Below.block r _ (aL M.o)).trans M.o;have a6:=(c4.below r lR).mono (T:=fun k=>w.heap.size<=k) fun k hk=>ag c0 hk;have V:O w.heap.size w w6:=y.trans (Below.mono r y.size);clear r Q M R c4 y;refine km ?_;refine wp_cond_split rfl ?_ ?_
  ·intro d
   have d:F<s.floor:=of_decide_eq_true d;rw[if_pos d] at t;refine au ?_;refine Ks.cell rfl _ _ rfl underlying9 rfl g 7 (str s.order) rfl (gg.PB (h.below V)) ?_;simp only[zD];refine kv (X (Z ⟨b,0,Y⟩)) ?_;refine Ks.store rfl _ _ _ rfl b 0 (str s.order) rfl rfl N sP kr rfl #[str s.order,hv] rfl ?_;intro w7 HC HF HO HS;simp only[aD];refine kd ?_;refine fin _ w7 ((HO.o a (fun e=>e4 e.symm)).trans a8) (by rw[t];exact HC.o) (Row.other a6 (kV a6 N dc) HO.o) (V.trans ((HF.o (fun _=>False) w.heap.size (oR e7)).below lR fun _ _ h=>h)) rfl
  ·intro d
   have d:¬F<s.floor:=of_decide_eq_false d;rw[if_neg d] at t;refine au ?_;exact fin _ w6 a8 (by rw[t];exact N) a6 V rfl
 ·rintro c w7 ⟨b0,h5,c6,e5,f,rfl⟩
  unfold yJ;refine au ?_;refine whole rfl _ _ _ rfl a #[str x,hv] rfl rfl b0 kr rfl (by
   simp[str,av] at C⊢;exact C) ?_
  intro w8 c9 H2 H3 H4;simp only[aD];refine kv (I J 0) ?_;refine kd (wp_ret ?_);repeat (refine kt ?_)
  exact Ww.pB results28 rfl a _ #[str x,hv] _ _ (I J 0) rfl rfl c9.o underlying66 rfl kr ⟨_,rfl,⟨hv,rfl,Row.other c6 (kV c6 b0 dc) H3.o⟩,e5.trans ((H2.o (fun _=>False) w.heap.size (oR e6)).below lR (fun _ _ h=>h))⟩
theorem zu(a b c:Int):gx a b c=decide (a<=b/\b<=c):=by
 unfold gx;by_cases h1:a<=b<;>by_cases h2:b<=c<;>simp[h1,h2]
theorem X0(x:It):lU x=(!(x.gone&&(decide (x.br≠0)||decide (x.ba≠0)))&&(gx 0 x.gate 15&&(gx 1 x.fi 1000&&(gx 0 x.br 65535&&gx 0 x.ba 4294967295)))):=by
 unfold lU;rw[zu,zu,zu,zu,show decide (x.br≠0\/x.ba≠0)=(decide (x.br≠0)||decide (x.ba≠0)) by by_cases h:x.br=0<;>by_cases k:x.ba=0<;>simp[h,k]];generalize decide (0<=x.gate/\x.gate<=15)=a;generalize decide (1<=x.fi/\x.fi<=1000)=b;generalize decide (0<=x.br/\x.br<=65535)=c;generalize decide (0<=x.ba/\x.ba<=4294967295)=d;generalize (x.gone&&(decide (x.br≠0)||decide (x.ba≠0)))=e;cases a<;>cases b<;>cases c<;>cases d<;>cases e<;>rfl
theorem OW(x:It)(w:D):Rt 233 #[pE x] w (Bl (lU x)):=by
 have k:Hq _:=E1 x.gate;have i:Hq _:=Ke x.fi;have j:Hq _:=Gh x.br;have l:Hq _:=PX x.ba;have c:Hq _:=X0 x;generalize lU x=R at c⊢;generalize gx 0 x.gate 15=h at*;generalize gx 1 x.fi 1000=m at*;generalize gx 0 x.br 65535=be at*;generalize gx 0 x.ba 4294967295=bs at*;unfold pE;go_enter func233,ntmps233
 refine au ?_;refine Ks.box rfl _ _ rfl #[I J x.gate,I J x.fi,I J x.br,I J x.ba,Bl x.gone] rfl ?_;intro w1 b q p d n;simp only[zD];refine au ?_;cases f:x.gone with
 |false=>
  have a:(x.gone&&(decide (x.br≠0)||decide (x.ba≠0)))=false:=by rw[f];rfl
  clear f;refine au ?_;refine Ks.same kr 84 #[I J x.gate] kr (k.o w1) ?_;simp only[zD];refine kv (Bl h) ?_;cases h with
  |false=>
   (with_reducible refine ab ?_;refine ab ?_;refine ab ?_);refine kv (Bl false) ?_;refine kv (Bl false) ?_;(with_reducible refine ab ?_;refine ab ?_;refine ab ?_);refine kv (Bl false) ?_;refine kv (Bl false) ?_;(with_reducible refine ab ?_;refine ab ?_;refine ab ?_);refine kv (Bl false) ?_;refine kv (Bl false) ?_;refine kd ?_;obtain rfl:R=false:=by rw[c.o,a];rfl
   refine wp_ret ?_;repeat (refine kt ?_)
   refine bodyPost_ret (v:=Bl false) kr rfl ?_;exact⟨rfl,d.o⟩
  |true=>
   refine au ?_;refine Ks.same kr 217 #[I J x.fi] kr (i.o w1) ?_;simp only[zD];refine au ?_;cases m with
   |false=>
    (with_reducible refine ab ?_;refine ab ?_;refine ab ?_);refine kv (Bl false) ?_;refine kv (Bl false) ?_;(with_reducible refine ab ?_;refine ab ?_;refine ab ?_);refine kv (Bl false) ?_;refine kv (Bl false) ?_;refine kd ?_;obtain rfl:R=false:=by rw[c.o,a];rfl
    refine wp_ret ?_;repeat (refine kt ?_)
    refine bodyPost_ret (v:=Bl false) kr rfl ?_;exact⟨rfl,d.o⟩
   |true=>
    refine au ?_;refine Ks.same kr 56 #[I J x.br] kr (j.o w1) ?_;simp only[zD];refine au ?_;cases be with
    |false=>
     (with_reducible refine ab ?_;refine ab ?_;refine ab ?_);refine kv (Bl false) ?_;refine kv (Bl false) ?_;refine kd ?_;obtain rfl:R=false:=by rw[c.o,a];rfl
     refine wp_ret ?_;repeat (refine kt ?_)
     refine bodyPost_ret (v:=Bl false) kr rfl ?_;exact⟨rfl,d.o⟩
    |true=>
     refine au ?_;refine Ks.same kr 57 #[I J x.ba] kr (l.o w1) ?_;simp only[zD];refine kv (Bl bs) ?_;refine kv (Bl bs) ?_;refine kd ?_;obtain rfl:bs=R:=by rw[c.o,a];rfl
     refine wp_ret ?_;repeat (refine kt ?_)
     refine bodyPost_ret (v:=Bl bs) kr rfl ?_;exact⟨rfl,d.o⟩
 |true=>
  refine au ?_;by_cases e:x.br=0
  ·rw[decide_eq_true e]
   refine au ?_;by_cases g:x.ba=0
   ·rw[decide_eq_true g]
    have a:(x.gone&&(decide (x.br≠0)||decide (x.ba≠0)))=false:=by simp[e,g]
    clear f e g;refine au ?_;refine Ks.same kr 84 #[I J x.gate] kr (k.o w1) ?_;simp only[zD];refine kv (Bl h) ?_;cases h with
    |false=>
     (with_reducible refine ab ?_;refine ab ?_;refine ab ?_);refine kv (Bl false) ?_;refine kv (Bl false) ?_;(with_reducible refine ab ?_;refine ab ?_;refine ab ?_);refine kv (Bl false) ?_;refine kv (Bl false) ?_;(with_reducible refine ab ?_;refine ab ?_;refine ab ?_);refine kv (Bl false) ?_;refine kv (Bl false) ?_;refine kd ?_;obtain rfl:R=false:=by rw[c.o,a];rfl
     refine wp_ret ?_;repeat (refine kt ?_)
     refine bodyPost_ret (v:=Bl false) kr rfl ?_;exact⟨rfl,d.o⟩
    |true=>
     refine au ?_;refine Ks.same kr 217 #[I J x.fi] kr (i.o w1) ?_;simp only[zD];refine au ?_;cases m with
     |false=>
      (with_reducible refine ab ?_;refine ab ?_;refine ab ?_);refine kv (Bl false) ?_;refine kv (Bl false) ?_;(with_reducible refine ab ?_;refine ab ?_;refine ab ?_);refine kv (Bl false) ?_;refine kv (Bl false) ?_;refine kd ?_;obtain rfl:R=false:=by rw[c.o,a];rfl
      refine wp_ret ?_;repeat (refine kt ?_)
      refine bodyPost_ret (v:=Bl false) kr rfl ?_;exact⟨rfl,d.o⟩
     |true=>
      refine au ?_;refine Ks.same kr 56 #[I J x.br] kr (j.o w1) ?_;simp only[zD];refine au ?_;cases be with
      |false=>
       (with_reducible refine ab ?_;refine ab ?_;refine ab ?_);refine kv (Bl false) ?_;refine kv (Bl false) ?_;refine kd ?_;obtain rfl:R=false:=by rw[c.o,a];rfl
       refine wp_ret ?_;repeat (refine kt ?_)
       refine bodyPost_ret (v:=Bl false) kr rfl ?_;exact⟨rfl,d.o⟩
      |true=>
       refine au ?_;refine Ks.same kr 57 #[I J x.ba] kr (l.o w1) ?_;simp only[zD];refine kv (Bl bs) ?_;refine kv (Bl bs) ?_;refine kd ?_;obtain rfl:bs=R:=by rw[c.o,a];rfl
       refine wp_ret ?_;repeat (refine kt ?_)
       refine bodyPost_ret (v:=Bl bs) kr rfl ?_;exact⟨rfl,d.o⟩
   ·rw[decide_eq_false g]
    have a:(x.gone&&(decide (x.br≠0)||decide (x.ba≠0)))=true:=by simp[f,g]
    refine wp_cond_true rfl (wp_seq ?_);refine kX (kv (Bl false) ?_);refine kd ?_;obtain rfl:R=false:=by rw[c.o,a];rfl
    refine wp_ret ?_;repeat (refine kt ?_)
    refine bodyPost_ret (v:=Bl false) kr rfl ?_;exact⟨rfl,d.o⟩
  ·rw[decide_eq_false e]
   have a:(x.gone&&(decide (x.br≠0)||decide (x.ba≠0)))=true:=by simp[f,e]
   (with_reducible refine ab ?_;refine ab ?_;refine ab ?_);refine kg (Bl true) ?_;refine kv (Bl true) ?_;refine kd (wp_cond_true rfl ?_);refine wp_seq (kX (kv (Bl false) ?_));refine kd ?_;obtain rfl:R=false:=by rw[c.o,a];rfl
   refine wp_ret ?_;repeat (refine kt ?_)
   refine bodyPost_ret (v:=Bl false) kr rfl ?_;exact⟨rfl,d.o⟩
theorem yZ(x:It):(fF x).length=5:=rfl
def sU(p:Option Addr)(n cap k:Nat)(f:Nat->Vl):Act:={tmps:= #[.slice p n cap,f 1,Bl false,f 3,f 4,.slice p n cap,I J (n:Int),I J (k:Int),f 8,f 9,f 10,f 11,f 12,f 13,f 14,f 15,f 16,f 17,f 18,f 19,f 20,f 21,f 22,f 23,f 24,f 25,f 26,f 27,f 28,f 29],defers:=[]}
theorem Xz(w:D)(v:Vl)(l:List It)(a8:Row S w 73 5 v l.length (gi l))(hl:l.length<=1000000000):Rt 162 #[v] w (Bl (nz l)):=by
 obtain⟨p,cap,rfl,mT⟩:=Row.form a8;obtain⟨R,u⟩:=eX (nz l);rw[<-u];go_enter func162,ntmps162
 refine au ?_;refine loop (fun m a wr=>∃(k:Nat)(f:Nat->Vl),k<=l.length/\m=l.length-k/\nz (l.take k)=true/\O w.heap.size w wr/\a=sU p l.length cap k f) l.length ⟨0,fun _=>undef,aF _,rfl,by simp[nz],Below.refl _ _,rfl⟩ ?_;rintro m a wr ⟨k,f,hk,rfl,s,t,rfl⟩;have fin:∀(b:Act)(w':D)(i:Nat),k<i->i<=l.length->nz (l.take i)=true->O w.heap.size w w'->b=sU p l.length cap i (fun j=>b.tmps.getD j undef)->∃m,m<l.length-k/\∃(k:Nat)(f:Nat->Vl),k<=l.length/\m=l.length-k/\nz (l.take k)=true/\O w.heap.size w w'/\b=sU p l.length cap k f:=fun b w' i q1 q2 q3 q4 q5=>⟨l.length-i,oM,i,_,q2,rfl,q3,q4,q5⟩;unfold sU;refine au ?_;refine wp_cond_split rfl ?_ ?_
 ·intro d
  have d:k<l.length:=by have:=of_decide_eq_true d;omega
  obtain⟨g,b1,rfl,z,N⟩:=mT k d;have A:=(aL z);obtain⟨x,hx⟩:∃x,l[k]=x:=⟨_,rfl⟩;have n:l[k]? =Z x:=by rw[ae d,hx]
  have b3:wr.rangeAt g (k*5) (fF x):=mG (Row.range yZ z N n) t A;refine au ?_;refine Ks.alloc rfl _ rfl (H #[I J 0,I J 0,I J 0,I J 0,Bl false]) kr #[I J 0,I J 0,I J 0,I J 0,Bl false] rfl ?_;intro w1 b4 F E C T;simp only[zD];refine kv (I J (k:Int)) ?_;refine whole rfl _ _ _ rfl b4 (fF x).toArray rfl rfl E.o kr rfl kr ?_;intro w2 r B Q H4;have K:O wr.heap.size wr w2:=C.o.trans ((B.o (fun _=>False) wr.heap.size (oR (Nat.le_of_eq F.o.symm))).below lR fun _ _ h=>h);have q:=tR t K;have b2:=(aL r.o);have X:g<w2.heap.size:=aB A q.size;have b0:nz (l.take (k+1))=(lU x&&okLast (l.take k) x):=by rw[nd n,Co,s,Bool.true_and]
  have W:(lU x&&okLast (l.take k) x)=false->R=false:=fun V=>by rw[u];exact KA n V
  clear E C T B Q H4 K F;simp only[aD];refine kd ?_;refine Ks.cut (fun b w'=>O w.heap.size w w'/\∃f:Nat->Vl,f 28=Bl (!(lU x&&okLast (l.take k) x))/\b=sU (Z ⟨g,0,Y⟩) l.length cap k f) ?_ ?_
  ·have e:∀(b:Act)(w':D),O w2.heap.size w2 w'->b.tmps.getD 28 undef=Bl (!(lU x&&okLast (l.take k) x))->b=sU (Z ⟨g,0,Y⟩) l.length cap k (fun j=>b.tmps.getD j undef)->O w.heap.size w w'/\∃f:Nat->Vl,f 28=Bl (!(lU x&&okLast (l.take k) x))/\b=sU (Z ⟨g,0,Y⟩) l.length cap k f:=fun b w' c h1 h2=>⟨q.trans (c.mono q.size),_,h1,h2⟩
   refine lW kr kr ?_;refine Qg.row kr _ _ rfl b4 rfl _ _ _ _ r.o underlying73 rfl kr ?_;simp only[zD];refine Qg.call kr 233 #[pE x] (Bl (lU x)) (fun _=>kr) (fun w' c=>OW x w') ?_;simp only[zD];refine qv (Bl (!lU x)) ?_;refine qv (Bl (!lU x)) ?_;cases M:lU x with
   |false=>
    rw[M] at e;(with_reducible refine qn ?_;refine qn ?_;refine qn ?_;refine qn ?_;refine qn ?_;refine qn ?_;refine qn ?_;refine qn ?_;refine qn ?_;refine qn ?_;refine qn ?_;refine qn ?_);refine qv (Bl true) ?_;refine wpQuiet_nil ?_;intro w' c;refine km ?_;exact e _ w' c rfl rfl
   |true=>
    rw[M] at e;refine qv (I J (k:Int)) ?_;match k,n,d,e with
    |0,n,d,e=>
     refine qv (Bl false) ?_;refine qv (Bl false) ?_;(with_reducible refine qn ?_;refine qn ?_;refine qn ?_;refine qn ?_;refine qn ?_;refine qn ?_;refine qn ?_;refine qn ?_);refine qv (Bl false) ?_;refine qv (Bl false) ?_;refine wpQuiet_nil ?_;intro w' c;refine km ?_;exact e _ w' c rfl rfl
    |j+1,n,d,e=>
     have L:j<l.length:=oM
     obtain⟨y,hy⟩:∃y,l[j]=y:=⟨_,rfl⟩;have P:l[j]? =Z y:=by rw[ae L,hy]
     have a6:okLast (l.take (j+1)) x=decide (z2e y x):=IY P;have a7:w2.rangeAt g (j*5) (fF y):=mG (Row.range yZ z N P) q A;refine Qg.val kr (Bl true) (fun _ _=>by simp[execOp,go_sem]) ?_;simp only[zD];refine qv (Bl true) ?_;refine qv (.slice (Z ⟨g,0,Y⟩) l.length cap) ?_;refine qv (I J ((j+1:Nat):Int)) ?_;refine Qg.val kr (I J (j:Int)) (fun _ _=>by
      simp[execOp,go_sem];rw[az _ ⟨oM,oM⟩]) ?_
     simp only[zD];refine Qg.idx kr _ _ _ rfl 73 5 underlying64 kr kr g l.length cap j rfl rfl L ?_;simp only[zD];refine Qg.pj kr _ _ rfl g (j*5) rfl (fF y) X a7 underlying73 rfl kr ?_;simp only[zD];refine Qg.row kr _ _ rfl b4 rfl _ _ _ _ r.o underlying73 rfl kr ?_;simp only[zD];refine Qg.call kr 234 #[pE y,pE x] (Bl (decide (z2e y x))) (fun _=>kr) (fun w' c=>LU y x w') ?_;simp only[zD];refine qv (Bl (!decide (z2e y x))) ?_;refine qv (Bl (!decide (z2e y x))) ?_;refine qv (Bl (!decide (z2e y x))) ?_;refine wpQuiet_nil ?_;intro w' c;refine km ?_;exact e _ w' c (by rw[a6];rfl) rfl
  ·rintro b w3 ⟨G,f',U,rfl⟩
   unfold sU;rw[U];cases c:(lU x&&okLast (l.take k) x) with
   |false=>
    obtain rfl:R=false:=W c;refine wp_cond_true rfl (wp_seq ?_);refine kX (kv (Bl false) ?_);refine kd (wp_ret ?_);repeat (refine kt ?_)
    refine mB ?_;repeat (refine kt ?_)
    refine mB ?_;repeat (refine kt ?_)
    exact bodyPost_ret (v:=Bl false) kr rfl ⟨rfl,G⟩
   |true=>
    refine wp_cond_false rfl (wp_skip ?_);refine mr (kX ?_);refine Ks.val rfl (I J ((k+1:Nat):Int)) (by
     simp[execOp,go_sem];rw[az _ ⟨oM,oM⟩]) ?_
    simp only[zD];refine kv (I J ((k+1:Nat):Int)) ?_;refine kd ?_;exact fin _ w3 (k+1) oM d (by rw[b0];exact c) G rfl
 ·intro d
  obtain rfl:k=l.length:=by have:=of_decide_eq_false d;omega
  rw[aT lR] at s;obtain rfl:R=true:=by rw[u];exact s
  refine wp_exit (oF ?_);refine km (wp_seq ?_);refine kX (kv (Bl true) ?_);refine kd (wp_ret ?_);repeat (refine kt ?_)
  refine bodyPost_ret (v:=Bl true) kr rfl ?_;exact⟨rfl,t⟩
