/- Walks of the law: twice. Walks of the document's gate: heard. Walk of the document's gate: Hear. All of a slice put behind none. Walks of the law's copies: copiedNews. Walks of the law: hear. -/
import Derived.Test.YtbojijefenfbgaaGreatDoorAaIseR
open Nat renaming zero_le->aF,le_trans->ag,lt_of_lt_of_le->aB
open List renaming length_map->aS,length_filter_le->ey,mem_filter->bK,mem_map->aU,getElem?_eq_getElem->ae,mem_of_getElem?->aJ,take_of_length_le->aT,take_succ_cons->ak,take_zero->aE,drop_succ_cons->ax,drop_zero->aK,eq_nil_of_length_eq_zero->gZ
open And renaming left->fs
open Option renaming some->Z,none->Y
open Go.Value renaming int->I,pointer->X,agg->H,bool->Bl,string->sT,tuple->Tp
open Go.IntKind renaming i64->J
open Go.Obj renaming cells->Cl
open Go.Ending renaming returned->Re
open Go renaming World->D,Value->Vl
open Go.RowKit renaming Below->O
set_option maxHeartbeats 4000000
set_option maxRecDepth 100000
open Go Go.RowKit
open Go.Proofs.YtbojijefenfbgaaGreatDoor
open Ks(au box pt pure w0 lp af aq gY al nN decl zE aw ml ay)
open Gw(ga)
variable{B K N W c g i kn n sz:Nat}{F S:Nat->Prop}{Oa:Nat->Nat->Prop}{lv v:Vl}{w:D}{xs:List Vl}
namespace Go.Proofs.YtbojijefenfbgaaGreatDoor
open Tryz
namespace Gt
open Mp Bk
theorem mP.cut{l:List (Tw×Vl)}(h:mP S w v l):mP (fun b=>S b/\b<w.heap.size) w v l:=⟨⟨⟨h.row.1,fun b a=>⟨h.row.2 b a,h.row.lt b a⟩⟩,fun p c=>⟨(h.more p c).1,fun b a=>⟨(h.more p c).2 b a,(h.more p c).lt b a⟩⟩⟩,h.apart⟩
theorem mP.frame{U:Nat->Prop}{w':D}{l:List (Tw×Vl)}(h:mP S w v l)(e:Fr U w.heap.size w w')(d:∀b,S b->¬U b):mP S w' v l:=⟨⟨h.row.congr fun b a=>e.block b (h.row.lt b a) (d b (h.row.2 b a)),fun p c=>(h.more p c).congr fun b a=>e.block b ((h.more p c).lt b a) (d b ((h.more p c).2 b a))⟩,h.apart⟩
theorem JP:∀(t:List Tw)(L:List (Int×Int)),t.Pairwise (fun a b=>Lt2 a.pass b.pass)->(∀e∈t,e.pass∈L)->t.length<=L.length
 |[],_,_,_=>aF _
 |a::r,L,h,f=>by
  have h1:=List.pairwise_cons.1 h;have c:=f a (List.mem_cons_self ..);have h2:=JP r (L.erase a.pass) h1.2 fun e d=>(List.mem_erase_of_ne fun x=>by
   have:=h1.1 e d;rw[x] at this;exact Lt2.irrefl this).2 (f e (List.mem_cons_of_mem _ d))
  rw[List.length_erase_of_mem c] at h2;have:=List.length_pos_of_mem c;rw[List.length_cons];omega
theorem GV{s:St}(b:Inv s){l:List (Tw×Vl)}(h:sH s.l (l.map Prod.fst)):l.length<=16000/\∀p∈l,p.1.gates.length<=16000:=by
 have i:=b.kB;have d:∀q,(kY s.l q).length<=s.l.length:=fun q=>by
  unfold kY;rw[aS];exact ag (ey ..) (ey ..)
 refine⟨?_,fun p f=> ?_⟩
 ·have h1:=JP (l.map Prod.fst) (s.l.map It.pass) h.g' fun e c=>by
   obtain⟨h2,h3⟩:=(h.mem e).1 c;rw[h2] at h3;unfold kY at h3;rw[aS] at h3;obtain⟨x,g⟩:=List.exists_mem_of_length_pos (aB oM h3);have a:=bK.1 g;exact aU.2 ⟨x,(bK.1 a.1).1,by simpa using a.2⟩
  rw[aS,aS] at h1;omega
 ·obtain⟨h2,h3⟩:=(h.mem p.1).1 (List.mem_map_of_mem f)
  have:=d p.1.pass;rw[h2];omega
theorem GX{ps:List Pr}{ks:List lS}(h:ij Oa N w W B K c ps n lv ks){p:Pr}(hp:ps[i]? =Z p)(he:p.s=p.t)(hc:c<=5790000000000):
  Calls prog 68 #[X (Z ⟨W,0,Y⟩),H (lP p).toArray] w fun e w'=>e=Re (Bl true)/\(∃O',ij O' N w' W B K (c+130000) ps n lv ks)/\O N w w':=by
 obtain⟨b0,b1,D,h5⟩:=h.gates i p hp;have Ho:Hq (ij Oa N w W B K c ps n lv ks):=h;have HX:Hq (gg (fun b=>Oa b (5+2*i)) w p.x p.s):=b0;have HY:Hq (jh (fun b=>Oa b (6+2*i)) w p.y p.t K):=b1;have h9:=h.wN;have P:∀b j,Oa b j->b<w.heap.size:=fun b j f=>(h.lt b j f).2;clear h b0 b1;go_enter func68,ntmps68
 refine au ?_;refine box rfl _ _ rfl (lP p).toArray rfl ?_;intro w1 bp h4 a6 z e7;clear h4 e7;simp only[zD];refine au ?_;refine Ks.call rfl 33 #[pt p.x 0] kr (JB (HX.o.below z.o) D) ?_;rintro v1 w3 ⟨⟨u,e1,b2⟩,E⟩;have T:=tR z E;have a7:=ca E a6;have k:=b2.cut;have z1:=z.o.size;have z3:=E.size;clear a6 z b2 E;simp only[zD];refine au ?_;refine Ks.call rfl 33 #[pt p.x 0] kr (JB (HX.o.below T) D) ?_;rintro v2 w5 ⟨⟨V,e2,b8⟩,l⟩;have U:=tR T l;have e6:=ca l a7;have b3:=k.below l;have c0:=b8.cut;have z5:=l.size;clear a7 k b8 l T;simp only[zD];refine au ?_;refine Ks.call rfl 138 #[pt p.y 0] kr (OP (HY.o.below U) h5) ?_;rintro v3 w7 ⟨⟨l3,G,k⟩,m⟩;have c9:=tR U m;have Q:=b3.below m;have c4:=c0.below m;have z6:=m.size;clear e6 b3 c0 m U;simp only[zD];rw[<-he] at G;obtain⟨n1,m1⟩:=GV D e1;obtain⟨n2,m2⟩:=GV D e2;refine au ?_;refine pure (w0 rfl) 139 _ kr (Kn w7 _ _ u l3 Q.tonu k (e1.eq G) oM fun q a=>by have:=m1 q a;omega) ?_;intro w8 g;have e4:=tR c9 g;have b6:=Q.below g;have R:=c4.below g;have c8:=k.below g;have z7:=g.size;clear Q c4 k g c9;simp only[zD];refine au ?_;refine pure (w0 rfl) 139 _ kr (Kn w8 _ _ V l3 R.tonu c8 (e2.eq G) oM fun q a=>by have:=m2 q a;omega) ?_;intro wa r;have e5:=tR e4 r;have b7:=b6.below r;have c6:=R.below r;have A:Hq (ij Oa N wa W B K c ps n lv ks):=Ho.o.below e5;have e9:Hq (wa.heap[W]? =_):=A.o.world;have za:=r.size;clear b6 R c8 r e4;simp only[zD];refine au ?_;refine Ks.call rfl 140 _ kr (A.o.sJ (S:=fun b=>w1.heap.size<=b/\b<w3.heap.size) (c':=c+4*u.length+4) (fun b f=>⟨oM,fun j M=>by have:=P b j M;omega⟩) fun C d I J=>Kk I _ u b7 J oM (fun q a=>by have:=m1 q a;omega) oM) ?_;rintro _ wc ⟨⟨O1,h1,h8⟩,L⟩;have c7:=c6.frame L fun b f x=>x.elim (fun x=>by have:=P b 2 x;omega) fun x=>oM
 have F:Hq (ij O1 N wc W B K (c+4*u.length+4) ps n lv ks):=h1;have h0:Hq (wc.heap[W]? =_):=h1.world;have h6:=(e5.mono h9).trans (A.o.kx (fun b f=>oM) L);clear h1 b7 c6 L A e9;simp only[zD];refine au ?_;refine Ks.call rfl 140 _ kr (F.o.sJ (S:=fun b=>w3.heap.size<=b/\b<w5.heap.size) (c':=c+4*u.length+4+4*V.length+4) (fun b f=>⟨oM,fun j M=>by
  rcases h8 b j M with x|x|x
  ·have:=P b j x
   omega
  ·omega
  ·omega⟩) fun C d I J=>Kk I _ V c7 J oM (fun q a=>by have:=m2 q a;omega) oM) ?_
 rintro _ wd ⟨⟨O2,h2,j0⟩,a8⟩;have h7:=h6.trans (F.o.kx (fun b f=>oM) a8);clear F c7 a8 h0;simp only[zD];refine au ?_;refine bodyPost_ret (v:=Bl true) kr rfl ?_;exact⟨rfl,⟨O2,h2.nL oM⟩,h7⟩
end Gt
namespace Gt
open Mp Bk Tk
theorem Rk{s:St}(h:jh S w g s kn)(x:It)(hn:s.l.length<=100000):Rt 254 #[X (Z ⟨g,0,Y⟩),lO x] w (Bl (decide (x.key∈s.l.map It.key))):=by
 obtain⟨hS,lv,u,D⟩:=h;obtain⟨p,cap,rfl,C⟩:=Row.form D;have G:Hq (w.heap[g]? =Z (Cl (lF s (.slice p s.l.length cap) kn) 225 (0,0))):=u;have H:Hq (∀k,k<s.l.length->∃g r,p=Z ⟨g,0,Y⟩/\w.heap[g]? =Z (Cl r 73 (0,0))/\r.toList.take (s.l.length*5)=gi s.l):=C;have N:=(aL u);clear u D C;unfold lO;go_enter func254,ntmps254
 refine au ?_;refine box rfl _ _ rfl (fF x).toArray rfl ?_;intro w1 L W K F U;simp only[zD];refine au ?_;refine lp 39 (fun i:Nat=>[(0,pt g 0),(3,pt L 0),(4,Bl false),(5,I J (i:Int))]) (fun m i wr=>i<=s.l.length/\m=s.l.length-i/\(∀z∈s.l.take i,z.key≠x.key)/\O w1.heap.size w1 wr) s.l.length 0 ⟨aF _,rfl,fun q Q=>by simp at Q,Below.refl _ _⟩ ?_;rintro m i wr f ⟨hi,rfl,A,c⟩;have V:=ca c K;have d:=tR F c;have R:Hq (wr.heap[g]? =_):=(d.block g N).trans G.o;refine af ?_;refine wp_cond_split rfl ?_ ?_
 ·intro a
  have a:i<s.l.length:=by have:=of_decide_eq_true a;omega
  obtain⟨y,B⟩:∃y,s.l[i]? =Z y:=⟨_,ae a⟩;obtain⟨M,r,rfl,t,n⟩:=H.o i a;have T:Hq (wr.rangeAt M (i*5) (fF y)):=lX (Row.range qD t n B) d (aL t);clear t n;have n:s.l.take (i+1)=s.l.take i++[y]:=nd B;have E:y.key≠x.key->∀z∈s.l.take (i+1),z.key≠x.key:=fun h z b=>by
   rw[n] at b;rcases List.mem_append.1 b with b|b
   ·exact A z b
   ·obtain rfl:=List.mem_singleton.1 b
    exact h
  refine au ?_;refine Qt.lW kr kr ?_;refine aq ?_;by_cases h1:y.gate=x.gate
  ·rw[decide_eq_true h1]
   refine aq ?_;intro w5 j;refine au ?_;refine wp_cond_split rfl ?_ ?_
   ·intro h2
    have h2:=of_decide_eq_true h2;refine au ?_;refine bodyPost_ret (v:=Bl true) kr rfl ?_;exact⟨by rw[decide_eq_true (aU.2 ⟨y,aJ B,Prod.ext h1 h2⟩)],d.trans (j.mono d.size)⟩
   ·intro h2
    have h2:=of_decide_eq_false h2;refine au ?_;exact⟨s.l.length-(i+1),i+1,oM,gY kr,a,rfl,E (fun e=>h2 (congrArg Prod.snd e)),c.trans (j.mono c.size)⟩
  ·rw[decide_eq_false h1]
   refine aq ?_;intro w5 j;refine au ?_;exact⟨s.l.length-(i+1),i+1,oM,gY kr,a,rfl,E (fun e=>h1 (congrArg Prod.fst e)),c.trans (j.mono c.size)⟩
 ·intro a
  obtain rfl:i=s.l.length:=by have:=of_decide_eq_false a;omega
  refine au ?_;refine bodyPost_ret (v:=Bl false) kr rfl ?_;refine⟨?_,d⟩;rw[aT lR] at A;rw[decide_eq_false];intro P;obtain⟨z,b,e⟩:=aU.1 P;exact A z b e
theorem Sl.kl{cap:Nat}{p:Option Addr}(h:Sl F w sz (.slice p n cap) n xs)(d:0<n):∃b off,p=Z ⟨b,off,Y⟩/\F b/\b<w.heap.size:=by
 obtain⟨_,q,c,e,h⟩:=h;injection e with a _ _
 subst a;obtain⟨b,off,h1,h2,h3,_⟩:=h d;exact⟨b,off,h1,h2,h3⟩
theorem W9{s:St}{l:List It}{x:It}(h:l[i]? =Z x)(a:(lU x&&okLast (l.take i) x&&mD s x)=false):oh s l=false:=by
 unfold oh;rw[Bool.and_eq_false_iff] at a⊢;rcases a with a|a
 ·exact oL (KA h a)
 ·exact oR (List.all_eq_false.2 ⟨x,aJ h,by rw[a];decide⟩)
theorem Xb{s:St}{l:List It}{x:It}(h:l[i]? =Z x)(h1:oh s (l.take i)=true)(a:(lU x&&okLast (l.take i) x&&mD s x)=true):oh s (l.take (i+1))=true:=by
 rw[nd h];unfold oh at*;rw[Co,List.all_append];simp only[Bool.and_eq_true,List.all_cons,List.all_nil] at*;exact⟨⟨h1.1,a.1⟩,h1.2,a.2,trivial⟩
theorem qA(x:It):lU x=(gx 0 x.gate 15&&gx 1 x.fi 1000&&gx 0 x.br 65535&&gx 0 x.ba 4294967295&& !(x.gone&&decide (x.br≠0\/x.ba≠0))):=by
 unfold lU;simp only[sx]
theorem Nl{u:Nat->Prop}{s:St}{ks:List lS}(h:jh S w g s kn)(hK:jV ga u w kn ks)(hd:∀j,S j->¬u j)(hI:Inv s)(hn:ks.length<=10000000000)(o:List UInt8)(hv:Vl)(l:List It)(hs:Sl F w 5 hv l.length (gi l))(hF:∀b,F b->¬S b/\¬u b)(y0:l.length<=1000000000):
  Calls prog 212 #[X (Z ⟨g,0,Y⟩),H #[str o,hv]] w fun e w'=>e=Re (I J (lf ga s o l).1)/\Left S u w w' g kn (lf ga s o l).2 (ks.length+1):=by
 have l4:Hq (jh (fun k=>S k/\k<w.heap.size) w g s kn):=h.cut lR;have l1:Hq (jV ga (fun k=>u k/\k<w.heap.size) w kn ks):=hK.cut lR;obtain⟨p,cap,rfl,hp⟩:=hs.form qD;have p8:Hq (Sl F w 5 (.slice p l.length cap) l.length (gi l)):=hs;have HP:Hq (∀i x,l[i]? =Z x->∃b off,p=Z ⟨b,off,Y⟩/\b<w.heap.size/\w.rangeAt b (off+i*5) (fF x)):=hp;have ret:Hq (∀(c:Int)(w':D),O w.heap.size w w'->lf ga s o l=(c,s)->Ending.returned (I J c)=Re (I J (lf ga s o l).1)/\Left S u w w' g kn (lf ga s o l).2 (ks.length+1)):=fun c w' hb e=>by
  rw[e];exact⟨rfl,S,u,ks,fun j a=>oL a,fun j a=>oL a,hd,oM,h.below hb,hK.below hb,Fr.kq hb lR⟩
 have u0:=h.lt;obtain⟨_,lv,hg,_⟩:=h;have p6:Hq (w.heap[g]? =Z (Cl (lF s lv kn) 225 (0,0))):=hg;have HI:Hq (Inv s):=hI;clear hs hp hK hg hI;go_enter func212,ntmps212
 refine au ?_;refine box rfl _ _ rfl #[str o,.slice p l.length cap] rfl ?_;intro w1 E l5 l2 p5 q6;have x6:¬E<w.heap.size:=by have:=l5.o;omega
 clear l5 q6;simp only[zD];refine al ?_;have e6:∀wr,O w1.heap.size w1 wr->Hq (wr.heap[E]? =Z (Cl #[str o,.slice p l.length cap] 66 (0,0)))/\Hq (wr.heap[g]? =Z (Cl (lF s lv kn) 225 (0,0)))/\O w.heap.size w wr:=fun wr hB=>by
  have t:=tR p5 hB;exact⟨(hB.block _ (aL l2.o)).trans l2.o,(t.block g u0).trans p6.o,t⟩
 refine Ks.cut (fun U w'=>O w1.heap.size w1 w'/\oh s l=true/\nN 163 [(0,pt g 0),(3,pt E 0)] U) ?_ ?_
 ·refine au ?_
  refine lp 163 (fun i:Nat=>[(0,pt g 0),(3,pt E 0),(5,I J (i:Int))]) (fun m i wr=>i<=l.length/\m=l.length-i/\oh s (l.take i)=true/\O w1.heap.size w1 wr) l.length 0 ⟨aF _,rfl,rfl,Below.refl _ _⟩ ?_;rintro m i wr f ⟨hi,rfl,a6,hB⟩;obtain⟨P,HG,t⟩:=e6 wr hB;refine af ?_;refine wp_cond_split rfl ?_ ?_
  ·intro K
   have K:i<l.length:=by have:=of_decide_eq_true K;omega
   obtain⟨x,n⟩:∃y,l[i]? =Z y:=⟨_,ae K⟩;obtain⟨gb,off,rfl,j1,hr⟩:=HP.o i x n;have HR:Hq (wr.rangeAt gb (off+i*5) (fF x)):=lX hr t j1;refine au ?_;refine decl rfl _ rfl (H #[I J 0,I J 0,I J 0,I J 0,Bl false]) kr rfl _ _ rfl (fF x).toArray (fun _=>rfl) (fun _=>rfl) kr rfl (by simp[fF,Value.oneCell']) ?_;intro w2 b6 q7 b8 l0;have a7:=tR hB l0;clear P HG t HR q7 l0 hB;obtain⟨P,HG,t⟩:=e6 w2 a7;simp only[zD];refine au ?_;refine Ks.same (w0 rfl) 60 #[I J x.gate,I J 0,I J 15] kr (qQ 0 x.gate 15 _) ?_;simp only[zD];refine au ?_;refine Ks.same (w0 rfl) 60 #[I J x.fi,I J 1,I J 1000] kr (qQ 1 x.fi 1000 _) ?_;simp only[zD];refine au ?_;refine Ks.same (w0 rfl) 60 #[I J x.br,I J 0,I J 65535] kr (qQ 0 x.br 65535 _) ?_;simp only[zD];refine au ?_;refine Ks.same (w0 rfl) 60 #[I J x.ba,I J 0,I J 4294967295] kr (qQ 0 x.ba 4294967295 _) ?_;simp only[zD];obtain⟨A,hA⟩:=eX (gx 0 x.gate 15);obtain⟨B,b1⟩:=eX (gx 1 x.fi 1000);obtain⟨C,hC⟩:=eX (gx 0 x.br 65535);obtain⟨Da,hD⟩:=eX (gx 0 x.ba 4294967295);rw[<-hA,<-b1,<-hC,<-hD];refine al ?_;refine Ks.cut (fun U w'=>O w1.heap.size w1 w'/\w'.heap[b6]? =Z (Cl (fF x).toArray 73 (0,0))/\nN 163 [(0,pt g 0),(3,pt E 0),(5,I J (i:Int)),(6,pt b6 0),(7,Bl A),(8,Bl B),(9,Bl C),(10,Bl Da),(11,Bl (okLast (l.take i) x))] U) ?_ ?_
   ·refine Qt.lW kr kr ?_
    refine aq ?_;cases i with
    |zero=>
     refine aq ?_;intro w3 b2;refine km ?_;exact⟨a7.trans (b2.mono a7.size),(b2.block _ (aL b8.o)).trans b8.o,gY kr⟩
    |succ j=>
     obtain⟨z,hz⟩:∃y,l[j]? =Z y:=⟨_,ae oM⟩;obtain⟨q9,x1,e,s9,u5⟩:=HP.o j z hz;injection e with e
     injection e with e1 e2
     subst e1;subst e2;have HR:Hq (w2.rangeAt gb (off+j*5) (fF z)):=lX u5 t s9;rw[decide_eq_false (show¬((j+1:Nat):Int)=0 by omega),IY hz];refine aq ?_;refine Ks.WQ.mk (Qg.val (Ks.w1 rfl rfl (by simp only[zE])) (I J (j:Int)) (fun w' _=>by
      simp[execOp,go_sem];rw[IntWalk.i64_in _ ⟨oM,oM⟩]) ?_)
     simp only[zD];refine aq ?_;refine Ks.WQ.mk (Qg.call (Ks.w1 rfl rfl (by simp only[zE])) 251 #[lO z,lO x] (Bl (decide (z2e z x))) (fun _=>kr) (fun w' _=>FU z x w') ?_);simp only[zD];refine aq ?_;intro w3 b2;refine km ?_;exact⟨a7.trans (b2.mono a7.size),(b2.block _ (aL b8.o)).trans b8.o,gY kr⟩
   ·clear P HG t b8
    rintro a3 w3 ⟨h7,o4,h0⟩;obtain⟨f3,rfl⟩:=h0.ex;obtain⟨P,HG,v8⟩:=e6 w3 h7;have HX:Hq (w3.heap[b6]? =Z (Cl (fF x).toArray 73 (0,0))):=o4;clear o4;have V:∀w4,O w3.heap.size w3 w4->(lU x&&okLast (l.take i) x&&mD s x)=false->Ending.returned (I J 4)=Re (I J (lf ga s o l).1)/\Left S u w w4 g kn (lf ga s o l).2 (ks.length+1):=fun w4 hb h=>ret.o 4 w4 (tR v8 hb) (by unfold lf;rw[if_pos (W9 n h)]);have e7:∀U w4,O w3.heap.size w3 w4->nN 163 [(0,pt g 0),(3,pt E 0),(5,I J ((i+1:Nat):Int))] U->(lU x&&okLast (l.take i) x&&mD s x)=true->∃m' q,m'<l.length-i/\nN 163 [(0,pt g 0),(3,pt E 0),(5,I J ((q:Nat):Int))] U/\q<=l.length/\m'=l.length-q/\oh s (l.take q)=true/\O w1.heap.size w1 w4:=fun U w4 hb h1 h2=>⟨l.length-(i+1),i+1,oM,h1,K,rfl,Xb n a6 h2,h7.trans (hb.mono h7.size)⟩;obtain⟨L,hL⟩:=eX (okLast (l.take i) x);rw[<-hL];refine af ?_;refine Qt.lW kr kr ?_;refine aq ?_;cases A with
    |false=>
     refine aq ?_;intro w4 d;refine au ?_;refine bodyPost_ret (v:=I J 4) kr rfl ?_;exact V w4 d (by simp[qA,<-hA])
    |true=>
    refine aq ?_;cases B with
    |false=>
     refine aq ?_;intro w4 d;refine au ?_;refine bodyPost_ret (v:=I J 4) kr rfl ?_;exact V w4 d (by simp[qA,<-b1])
    |true=>
    refine aq ?_;cases C with
    |false=>
     refine aq ?_;intro w4 d;refine au ?_;refine bodyPost_ret (v:=I J 4) kr rfl ?_;exact V w4 d (by simp[qA,<-hC])
    |true=>
    refine aq ?_;cases Da with
    |false=>
     refine aq ?_;intro w4 d;refine au ?_;refine bodyPost_ret (v:=I J 4) kr rfl ?_;exact V w4 d (by simp[qA,<-hD])
    |true=>
    refine aq ?_;cases L with
    |false=>
     refine aq ?_;intro w4 d;refine au ?_;refine bodyPost_ret (v:=I J 4) kr rfl ?_;exact V w4 d (by simp[qA,<-hL])
    |true=>
    refine aq ?_;cases h4:x.gone with
    |false=>
     refine aq ?_;by_cases M:x.gate=s.number
     ·rw[decide_eq_true M]
      refine aq ?_;by_cases N:s.own<x.fi
      ·rw[decide_eq_true N]
       refine aq ?_;intro w4 d;refine au ?_;refine bodyPost_ret (v:=I J 4) kr rfl ?_;exact V w4 d (by simp[mD,M,N])
      ·rw[decide_eq_false N]
       refine aq ?_;intro w4 d;refine au ?_;exact e7 _ w4 d (gY kr) (by simp[qA,<-hA,<-b1,<-hC,<-hD,<-hL,mD,N,h4])
     ·rw[decide_eq_false M]
      refine aq ?_;intro w4 d;refine au ?_;exact e7 _ w4 d (gY kr) (by simp[qA,<-hA,<-b1,<-hC,<-hD,<-hL,mD,M,h4])
    |true=>
     refine aq ?_;by_cases c7:x.br=0
     ·rw[decide_eq_true c7]
      refine aq ?_;by_cases c9:x.ba=0
      ·rw[decide_eq_true c9]
       refine aq ?_;by_cases M:x.gate=s.number
       ·rw[decide_eq_true M]
        refine aq ?_;by_cases N:s.own<x.fi
        ·rw[decide_eq_true N]
         refine aq ?_;intro w4 d;refine au ?_;refine bodyPost_ret (v:=I J 4) kr rfl ?_;exact V w4 d (by simp[mD,M,N])
        ·rw[decide_eq_false N]
         refine aq ?_;intro w4 d;refine au ?_;exact e7 _ w4 d (gY kr) (by rw[qA,<-hA,<-b1,<-hC,<-hD,<-hL];simp[mD,N,c7,c9])
       ·rw[decide_eq_false M]
        refine aq ?_;intro w4 d;refine au ?_;exact e7 _ w4 d (gY kr) (by rw[qA,<-hA,<-b1,<-hC,<-hD,<-hL];simp[mD,M,c7,c9])
      ·rw[decide_eq_false c9]
       refine aq ?_;intro w4 d;refine au ?_;refine bodyPost_ret (v:=I J 4) kr rfl ?_;exact V w4 d (by simp[qA,h4,c9])
     ·rw[decide_eq_false c7]
      refine aq ?_;intro w4 d;refine au ?_;refine bodyPost_ret (v:=I J 4) kr rfl ?_;exact V w4 d (by simp[qA,h4,c7])
  ·intro K
   obtain rfl:i=l.length:=by have:=of_decide_eq_false K;omega
   rw[aT lR] at a6;refine au ?_;exact⟨hB,a6,gY kr⟩
 ·rintro a2 w2 ⟨a7,a6,s4⟩
  obtain⟨f2,rfl⟩:=s4.ex;have b2:w.heap.size<=E:=oM
  obtain⟨P,HG,t⟩:=e6 w2 a7;have h8:=(aL P.o);have j0:∀q,(if o=[] then q=s else(ki ga s o).1≠4/\(ki ga s o).1≠5/\q=(ki ga s o).2)->lf ga s o l=(0,l.foldl mg q):=fun q h=>by
   unfold lf;rw[if_neg (by rw[a6];decide)];by_cases ho:o=[]
   ·rw[if_pos ho] at h⊢
    rw[h]
   ·rw[if_neg ho] at h⊢
    rw[if_neg (by rintro(x|x);exact h.1 x;exact h.2.1 x),h.2.2]
  refine Ks.cut (fun U w'=>∃q Q b0 ks',lf ga s o l=(0,l.foldl mg q)/\Inv q/\q.number=s.number/\q.own=s.own/\(∀j,Q j->(S j/\j<w.heap.size)\/w2.heap.size<=j)/\(∀j,b0 j->(u j/\j<w.heap.size)\/w2.heap.size<=j)/\(∀j,Q j->¬b0 j)/\ks'.length<=ks.length+2/\jh Q w' g q kn/\jV ga b0 w' kn ks'/\Fr (fun j=>(S j/\j<w.heap.size)\/(u j/\j<w.heap.size)) w2.heap.size w2 w'/\nN 163 [(0,pt g 0),(3,pt E 0)] U) ?_ ?_
  ·cases o with
   |nil=>
    refine af ?_;refine kv (Bl false) ?_;refine au ?_;exact⟨s,_,_,ks,j0 s (if_pos rfl▸rfl),HI.o,rfl,rfl,fun j a=>oL a,fun j a=>oL a,fun j a G=>hd j a.1 G.1,oM,l4.o.below t,l1.o.below t,Fr.refl _ _ _,gY kr⟩
   |cons c0 r=>
    refine af ?_;refine Ks.val rfl (Bl true) (by simp[execOp,go_sem,str]) ?_;simp only[zD];obtain⟨o,ho⟩:=eX (c0::r);rw[<-ho] at P j0 ret⊢;have j2:o≠ []:=by rw[ho];simp
    have four:(o.length≠67\/o.head? ≠Z 67)->lf ga s o l=(4,s):=fun h=>by
     have e:ki ga s o=(4,s):=if_pos h;unfold lf;rw[if_neg (by rw[a6];decide),if_neg j2,if_pos (oL (by rw[e])),e]
    refine au ?_;refine kv (I J (o.length:Int)) ?_;refine aw ?_;by_cases p0:o.length=67
    ·rw[decide_eq_true (show(o.length:Int)=67 by omega)]
     refine au ?_;refine wE (Ks.w1 rfl rfl (by simp only[zE];rfl)) _ _ rfl o 0 oM rfl rfl ?_;simp only[zD];have o9:o.head? =Z (o[0]'oM):=by rw[List.head?_eq_getElem?,ae]
     by_cases e9:(o[0]'oM).toNat=67
     ·have hh:o.head? =Z 67:=by rw[o9];exact congrArg Z (UInt8.toNat_inj.1 e9)
      refine ml (Ks.w1 rfl rfl (by simp only[zE];rfl)) (Bl false) (by simp[execOp,go_sem,e9]) ?_;simp only[zD];refine au ?_;refine Qt.im 14 kr kr ?_;simp only[ak,aE];refine ay ?_;refine wO rfl _ _ rfl o 3 oM rfl rfl ?_;simp only[zD];refine ay ?_;refine wP rfl _ _ rfl o 3 oM rfl rfl ?_;simp only[zD];refine Qt.gh ?_;simp only[ax,aK];intro w4 d;obtain⟨R,hR⟩:=eX (ga s.key (o.take 3) (o.drop 3));have o6:ki ga s o=if R=false then(5,s) else if gX o<=s.floor then(6,s) else(0,s.raised o):=by
       unfold ki;rw[if_neg (by simp[p0,hh]),<-hR]
      refine Ks.call rfl 203 #[X (Z ⟨kn,0,Y⟩),str s.key,str (o.take 3),str (o.drop 3)] kr (R:=fun v w'=>v=Bl R/\(∃ks',ks'.length<=ks.length+1/\jV ga (fun j=>(u j/\j<w.heap.size)\/w4.heap.size<=j) w' kn ks')/\Fr (fun j=>u j/\j<w.heap.size) w4.heap.size w4 w') (by rw[hR];exact B4 ((l1.o.below t).below d) s.key (o.take 3) (o.drop 3) (by rw[List.length_take];omega) oM) ?_;rintro v w5 ⟨rfl,⟨p4,x9,l9⟩,W⟩;have u9:=t.size;have p3:=d.size;have y1:=W.size;have n9:jh (fun k=>S k/\k<w.heap.size) w5 g s kn:=((l4.o.below t).below d).congr (fun _ h=>h) fun k G hl=>W.block k hl fun n=>hd k G.1 n.1;have x5:Hq (w5.heap[E]? =_):=(W.block E (aB h8 p3) (fun n=>oM)).trans ((d.block E h8).trans P.o);have o8:∀j,S j/\j<w.heap.size->¬((u j/\j<w.heap.size)\/w4.heap.size<=j):=fun j a G=>G.elim (fun x=>hd j a.1 x.1) (fun x=>oM);have l6:Fr (fun j=>(S j/\j<w.heap.size)\/(u j/\j<w.heap.size)) w2.heap.size w2 w5:=(Fr.kq d lR).trans (W.mono p3 fun k _ n=>oR n);clear HG;simp only[zD];refine aw ?_;cases R with
      |false=>
       refine au ?_;refine bodyPost_ret (v:=I J 5) kr rfl ?_;have e:lf ga s o l=(5,s):=by
        unfold lf;rw[if_neg (by rw[a6];decide),if_neg j2,o6,if_pos rfl];simp
       rw[e];exact⟨rfl,_,_,p4,fun j a=>oL a.1,fun j a=>a.imp fs fun x=>oM,o8,oM,n9,l9,(Fr.kq t lR).trans (l6.mono u9 fun k _ n=>n.imp fs fs)⟩
      |true=>
       refine au ?_;refine Ks.call rfl 132 #[X (Z ⟨g,0,Y⟩),sT ⟨o.toArray⟩] kr (R:=fun v w'=>Left (fun k=>S k/\k<w.heap.size) (fun j=>(u j/\j<w.heap.size)\/w4.heap.size<=j) w5 w' g kn (mw s o).2 p4.length) ((Ga n9 l9 o8 HI.o oM o).mono fun e w' h=>⟨_,h.1,h.2⟩) ?_;rintro v w6 ⟨S6,q8,w9,e1,e2,e3,e4,s8,r8,c8⟩;simp only[zD];refine au ?_;have hc:(ki ga s o).1≠4/\(ki ga s o).1≠5/\(ki ga s o).2.number=s.number/\(ki ga s o).2.own=s.own:=by
        rw[o6,if_neg dc];split<;>exact⟨sP,sP,rfl,rfl⟩
       refine⟨(ki ga s o).2,S6,q8,w9,j0 _ (by rw[if_neg j2];exact⟨hc.1,hc.2.1,rfl⟩),HI.o.ki _ o,hc.2.2.1,hc.2.2.2,fun j a=> ?_,fun j a=> ?_,e3,oM,s8,r8,l6.trans (c8.mono oM fun k G n=>n.imp id fun y=>y.elim id fun z=>absurd G oM),gY kr⟩
       ·exact(e1 j a).imp id fun x=>oM
       ·rcases e2 j a with(x|x)|x
        ·exact oL x
        ·exact oR oM
        ·exact oR oM
     ·refine ml (Ks.w1 rfl rfl (by simp only[zE];rfl)) (Bl true) (by simp[execOp,go_sem];exact fun h=>e9 oM) ?_
      simp only[zD];refine au ?_;refine bodyPost_ret (v:=I J 4) kr rfl ?_;refine ret.o 4 w2 t (four (oR fun h=>e9 ?_));rw[o9] at h;injection h with h
      rw[h];rfl
    ·rw[decide_eq_false (show¬(o.length:Int)=67 by omega)]
     refine au ?_;refine bodyPost_ret (v:=I J 4) kr rfl ?_;exact ret.o 4 w2 t (four (oL p0))
  ·rintro a3 w3 ⟨q,Q,b0,ks',u6,r6,M,N,h9,r7,o7,x8,n5,l8,h0,s6⟩
   obtain⟨f3,rfl⟩:=s6.ex;have p9:Hq (jh Q w3 g q kn):=n5;have p7:Hq (jV ga b0 w3 kn ks'):=l8;have n0:w3.heap[E]? =_:=(h0.block E h8 (fun n=>oM)).trans P.o;have u4:∀i,Inv ((l.take i).foldl mg q):=fun i=>r6.takes fun x n=>by rw[M,N];exact yQ a6 x (List.mem_of_mem_take n)
   have s0:∀j,Q j->j<w3.heap.size->j≠E:=fun j a _ e=>by rcases h9 j a with x|x<;>omega
   have j9:Fr (fun j=>S j\/u j) w.heap.size w w3:=(Fr.kq t lR).trans (h0.mono t.size fun k G n=>n.imp fs fs);clear n5 l8;refine af ?_;refine lp 163 (fun i:Nat=>[(0,pt g 0),(3,pt E 0),(13,I J (i:Int))]) (fun m i wr=>i<=l.length/\m=l.length-i/\∃T,(∀j,T j->(Q j/\j<w3.heap.size)\/w3.heap.size<=j)/\jh T wr g ((l.take i).foldl mg q) kn/\Fr (fun j=>Q j/\j<w3.heap.size) w3.heap.size w3 wr) l.length 0 ⟨aF _,rfl,_,fun j a=>oL a,p9.o.cut lR,Fr.refl _ _ _⟩ ?_;rintro m i wr f4 ⟨hi,rfl,T,c4,o0,b7⟩;have a8:Hq (jh T wr g ((l.take i).foldl mg q) kn):=o0;have l3:Hq (wr.heap[E]? =_):=(b7.block E (aL n0) (fun n=>s0 E n.1 n.2 rfl)).trans n0;have e5:Fr (fun j=>S j\/u j) w.heap.size w wr:=j9.trans (b7.mono j9.size fun k G n=>(h9 k n.1).elim (fun y=>oL y.1) (fun y=>absurd G (by have:=t.size;omega)));clear o0;refine af ?_;refine wp_cond_split rfl ?_ ?_
   ·intro K
    have K:i<l.length:=by have:=of_decide_eq_true K;omega
    obtain⟨x,n⟩:∃y,l[i]? =Z y:=⟨_,ae K⟩;obtain⟨gb,off,rfl,j1,hr⟩:=HP.o i x n;obtain⟨q9,x1,e,r5,_⟩:=p8.o.kl oM;injection e with e
    injection e with e1 _
    subst e1;have p1:=hF gb r5;have p2:∀w',Fr (fun j=>S j\/u j) w.heap.size w w'->Hq (w'.rangeAt gb (off+i*5) (fF x)):=fun w' hf j v hv=>by
     rw[World.cell?_of_block (w:=w) (by exact hf.block gb j1 (fun n=>n.elim p1.1 p1.2))];exact hr j v hv
    have q5:=p2 wr e5;have j5:(l.take (i+1)).foldl mg q=mg ((l.take i).foldl mg q) x:=by rw[nd n,List.foldl_append];rfl
    have l7:=u4 i;obtain⟨t0,v7⟩:=eX ((l.take i).foldl mg q);rw[<-v7] at a8 l7 j5;have x7:=l7.kB;refine au ?_;refine pure (w0 rfl) 254 #[X (Z ⟨g,0,Y⟩),lO x] kr (Rk a8.o x oM) ?_;intro w5 c6;have h6:Hq (jh T w5 g t0 kn):=a8.o.below c6;have W:Fr (fun j=>Q j/\j<w3.heap.size) w3.heap.size w3 w5:=b7.calls c6 b7.size;have w8:Fr (fun j=>S j\/u j) w.heap.size w w5:=e5.calls c6 e5.size;have x3:=ca c6 l3;have x4:=p2 w5 w8;clear a8 l3 q5 c6 b7 e5;simp only[zD];refine aw ?_;by_cases h5:x.key∈t0.l.map It.key
    ·rw[decide_eq_true h5]
     refine au ?_;have e:mg t0 x=t0:=if_pos h5;exact⟨l.length-(i+1),i+1,oM,gY kr,K,rfl,T,c4,by rw[j5,e];exact h6.o,W⟩
    ·rw[decide_eq_false h5]
     have e:mg t0 x={t0 with l:=ins (jn t0.floor x) t0.l}:=if_neg h5;refine au ?_;obtain⟨_,x0,s7,_⟩:=h6.o;have x2:Hq (w5.heap[g]? =Z (Cl (lF t0 x0 kn) 225 (0,0))):=s7;refine Qt.im 11 kr kr ?_;simp only[ak,aE];refine ay ?_;refine Qt.ev rfl 206 #[lO x,I J t0.floor] (lO (jn t0.floor x)) (fun _=>kr) (fun w' _=>E7 x t0.floor w') ?_;simp only[zD];refine Qt.gh ?_;simp only[ax,aK];intro w6 o5;refine Ks.call rfl 205 #[X (Z ⟨g,0,Y⟩),lO (jn t0.floor x)] kr (R:=fun v w'=>v=Tp #[]/\jh (fun k=>T k\/w6.heap.size<=k) w' g {t0 with l:=ins (jn t0.floor x) t0.l} kn/\Fr T w6.heap.size w6 w') ((EA (h6.o.below o5) (jn t0.floor x) oM).mono ?_) ?_
     ·rintro e w' ⟨e1,e2,e3⟩
      exact⟨_,e1,rfl,e2,e3⟩
     rintro v w7 ⟨rfl,r9,s5⟩;simp only[zD];refine au ?_;have c8:=W.calls o5 W.size;refine⟨l.length-(i+1),i+1,oM,gY kr,K,rfl,_,fun j a=> ?_,by rw[j5,e];exact r9,c8.trans (s5.mono c8.size fun k G n=>(c4 k n).elim id fun y=>absurd G oM)⟩;rcases a with a|a
     ·exact c4 j a
     ·exact oR (ag c8.size a)
   ·intro K
    obtain rfl:i=l.length:=by have:=of_decide_eq_false K;omega
    rw[aT lR] at a8;refine au ?_;refine bodyPost_ret (v:=I J 0) kr rfl ?_;rw[u6];refine⟨rfl,T,fun k=>b0 k/\k<w3.heap.size,ks',fun j a=> ?_,fun j a=> ?_,fun j a G=> ?_,oM,a8.o,?_,e5⟩
    ·rcases c4 j a with x|x
     ·exact(h9 j x.1).imp fs fun y=>ag t.size y
     ·exact oR (ag j9.size x)
    ·exact(r7 j a.1).imp fs fun y=>ag t.size y
    ·rcases c4 j a with x|x
     ·exact o7 j x.1 G.1
     ·omega
    ·exact(p7.o.cut lR).congr (fun _ h=>h) fun k G hl=>b7.block k hl fun n=>o7 k n.1 G.1
theorem EO{P:Program}{ops:Array Oper}{rest:List Oper}{o:Oper}{a:Act}{w:D}{Q:Exit->Act->D->Prop}(r:o.guard=Y)(s x:Operand)(t:TypeId)(y:o.op= .call {callee:=.builtin .append,args:= #[s,x],argTypes:= #[t,t]})
  (e:TypeId) (z:Vl) (size bytes:Nat) (C:P.underlying t=Z (.slice e)) (h2:(P.info? e).map (fun i=>(i.zero,i.size,i.bytes))=Z (Z z,size,bytes)) (N:z.cells.size=size) (M:0<size) (B:a.eval s= .slice none 0 0)
  {F:Nat->Prop} (u:Vl) (n:Nat) (xs:List Vl) (E:a.eval x=u) (hu:Sl F w size u n xs) (h1:∀c∈xs,c.oneCell'=true) (S:n<=maxLen) (L:n*bytes<=140737488355328)
  (h:∀v' w',Row (fun k=>w.heap.size<=k) w' e size v' n xs->O w.heap.size w w'->wpList P ops Q rest (a.put o.dst v') w'):wpList P ops Q (o::rest) a w:=by
 obtain⟨m,p,cap,rfl,A⟩:=hu;cases p with
 |none=>
  have d:n=0:=Nat.eq_zero_of_not_pos fun d=>by
   obtain⟨_,_,e,_⟩:=A d;cases e
  subst d;obtain rfl:xs=[]:=gZ (by simpa using m);obtain⟨i,hi,G,H,I⟩:=info_parts h2;refine wpList_plain r fun K J=> ?_;have q:(Builtin.append_ #[t,t] o.type #[.slice none 0 0,.slice none 0 cap]).run P w= .ok (.slice none 0 0) w:=by
   simp[Builtin.append_,run_underlying C,sizeOf,typeInfo,hi,Builtin.lenOf,Builtin.firstCells]
  unfold Oper.wp execOp;simp only[y,resolve,invoke,builtin,Sem.run_bind,Sem.run_pure,Result.andThen_ok,List.map_toArray,List.map_cons,List.map_nil,B,E,q];exact J _ _ (h _ _ (Row.nil _ _ _ _) bR)
 |some ad=>
  obtain⟨i,hi,G,H,I⟩:=info_parts h2;refine wpList_append_own_at w r s x t y 0 e i z size bytes C hi G H I N M _ 0 [] B (World.ownsRow_nil w 0 e size) ad n cap xs E m (fun j c v=> ?_) h1 oM (by simpa using L) (aF _) (fun v' w' h3 g R l=> ?_)
  ·have d:0<n:=Nat.pos_of_ne_zero fun d=>by
    subst d;obtain rfl:xs=[]:=gZ (by simpa using m);simp at v
   obtain⟨b,off,e,_,_,q⟩:=A d;cases e;rw[Addr.add_mid];exact q j c v
  ·rw[Nat.zero_add,List.nil_append] at h3
   refine h v' w' ⟨h3,fun k f=> ?_⟩ ⟨g.os,g.tape,g.output,g.size,fun k f=>g.block k f (by intro e;cases e)⟩;rcases l with l|l
   ·rw[l] at f
    cases f
   ·rw[l] at f
    cases f;exact Nat.le_refl _
theorem Ro{l:List It}:∀c∈gi l,c.oneCell'=true:=fun c a=>by
 obtain⟨x,_,a⟩:=List.mem_flatMap.1 a;simp only[fF,List.mem_cons,List.not_mem_nil,or_false] at a;rcases a with rfl|rfl|rfl|rfl|rfl<;>rfl
theorem YB(w:D)(s:ByteArray)(v:Vl)(l:List It)(hv:Sl F w 5 v l.length (gi l))(Y:l.length<=1000000000000):Calls prog 211 #[H #[.string s,v]] w fun e w'=>∃v',e=Re (H #[.string s,v'])/\Row (fun k=>w.heap.size<=k) w' 73 5 v' l.length (gi l)/\O w.heap.size w w':=by
 have P:Hq (Sl F w 5 v l.length (gi l)):=hv;clear hv;go_enter func211,ntmps211
 refine au ?_;refine box rfl _ _ rfl #[.string s,v] rfl ?_;intro w1 b1 Q u g M;simp only[zD];refine Ks.alloc rfl _ rfl (H #[.string default,.slice none 0 0]) kr #[.string default,.slice none 0 0] rfl ?_;intro w2 a C m i N;have x:=ca i u;have G:=tR g i;have R:w.heap.size<=a:=by rw[C.o];exact g.o.size
 clear u g i M N Q C;simp only[zD];refine au ?_;refine kv (H #[.string s,.slice none 0 0]) ?_;refine decl rfl _ rfl (H #[.string default,.slice none 0 0]) kr rfl _ _ rfl #[.string s,.slice none 0 0] (fun _=>rfl) (fun _=>rfl) kr rfl (by simp[Value.oneCell']) ?_;intro w3 p n y d;have K:=ca d x;have z:=ca d m;have t:=tR G d;have S:w.heap.size<=p:=ag G.size n.o;have T:a≠p:=fun e=>by have:=(aL m.o);have:=n.o;omega
 clear x m d n;simp only[zD];refine au ?_;refine EO rfl _ _ _ rfl 73 (H #[I J 0,I J 0,I J 0,I J 0,Bl false]) 5 40 underlying64 pc rfl oM rfl v l.length (gi l) rfl (P.o.below t) Ro (by unfold maxLen;omega) oM ?_;intro v' w4 E q;have A:=ca q z;have j:=ca q y;have V:=tR t q;have f:Row (fun k=>w.heap.size<=k) w4 73 5 v' l.length (gi l):=E.mono fun k U=>ag t.size U;clear K z y E;simp only[zD];refine au ?_;refine Ks.store rfl _ _ _ rfl p 1 v' rfl rfl j.o (by show 1<2;omega) kr (row_one f) #[.string s,v'] rfl ?_;intro w5 X c b H4;have B:Hq (w5.heap[a]? =_):=(b.o a T).trans A.o;have r:=f.other (kV f j.o dc) b.o;have W:O w.heap.size w w5:=V.trans ((c.o (fun _=>False) w.heap.size (oR S)).below lR (fun _ _ h=>h));clear j A c b H4 f;simp only[zD];refine au ?_;refine Ks.whole rfl _ _ _ rfl a #[.string s,v'] rfl rfl B.o kr rfl (by simp[row_one r];rfl) ?_;intro w6 L c b H4;simp only[Act.put];refine au ?_;refine Own.jM results211 rfl a _ #[.string s,v'] _ _ rfl L.o underlying66 rfl kr ⟨v',rfl,r.other (kV r B.o dc) b.o,W.trans ((c.o (fun _=>False) w.heap.size (oR R)).below lR (fun _ _ h=>h))⟩
end Gt
namespace Gt
open Mp Bk
theorem Sl.cut(h:Sl F w sz v n xs):Sl (fun b=>F b/\b<w.heap.size) w sz v n xs:=by
 obtain⟨a,p,cap,e,h⟩:=h;refine⟨a,p,cap,e,fun d=> ?_⟩;obtain⟨b,off,h1,h2,h3,c⟩:=h d;exact⟨b,off,h1,⟨h2,h3⟩,h3,c⟩
theorem E8{ps:List Pr}{ks:List lS}(h:ij Oa N w W B K c ps n lv ks){p:Pr}(hp:ps[i]? =Z p)(he:p.s=p.t)(o:List UInt8)(hv:Vl)(l:List It)(hs:Sl F w 5 hv l.length (gi l))(hF:∀b j,F b->¬Oa b j)(hl:l.length<=1000000000)(hn:n<=9000000000)(ht:Hs.kc w)(hc:c<=5790000000000):
  Calls prog 134 #[X (Z ⟨W,0,Y⟩),H (lP p).toArray,H #[str o,hv]] w fun e w'=>e=Re (Bl true)/\(∃O' q ks',ij O' N w' W B K (c+1000000) (ps.set i q) (n+2) lv ks'/\q.s=q.t)/\O N w w':=by
 obtain⟨a6,a7,o0,j5⟩:=h.gates i p hp;obtain⟨f,cv,rfl⟩:∃f cv,hv= .slice f l.length cv:=by
  obtain⟨_,f,cv,e,_⟩:=hs;exact⟨f,cv,e⟩
 have Ho:Hq (ij Oa N w W B K c ps n lv ks):=h;obtain⟨F',j2⟩:∃F':Nat->Prop,F'=fun b=>F b/\b<w.heap.size:=⟨_,rfl⟩;have HS:Hq (Sl F' w 5 (.slice f l.length cv) l.length (gi l)):=by rw[j2];exact hs.cut
 have c4:∀b,F' b->b<w.heap.size/\∀j,¬Oa b j:=fun b a=>by
  rw[j2] at a;exact⟨a.2,fun j=>hF b j a.1⟩
 have HT:Hq (Hs.kc w):=ht;have p2:=h.wN;have E:∀b j,Oa b j->b<w.heap.size:=fun b j a=>(h.lt b j a).2;have p0:i<ps.length:=(lL hp);clear h a6 a7 hs ht;go_enter func134,ntmps134
 refine au ?_;refine box rfl _ _ rfl (lP p).toArray rfl ?_;intro w1 bp j1 e9 b3 n0;simp only[zD];refine box rfl _ _ rfl #[str o,.slice f l.length cv] rfl ?_;intro w2 A j0 e6 T n5;have h0:=ca T e9;have l6:=tR b3 T;have p7:=j1.o;have p6:=j0.o;have z1:=b3.o.size;have z2:=T.o.size;clear e9 b3 T n0 n5 j1 j0;simp only[zD];refine au ?_;refine Ks.call rfl 211 #[H #[str o,.slice f l.length cv]] kr (R:=fun v w'=>∃v',v=H #[str o,v']/\Row (fun k=>w2.heap.size<=k) w' 73 5 v' l.length (gi l)/\O w2.heap.size w2 w') ((YB w2 ⟨o.toArray⟩ _ l (HS.o.below l6) oM).mono ?_) ?_
 ·rintro e w' ⟨v',e1,h1,h2⟩
  exact⟨_,e1,v',rfl,h1,h2⟩
 rintro _ w3 ⟨gv,rfl,M,c6⟩;obtain⟨pg,cg,rfl,_⟩:=Row.form M;simp only[zD];refine decl rfl _ rfl (H #[sT ⟨#[]⟩,.slice none 0 0]) kr rfl _ _ rfl #[str o,.slice pg l.length cg] (fun _=>rfl) (fun _=>rfl) kr rfl (by simp[Value.oneCell',str]) ?_;intro w4 z h8 b6 U;have b0:=tR c6 U;have b1:=tR l6 b0;have b8:=ca b0 h0;have b7:=ca b0 e6;have P:Row (fun k=>w2.heap.size<=k/\k<w3.heap.size) w4 73 5 (.slice pg l.length cg) l.length (gi l):=Row.below ⟨M.1,fun b a=>⟨M.2 b a,M.lt b a⟩⟩ U.o lR;have p5:=h8.o;have z3:=c6.size;have z4:=U.o.size;have H4:Hq (ij Oa N w4 W B K c ps n lv ks):=Ho.o.below b1;have h4:Hq (Sl F' w4 5 (.slice f l.length cv) l.length (gi l)):=HS.o.below b1;have p3:=(aL b8.o);have e3:=(aL b7.o);have c9:=(aL b6.o);clear h0 e6 c6 M U h8 b0 Ho HS;simp only[zD];refine au ?_;obtain⟨a6,_,_,_⟩:=H4.o.gates i p hp;refine Ks.call rfl 37 _ kr (Nk a6 o _ l P (fun k hk hx=>by have:=E k _ hx;omega) hl (HT.o.below b1 HT.o.lt)) ?_;rintro _ w5 ⟨rfl,l2,g⟩;have l9:Hq (w5.heap[bp]? =_):=(g.block bp p3 fun x=>by have:=E bp _ x;omega).trans b8.o;have e7:Hq (w5.heap[A]? =_):=(g.block A e3 fun x=>by have:=E A _ x;omega).trans b7.o;have e4:Hq (w5.heap[z]? =_):=(g.block z c9 fun x=>by have:=E z _ x;omega).trans b6.o;have a8:=P.congr (w':=w5) fun b a=>g.block b (P.lt b a) fun x=>by have:=P.2 b a;have:=E b _ x;omega
 have c0:Hq (Sl F' w5 5 (.slice f l.length cv) l.length (gi l)):=h4.o.congr (fun _ h=>h) g.size fun b a c7=>g.block b c7 ((c4 b a).2 _);obtain⟨u,h5,j9⟩:=H4.o.AL hp (o0.lf _ o l) g l2;have m:Hq (ij u N w5 W B K c (ps.set i {p with s:=(lf ga p.s o l).2}) n lv ks):=h5;have l3:(ps.set i {p with s:=(lf ga p.s o l).2})[i]? =some {p with s:=(lf ga p.s o l).2}:=List.getElem?_set_self p0;have o4:=(b1.mono p2).trans (H4.o.rQ g fun b a=>⟨_,a⟩);have z5:=g.size;clear b8 b7 b6 P h4 h5 l2 g H4 a6;simp only[zD];refine au ?_;obtain⟨_,a7,_,_⟩:=m.o.gates i _ l3;have G:∀b,F' b->∀j,¬u b j:=fun b a j x=>(j9 b j x).elim ((c4 b a).2 j) fun x=>by have:=(c4 b a).1;omega
 refine Ks.call rfl 212 _ kr (R:=fun v w'=>v=I J (lf ga p.t o l).1/\Left (fun b=>u b (6+2*i)) (fun b=>u b 4) w5 w' p.y K (lf ga p.t o l).2 (ks.length+1)) ((Nl a7 m.o.known (fun j hj p1=>absurd (m.o.one j _ _ hj p1) oM) j5 (ag m.o.nk oM) o _ l c0.o (fun b a=>⟨G b a _,G b a _⟩) hl).mono ?_) ?_
 ·rintro e w' ⟨e1,e2⟩
  exact⟨_,e1,rfl,e2⟩
 rintro _ w6 ⟨rfl,hL⟩;have r:Fr (fun j=>u j (6+2*i)\/u j 4) w5.heap.size w5 w6:=by
  obtain⟨_,_,_,_,_,_,_,_,_,hf⟩:=id hL;exact hf
 have D:∀b,w.heap.size<=b->b<w4.heap.size->∀j,¬u b j:=fun b h1 h2 j x=>(j9 b j x).elim (fun x=>by have:=E b j x;omega) fun x=>oM
 have l8:Hq (w6.heap[A]? =_):=(r.block A oM fun x=>x.elim (D A oM e3 _) (D A oM e3 _)).trans e7.o;have e5:Hq (w6.heap[z]? =_):=(r.block z oM fun x=>x.elim (D z oM c9 _) (D z oM c9 _)).trans e4.o;have c8:=a8.congr (w':=w6) fun b a=>by
  have:=a8.2 b a;exact r.block b (a8.lt b a) fun x=>x.elim (D b oM oM _) (D b oM oM _)
 have h7:Hq (Sl F' w6 5 (.slice f l.length cv) l.length (gi l)):=c0.o.congr (fun _ h=>h) r.size fun b a c7=>r.block b c7 fun x=>x.elim (G b a _) (G b a _);obtain⟨O6,b2,h6,o9⟩:=(m.o.more (Nat.le_succ n)).AM l3 (j5.lf _ o l) (Nat.succ_le_succ m.o.nk) hL;rw[List.set_set] at h6;have H6:Hq (ij O6 N w6 W B K c (ps.set i {p with s:=(lf ga p.s o l).2,t:=(lf ga p.t o l).2}) (n+2) lv b2):=h6;have o5:=o4.trans (m.o.rQ r fun b a=>a.elim (fun x=>⟨_,x⟩) (fun x=>⟨_,x⟩));have z6:=r.size;clear l9 e7 e4 a8 c0 h6 hL r m a7 G;simp only[zD];refine au ?_;refine pure (w0 rfl) 209 #[H #[str o,.slice pg l.length cg],H #[str o,.slice f l.length cv]] kr (Ct w6 ⟨o.toArray⟩ _ _ l (Sl.mf c8) h7.o oM) ?_;intro w7 L;have l7:=ca L e5;have l4:=c8.below L lR;have Q:Hq (ij O6 N w7 W B K c (ps.set i {p with s:=(lf ga p.s o l).2,t:=(lf ga p.t o l).2}) (n+2) lv b2):=H6.o.below L;have n9:Hq (w7.heap[W]? =_):=Q.o.world;have o6:=o5.trans (L.mono H6.o.wN);clear l8 e5 c8 h7 H6 L;simp only[zD];refine au ?_;refine Qg.im 6 kr kr ?_;refine aq ?_;intro w8 V;have l5:=l4.below V lR;have H8:Hq (ij O6 N w8 W B K c (ps.set i {p with s:=(lf ga p.s o l).2,t:=(lf ga p.t o l).2}) (n+2) lv b2):=Q.o.below V;have o7:=o6.trans (V.mono Q.o.wN);clear l7 l4 Q n9 V;refine Ks.call rfl 210 _ kr (H8.o.sJ (S:=fun k=>w2.heap.size<=k/\k<w3.heap.size) (c':=c+4) (fun b a=>⟨oM,fun j x=>(o9 b j x).elim (D b oM oM j) fun x=>oM⟩) fun C d hK hS=>Dt hK _ l.length _ l5 hS oM oM) ?_;rintro _ w9 ⟨⟨O9,h9,p4⟩,l1⟩;have o8:=o7.trans (H8.o.kx (fun b a=>oM) l1);clear H8 l5 l1;simp only[zD];have hq:(lf ga p.s o l).2=(lf ga p.t o l).2:=by rw[he]
 rw[he];obtain⟨x,hx⟩:=eX ((lf ga p.t o l).1);rw[<-hx];refine au ?_;refine pure kr 22 #[I J x] kr (Gw.tv x w9) ?_;intro wa l0;simp only[zD];refine au ?_;refine bodyPost_ret (v:=Bl true) kr rfl ?_;exact⟨rfl,⟨O9,_,b2,(h9.below l0).nL oM,hq⟩,o8.trans (l0.mono h9.wN)⟩
