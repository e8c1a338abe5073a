/- Walks of the document's digests: IsDigest. Walk of the document's gate: Tell. Walks of the document's gate: placed. Walk of the document's gate: Twice. -/
import Derived.Test.YtbojijefenfbgaaGreatDoorAaSlD
open List renaming getElem?_eq_some_iff->aQ,drop_eq_getElem_cons->bL,getElem?_eq_getElem->ae,mem_of_getElem?->aJ,drop_of_length_le->iZ,length_filter_le->ey,length_take->aY,take_of_length_le->aT,filter_append->df,length_append->ao,pairwise_cons->bM,mem_cons->cr,mem_filter->bK,mem_append_left->cQ,mem_append->bV,mem_singleton->cm,map_append->ef
open Prod renaming fst->aj
open Nat renaming zero_le->aF,le_trans->ag
open Go.Value renaming oneCell'->av,agg->fX
open Bool renaming and_assoc->iF,decide_and->kE,true_and->k0,and_eq_true->aX
open Classical renaming byContradiction->bt
open Option renaming some->Z,none->Y
open Go.Value renaming int->I,pointer->X,agg->H,bool->Bl,string->sT,tuple->Tp
open Go.IntKind renaming i64->J
open Go.Obj renaming cells->Cl
open Go.Ending renaming returned->Re
open Go renaming World->D,Value->Vl
open Go.RowKit renaming Below->O
set_option maxHeartbeats 4000000
set_option maxRecDepth 100000
open Go Go.RowKit
open Go.Proofs.YtbojijefenfbgaaGreatDoor
open Ks(au box lp pt af decl al nN gY whole aq aw)
variable{F S:Nat->Prop}{a:Act}{g i kn:Nat}{w:D}
namespace Go.Proofs.YtbojijefenfbgaaGreatDoor
open Tryz
namespace Gt
open Mp Bk Tk
theorem sx(a b c:Int):gx a b c=decide (a<=b/\b<=c):=by
 unfold gx;by_cases h1:a<=b<;>by_cases h2:b<=c<;>simp[h1,h2]
theorem Gf{α:Type}{l:List α}{x:α}(h:l[i]? =Z x):l.drop i=x::l.drop (i+1):=by
 obtain⟨h1,h2⟩:=aQ.1 h;rw[bL h1,h2]
theorem Rm(w:D)(g:Int)(sv:Vl)(l:List (Sn×Vl))(h:mi F w sv l)(hl:l.length<=1000000000)(hm:∀p∈l,p.1.more.length<=1000000000):Rt 252 #[H #[I J g,sv]] w (Bl (mY g (l.map aj))):=by
 obtain⟨p,cap,rfl,V⟩:=h.row.form qE;have a7:Hq (mi F w (.slice p l.length cap) l):=h;have HP:Hq (∀i x,l[i]? =Z x->∃b off,p=Z ⟨b,off,Y⟩/\b<w.heap.size/\w.rangeAt b (off+i*3) (jY x.1 x.2)):=V;clear h V;go_enter func252,ntmps252
 refine au ?_;refine box rfl _ _ rfl #[I J g,.slice p l.length cap] rfl ?_;intro w1 b1 c6 a6 P c4;simp only[zD];refine au ?_;refine lp 78 (fun a:Int×Nat=>[(1,pt b1 0),(2,Bl false),(3,I J a.1),(4,I J (a.2:Int))]) (fun m a wr=>a.2<=l.length/\m=l.length-a.2/\(-1<=a.1/\a.1<=15)/\okSeen 0 (l.map aj)=okSeen (a.1+1) ((l.map aj).drop a.2)/\O w1.heap.size w1 wr) l.length (-1,0) ⟨aF _,rfl,dc,rfl,Below.refl _ _⟩ ?_;rintro m ⟨u,i⟩ wr f ⟨hi,rfl,b2,r,C⟩;simp only at hi b2 r;have HA:=ca C a6;have L:=tR P C;refine af ?_;refine wp_cond_split rfl ?_ ?_
 ·intro q
  have q:i<l.length:=by have:=of_decide_eq_true q;omega
  obtain⟨⟨s,mv⟩,d⟩:∃y,l[i]? =Z y:=⟨_,ae q⟩;have S:=aJ d;have b6:=hm _ S;have c:=a7.o.more _ S;simp only at b6 c;obtain⟨M,X,rfl,T⟩:=c.ints;obtain⟨gb,off,rfl,b0,W⟩:=HP.o i _ d;have HM:Hq (∀i x,s.more[i]? =Z x->∃b off,M=Z ⟨b,off,Y⟩/\b<w.heap.size/\w.rangeAt b (off+i*1) [hE x]):=T;have HR:Hq (wr.rangeAt gb (off+i*3) (jY s (.slice M s.more.length X))):=lX W L b0;have hd:(l.map aj).drop i=s::(l.map aj).drop (i+1):=Gf (by rw[List.getElem?_map,d];rfl);rw[hd,okSeen] at r;have G:(gx (u+1) s.gate 15&&px s)=false->mY g (l.map aj)=false:=fun h=>by
   rw[sx] at h;rw[mY,r,h];simp
  clear T c W;refine au ?_;refine decl rfl _ rfl (H #[I J 0,I J 0,.slice none 0 0]) kr rfl _ _ rfl (jY s (.slice M s.more.length X)).toArray (fun _=>rfl) (fun _=>rfl) kr rfl (by simp[jY,av]) ?_;intro w2 b5 a8 c0 Q;have R:=tR C Q;have B:=tR P R;clear HA HR a8 Q C L;simp only[zD];refine au ?_;refine Ks.same (Ks.w0 rfl) 60 #[I J s.gate,I J (u+1),I J 15] kr (qQ (u+1) s.gate 15 _) ?_;simp only[zD];refine au ?_;refine Ks.same (Ks.w0 rfl) 60 #[I J s.upto,I J 0,I J 1000] kr (qQ 0 s.upto 1000 _) ?_;simp only[zD];refine al ?_;refine Ks.cut (fun a' w'=>w'=w2/\gx (u+1) s.gate 15=true/\gx 0 s.upto 1000=true/\¬(s.upto=0/\s.more=[])/\nN 78 [(1,pt b1 0),(2,Bl false),(3,I J u),(4,I J (i:Int)),(5,pt b5 0)] a') ?_ ?_
  ·cases E:gx (u+1) s.gate 15 with
   |false=>
    refine au ?_;refine bodyPost_ret (v:=Bl false) kr rfl ?_;exact⟨by rw[G (by rw[E];rfl)],B⟩
   |true=>
    cases z:gx 0 s.upto 1000 with
    |false=>
     refine au ?_;refine bodyPost_ret (v:=Bl false) kr rfl ?_;refine⟨?_,B⟩;rw[G];rw[sx] at z;rw[px,z];simp
    |true=>
     refine au ?_;by_cases t:s.upto=0
     ·rw[decide_eq_true t]
      refine au ?_;by_cases d:s.more=[]
      ·rw[show decide ((s.more.length:Int)=0)=true by rw[d];rfl]
       refine au ?_;refine bodyPost_ret (v:=Bl false) kr rfl ?_;refine⟨?_,B⟩;rw[G];rw[px,t,d];simp
      ·rw[show decide ((s.more.length:Int)=0)=false by simp[d]]
       refine au ?_;exact⟨rfl,rfl,rfl,fun h=>d h.2,gY kr⟩
     ·rw[decide_eq_false t]
      refine au ?_;exact⟨rfl,rfl,rfl,fun h=>t h.1,gY kr⟩
  ·rintro a3 w3 ⟨rfl,E,z,t,hf⟩
   obtain⟨f3,rfl⟩:=hf.ex;have hu:=tJ z;have hg:=tJ E;have K:okSeen 0 (l.map aj)=(okMore (s.upto+2) s.more&&okSeen (s.gate+1) ((l.map aj).drop (i+1))):=by
    rw[r,px,<-sx,<-sx,E,z,decide_eq_true (p:=s.upto≠0\/s.more≠ []) (by
     by_cases h:s.upto=0
     ·exact oR fun e=>t ⟨h,e⟩
     ·exact oL h)]
    simp
   refine af ?_;refine lp 78 (fun a:Int×Nat=>[(1,pt b1 0),(2,Bl false),(3,I J s.gate),(4,I J (i:Int)),(5,pt b5 0),(8,I J a.1),(9,I J (a.2:Int))]) (fun m a N=>N=w3/\a.2<=s.more.length/\m=s.more.length-a.2/\okMore (s.upto+2) s.more=okMore a.1 (s.more.drop a.2)/\2<=a.1) s.more.length (s.upto+2,0) ⟨rfl,aF _,rfl,rfl,by show 2<=s.upto+2;omega⟩ ?_;rintro m ⟨least,k⟩ N f4 ⟨rfl,hk,rfl,c,b3⟩;simp only at hk c b3;refine af ?_;refine wp_cond_split rfl ?_ ?_
   ·intro j
    have j:k<s.more.length:=by have:=of_decide_eq_true j;omega
    obtain⟨n,U⟩:∃y,s.more[k]? =Z y:=⟨_,ae j⟩;obtain⟨mb,mo,rfl,b7,b8⟩:=HM.o k n U;have HN:Hq (N.rangeAt mb (mo+k*1) [hE n]):=lX b8 B b7;rw[Gf U,okMore,iF] at c;refine au ?_;refine Ks.same (Ks.w0 rfl) 60 #[I J n,I J least,I J 1000] kr (qQ least n 1000 _) ?_;simp only[zD];cases A:gx least n 1000 with
    |false=>
     refine au ?_;refine bodyPost_ret (v:=Bl false) kr rfl ?_;refine⟨?_,B⟩;rw[sx,kE] at A;rw[mY,K,c,<-iF (decide (least<=n)),A];simp
    |true=>
     have c7:=tJ A;rw[sx,kE] at A;rw[<-iF (decide (least<=n)),A,k0] at c;refine au ?_;exact⟨s.more.length-(k+1),(n+1,k+1),oM,gY kr,rfl,j,rfl,c,by show 2<=n+1;omega⟩
   ·intro j
    obtain rfl:k=s.more.length:=by have:=of_decide_eq_false j;omega
    rw[iZ lR] at c;rw[c,okMore,k0] at K;refine au ?_;exact⟨l.length-(i+1),(s.gate,i+1),oM,gY kr,q,rfl,oM,K,R⟩
 ·intro q
  obtain rfl:i=l.length:=by have:=of_decide_eq_false q;omega
  refine au ?_;refine Ks.same (Ks.w0 rfl) 60 #[I J g,I J 0,I J 65535] kr (qQ 0 g 65535 _) ?_;simp only[zD];refine au ?_;refine bodyPost_ret (v:=Bl (gx 0 g 65535)) kr rfl ?_;refine⟨?_,L⟩;rw[iZ sP] at r;rw[mY,r,sx];simp[okSeen]
theorem Px{o:Oper}{B:Nat}(x:Operand)(c:o.op= .buildSlice 64 1 #[(0,x)])(y:It)(d:a.eval x=H (fF y).toArray)(b:B<=w.heap.size):Qt.oE prog w (Ap.qs B 73 (fF y)) ((execOp a.eval o).run prog w):=
 Gw.xA 64 73 1 _ c (fF y).toArray (H #[I J 0,I J 0,I J 0,I J 0,Bl false]) 5 40 underlying64 pc dc dc [(0,H (fF y).toArray)] (by simp[d]) kr ⟨w.heap.size,rfl,b,heap_alloc_new _ _⟩
structure NR(w:D)(b4 b6 b9:Nat)(dv rv:Array Vl)(o:Vl)(hv:Vl)(l:List It)(wr:D):Prop where
 kx:O w.heap.size w wr
 d:wr.heap[b4]? =Z (Cl dv 71 (0,0))
 res:wr.heap[b6]? =Z (Cl rv 66 (0,0))
 n:wr.heap[b9]? =Z (Cl #[o,hv] 66 (0,0))
 row:Row (fun k=>w.heap.size<=k) wr 73 5 hv l.length (gi l)
theorem NR.below{w:D}{b4 b b9:Nat}{c rv:Array Vl}{o hv:Vl}{l:List It}{wr w':D}(h:NR w b4 b b9 c rv o hv l wr)(a:O wr.heap.size wr w'):NR w b4 b b9 c rv o hv l w':=
 ⟨h.kx.trans (a.mono h.kx.size),(a.block _ (aL h.d)).trans h.d,(a.block _ (aL h.res)).trans h.res,(a.block _ (aL h.n)).trans h.n,h.row.below a lR⟩
def mV:Array Vl:= #[sT ⟨#[]⟩,.slice none 0 0]
theorem N9{s:St}(h:jh S w g s kn)(hI:Inv s)(f:Int)(sv:Vl)(l:List (Sn×Vl))(D:Int)(hd:mi F w sv l)(hl:l.length<=1000000000)(hm:∀p∈l,p.1.more.length<=1000000000):
  Calls prog 208 #[X (Z ⟨g,0,Y⟩),H #[I J f,sv],I J D] w fun e w'=>∃u,e=Re u/\(if mY f (l.map aj)=true/\0<=D then∃hv,u=Tp #[H #[str (if f<s.floor then s.order else []),hv],I J 0]/\Row (fun k=>w.heap.size<=k) w' 73 5 hv (oD s.l (l.map aj) D.toNat).length (gi (oD s.l (l.map aj) D.toNat)) else u=Tp #[H mV,I J 2])/\O w.heap.size w w':=by
 obtain⟨hS,lv,hg,j9⟩:=h;obtain⟨p,cap,rfl,hp⟩:=Row.form j9;have W:Hq (w.heap[g]? =Z (Cl (lF s (.slice p s.l.length cap) kn) 225 (0,0))):=hg;have HP:Hq (∀k,k<s.l.length->∃g c7,p=Z ⟨g,0,Y⟩/\w.heap[g]? =Z (Cl c7 73 (0,0))/\c7.toList.take (s.l.length*5)=gi s.l):=hp;have h0:Hq (mi F w sv l):=hd;have b1:=(aL hg);have hn:=hI.kB;have o6:(fX #[I J f,sv]).cells= #[I J f,sv]:=by
  obtain⟨_,p,cap,rfl,_⟩:=hd.row;rfl
 have p1:=hd.row.one;clear hg j9 hI hp hd;go_enter func208,ntmps208
 refine au ?_;refine box rfl _ _ rfl #[I J f,sv] o6 ?_;intro w1 b4 l8 e7 b7 l6;simp only[zD];refine Ks.alloc rfl _ rfl (H mV) kr mV rfl ?_;intro w2 a h7 h6 b8 l7;have e9:=ca b8 e7;have l0:=tR b7 b8;have L:w.heap.size<=a:=by rw[h7.o];exact b7.o.size
 clear e7 b7 b8 l6 l7 l8 h7;simp only[zD];refine au ?_;refine Ks.pure (Ks.w0 rfl) 252 #[H #[I J f,sv]] kr (Rm w2 f sv l (h0.o.below l0) hl hm) ?_;intro w3 a7;have b3:=ca a7 e9;have G:=ca a7 h6;have N:=tR l0 a7;clear e9 h6 a7;simp only[zD];refine al ?_;refine Ks.cut (fun P w'=>w'=w3/\mY f (l.map aj)=true/\0<=D/\nN 74 [(0,pt g 0),(2,I J D),(4,pt b4 0),(6,pt a 0)] P) ?_ ?_
 ·cases hc:mY f (l.map aj) with
  |false=>
   refine au ?_;refine kv (H mV) ?_;refine whole rfl _ _ _ rfl a mV rfl rfl G.o kr rfl (by simp[mV,av]) ?_;intro w5 c4 A z H4;simp only[Act.put];refine au ?_;exact Ww.pB results208 rfl a _ mV _ _ (I J 2) rfl rfl c4.o underlying66 rfl kr ⟨_,rfl,by rw[if_neg (fun h=>by cases h.1)],N.trans ((A.o (fun _=>False) w.heap.size (oR L)).below lR (fun _ _ h=>h))⟩
  |true=>
   by_cases j5:D<0
   ·refine au ?_
    rw[decide_eq_true j5];refine au ?_;refine kv (H mV) ?_;refine whole rfl _ _ _ rfl a mV rfl rfl G.o kr rfl (by simp[mV,av]) ?_;intro w5 c4 A z H4;simp only[Act.put];refine au ?_;exact Ww.pB results208 rfl a _ mV _ _ (I J 2) rfl rfl c4.o underlying66 rfl kr ⟨_,rfl,by rw[if_neg (fun h=>absurd h.2 oM)],N.trans ((A.o (fun _=>False) w.heap.size (oR L)).below lR (fun _ _ h=>h))⟩
   ·refine au ?_
    rw[decide_eq_false j5];refine au ?_;exact⟨rfl,rfl,oM,gY kr⟩
 ·rintro a4 w4 ⟨rfl,b2,o5,hf⟩
  obtain⟨f4,rfl⟩:=hf.ex;obtain⟨C,rfl⟩:∃n:Nat,D=(n:Int):=⟨D.toNat,oM⟩;have l9:∀x:It,uU (l.map aj) x.key=has (l.map aj) x.key:=fun x=>(Gl _ (Dp (by unfold mY at b2;rw[aX] at b2;exact b2.2)).1).symm;refine af ?_;refine kv (H mV) ?_;refine decl rfl _ rfl (H mV) kr rfl _ _ rfl mV (fun _=>rfl) (fun _=>rfl) kr rfl (by simp[mV,av]) ?_;intro w5 b9 h8 h4 T;have j0:w4.heap.size<=b9:=h8.o;have h9:a≠b9:=fun e=>by have:=(aL G.o);omega
  have r:Hq (NR w b4 a b9 #[I J f,sv] mV (str []) (.slice none 0 0) [] w5):=⟨N.trans (T.o.mono N.size),(T.o.block _ (aL b3.o)).trans b3.o,(T.o.block _ (aL G.o)).trans G.o,h4.o,Row.nil _ _ _ _⟩;have l1:=N.size;clear b3 G h4 T h8 N;have V:Hq (w5.heap[g]? =_):=(r.o.kx.block g b1).trans W.o;have U:Hq (w5.heap[b4]? =_):=r.o.d;simp only[zD];refine al ?_;refine Ks.cut (fun P w'=>NR w b4 a b9 #[I J f,sv] mV (str (if f<s.floor then s.order else [])) (.slice none 0 0) [] w'/\nN 74 [(0,pt g 0),(2,I J (C:Int)),(4,pt b4 0),(6,pt a 0),(9,pt b9 0)] P) ?_ ?_
  ·refine au ?_
   refine Qt.lW kr kr ?_;refine aq ?_;intro w6 L;have E:Hq (NR w b4 a b9 _ mV _ _ _ w6):=r.o.below L;have o8:Hq (w6.heap[g]? =_):=(E.o.kx.block g b1).trans W.o;clear r V U L;by_cases b0:f<s.floor
   ·rw[decide_eq_true b0,if_pos b0]
    refine au ?_;refine Ks.store rfl _ _ _ rfl b9 0 (str s.order) rfl rfl E.o.n (by show 0<2;omega) kr rfl #[str s.order,.slice none 0 0] rfl ?_;intro w7 l4 A z H4;simp only[Act.put];refine au ?_;have c8:b4≠b9:=fun e=>by have h1:=E.o.d;rw[e,E.o.n] at h1;injection h1 with h1;injection h1 with _ h1;exact absurd h1 dc
    exact⟨⟨E.o.kx.trans ((A.o (fun _=>False) w.heap.size (oR (ag l1 j0))).below lR (fun _ _ h=>h)),(z.o b4 c8).trans E.o.d,(z.o a h9).trans E.o.res,l4.o,Row.nil _ _ _ _⟩,gY kr⟩
   ·rw[decide_eq_false b0,if_neg b0]
    refine au ?_;exact⟨E.o,gY kr⟩
  ·clear r V U
   rintro a6 w6 ⟨v,o0⟩;obtain⟨f6,rfl⟩:=o0.ex;generalize (if f<s.floor then s.order else [])=ord at v⊢;refine af ?_;refine lp 74 (fun i:Nat=>[(0,pt g 0),(2,I J (C:Int)),(4,pt b4 0),(6,pt a 0),(9,pt b9 0),(10,I J (i:Int))]) (fun m i wr=>i<=s.l.length/\m=s.l.length-i/\((s.l.take i).filter fun x=> !has (l.map aj) x.key).length<=C/\∃hv,NR w b4 a b9 #[I J f,sv] mV (str ord) hv ((s.l.take i).filter fun x=> !has (l.map aj) x.key) wr) s.l.length 0 ⟨aF _,rfl,sP,_,v⟩ ?_;clear v;rintro m i wr f7 ⟨hi,rfl,e3,hv,v⟩;obtain⟨out,B⟩:=eX ((s.l.take i).filter fun x=> !has (l.map aj) x.key);rw[<-B] at e3 v;obtain⟨q,R,rfl,_⟩:=Row.form v.row;have r:Hq (NR w b4 a b9 #[I J f,sv] mV (str ord) (.slice q out.length R) out wr):=v;have HN:Hq (wr.heap[b9]? =_):=v.n;have U:Hq (wr.heap[b4]? =_):=v.d;have V:Hq (wr.heap[g]? =_):=(v.kx.block g b1).trans W.o;have p0:out.length<=16000:=by rw[B];exact ag (ey _ _) (by rw[aY];omega)
   clear v;refine wp_seq ?_;refine Ks.cut (fun P w'=>w'=wr/\∃b,(b=true->i<s.l.length/\out.length<C)/\(b=false->oD s.l (l.map aj) C=out)/\nN 74 [(0,pt g 0),(2,I J (C:Int)),(4,pt b4 0),(6,pt a 0),(9,pt b9 0),(10,I J (i:Int)),(47,Bl b)] P) ?_ ?_
   ·refine af ?_
    by_cases M:i<s.l.length
    ·rw[decide_eq_true (show(i:Int)<s.l.length by omega)]
     refine au ?_;by_cases e4:out.length<C
     ·refine⟨rfl,true,fun _=>⟨M,e4⟩,(fun h=>by cases h),?_⟩
      rw[decide_eq_true (show(out.length:Int)<C by omega)];exact gY kr
     ·refine⟨rfl,false,(fun h=>by cases h),fun _=> ?_,?_⟩
      ·rw[B]
       exact KH (by rw[<-B];omega)
      ·rw[decide_eq_false (show¬(out.length:Int)<C by omega)]
       exact gY kr
    ·rw[decide_eq_false (show¬(i:Int)<s.l.length by omega)]
     obtain rfl:i=s.l.length:=oM
     rw[aT lR] at B;refine au ?_;exact⟨rfl,false,(fun h=>by cases h),fun _=>by rw[B];exact Jf (by rw[<-B];exact e3),gY kr⟩
   ·rintro a8 w8 ⟨rfl,b,h1,h2,o4⟩
    obtain⟨f8,rfl⟩:=o4.ex;cases b with
    |true=>
     obtain⟨M,e4⟩:=h1 rfl;obtain⟨y,hy⟩:∃y,s.l[i]? =Z y:=⟨_,ae M⟩;obtain⟨gb,c7,rfl,c9,Q⟩:=HP.o i M;have j2:=(aL c9);have h5:Hq (w.rangeAt gb (i*5) (fF y)):=Row.range qD c9 Q hy;have HR:Hq (w8.rangeAt gb (i*5) (fF y)):=lX h5.o r.o.kx j2;clear c9 Q;refine af ?_;refine Qt.lW kr kr ?_;refine aq ?_;refine Ks.WQ.mk (Qg.call (Ks.w0 rfl) 253 #[H #[I J f,sv],lO y] (Bl (has (l.map aj) y.key)) (fun _=>kr) (fun w' hb=>by rw[<-l9];exact N1 w' f sv l y ((h0.o.below r.o.kx).below hb) hl hm) ?_);simp only[zD];refine aq ?_;intro w9 j1;have K:Hq (NR w b4 a b9 #[I J f,sv] mV (str ord) (.slice q out.length R) out w9):=r.o.below j1;have l5:Hq (w9.heap[b9]? =_):=K.o.n;have l2:Hq (w9.heap[g]? =_):=(K.o.kx.block g b1).trans W.o;have c6:Hq (w9.rangeAt gb (i*5) (fF y)):=lX h5.o K.o.kx j2;have Q:s.l.take (i+1)=s.l.take i++[y]:=nd hy;clear r HN U V HR j1;refine au ?_;cases hh:has (l.map aj) y.key with
     |true=>
      refine au ?_;have e:(s.l.take (i+1)).filter (fun x=> !has (l.map aj) x.key)=out:=by rw[Q,df,<-B];simp[hh]
      exact⟨s.l.length-(i+1),i+1,oM,gY kr,M,rfl,by rw[e];exact e3,_,by rw[e];exact K.o⟩
     |false=>
      have e:(s.l.take (i+1)).filter (fun x=> !has (l.map aj) x.key)=out++[y]:=by rw[Q,df,<-B];simp[hh]
      refine au ?_;refine Qt.tT 9 (Ap.qs w9.heap.size 73 (fF y)) kr kr Ap.qs.FQ _ rfl ?_;simp only[List.take_succ_cons,List.take_zero];refine Ks.ay ?_;refine Qt.gh ⟨fun w' hb=>Px _ rfl y rfl hb.size,?_⟩;simp only[List.drop_succ_cons,List.drop_zero];rintro u e6 n0 ⟨bo,rfl,o9,n9⟩;have t:Hq (NR w b4 a b9 #[I J f,sv] mV (str ord) (.slice q out.length R) out e6):=K.o.below n0;clear K l5 l2 c6;simp only[zD];refine re rfl _ _ _ rfl 73 (H #[I J 0,I J 0,I J 0,I J 0,Bl false]) 5 40 underlying64 pc rfl dc dc _ _ out.length (gi out) rfl t.o.row 1 bo 1 (fF y) rfl (fun j c hc=>(cell_of_row e6 bo j _ _ _ n9).trans (by simpa using hc)) rfl (fun c hc=>tC hc) oM ?_;intro v2 w11 e5 e2;have hk:∀b cs,e6.heap[b]? =Z (Obj.cells cs 66 (0,0))->w11.heap[b]? =Z (Obj.cells cs 66 (0,0)):=fun b cs h=>(e2.block b (aL h) (fun e=>kV t.o.row h dc e.symm)).trans h;have c0:Hq (w11.heap[b9]? =_):=hk b9 _ t.o.n;simp only[zD];refine au ?_;refine Ks.store rfl _ _ _ rfl b9 1 v2 rfl rfl c0.o (by show 1<2;omega) kr (row_one e5) #[str ord,v2] rfl ?_;intro p2 l3 A z H4;simp only[Act.put];refine au ?_;have e1:w11.heap[b4]? =_:=(e2.block b4 (aL t.o.d) (fun e=>kV t.o.row t.o.d dc e.symm)).trans t.o.d;have c8:b4≠b9:=fun e=>by rw[e,c0.o] at e1;injection e1 with h1;injection h1 with _ h1;exact absurd h1 dc
      refine⟨s.l.length-(i+1),i+1,oM,gY kr,M,rfl,by rw[e,ao];exact e4,v2,?_⟩;rw[e];have n5:O w.heap.size w w11:=t.o.kx.grown e2 t.o.kx.size fun j hj=>t.o.row.2 j hj;refine⟨n5.trans ((A.o (fun _=>False) w.heap.size (oR (ag l1 j0))).below lR (fun _ _ h=>h)),(z.o b4 c8).trans e1,(z.o a h9).trans (hk a _ t.o.res),l3.o,?_⟩;rw[sQ,ao];exact(Row.other e5 (kV e5 c0.o dc) z.o).mono fun k hk=>hk.elim id fun e=>by rw[e];exact t.o.kx.size
    |false=>
     have o7:=h2 rfl;refine af ?_;refine whole rfl _ _ _ rfl a #[str ord,.slice q out.length R] rfl rfl r.o.res kr rfl (by simp[str,av]) ?_;intro w9 c6 A z H4;simp only[Act.put];refine au ?_;refine Ww.pB results208 rfl a _ #[str ord,.slice q out.length R] _ _ (I J 0) rfl rfl c6.o underlying66 rfl kr ⟨_,rfl,?_,r.o.kx.trans ((A.o (fun _=>False) w.heap.size (oR L)).below lR (fun _ _ h=>h))⟩;rw[if_pos ⟨b2,o5⟩,Int.toNat_natCast,o7];exact⟨_,rfl,Row.other r.o.row (kV r.o.row r.o.res dc) z.o⟩
end Gt
namespace Bk
def insG{α:Type}(R:α->α->Bool)(x:α):List α->List α
 |[]=>[x]
 |y::r=>if R x y then x::y::r else y::insG R x r
theorem tI{α:Type}(R:α->α->Bool)(x:α):∀l,(insG R x l).Perm (x::l)
 |[]=>List.Perm.refl _
 |y::r=>by
  unfold insG;split
  ·exact List.Perm.refl _
  ·exact((tI R x r).cons y).trans (List.Perm.swap x y r)
def pV{α:Type}(R:α->α->Bool)(x:α)(l out:List α)(d:Bool)(k:Nat):Prop:=if d then out++l.drop k=insG R x l else out=l.take k/\l.take k++insG R x (l.drop k)=insG R x l
namespace pV
variable {α:Type} {R:α->α->Bool} {x y:α} {l out:List α} {d:Bool} {k:Nat}
theorem start(R:α->α->Bool)(x:α)(l:List α):pV R x l [] false 0:=⟨rfl,rfl⟩
theorem ahead(h:pV R x l out false k)(a:l[k]? =Z y)(b:R x y=true):pV R x l (out++[x]++[y]) true (k+1):=by
 obtain⟨h1,h2⟩:=h;obtain⟨c,a⟩:=aQ.1 a;show out++[x]++[y]++l.drop (k+1)=insG R x l;rw[<-h2,bL c,a,insG,if_pos b,h1];simp
theorem behind(h:pV R x l out false k)(a:l[k]? =Z y)(c:R x y=false):pV R x l (out++[y]) false (k+1):=by
 obtain⟨h1,h2⟩:=h;obtain⟨b,a⟩:=aQ.1 a;have e:l.take (k+1)=l.take k++[y]:=by rw[List.take_succ_eq_append_getElem b,a]
 refine⟨by rw[e,h1],?_⟩;rw[<-h2,bL b,a,insG,if_neg (by rw[c];decide),e];simp
theorem more(h:pV R x l out true k)(a:l[k]? =Z y):pV R x l (out++[y]) true (k+1):=by
 have h:out++l.drop k=insG R x l:=h;obtain⟨b,a⟩:=aQ.1 a;show out++[y]++l.drop (k+1)=insG R x l;rw[<-h,bL b,a];simp
theorem len(h:pV R x l out d k):out.length<=l.length+1:=by
 cases d with
 |false=>rw[h.1,aY];omega
 |true=>
  have h:out++l.drop k=insG R x l:=h;have:=congrArg List.length h;rw[ao,(tI R x l).length_eq,List.length_cons] at this;omega
end pV
end Bk
namespace Gt
open Mp Bk Tk
abbrev nC(p:Tw×Vl):List Vl:=[I J p.1.br,I J p.1.ba,p.2]
def oS(a b:Tw×Vl):Bool:=decide (Lt2 a.1.pass b.1.pass)
theorem Mr{p:Tw×Vl}(h:p.2.oneCell'=true){c:Vl}(a:c∈nC p):c.oneCell'=true:=by
 simp at a;rcases a with rfl|rfl|rfl
 ·rfl
 ·rfl
 ·exact h
theorem Qc(l:List (Tw×Vl))(p:Tw×Vl):po (l++[p])=po l++nC p:=by simp[po]
theorem zI{ops:Array Oper}{rest:List Oper}{o1 o2:Oper}{w0 w:D}{Q:Exit->Act->D->Prop}{d:Nat}{v:Vl}{out:List (Tw×Vl)}(p:Tw×Vl)(h1:p.2.oneCell'=true)(n:o1.guard=Y)(o:o2.guard=Y)(x s y:Operand)(q:o1.op= .buildSlice 83 1 #[(0,x)])(r:o2.op= .call {callee:=.builtin .append,args:= #[s,y],argTypes:= #[83,83]})(A:a.eval x=H (nC p).toArray)(z:∀u,(a.put o1.dst u).eval s=v)(B:∀b,(a.put o1.dst (.slice (Z ⟨b,0,Y⟩) 1 1)).eval y= .slice (Z ⟨b,0,Y⟩) 1 1)
  (f:O w0.heap.size w0 w) (l:d<w.heap.size) (g:Row (fun k=>w0.heap.size<=k/\k≠d) w 86 3 v out.length (po out)) (C:out.length<=1000000)
  (h:∀u v' w',Row (fun k=>w0.heap.size<=k/\k≠d) w' 86 3 v' (out++[p]).length (po (out++[p]))->O w0.heap.size w0 w'->w'.heap[d]? =w.heap[d]? ->wpList prog ops Q rest ((a.put o1.dst u).put o2.dst v') w'):wpList prog ops Q (o1::o2::rest) a w:=by
 refine Ks.push n o 83 86 x s y q r (H (nC p).toArray) (H #[I J 0,I J 0,.slice none 0 0]) A (nC p).toArray 3 40 underlying83 yK dc dc kr rfl dc _ v out.length (po out) z B g rfl (fun c m=>Mr h1 m) oM ?_;intro u v' w' t i;refine h u v' w' ?_ (f.trans (i.below f.size fun k j e=>absurd (g.2 k e).1 oM)) (i.block d l fun e=>(g.2 d e).2 rfl);rw[ao,Qc];exact t.mono fun k j=>j.elim id fun e=>⟨ag f.size e,oM⟩
theorem PC{lv:Vl}(l:List (Tw×Vl))(t:Tw×Vl)(b1:Row S w 86 3 lv l.length (po l))(h1:∀p∈l,p.2.oneCell'=true)(ht:t.2.oneCell'=true)(hn:l.length<=100000):
  Calls prog 213 #[lv,H (nC t).toArray] w fun e w'=>∃v,e=Re v/\Row (fun k=>w.heap.size<=k) w' 86 3 v (l.length+1) (po (insG oS t l))/\O w.heap.size w w':=by
 obtain⟨p,cap,rfl,hp⟩:=(Sl.mf b1).form (f:=nC) (fun _=>rfl);have HP:Hq (∀i x,l[i]? =Z x->∃b off,p=Z ⟨b,off,Y⟩/\b<w.heap.size/\w.rangeAt b (off+i*3) (nC x)):=hp;have mT:(fX (nC t).toArray).cells=(nC t).toArray:=rfl;clear b1 hp;go_enter func213,ntmps213
 refine au ?_;refine box rfl _ _ rfl (nC t).toArray mT ?_;intro w1 c a6 V T b6;have c4:w.heap.size<=c:=Nat.le_of_eq a6.o.symm;simp only[zD];refine au ?_;refine lp 64 (fun g:Vl×Bool×Nat=>[(0,.slice p l.length cap),(3,pt c 0),(5,g.1),(6,Bl g.2.1),(7,I J (g.2.2:Int))]) (fun m g wr=>g.2.2<=l.length/\m=l.length-g.2.2/\∃out,pV oS t l out g.2.1 g.2.2/\Row (fun k=>w.heap.size<=k/\k≠c) wr 86 3 g.1 out.length (po out)/\O w.heap.size w wr/\wr.heap[c]? =Z (Cl (nC t).toArray 86 (0,0))) l.length (.slice none 0 0,false,0) ⟨aF _,rfl,[],pV.start _ _ _,Row.nil _ _ _ _,T.o,V.o⟩ ?_;clear V T a6 b6;rintro m ⟨v,d,i⟩ wr f ⟨hi,rfl,out,j,C,z,M⟩;simp only at hi j C;have U:Hq (wr.heap[c]? =Z (Cl (nC t).toArray 86 (0,0))):=M;have N:=(aL M);have c7:=j.len;clear M;refine af ?_;refine wp_cond_split rfl ?_ ?_
 ·intro n
  have n:i<l.length:=by have:=of_decide_eq_true n;omega
  obtain⟨y,q⟩:∃y,l[i]? =Z y:=⟨_,ae n⟩;obtain⟨F,off,rfl,P,R⟩:=HP.o i y q;have HR:Hq (wr.rangeAt F (off+i*3) (nC y)):=lX R z P;refine Ks.sk ?_;refine wp_seq (wp_block (wp_seq ?_));refine Ks.cut (fun a' w'=>O wr.heap.size wr w'/\nN 64 [(0,.slice (Z ⟨F,off,Y⟩) l.length cap),(3,pt c 0),(5,v),(6,Bl d),(7,I J (i:Int)),(45,Bl (!d&&oS t y))] a') ?_ ?_
  ·refine Qt.lW kr kr ?_
   refine aq ?_;cases d with
   |true=>
    refine aq ?_;intro w5 a;exact⟨a,gY kr⟩
   |false=>
    refine aq ?_;by_cases s:t.1.br<y.1.br
    ·rw[decide_eq_true s,show oS t y=true from decide_eq_true (oL s)]
     refine aq ?_;intro w5 a;exact⟨a,gY kr⟩
    ·rw[decide_eq_false s]
     refine aq ?_;by_cases E:t.1.br=y.1.br
     ·rw[decide_eq_true E,show oS t y=decide (t.1.ba<y.1.ba) from decide_eq_decide.2 ⟨fun h=>h.elim (fun x=>absurd x s) And.right,fun h=>oR ⟨E,h⟩⟩]
      refine aq ?_;intro w5 a;exact⟨a,gY kr⟩
     ·rw[decide_eq_false E,show oS t y=false from decide_eq_false fun h=>h.elim s fun x=>E x.1]
      refine aq ?_;intro w5 a;exact⟨a,gY kr⟩
  ·rintro a5 w5 ⟨a,b8⟩
   obtain⟨f5,rfl⟩:=b8.ex;have L:=tR z a;have W:Hq (w5.heap[c]? =_):=(a.block c N).trans U.o;have b0:=C.below a lR;have a8:=Nat.lt_of_lt_of_le N a.size;clear U HR C a z;cases K:(!d&&oS t y) with
   |true=>
    rw[aX] at K;obtain rfl:d=false:=by simpa using K.1
    refine af ?_;refine zI t ht rfl rfl _ _ _ rfl rfl rfl (fun _=>rfl) (fun _=>rfl) L a8 b0 oM ?_;intro u v6 w6 c0 a7 b7;have X:Hq (w6.heap[c]? =_):=b7.trans W.o;have b2:Hq (w6.rangeAt F (off+i*3) (nC y)):=lX R a7 P;have c6:(out++[t]).length<=l.length+2:=by simp;omega
    simp only[zD];refine au ?_;refine zI y (h1 y (aJ q)) rfl rfl _ _ _ rfl rfl rfl (fun _=>rfl) (fun _=>rfl) a7 (aL X.o) c0 oM ?_;intro u7 r w7 D A G;simp only[zD];refine au ?_;exact⟨l.length-(i+1),(r,true,i+1),oM,gY kr,n,rfl,_,j.ahead q K.2,D,A,G.trans X.o⟩
   |false=>
    have b2:Hq (w5.rangeAt F (off+i*3) (nC y)):=lX R L P;refine af ?_;refine zI y (h1 y (aJ q)) rfl rfl _ _ _ rfl rfl rfl (fun _=>rfl) (fun _=>rfl) L a8 b0 oM ?_;intro u7 r w7 D A G;simp only[zD];refine au ?_;refine⟨l.length-(i+1),(r,d,i+1),oM,gY kr,n,rfl,_,?_,D,A,G.trans W.o⟩;cases d with
    |true=>exact j.more q
    |false=>exact j.behind q (by simpa using K)
 ·intro n
  obtain rfl:i=l.length:=by have:=of_decide_eq_false n;omega
  refine aw ?_;cases d with
  |true=>
   have B:out=insG oS t l:=by
    have h:out++l.drop l.length=insG oS t l:=j;rw[<-h];simp
   refine au ?_;refine bodyPost_ret (v:=v) kr rfl ?_;refine⟨v,rfl,?_,z⟩;rw[<-B,show l.length+1=out.length by rw[B,(tI oS t l).length_eq];rfl];exact C.mono fun k Q=>Q.1
  |false=>
   have B:out++[t]=insG oS t l:=by
    obtain⟨h1,h2⟩:=j;rw[<-h2,h1];simp[insG]
   refine au ?_;refine zI t ht rfl rfl _ _ _ rfl rfl rfl (fun _=>rfl) (fun _=>rfl) z N C oM ?_;intro u7 r w7 D A G;simp only[zD];refine au ?_;refine bodyPost_ret (v:=r) kr rfl ?_;refine⟨r,rfl,?_,A⟩;rw[<-B,show l.length+1=(out++[t]).length by rw[B,(tI oS t l).length_eq];rfl];exact D.mono fun k Q=>Q.1
end Gt
namespace Bk
def uw(a b:Tw):Bool:=decide (Lt2 a.pass b.pass)
theorem OU(t:Tw×Vl)(R:List (Tw×Vl)):(insG (fun a b:Tw×Vl=>decide (Lt2 a.1.pass b.1.pass)) t R).map aj=insG uw t.1 (R.map aj):=by
 induction R with
 |nil=>rfl
 |cons y r ih=>
  by_cases hd:Lt2 t.1.pass y.1.pass
  ·simp[insG,uw,hd]
  ·simp only[insG,uw,List.map_cons,decide_eq_false hd,Bool.false_eq_true,if_false]
   rw[ih]
theorem Kw{t:Tw}:∀{R:List Tw},R.Pairwise (fun a b=>Lt2 a.pass b.pass)->(∀p∈R,p.pass≠t.pass)->(insG uw t R).Pairwise fun a b=>Lt2 a.pass b.pass
 |[],_,_=>by simp[insG]
 |y::r,h,f=>by
  obtain⟨h1,h2⟩:=bM.1 h;unfold insG;split
  ·rename_i d
   have d:Lt2 t.pass y.pass:=of_decide_eq_true d;refine bM.2 ⟨fun z c=> ?_,h⟩;rcases cr.1 c with rfl|c
   ·exact d
   ·exact d.trans (h1 z c)
  ·rename_i d
   have d:¬Lt2 t.pass y.pass:=fun h=>d (decide_eq_true h);refine bM.2 ⟨fun z c=> ?_,Kw h2 fun z c=>f z (by simp[c])⟩;rcases cr.1 ((tI uw t r).mem_iff.1 c) with rfl|c
   ·exact Lt2.other (fun e=>f y sP e.symm) d
   ·exact h1 z c
structure qf(L:List It)(i:Nat)(T:List Tw):Prop where
 g':T.Pairwise fun a b=>Lt2 a.pass b.pass
 mem:∀e,e∈T↔e.gates=kY L e.pass/\2<=e.gates.length/\∃z∈L.take i,z.gone=false/\z.pass=e.pass
theorem qf.start(L:List It):qf L 0 []:=⟨List.Pairwise.nil,fun e=>sP⟩
theorem qf.done{L:List It}{T:List Tw}(h:qf L L.length T):sH L T:=by
 refine⟨h.g',fun e=> ?_⟩;rw[h.mem e,aT lR];refine⟨fun x=>⟨x.1,x.2.1⟩,fun x=>⟨x.1,x.2,?_⟩⟩;have i:kY L e.pass≠ []:=fun c=>by rw[x.1,c] at x;simp at x
 obtain⟨a,d⟩:=List.exists_mem_of_ne_nil _ i;obtain⟨z,b,_⟩:=List.mem_map.1 d;obtain⟨b,f⟩:=bK.1 b;obtain⟨b,g⟩:=bK.1 b;exact⟨z,b,by simpa using g,by simpa using f⟩
theorem qf.same{L:List It}{T:List Tw}{x:It}(h:qf L i T)(d:L[i]? =Z x)(b:x.gone=true\/(∃z∈L.take i,z.gone=false/\z.pass=x.pass)\/(kY L x.pass).length<2):qf L (i+1) T:=by
 refine⟨h.g',fun e=> ?_⟩;rw[h.mem e];refine and_congr_right fun h1=>and_congr_right fun h2=>⟨?_,?_⟩
 ·rintro⟨z,a,h3⟩
  exact⟨z,by rw[nd d];exact cQ _ a,h3⟩
 ·rintro⟨z,a,h3,c⟩
  rw[nd d] at a;rcases bV.1 a with a|a
  ·exact⟨z,a,h3,c⟩
  ·obtain rfl:=cm.1 a
   rcases b with b|⟨y,j,f,g⟩|b
   ·rw[b] at h3;cases h3
   ·exact⟨y,j,f,g.trans c⟩
   ·rw[c,<-h1] at b
    omega
theorem qf.more{L:List It}{T:List Tw}{x:It}(h:qf L i T)(o:L[i]? =Z x)(l:x.gone=false)(k:∀z∈L.take i,z.gone=false->z.pass≠x.pass)(h2:2<=(kY L x.pass).length):qf L (i+1) (insG uw ⟨x.br,x.ba,kY L x.pass⟩ T):=by
 have m:∀p∈T,p.pass≠x.pass:=fun p n e=>by
  obtain⟨_,_,z,f,h3,j⟩:=(h.mem p).1 n;exact k z f h3 (j.trans e)
 refine⟨Kw h.g' m,fun e=> ?_⟩;rw[(tI _ _ _).mem_iff,cr,h.mem e,nd o];constructor
 ·rintro(rfl|⟨a,b,z,f,c⟩)
  ·exact⟨rfl,h2,x,sP,l,rfl⟩
  ·exact⟨a,b,z,cQ _ f,c⟩
 ·rintro⟨a,b,z,f,c,d⟩
  rcases bV.1 f with f|f
  ·exact oR ⟨a,b,z,f,c,d⟩
  ·obtain rfl:=cm.1 f
   left;obtain⟨q,r,g⟩:=e;obtain rfl:=congrArg aj d;obtain rfl:=congrArg Prod.snd d;have a:g=kY L z.pass:=a;rw[a];rfl
theorem XK{L:List It}{k:Nat}{y:It}(p:Int×Int)(h:L[k]? =Z y):kY (L.take (k+1)) p=kY (L.take k) p++if y.gone=false/\y.pass=p then [y.gate] else []:=by
 unfold kY held;rw[nd h,df,df,ef];congr 1;by_cases a:y.gone<;>by_cases b:y.pass=p<;>simp[a,b]
theorem Kj{α:Type}{l:List α}{x:α}:x∈l.take i↔∃j,j<i/\l[j]? =Z x:=by
 rw[List.mem_iff_getElem?];constructor
 ·rintro⟨j,h⟩
  rw[List.getElem?_take] at h;split at h
  ·exact⟨j,by assumption,h⟩
  ·cases h
 ·rintro⟨j,h1,h2⟩
  exact⟨j,by rw[List.getElem?_take_of_lt h1];exact h2⟩
theorem SR(L:List It)(p:Int×Int):(kY L p).length<=L.length:=by
 unfold kY held;rw[List.length_map];exact ag (ey _ _) (ey _ _)
end Bk
namespace Gt
open Mp Bk Tk
theorem OP{s:St}(h:jh S w g s kn)(hI:Inv s):Calls prog 138 #[X (Z ⟨g,0,Y⟩)] w fun e w'=>∃v,e=Re v/\(∃l:List (Tw×Vl),sH s.l (l.map aj)/\nu (fun k=>w.heap.size<=k) w' v l)/\O w.heap.size w w':=by
 obtain⟨hS,lv,D,j2⟩:=h;obtain⟨p,cap,rfl,B⟩:=Row.form j2;have j9:Hq (w.heap[g]? =Z (Cl (lF s (.slice p s.l.length cap) kn) 225 (0,0))):=D;have HP:Hq (∀k,k<s.l.length->∃g c0,p=Z ⟨g,0,Y⟩/\w.heap[g]? =Z (Cl c0 73 (0,0))/\c0.toList.take (s.l.length*5)=gi s.l):=B;have l7:=(aL D);have hn:=hI.kB;clear D j2 hI B;have e5:∀wr,O w.heap.size w wr->Hq (wr.heap[g]? =Z (Cl (lF s (.slice p s.l.length cap) kn) 225 (0,0))):=fun wr q=>(q.block g l7).trans j9.o;have item:∀i y,s.l[i]? =Z y->∃P,p=Z ⟨P,0,Y⟩/\∀wr,O w.heap.size w wr->Hq (wr.rangeAt P (i*5) (fF y)):=fun i y E=>by
  obtain⟨P,c0,e,h9,n0⟩:=HP.o i (lL E);exact⟨P,e,fun wr q=>lX (Row.range qD h9 n0 E) q (aL h9)⟩
 go_enter func138,ntmps138
 refine au ?_;refine lp 91 (fun d:Vl×Nat=>[(0,pt g 0),(3,d.1),(4,I J (d.2:Int))]) (fun m d wr=>d.2<=s.l.length/\m=s.l.length-d.2/\O w.heap.size w wr/\∃R:List (Tw×Vl),R.length<=d.2/\qf s.l d.2 (R.map aj)/\nu (fun k=>w.heap.size<=k) wr d.1 R) s.l.length (.slice none 0 0,0) ⟨aF _,rfl,Below.refl _ _,[],Nat.le_refl _,qf.start _,nu.nil _ _⟩ ?_;rintro m ⟨v,i⟩ wr f ⟨hi,rfl,q,R,l3,V,hA⟩;simp only at hi l3 V hA;have HG:=e5 wr q;refine af ?_;refine wp_cond_split rfl ?_ ?_
 ·intro A
  have A:i<s.l.length:=by have:=of_decide_eq_true A;omega
  obtain⟨x,hx⟩:∃y,s.l[i]? =Z y:=⟨_,ae A⟩;obtain⟨P,rfl,hr⟩:=item i x hx;have HR:=hr wr q;refine au ?_;refine decl rfl _ rfl (H #[I J 0,I J 0,I J 0,I J 0,Bl false]) kr rfl _ _ rfl (fF x).toArray (fun _=>rfl) (fun _=>rfl) kr rfl (by simp[fF,av]) ?_;intro w1 b5 l1 b7 b2;simp only[zD];refine au ?_;refine kv (H (nC (⟨x.br,x.ba,[]⟩,.slice none 0 0)).toArray) ?_;refine decl rfl _ rfl (H #[I J 0,I J 0,.slice none 0 0]) kr rfl _ _ rfl (nC (⟨x.br,x.ba,[]⟩,.slice none 0 0)).toArray (fun _=>rfl) (fun _=>rfl) kr rfl (by simp[av]) ?_;intro w2 n b8 e1 b3;have e4:=ca b3 b7;have l4:wr.heap.size<=n:=ag b2.o.size b8.o;have o0:b5<w1.heap.size:=(aL b7.o);have o4:w1.heap.size<=n:=b8.o;have e6:=tR b2 b3;clear b7 b2 b3 l1 b8 HR HG;simp only[zD];refine au ?_;refine lp 91 (fun d:Bool×Nat=>[(0,pt g 0),(3,v),(4,I J (i:Int)),(5,pt b5 0),(6,pt n 0),(7,Bl d.1),(8,I J (d.2:Int))]) (fun m d r=>d.2<=s.l.length/\m=s.l.length-d.2/\O wr.heap.size wr r/\r.heap[b5]? =Z (Cl (fF x).toArray 73 (0,0))/\(d.1=true↔x.gone=false/\∀j y,j<d.2->j<i->s.l[j]? =Z y->¬(y.gone=false/\y.pass=x.pass))/\∃mv,r.heap[n]? =Z (Cl #[I J x.br,I J x.ba,mv] 86 (0,0))/\Row (fun j=>wr.heap.size<=j) r 3 1 mv (kY (s.l.take d.2) x.pass).length ((kY (s.l.take d.2) x.pass).map hE)) s.l.length (!x.gone,0) ⟨aF _,rfl,e6,e4.o,sP,_,e1.o,Row.nil _ _ _ _⟩ ?_;clear e4 e1 e6;rintro m ⟨F,k⟩ r f2 ⟨hk,rfl,c4,h8,W,mv,e9,G⟩;simp only at hk W G;have K:=tR q c4;have HG:=e5 r K;have HX:Hq (r.heap[b5]? =Z (Cl (fF x).toArray 73 (0,0))):=h8;have HC:Hq (r.heap[n]? =Z (Cl #[I J x.br,I J x.ba,mv] 86 (0,0))):=e9;have l8:(kY (s.l.take k) x.pass).length<=16000:=ag (SR _ _) (by rw[aY];omega);clear h8 e9;obtain⟨M,L,rfl,_⟩:=Row.form G;refine af ?_;refine wp_cond_split rfl ?_ ?_
  ·intro t
   have t:k<s.l.length:=by have:=of_decide_eq_true t;omega
   obtain⟨y,E⟩:∃y,s.l[k]? =Z y:=⟨_,ae t⟩;obtain⟨n9,e,l9⟩:=item k y E;injection e with e
   injection e with e _
   subst e;have HR:=l9 r K;have c8:=XK x.pass E;have l5:¬(y.gone=false/\y.pass=x.pass)->(F=true↔x.gone=false/\∀j z,j<k+1->j<i->s.l[j]? =Z z->¬(z.gone=false/\z.pass=x.pass)):=fun hn=>W.trans (and_congr_right fun _=>⟨fun h j z h1 h2 h3=>by
    by_cases hj:j=k
    ·subst hj
     rw[E] at h3;injection h3 with h3
     rw[<-h3];exact hn
    ·exact h j z oM h2 h3,fun h j z h1=>h j z oM⟩)
   refine au ?_;refine decl rfl _ rfl (H #[I J 0,I J 0,I J 0,I J 0,Bl false]) kr rfl _ _ rfl (fF y).toArray (fun _=>rfl) (fun _=>rfl) kr rfl (by simp[fF,av]) ?_;intro w4 b9 l2 n5 N;have b0:=ca N HX;have a8:=ca N HC;have U:=G.below N.o lR;have b1:=tR c4 N;clear HX HC HG HR N l2 G;have fin:∀a',¬(y.gone=false/\y.pass=x.pass)->nN 91 [(0,pt g 0),(3,v),(4,I J (i:Int)),(5,pt b5 0),(6,pt n 0),(7,Bl F),(8,I J ((k+1:Nat):Int))] a'->∃m' C,m'<s.l.length-k/\nN 91 [(0,pt g 0),(3,v),(4,I J (i:Int)),(5,pt b5 0),(6,pt n 0),(7,Bl (C:Bool×Nat).1),(8,I J (C.2:Int))] a'/\C.2<=s.l.length/\m'=s.l.length-C.2/\O wr.heap.size wr w4/\w4.heap[b5]? =Z (Cl (fF x).toArray 73 (0,0))/\(C.1=true↔x.gone=false/\∀j y,j<C.2->j<i->s.l[j]? =Z y->¬(y.gone=false/\y.pass=x.pass))/\∃mv,w4.heap[n]? =Z (Cl #[I J x.br,I J x.ba,mv] 86 (0,0))/\Row (fun j=>wr.heap.size<=j) w4 3 1 mv (kY (s.l.take C.2) x.pass).length ((kY (s.l.take C.2) x.pass).map hE):=fun a' hn hf=>⟨s.l.length-(k+1),(F,k+1),oM,hf,t,rfl,b1,b0.o,l5 hn,_,a8.o,by rw[c8,if_neg hn,List.append_nil];exact U⟩;simp only[zD];refine aw ?_;cases j1:y.gone with
   |true=>
    refine au ?_;exact fin _ (fun h=>by rw[j1] at h;cases h.1) (gY kr)
   |false=>
    refine aw ?_;by_cases c1:y.br=x.br
    ·rw[decide_eq_true c1]
     refine aw ?_;by_cases c2:y.ba=x.ba
     ·rw[decide_eq_true c2]
      have hm:y.gone=false/\y.pass=x.pass:=⟨j1,Prod.ext c1 c2⟩;rw[if_pos hm] at c8;refine au ?_;refine Ks.push rfl rfl 25 3 _ _ _ rfl rfl (I J y.gate) (I J 0) rfl #[I J y.gate] 1 8 underlying25 qC dc dc kr rfl dc _ _ (kY (s.l.take k) x.pass).length ((kY (s.l.take k) x.pass).map hE) (fun _=>rfl) (fun _=>rfl) U rfl (fun c hc=>by simp at hc;rw[hc];rfl) oM ?_;intro u a7 w5 a6 c7;have e2:Hq (w5.heap[n]? =_):=(c7.block n (aL a8.o) (kV U a8.o dc)).trans a8.o;have l0:Hq (w5.heap[b5]? =_):=(c7.block b5 (aL b0.o) (kV U b0.o dc)).trans b0.o;simp only[zD];refine au ?_;refine Ks.store rfl _ _ _ rfl n 2 a7 rfl rfl e2.o (by show 2<3;omega) kr (row_one a6) #[I J x.br,I J x.ba,a7] rfl ?_;intro w6 e3 H2 H3 H4;simp only[Act.put];have e7:O wr.heap.size wr w6:=(b1.trans (c7.below b1.size fun j hj e=>absurd (U.2 j e) oM)).trans ((H2.o (fun _=>False) wr.heap.size (oR l4)).below lR (fun _ _ h=>h));have h7:w6.heap[b5]? =Z (Cl (fF x).toArray 73 (0,0)):=(H3.o b5 oM).trans l0.o;have h0:Row (fun j=>wr.heap.size<=j) w6 3 1 a7 (kY (s.l.take (k+1)) x.pass).length ((kY (s.l.take (k+1)) x.pass).map hE):=by
       rw[c8,ao,ef];exact(Row.other a6 (kV a6 e2.o dc) H3.o).mono fun j hj=>hj.elim id fun e=>ag b1.size e
      refine aw ?_;have j0:(F&&decide ((i:Int)<=k))=true↔x.gone=false/\∀j z,j<k+1->j<i->s.l[j]? =Z z->¬(z.gone=false/\z.pass=x.pass):=by
       rw[aX,W,decide_eq_true_eq];constructor
       ·rintro⟨⟨h1,h2⟩,h3⟩
        exact⟨h1,fun j z Q h5=>h2 j z oM h5⟩
       ·rintro⟨h1,h2⟩
        refine⟨⟨h1,fun j z Q=>h2 j z oM⟩,?_⟩;apply bt;exact fun h3=>h2 k y oM oM E hm
      cases F with
      |true=>
       refine au ?_;exact⟨s.l.length-(k+1),(decide ((i:Int)<=k),k+1),oM,gY kr,t,rfl,e7,h7,by simpa using j0,a7,e3.o,h0⟩
      |false=>
       refine au ?_;exact⟨s.l.length-(k+1),(false,k+1),oM,gY kr,t,rfl,e7,h7,by simpa using j0,a7,e3.o,h0⟩
     ·rw[decide_eq_false c2]
      refine au ?_;exact fin _ (fun h=>c2 (congrArg Prod.snd h.2)) (gY kr)
    ·rw[decide_eq_false c1]
     refine au ?_;exact fin _ (fun h=>c1 (congrArg aj h.2)) (gY kr)
  ·intro t
   obtain rfl:k=s.l.length:=by have:=of_decide_eq_false t;omega
   rw[aT lR] at G HC l8;have T:=hA.below c4;have j5:=K.size;refine aw ?_;cases F with
   |false=>
    refine au ?_;refine⟨s.l.length-(i+1),(v,i+1),oM,gY kr,A,rfl,K,R,by show R.length<=i+1;omega,V.same hx ?_,T⟩;cases D:x.gone with
    |true=>exact oL rfl
    |false=>
     right;left;apply bt;intro hc;have:=W.2 ⟨D,fun j z _ h2 h3 Q=>hc ⟨z,Kj.2 ⟨j,h2,h3⟩,Q⟩⟩;cases this
   |true=>
    obtain⟨D,l6⟩:=W.1 rfl;refine aw ?_;by_cases h2:2<=(kY s.l x.pass).length
    ·rw[decide_eq_true (show(1:Int)<(kY s.l x.pass).length by omega)]
     refine au ?_;refine Ks.call rfl 213 #[v,H (nC (⟨x.br,x.ba,kY s.l x.pass⟩,.slice M (kY s.l x.pass).length L)).toArray] kr (PC R (⟨x.br,x.ba,kY s.l x.pass⟩,.slice M (kY s.l x.pass).length L) T.row (fun p B=>row_one (T.more p B)) rfl oM) ?_;rintro v' w5 ⟨a6,c6⟩;simp only[zD];refine au ?_;have c9:=(tI oS (⟨x.br,x.ba,kY s.l x.pass⟩,.slice M (kY s.l x.pass).length L) R);refine⟨s.l.length-(i+1),(v',i+1),oM,gY kr,A,rfl,K.trans (c6.mono j5),insG oS (⟨x.br,x.ba,kY s.l x.pass⟩,.slice M (kY s.l x.pass).length L) R,?_,?_,?_,?_⟩
     ·rw[c9.length_eq]
      show R.length+1<=i+1;omega
     ·have:=V.more hx D (fun z hz h3 Q=>by
       obtain⟨j,h5,h6⟩:=Kj.1 hz;exact l6 j z oM h5 h6 ⟨h3,Q⟩) h2
      rw[show insG oS (⟨x.br,x.ba,kY s.l x.pass⟩,.slice M (kY s.l x.pass).length L) R=insG (fun a b:Tw×Vl=>decide (Lt2 a.1.pass b.1.pass)) (⟨x.br,x.ba,kY s.l x.pass⟩,.slice M (kY s.l x.pass).length L) R from rfl,OU];exact this
     ·rw[c9.length_eq]
      exact a6.mono fun k hk=>ag j5 hk
     ·intro p B
      rcases cr.1 (c9.mem_iff.1 B) with rfl|B
      ·exact(G.below c6 lR).mono fun k hk=>ag q.size hk
      ·exact(T.more p B).below c6 lR
    ·rw[decide_eq_false (show¬(1:Int)<(kY s.l x.pass).length by omega)]
     refine au ?_;exact⟨s.l.length-(i+1),(v,i+1),oM,gY kr,A,rfl,K,R,by show R.length<=i+1;omega,V.same hx (oR (oR oM)),T⟩
 ·intro A
  obtain rfl:i=s.l.length:=by have:=of_decide_eq_false A;omega
  refine au ?_;refine bodyPost_ret (v:=v) kr rfl ?_;exact⟨v,rfl,⟨R,V.done,hA⟩,q⟩
