/- Walk of the book: ownsItems. Walk of the book: ownsDigest. Walk of the book: ownsDigest, the whole. Drawn regions whose operations draw and lay blocks at the end, and nothing else. News by what a gate knows: how they are told and heard; what was let in twice. -/
import Derived.Test.YtbojijefenfbgaaGreatDoorAaLwB
open Go.Act renaming put->aD
open List renaming take_succ_cons->ak,take_zero->aE,drop_succ_cons->ax,drop_zero->aK,mem_cons->cr,not_mem_nil->eG,take_add_one->ee,take_append_drop->cb,pairwise_append->eH,mem_of_getElem?->aJ,mem_of_mem_take->dz,filter_append->df,all_append->kD,mem_append->bV,mem_map->aU,mem_filter->bK,length_map->aS
open Go.Value renaming oneCell'->av,slice->aZ
open Nat renaming zero_le->aF,zero_add->bC,reduceAdd->gO,le_succ->iX
open Eq renaming trans->aN
open Go.Region renaming wanted->ah
open Bool renaming and_eq_true->aX,not_eq_true'->gS,and_eq_false_iff->ji
open Option renaming some->Z,none->Y
open Go.Value renaming int->I,pointer->X,agg->H,bool->Bl,tuple->Tp
open Go.IntKind renaming i64->J
open Go.Obj renaming cells->Cl
open Go.Ending renaming returned->Re
open Go renaming World->D,Value->Vl
open Go.RowKit renaming Below->O
set_option maxHeartbeats 4000000
set_option maxRecDepth 100000
open Go Go.RowKit
open Go.Proofs.YtbojijefenfbgaaGreatDoor
open Ks(au vb w0 al lp pt af setL gY rI uF rZ qT qN ql qp tk)
variable{B c i most:Nat}{C:Nat->Nat->Prop}{S:Nat->Prop}{p:Int×Int}{u v w':D}
namespace Go.Proofs.YtbojijefenfbgaaGreatDoor
open Tryz
namespace Gt
open Mp Bk Fu
theorem Ma:(prog.info? 64).map (fun i=>(i.zero,i.size,i.bytes))=Z (Z (.slice none 0 0),1,24):=kr
theorem E9:(prog.info? 73).map (fun i=>(i.zero,i.size,i.bytes))=Z (Z (H #[I J 0,I J 0,I J 0,I J 0,Bl false]),5,40):=kr
def ti(m:Int):List Vl:=[I J m,I J 0,I J 0,I J m,Bl true]
theorem Dt{w:D}{d:Bd}(h:lH C w B c d)(v:Vl)(n:Nat)(xs:List Vl)(F:Row S w 73 5 v n xs)(M:∀b j,S b->¬C b j)(hn:n<=1000000000)(hc:c<=5800000000000):
  Calls prog 210 #[X (Z ⟨B,0,Y⟩),v] w fun e w'=>e=Re (Tp #[])/\kU C S w w' B (c+4):=by
 obtain⟨m,P⟩:=eX (d.next-1);have e3:=h.next;have j5:=h.kB 2 oM;obtain⟨p,cap,rfl,_⟩:=Row.form F;have E:Hq (lH C w B c d):=h;have HB:Hq (w.heap[B]? =Z (Cl (kh d) 32 (0,0))):=h.book;have a6:¬S B:=fun x=>M B 2 x h.oB;have V:Hq (Row (fun b=>S b/\b<w.heap.size) w 73 5 (.slice p n cap) n xs):=⟨F.1,fun b a=>⟨F.2 b a,F.lt b a⟩⟩;clear h F;go_enter func210,ntmps210
 refine au ?_;refine(vb (v:=I J m) (w0 rfl) rfl (by rw[P];exact xY rfl rfl rfl oM) ?_).o;refine Ks.WL.mk ?_;simp only[zD];refine al ?_;refine Ks.store rfl _ _ _ rfl B 10 _ rfl rfl HB.o (by show 10<11;omega) kr rfl (kh {d with next:=m}) rfl ?_;intro w1 G r l H4;have c7:=V.o.congr fun b a=>l.o b fun e=>a6 (e▸(V.o.2 b a).1);have s:Fr (fun b=>b=B\/S b) w.heap.size w w1:=r.o _ _ (oL (oL rfl));clear HB V r l H4;simp only[aD];refine au ?_;refine Qt.tT 9 (fun u w'=>∃b,u=X (Z ⟨b,0,Y⟩)/\w1.heap.size<=b/\w'.heap[b]? =Z (Cl #[I J 0,I J 0,I J 0,I J 0,Bl false] 73 (0,0))) kr kr (fun u w w' ⟨b,e,h1,h2⟩ a=>⟨b,e,h1,(a.block b (aL h2)).trans h2⟩) _ rfl ?_;simp only[ak,aE];refine Ks.ay ?_;refine yV (H (ti m).toArray) ?_;refine Qt.gh ⟨fun w' a=> ?_,?_⟩
 ·exact⟨⟨w'.heap.size,rfl,a.size,Go.heap_alloc_new w' _⟩,⟨rfl,rfl,rfl,sP,fun k hk=>Go.heap_alloc_old w' _ hk⟩⟩
 simp only[ax,aK];rintro u w2 N ⟨xb,rfl,l1,e6⟩;have j0:=s.size;have a7:=c7.below N lR;have y:=s.trans (Fr.kq N j0);have c0:=(N.block B (aL G.o)).trans G.o;have j9:=(aL G.o);clear G N c7 s;simp only[zD];refine Ks.whole rfl _ _ _ rfl xb (ti m).toArray rfl rfl e6 kr rfl (by simp[ti,av]) ?_;intro w3 b7 r l H4;have c6:nA (fun b=>S b/\b<w.heap.size) w3 73 5 (.slice p n cap) n (fT 2 m) 0:=nA.start (a7.congr fun b a=>l.o b fun e=>by have:=(a7.2 b a).2;omega) _;have c8:=y.trans (r.o (fun b=>b=B\/S b) w.heap.size (oR oM));have c4:=(l.o B oM).trans c0;clear r l H4 a7 y c0 e6;simp only[aD];refine au ?_;refine lp 76 (fun i:Nat=>[(0,pt B 0),(1,.slice p n cap),(4,pt xb 0),(5,I J (i:Int))]) (fun k i wr=>i<=n/\k=n-i/\nA (fun b=>S b/\b<w.heap.size) wr 73 5 (.slice p n cap) n (fT 2 m) i/\Fr (fun b=>b=B\/S b) w.heap.size w wr/\wr.heap[B]? =Z (Cl (kh {d with next:=m}) 32 (0,0))/\wr.heap[xb]? =Z (Cl (ti m).toArray 73 (0,0))) n 0 ⟨aF _,rfl,c6,c8,c4,b7.o⟩ ?_;clear c6 c8 c4 b7;rintro k i wr f ⟨hi,rfl,hF,t,hB,hX⟩;have K:Hq (wr.heap[xb]? =_):=hX;refine af ?_;refine wp_cond_split rfl ?_ ?_
 ·intro z
  have z:i<n:=by have:=of_decide_eq_true z;omega
  obtain⟨g,cp,b8,e,a8,hg,l0,e3⟩:=hF.at oM;cases e;have h8:i*5+5<=b8.size:=oM
  refine au ?_;refine Ks.part rfl _ _ _ rfl g (i*5) (ti m) rfl rfl hg h8 kr (by simp[ti,av]) (setL b8 (i*5) (ti m)) rfl ?_;intro w2 HG r l H4;simp only[aD];refine au ?_;exact⟨n-(i+1),i+1,oM,gY kr,z,rfl,e3 w2 _ HG.o rfl (fun j hj=>by
   rcases (show j=0\/j=1\/j=2\/j=3\/j=4 by omega) with rfl|rfl|rfl|rfl|rfl<;>rfl) z,t.trans (r.o _ _ (oL (oR a8.1))),(l.o B fun e=>a6 (e▸a8.1)).trans hB,(l.o xb (by have:=a8.2;omega)).trans K.o⟩
 ·intro z
  obtain rfl:i=n:=by have:=of_decide_eq_false z;omega
  have b3:=hF.done;clear hF hX;have j2:¬(aZ p i cap).ownBlock=Z xb:=fun e=>by have:=(b3.2 xb e).2;omega
  refine au ?_;refine rI rfl rfl 64 73 1 _ _ _ rfl rfl (H #[I J 0,I J 0,I J 0,I J 0,Bl false]) (fT 2 m) 5 40 underlying64 E9 dc dc kr rfl _ _ i (fun _=>rfl) (fun _=>rfl) b3 (rR 2 m) (by unfold maxLen;omega) oM ?_;intro u1 v1 w1 Q e1 _ s;obtain⟨p1,W,rfl,_⟩:=Row.form Q;have h5:Hq (w1.heap[xb]? =_):=(s.block xb (aL K.o) j2).trans K.o;clear K;simp only[zD];refine au ?_;refine rI rfl rfl 64 73 2 _ _ _ rfl rfl (H #[I J 0,I J 0,I J 0,I J 0,Bl false]) (fT 2 m) 5 40 underlying64 E9 dc dc kr rfl _ _ i (fun _=>rfl) (fun _=>rfl) e1 (rR 2 m) (by unfold maxLen;omega) oM ?_;intro u2 v2 w3 R O e4 y;obtain⟨p2,c2,rfl,_⟩:=Row.form R;clear h5;simp only[zD];have b0:∀b,(aZ p i cap).ownBlock=Z b->S b:=fun b a=>(O.2 b a).1;have s0:=t.size;have s1:=s.size;have s2:=y.size;have T:Hq (Fr (fun b=>b=B\/S b) w.heap.size w w3):=(t.trans (s.mono s0 fun b _ x=>oR (b0 b x))).trans (y.mono oM fun b _ x=>oR (b0 b x));have b6:Hq (w3.heap[B]? =Z (Cl (kh {d with next:=m}) 32 (0,0))):=by
   have q:∀{u v:D},Fr (fun j=>(aZ p i cap).ownBlock=Z j) u.heap.size u v->u.heap[B]? =Z (Cl (kh {d with next:=m}) 32 (0,0))->v.heap[B]? =Z (Cl (kh {d with next:=m}) 32 (0,0)):=fun t h=>(t.block B (aL h) fun x=>a6 (b0 B x)).trans h;exact q y (q s hB)
  have HN:Hq (∀u∈ [.slice p i cap,.slice p1 (i+1) W,.slice p2 (i+2) c2],Fl w3 (eT 2) (rq 2) (fT 2 (d.next-1)) u/\∀b,u.ownBlock=Z b->S b\/w.heap.size<=b):=by
   rw[<-P];intro u hu;simp only[cr,eG,or_false] at hu;rcases hu with rfl|rfl|rfl
   ·exact⟨mf O,fun b a=>oL (O.2 b a).1⟩
   ·exact⟨e4 _ (mf Q),fun b a=>(Q.2 b a).imp And.left fun x=>oM⟩
   ·exact⟨mf R,fun b a=>(R.2 b a).imp And.left fun x=>oM⟩
  clear s y t hB Q R e1 O e4 b3;have j1:=(E.o.vx (k:=2) oM M T.o).1;refine au ?_;refine uF rfl rfl 29 64 3 _ _ _ rfl rfl (.slice none 0 0) #[.slice p i cap,.slice p1 (i+1) W,.slice p2 (i+2) c2] 1 24 underlying29 Ma dc dc kr rfl _ (d.v 2) (d.L 2).length ((d.L 2).map Prod.fst) (fun _=>rfl) (fun _=>rfl) j1 rfl (by simp[av]) (by unfold maxLen;omega) oM ?_;intro u4 vs w4 e5 b1;have e7:Hq (w4.heap[B]? =Z (Cl (kh {d with next:=m}) 32 (0,0))):=E.o.xH (k:=2) oM b6.o b1;clear b6;simp only[zD];refine au ?_;refine Ks.store rfl _ _ _ rfl B 6 _ rfl rfl e7.o (by show 6<11;omega) kr e5.one (kh {d with next:=m,v:=fun j=>if j=2 then vs else d.v j}) rfl ?_;intro w5 e9 r l H4;have c9:=r.o (fun b=>b=B) w4.heap.size (oL rfl);simp only[aD];refine au ?_;have h9:=E.o.xI (k:=2) oM M T.o b1 c9;refine Qt.J1 17 (fun j=>[pt B 0,pt B 0,pt B 0,pt B 7,d.m 2,pt B 0,pt B 0,pt B 10,I J m,pt B 0,pt B 0,pt B 10,I J m,pt B 0,pt B 0,pt B 10,I J m].getD j undef) (fun w'=>Hq (w'.heap[B]? =Z (Cl (kh {d with next:=m,v:=fun j=>if j=2 then vs else d.v j}) 32 (0,0)))) kr kr kr 25 3 3 (I J 0) #[I J m,I J m,I J m] 1 8 underlying25 qC dc dc rfl _ (d.m 2) (d.L 2).length _ h9 rfl (by simp[av]) (by unfold maxLen;omega) oM e9 (fun u v hu hA t=>E.o.xJ (k:=2) oM hA.o t) ?_ _ rfl _ rfl ?_ _ rfl _ _ rfl ?_ ?_
  ·exact⟨fun _ _ _ _=>kr,fun _ _ _ _=>kr,fun _ _ _ h=>rZ rfl (aN kr (h 1 kr)),fun _ _ _ h=>qT rfl (qN 32 7 dc) (aN kr (h 2 kr)),fun _ _ A h=>ql rfl Ks.yj (aN kr (h 3 kr)) (qp A rfl),
    fun _ _ _ _=>kr,fun _ _ _ h=>rZ rfl (aN kr (h 5 kr)),fun _ _ _ h=>qT rfl (qN 32 10 dc) (aN kr (h 6 kr)),fun _ _ A h=>ql rfl tk (aN kr (h 7 kr)) (qp A rfl),
    fun _ _ _ _=>kr,fun _ _ _ h=>rZ rfl (aN kr (h 9 kr)),fun _ _ _ h=>qT rfl (qN 32 10 dc) (aN kr (h 10 kr)),fun _ _ A h=>ql rfl tk (aN kr (h 11 kr)) (qp A rfl),
    fun _ _ _ _=>kr,fun _ _ _ h=>rZ rfl (aN kr (h 13 kr)),fun _ _ _ h=>qT rfl (qN 32 10 dc) (aN kr (h 14 kr)),fun _ _ A h=>ql rfl tk (aN kr (h 15 kr)) (qp A rfl),trivial⟩
  ·exact fun U h=>⟨_,aN (b:=[(0,U 8),(1,U 12),(2,U 16)]) kr (by rw[h 8 dc kr,h 12 dc kr,h 16 dc kr]),kr⟩
  ·exact fun U h=>⟨aN kr (h 4 dc kr),kr⟩
  intro U w6 h0 hU b2 h7;have h6:U 0=pt B 0:=hU 0 dc;obtain⟨ms,e2⟩:=eX (U 18);rw[<-e2] at b2;simp only[Qt.gu,ak,aE,ax,aK,h6,bC,gO,<-e2];simp only[zD];refine al ?_;refine Ks.store rfl _ _ _ rfl B 7 _ rfl rfl h0.o (by show 7<11;omega) kr b2.one (kh (d.set 2 vs ms (d.next-1) [.slice p i cap,.slice p1 (i+1) W,.slice p2 (i+2) c2])) (by rw[<-P];rfl) ?_;intro w7 h4 G2 G3 G4;simp only[aD];refine au ?_;refine bodyPost_end (v:=Tp #[]) kr rfl ?_;exact⟨rfl,E.o.fin (k:=2) oM M (by exact iX 3) T.o HN.o e5 b1 c9 (by rw[<-P];exact b2) h7 (G2.o _ _ (oL rfl)) h4.o⟩
theorem kU.mono{C:Nat->Nat->Prop}{S T:Nat->Prop}{u v:D}{B c c':Nat}(h:kU C S u v B c)(d:∀b,S b->T b)(g:c<=c'):kU C T u v B c':=by
 obtain⟨e,d1,h1,h2,h3,f⟩:=h;exact⟨e,d1,h1.more g,h2,fun b i a=>(h3 b i a).imp id fun x=>x.imp id (d b),f.mono lR fun b _ a=>a.imp id (d b)⟩
theorem kU.after{t:D}(h:kU C S u v B c)(a:O t.heap.size t u):kU C S t v B c:=by
 obtain⟨d,d1,h1,h2,h3,e⟩:=h;exact⟨d,d1,h1,h2,fun b i hi=>(h3 b i hi).imp id fun x=>x.imp (fun x=>Nat.le_trans a.size x) id,(Fr.kq a lR).trans (e.mono a.size fun _ _ h=>h)⟩
theorem kU.start{w:D}{d:Bd}(h:lH C w B c d)(S:Nat->Prop):kU C S w w B c:=⟨C,d,h,fun _ _ h=>h,fun _ _ h=>oL h,Fr.refl _ _ _⟩
def mA{a:Type}(l:List (a×Vl))(i:Nat)(b:Nat):Prop:=∃p∈l.take i,p.2.ownBlock=Z b
theorem mA.up{a:Type}{l:List (a×Vl)}{p:a×Vl}(d:l[i]? =Z p)(b:Nat)(h:mA l i b\/p.2.ownBlock=Z b):mA l (i+1) b:=by
 unfold mA;rw[ee,d];rcases h with⟨q,e,c⟩|h
 ·exact⟨q,List.mem_append_left _ e,c⟩
 ·exact⟨p,List.mem_append_right _ sP,h⟩
theorem mA.apart{f:Type}{l:List (f×Vl)}(c:l.Pairwise fun a b=>∀k,a.2.ownBlock=Z k->b.2.ownBlock≠Z k){p:f×Vl}(d:l[i]? =Z p){b:Nat}(g:p.2.ownBlock=Z b):¬mA l i b:=by
 rintro⟨q,m,h⟩;have j:=(lL d);have e:l=l.take i++l.drop i:=(cb i l).symm;rw[e] at c;refine(eH.1 c).2.2 q m p ?_ b h g;rw[List.drop_eq_getElem_cons j,<-(List.getElem?_eq_some_iff.1 d).2];exact List.mem_cons_self ..
theorem kU.int{n:Type}{w wr:D}{l:List (n×Vl)}{f:n->List Int}(z:∀p∈l,Row S w 3 1 p.2 (f p.1).length ((f p.1).map hE))(r:l.Pairwise fun a b=>∀k,a.2.ownBlock=Z k->b.2.ownBlock≠Z k)(q:∀b j,S b->¬C b j){p:n×Vl}(h:l[i]? =Z p)(u:kU C (mA l i) w wr B (c+4*i))(A:(f p.1).length<=1000000000)(y:c+4*i<=5800000000000):
  Calls prog 215 #[X (Z ⟨B,0,Y⟩),p.2] wr fun e w'=>∃v,e=Re v/\kU C (mA l (i+1)) w w' B (c+4*(i+1)):=by
 have g:=z p (aJ h);obtain⟨s,d1,h1,h2,h3,o⟩:=id u;have E:∀b,p.2.ownBlock=Z b->∀j,¬s b j:=fun b d j m=>by
  rcases h3 b j m with x|x|x
  ·exact q b j (g.2 b d) x
  ·have:=g.lt b d
   omega
  ·exact mA.apart r h d x
 have F:Row (fun b=>p.2.ownBlock=Z b) wr 3 1 p.2 (f p.1).length ((f p.1).map hE):=(g.congr fun b d=>o.block b (g.lt b d) fun x=>x.elim (fun⟨j,m⟩=>q b j (g.2 b d) m) (mA.apart r h d)).self;refine(X2 h1 p.2 _ _ F (fun b j d=>E b d j) A y).mono ?_;rintro e w' ⟨rfl,t⟩;refine⟨_,rfl,?_⟩;exact(kU.step h2 h3 o t).mono (mA.up h) oM
theorem L':(prog.info? 69).map (fun i=>(i.zero,i.size,i.bytes))=Z (Z (.slice none 0 0),1,24):=kr
def sj(m:Int):List Vl:=[I J m,I J m,.slice none 0 0]
theorem Vx{m:Int}(j:Nat)(a:j<3):(sj m)[j]? =Z (fT 1 m j):=by
 rcases (show j=0\/j=1\/j=2 by omega) with rfl|rfl|rfl<;>rfl
theorem Dq{w:D}{d:Bd}(h:lH C w B c d)(V:Int)(sv:Vl)(l:List (Sn×Vl))(hd:ia S w sv l)(hS:∀b j,S b->¬C b j)(hl:l.length<=1000000000)(Q:∀p∈l,p.1.more.length<=1000000000)(hc:c+4*l.length<=5800000000000):
  Calls prog 142 #[X (Z ⟨B,0,Y⟩),H #[I J V,sv]] w fun e w'=>e=Re (Tp #[])/\kU C S w w' B (c+4*l.length+4):=by
 obtain⟨n,hn⟩:=eX l.length;obtain⟨p,cap,rfl,_⟩:=Row.form hd.row;have W:Hq (lH C w B c d):=h;have t:Hq (ia S w (.slice p l.length cap) l):=hd;clear h hd;go_enter func142,ntmps142
 refine au ?_;refine Ks.box rfl _ _ rfl #[I J V,.slice p l.length cap] rfl ?_;intro w1 b1 e3 M O l4;have o0:w.heap.size<=b1:=Nat.le_of_eq e3.o.symm;have l1:Hq (∀i wr c',kU C (mA l i) w1 wr B c'->wr.heap[b1]? =Z (Cl #[I J V,.slice p l.length cap] 71 (0,0))/\Row S wr 213 3 (.slice p l.length cap) l.length (oq l)/\∀b,(aZ p l.length cap).ownBlock=Z b->¬mA l i b):=by
  rintro i wr c' ⟨C1,d1,h1,h2,h3,h4⟩;have hT:∀b,mA l i b->b<w.heap.size/\∃P,w.heap[b]? =Z (Cl P 3 (0,0)):=fun b ⟨q,hq,a⟩=>⟨(t.o.more q (dz hq)).lt b a,(t.o.more q (dz hq)).kl a⟩;have e9:∀b,(aZ p l.length cap).ownBlock=Z b->¬mA l i b:=fun b a x=>by
   obtain⟨_,P,l9⟩:=hT b x;exact kV t.o.row l9 dc a
  refine⟨(h4.block b1 (aL M.o) fun x=> ?_).trans M.o,(t.o.below O.o).row.congr fun b a=>h4.block b (Nat.lt_of_lt_of_le (t.o.row.lt b a) O.o.size) fun x=> ?_,e9⟩
  ·rcases x with⟨j,hj⟩|x
   ·have:=W.o.lt b1 j hj
    omega
   ·have:=(hT b1 x).1
    omega
  ·rcases x with⟨j,hj⟩|x
   ·exact hS b j (t.o.row.2 b a) hj
   ·exact e9 b a x
 have a8:Hq (ia S w1 (.slice p l.length cap) l):=t.o.below O.o;have e6:kU C (mA l 0) w1 w1 B (c+4*0):=kU.start (W.o.below O.o) _;clear e3 M l4;simp only[zD];refine au ?_;refine lp 91 (fun i:Nat=>[(0,pt B 0),(3,pt b1 0),(4,I J (i:Int))]) (fun m i wr=>i<=l.length/\m=l.length-i/\kU C (mA l i) w1 wr B (c+4*i)) l.length 0 ⟨aF _,rfl,e6⟩ ?_;clear e6;rintro m i wr f ⟨hi,rfl,hO⟩;obtain⟨z,hR,hT⟩:=l1.o i wr _ hO;have K:Hq (wr.heap[b1]? =_):=z;clear z;refine af ?_;refine wp_cond_split rfl ?_ ?_
 ·intro r
  have r:i<l.length:=by have:=of_decide_eq_true r;omega
  obtain⟨⟨s,mv⟩,hy⟩:∃y,l[i]? =Z y:=⟨_,List.getElem?_eq_getElem r⟩;obtain⟨g,cp,P,e,_,hg,_,_,_,ht⟩:=hR.cases.resolve_left (fun x=>absurd x.2.1 oM);cases e;have HR:Hq (wr.rangeAt g (i*3) (jY s mv)):=Row.range (f:=fun p:Sn×Vl=>jY p.1 p.2) qE hg ht hy;refine au ?_;have l8:=kU.int (f:=fun s:Sn=>s.more) a8.o.more a8.o.apart hS hy hO (Q _ (aJ hy)) oM;refine Ks.call rfl 215 #[pt B 0,mv] kr (R:=fun _ w'=>kU C (mA l (i+1)) w1 w' B (c+4*(i+1))) l8 ?_;intro v w2 l5;simp only[zD];refine au ?_;exact⟨l.length-(i+1),i+1,oM,gY kr,r,rfl,l5⟩
 ·intro r
  obtain rfl:i=l.length:=by have:=of_decide_eq_false r;omega
  obtain⟨C1,d1,k1,k2,k3,k4⟩:=hO;obtain⟨m,Q⟩:=eX (d1.next-1);have j0:=k1.next;have o4:=k1.kB 1 oM;have a6:Hq (lH C1 wr B (c+4*l.length) d1):=k1;have c7:Hq (wr.heap[B]? =Z (Cl (kh d1) 32 (0,0))):=k1.book;have e7:=hR.self;have b0:∀b j,(aZ p l.length cap).ownBlock=Z b->¬C1 b j:=fun b j a hj=>by
   rcases k3 b j hj with x|x|x
   ·exact hS b j (hR.2 b a) x
   ·have:=a8.o.row.lt b a
    omega
   ·exact hT b a x
  have b8:(aZ p l.length cap).ownBlock≠Z B:=fun x=>b0 B 2 x k1.oB;have c0:(aZ p l.length cap).ownBlock≠Z b1:=fun x=>by
   have:=t.o.row.lt b1 x;omega
  have l7:b1≠B:=fun e=>by
   have:=W.o.lt B 2 W.o.oB;omega
  have n0:∀w',kU C1 (fun b=>(aZ p l.length cap).ownBlock=Z b) wr w' B (c+4*l.length+4)->kU C S w w' B (c+4*l.length+4):=fun w' h5=>((kU.step k2 k3 k4 h5).mono (fun b a=>a.elim (fun⟨q,hq,a⟩=>(t.o.more q (dz hq)).2 b a) fun x=>t.o.row.2 b x) lR).after O.o;clear k1 k2 k3 k4 hR hT l1 a8 t W O;refine au ?_;refine(vb (v:=I J m) (w0 rfl) rfl (by rw[Q];exact xY rfl rfl rfl oM) ?_).o;refine Ks.WL.mk ?_;simp only[zD];refine al ?_;refine Ks.store rfl _ _ _ rfl B 10 _ rfl rfl c7.o (by show 10<11;omega) kr rfl (kh {d1 with next:=m}) rfl ?_;intro w2 c8 N G H4;have e5:nA (fun b=>(aZ p l.length cap).ownBlock=Z b) w2 213 3 (.slice p l.length cap) l.length (fT 1 m) 0:=nA.start (e7.congr fun b a=>G.o b fun e=>b8 (e▸a)) _;have F:Fr (fun b=>b=B\/(aZ p l.length cap).ownBlock=Z b) wr.heap.size wr w2:=N.o _ _ (oL (oL rfl));have e4:=(G.o b1 l7).trans K.o;clear c7 N G H4 e7 K;simp only[aD];refine au ?_;refine lp 91 (fun i:Nat=>[(0,pt B 0),(3,pt b1 0),(5,I J m),(6,I J (i:Int))]) (fun k i T=>i<=l.length/\k=l.length-i/\nA (fun b=>(aZ p l.length cap).ownBlock=Z b) T 213 3 (.slice p l.length cap) l.length (fT 1 m) i/\Fr (fun b=>b=B\/(aZ p l.length cap).ownBlock=Z b) wr.heap.size wr T/\T.heap[B]? =Z (Cl (kh {d1 with next:=m}) 32 (0,0))/\T.heap[b1]? =Z (Cl #[I J V,.slice p l.length cap] 71 (0,0))) l.length 0 ⟨aF _,rfl,e5,F,c8.o,e4⟩ ?_;clear e5 F e4 c8;rintro k i T f2 ⟨hi,rfl,hF,E,hB,z⟩;have K:Hq (T.heap[b1]? =_):=z;refine af ?_;refine wp_cond_split rfl ?_ ?_
  ·intro r
   have r:i<l.length:=by have:=of_decide_eq_true r;omega
   obtain⟨g,cp,P,e,c4,hg,o5,j0⟩:=hF.at oM;cases e;have n5:i*3+3<=P.size:=oM
   refine au ?_;refine(vb (v:=H (sj m).toArray) (w0 rfl) rfl kr ?_).o;refine Ks.WL.mk ?_;simp only[zD];refine al ?_;refine Ks.part rfl _ _ _ rfl g (i*3) (sj m) rfl rfl hg n5 kr (by simp[sj,av]) (setL P (i*3) (sj m)) rfl ?_;intro w3 HG N G H4;simp only[aD];refine au ?_;exact⟨l.length-(i+1),i+1,oM,gY kr,r,rfl,j0 w3 _ HG.o rfl Vx r,E.trans (N.o _ _ (oL (oR c4))),(G.o B fun e=>b8 (e▸c4)).trans hB,(G.o b1 fun e=>c0 (e▸c4)).trans K.o⟩
  ·intro r
   obtain rfl:i=l.length:=by have:=of_decide_eq_false r;omega
   have j5:=hF.done;clear hF z;refine au ?_;refine(vb (v:=H (sj m).toArray) (w0 rfl) rfl kr ?_).o;refine Ks.WL.mk ?_;simp only[zD];refine al ?_;refine rI rfl rfl 69 213 1 _ _ _ rfl rfl (H #[I J 0,I J 0,.slice none 0 0]) (fT 1 m) 3 40 underlying69 wL dc dc kr rfl _ _ l.length (fun _=>rfl) (fun _=>rfl) j5 (rR 1 m) (by unfold maxLen;omega) oM ?_;intro u1 v1 w3 b2 h8 _ a7;obtain⟨p1,c1,rfl,_⟩:=Row.form b2;have M:Hq (w3.heap[b1]? =_):=(a7.block b1 (aL K.o) c0).trans K.o;clear K;simp only[zD];refine au ?_;refine(vb (v:=H (sj m).toArray) (w0 rfl) rfl kr ?_).o;refine Ks.WL.mk ?_;simp only[zD];refine al ?_;refine(vb (v:=H (sj m).toArray) (w0 rfl) rfl kr ?_).o;refine Ks.WL.mk ?_;simp only[zD];refine al ?_;refine rI rfl rfl 69 213 2 _ _ _ rfl rfl (H #[I J 0,I J 0,.slice none 0 0]) (fT 1 m) 3 40 underlying69 wL dc dc kr rfl _ _ l.length (fun _=>rfl) (fun _=>rfl) h8 (rR 1 m) (by unfold maxLen;omega) oM ?_;intro u2 v2 w4 b3 h9 j1 F;obtain⟨p2,c2,rfl,_⟩:=Row.form b3;have b6:Hq (w4.heap[b1]? =_):=(F.block b1 (aL M.o) c0).trans M.o;clear M;simp only[zD];have s0:=E.size;have s1:=a7.size;have s2:=F.size;have b7:Hq (Fr (fun b=>b=B\/(aZ p l.length cap).ownBlock=Z b) wr.heap.size wr w4):=(E.trans (a7.mono s0 fun b _ x=>oR x)).trans (F.mono oM fun b _ x=>oR x);have c9:Hq (w4.heap[B]? =Z (Cl (kh {d1 with next:=m}) 32 (0,0))):=by
    have q:∀{u v:D},Fr (fun j=>(aZ p l.length cap).ownBlock=Z j) u.heap.size u v->u.heap[B]? =Z (Cl (kh {d1 with next:=m}) 32 (0,0))->v.heap[B]? =Z (Cl (kh {d1 with next:=m}) 32 (0,0)):=fun E h=>(E.block B (aL h) b8).trans h;exact q F (q a7 hB)
   have HN:Hq (∀u∈ [.slice p l.length cap,.slice p1 (l.length+1) c1,.slice p2 (l.length+2) c2],Fl w4 (eT 1) (rq 1) (fT 1 (d1.next-1)) u/\∀b,u.ownBlock=Z b->(aZ p l.length cap).ownBlock=Z b\/wr.heap.size<=b):=by
    rw[<-Q];intro u hu;simp only[cr,eG,or_false] at hu;rcases hu with rfl|rfl|rfl
    ·exact⟨mf h9,fun b a=>oL a⟩
    ·exact⟨j1 _ (mf b2),fun b a=>(b2.2 b a).imp id fun x=>oM⟩
    ·exact⟨mf b3,fun b a=>(b3.2 b a).imp id fun x=>oM⟩
   clear a7 F E hB b2 b3 h8 h9 j1 j5;have j9:=(a6.o.vx (k:=1) oM b0 b7.o).1;refine au ?_;refine Qt.J1 9 (fun j=>[pt B 0,pt B 0,pt B 0,pt B 4,d1.v 1,pt b1 1,.slice p l.length cap,.slice p1 (l.length+1) c1,.slice p2 (l.length+2) c2].getD j undef) (fun w'=>Hq (w'.heap[B]? =Z (Cl (kh {d1 with next:=m}) 32 (0,0)))/\Hq (w'.heap[b1]? =Z (Cl #[I J V,.slice p l.length cap] 71 (0,0)))) kr kr kr 28 69 3 (.slice none 0 0) #[.slice p l.length cap,.slice p1 (l.length+1) c1,.slice p2 (l.length+2) c2] 1 24 underlying28 L' dc dc rfl _ (d1.v 1) (d1.L 1).length _ j9 rfl (by simp[av]) (by unfold maxLen;omega) oM ⟨c9,b6⟩ (fun u v hu z E=>⟨a6.o.xH (k:=1) oM z.1.o E,?_⟩) ?_ _ rfl _ rfl ?_ _ rfl _ _ rfl ?_ ?_
   ·exact(E.block b1 (aL z.2.o) (kV j9 b6.o dc)).trans z.2.o
   ·exact⟨fun _ _ _ _=>kr,fun _ _ _ _=>kr,fun _ _ _ h=>rZ rfl (aN kr (h 1 kr)),fun _ _ _ h=>qT rfl (qN 32 4 dc) (aN kr (h 2 kr)),fun _ _ A h=>ql rfl Ks.xT (aN kr (h 3 kr)) (qp A.1 rfl),fun _ _ _ _=>kr,fun _ _ A h=>ql rfl Ks.yi (aN kr (h 5 kr)) (qp A.2 rfl),fun _ _ _ _=>kr,fun _ _ _ _=>kr,trivial⟩
   ·exact fun U h=>⟨_,aN (b:=[(0,U 6),(1,U 7),(2,U 8)]) kr (by rw[h 6 dc kr,h 7 dc kr,h 8 dc kr]),kr⟩
   ·exact fun U h=>⟨aN kr (h 4 dc kr),kr⟩
   intro U w5 HX hU c6 h0;have l6:U 0=pt B 0:=hU 0 dc;obtain⟨vs,l0⟩:=eX (U 10);rw[<-l0] at c6;simp only[Qt.gu,ak,aE,ax,aK,l6,bC,gO,<-l0];have e1:=HX.1;clear HX c9 b6;simp only[zD];refine al ?_;refine Ks.store rfl _ _ _ rfl B 4 _ rfl rfl e1.o (by show 4<11;omega) kr c6.one (kh {d1 with next:=m,v:=fun j=>if j=1 then vs else d1.v j}) rfl ?_;intro w6 e2 N G H4;have h6:=N.o (fun b=>b=B) w5.heap.size (oL rfl);have n9:=a6.o.xI (k:=1) oM b0 b7.o h0 h6;simp only[aD];refine au ?_;refine uF rfl rfl 25 3 3 _ _ _ rfl rfl (I J 0) #[I J m,I J m,I J m] 1 8 underlying25 qC dc dc kr rfl _ (d1.m 1) (d1.L 1).length ((d1.L 1).map fun p=>hE p.2) (fun _=>rfl) (fun _=>rfl) n9 rfl (by simp[av]) (by unfold maxLen;omega) oM ?_;intro u6 ms w7 j2 h7;have l2:Hq (w7.heap[B]? =Z _):=a6.o.xJ (k:=1) oM e2.o h7;clear e2 e1;simp only[zD];refine au ?_;refine Ks.store rfl _ _ _ rfl B 5 _ rfl rfl l2.o (by show 5<11;omega) kr j2.one (kh (d1.set 1 vs ms (d1.next-1) [.slice p l.length cap,.slice p1 (l.length+1) c1,.slice p2 (l.length+2) c2])) (by rw[<-Q];rfl) ?_;intro w8 l3 G2 G3 G4;simp only[aD];refine au ?_;refine bodyPost_end (v:=Tp #[]) kr rfl ?_;exact⟨rfl,n0 _ (a6.o.fin (k:=1) oM b0 (by exact iX 3) b7.o HN.o c6 h0 h6 (by rw[<-Q];exact j2) h7 (G2.o _ _ (oL rfl)) l3.o)⟩
end Gt
namespace Qd
def GW(w w':D):Prop:=∃q os,w'=Sort.grow (w.drewN q) os
theorem GW.refl(w:D):GW w w:=⟨0,#[],by simp[Sort.grow_empty,World.drewN]⟩
theorem GW.one(w:D):GW w {w with drawn:=w.drawn+1}:=⟨1,#[],by simp[Sort.grow_empty,World.drewN]⟩
theorem XD(w:D)(os:Array Obj)(n:Nat):(Sort.grow w os).drewN n=Sort.grow (w.drewN n) os:=rfl
theorem drewN_drewN(w:D)(n m:Nat):(w.drewN n).drewN m=w.drewN (n+m):=by simp[World.drewN,Nat.add_assoc]
theorem GW.trans{w:D}(h:GW u v)(k:GW v w):GW u w:=by
 obtain⟨q,os,rfl⟩:=h;obtain⟨q',a,rfl⟩:=k;exact⟨q+q',os++a,by rw[XD,drewN_drewN,Sort.grow_grow]⟩
theorem GW.alloc{u v:D}(h:GW u v)(o:Obj):GW u (v.alloc o):=h.trans ⟨0,#[o],by rw[Sort.alloc_eq_grow];rfl⟩
theorem GW.block{w:D}(h:GW w w'){k:Nat}(a:k<w.heap.size):w'.heap[k]? =w.heap[k]? :=by
 obtain⟨q,os,rfl⟩:=h;show(w.heap++os)[k]? =_;rw[Array.getElem?_append_left a]
theorem GW.below{w:D}(h:GW w w'):O w.heap.size w w':=by
 refine⟨?_,?_,?_,?_,fun k a=>h.block a⟩;all_goals obtain⟨q,os,rfl⟩:=h
 ·rfl
 ·rfl
 ·rfl
 ·show w.heap.size<=(w.heap++os).size
  simp
section
variable {P:Program} {ops:Array Oper} {w:D} {Q:Act->Prop} {rest:List Oper} {o:Oper} {a:Act}
theorem off(b:ah o (yielded ops a.tmps)=false)(h:wpQuiet P ops (GW w) Q rest (a.put o.dst undef)):wpQuiet P ops (GW w) Q (o::rest) a:=by
 unfold wpQuiet;rw[if_neg (by rw[b];decide)];exact h
theorem val(b:ah o (yielded ops a.tmps)=true)(v:Vl)(hv:∀w',GW w w'->(execOp a.eval o).run P w'= .ok (.value v) w')(h:wpQuiet P ops (GW w) Q rest (a.put o.dst v)):wpQuiet P ops (GW w) Q (o::rest) a:=by
 unfold wpQuiet;rw[if_pos b];refine⟨v,fun w' c=> ?_,h⟩;unfold Oper.quietAt;rw[hv w' c];exact⟨rfl,rfl⟩
theorem call(j:ah o (yielded ops a.tmps)=true)(f:FuncId)(args:Array Vl)(v:Vl)(hv:∀w',(execOp a.eval o).run P w'= .ok (.enter f args) w')(g:∀w',GW w w'->Calls P f args w' fun e c=>e=Re v/\GW w' c)(h:wpQuiet P ops (GW w) Q rest (a.put o.dst v)):wpQuiet P ops (GW w) Q (o::rest) a:=by
 unfold wpQuiet;rw[if_pos j];refine⟨v,fun w' b=> ?_,h⟩;unfold Oper.quietAt;rw[hv w'];exact⟨rfl,(g w' b).mono fun e c ⟨i,d⟩=>⟨i,b.trans d⟩⟩
theorem cell(g:ah o (yielded ops a.tmps)=true)(ty:TypeId)(x:Operand)(f:o.op= .load ty x){d:TypeDesc}(hu:P.underlying ty=Z d)(hd:d.isRow=false)(b off:Nat)(v:Vl)(j:a.eval x=X (Z ⟨b,off,Y⟩))(c:b<w.heap.size)(e:w.cell? ⟨b,off,Y⟩=Z v)
  (h:wpQuiet P ops (GW w) Q rest (a.put o.dst v)):wpQuiet P ops (GW w) Q (o::rest) a:=by
 refine val g v (fun w' i=> ?_) h;have h1:=Gt.sN hu hd (w:=w') (b:=b) (off:=off) (v:=v) (by rw[i.below.cell (by exact c)];exact e);unfold execOp;simp only[f,j,Instr.loadAt,Instr.sureAddr,Sem.run_bind,Sem.run_pure,Result.andThen_ok,h1]
theorem pj(i:ah o (yielded ops a.tmps)=true)(ty:TypeId)(x:Operand)(g:o.op= .load ty x)(b off:Nat)(l:a.eval x=X (Z ⟨b,off,Y⟩))(cs:List Vl){d:TypeDesc}(c:b<w.heap.size)(e:w.rangeAt b off cs)(hu:P.underlying ty=Z d)(hd:d.isRow=true)(hi:(P.info? ty).map (·.size)=Z cs.length)
  (h:wpQuiet P ops (GW w) Q rest (a.put o.dst (H cs.toArray))):wpQuiet P ops (GW w) Q (o::rest) a:=by
 refine val i (H cs.toArray) (fun w' k=> ?_) h;have f:w'.rangeAt b off cs:=fun j v hv=>by rw[k.below.cell (by exact c)];exact e j v hv
 have h1:=run_loadVar_mid w' b off ty cs d f hu hd hi;unfold execOp;simp only[g,l,Instr.loadAt,Instr.sureAddr,Sem.run_bind,Sem.run_pure,Result.andThen_ok,h1]
end
theorem im{P:Program}{id:Nat}{Q:Exit->Act->D->Prop}{a:Act}{w:D}{l:List Oper}(n:Nat)(d:P.follows .mixedOrders=true)(c:Region.lexTailB .any l.toArray n=true)
  (h:wpQuiet P l.toArray (GW w) (fun b=>∀w',GW w w'->wpList P l.toArray Q (l.drop n) b w') (l.take n) a):(Code.region id l.toArray true).wp P Q a w:=
 Qt.zK (C:=GW w) n d c (GW.one w) h
end Qd
namespace Bk
def oD(l:List It)(d:List Sn)(most:Nat):List It:=(l.filter fun x=> !has d x.key).take most
theorem KH{l:List It}{d:List Sn}(h:((l.take i).filter fun x=> !has d x.key).length=most):oD l d most=(l.take i).filter fun x=> !has d x.key:=by
 unfold oD;conv=>lhs;rw[<-cb i l]
 rw[df,<-h,List.take_left'];rfl
theorem Jf{l:List It}{d:List Sn}(h:(l.filter fun x=> !has d x.key).length<=most):oD l d most=l.filter fun x=> !has d x.key:=List.take_of_length_le h
def lU(x:It):Bool:=decide (0<=x.gate/\x.gate<=15)&&decide (1<=x.fi/\x.fi<=1000)&&decide (0<=x.br/\x.br<=65535)&&decide (0<=x.ba/\x.ba<=4294967295)&& !(x.gone&&decide (x.br≠0\/x.ba≠0))
def nz(l:List It):Bool:=l.all lU&&decide (l.Pairwise z2e)
def okLast(l:List It)(x:It):Bool:=match l.getLast? with
 |some p=>decide (z2e p x)
 |none=>true
theorem Co(l:List It)(x:It):nz (l++[x])=(nz l&&(lU x&&okLast l x)):=by
 unfold nz;rw[kD];by_cases c:l.Pairwise z2e
 ·have:decide ((l++[x]).Pairwise z2e)=okLast l x:=by
   unfold okLast;split
   ·rename_i p d
    rw[decide_eq_decide,sK];constructor
    ·exact fun h=>h.2 p (List.mem_of_getLast? d)
    ·intro h
     refine⟨c,fun a b=> ?_⟩;obtain⟨e,rfl⟩:∃e,l=e++[p]:=List.getLast?_eq_some_iff.1 d;rcases bV.1 b with b|b
     ·exact((sK.1 c).2 a b).trans h
     ·obtain rfl:a=p:=by simpa using b
      exact h
   ·rename_i d
    rw[List.getLast?_eq_none_iff.1 d];simp
  rw[this];simp only[List.all_cons,List.all_nil,Bool.and_true,c,decide_true];cases l.all lU<;>simp
 ·have:¬(l++[x]).Pairwise z2e:=fun h=>c (sK.1 h).1
  simp[c,this]
theorem Td{l m:List It}(h:nz (l++m)=true):nz l=true:=by
 unfold nz at*;simp only[aX,decide_eq_true_eq,kD] at*;exact⟨h.1.1,(eH.1 h.2).1⟩
theorem nd{a:Type}{l:List a}{x:a}(h:l[i]? =Z x):l.take (i+1)=l.take i++[x]:=by
 rw[ee,h];rfl
theorem KA{l:List It}{x:It}(h:l[i]? =Z x)(a:(lU x&&okLast (l.take i) x)=false):nz l=false:=by
 cases b:nz l
 ·rfl
 ·have:nz (l.take (i+1))=true:=Td (m:=l.drop (i+1)) (by rw[cb];exact b)
  rw[nd h,Co,a] at this;simp at this
theorem IY{l:List It}{p x:It}(h:l[i]? =Z p):okLast (l.take (i+1)) x=decide (z2e p x):=by
 rw[nd h];unfold okLast;simp
def mD(s:St)(x:It):Bool:= !(decide (x.gate=s.number)&&decide (s.own<x.fi))
def oh(s:St)(l:List It):Bool:=nz l&&l.all (mD s)
def mg(s:St)(x:It):St:=if x.key∈s.l.map It.key then s else{s with l:=ins (jn s.floor x) s.l}
section
variable (R:List UInt8->List UInt8->List UInt8->Bool)
def lf(s:St)(o:List UInt8)(l:List It):Int×St:=
 if oh s l=false then(4,s)
 else if o=[] then(0,l.foldl mg s)
 else if (ki R s o).1=4\/(ki R s o).1=5 then((ki R s o).1,s)
 else(0,l.foldl mg (ki R s o).2)
end
theorem GB{x:It}(h:lU x=true):(0<=x.gate/\x.gate<=15)/\(1<=x.fi/\x.fi<=1000)/\(0<=x.br/\x.br<=65535)/\(0<=x.ba/\x.ba<=4294967295)/\(x.gone=true->x.br=0/\x.ba=0):=by
 unfold lU at h;simp only[aX,decide_eq_true_eq,gS,ji,decide_eq_false_iff_not] at h;obtain⟨⟨⟨⟨h1,h2⟩,h3⟩,b⟩,a⟩:=h;refine⟨h1,h2,h3,b,fun c=> ?_⟩;rcases a with a|a
 ·rw[c] at a;cases a
 ·omega
theorem Ta{s:St}{x:It}(h:mD s x=true):x.gate=s.number->x.fi<=s.own:=by
 unfold mD at h;intro e;simp only[gS,ji,decide_eq_false_iff_not] at h;rcases h with h|h
 ·exact absurd e h
 ·omega
theorem Xt(s:St)(x:It):(mg s x).number=s.number/\(mg s x).floor=s.floor/\(mg s x).own=s.own/\(mg s x).key=s.key/\(mg s x).order=s.order:=by
 unfold mg;split<;>exact⟨rfl,rfl,rfl,rfl,rfl⟩
theorem Inv.take{s:St}(h:Inv s){x:It}(k:lU x=true)(b:x.gate=s.number->x.fi<=s.own):Inv (mg s x):=by
 unfold mg;split
 ·exact h
 ·rename_i i
  obtain⟨h1,h2,h3,c,d⟩:=GB k;refine⟨h.number,h.floor,h.own,CD h.g' (fun y a e=>i (aU.2 ⟨y,a,e.trans (yX _ _)⟩)),fun y a=> ?_⟩;rcases B9.1 a with rfl|a
  ·unfold jn
   split
   ·exact⟨h1,h2,sP,sP,fun _=>⟨rfl,rfl⟩,fun e=>by simp at e,b⟩
   ·rename_i g
    refine⟨h1,h2,h3,c,d,fun e=> ?_,b⟩;have:¬x.br<s.floor:=fun j=>g ⟨e,j⟩;show s.floor<=x.br;omega
  ·have f:=h.fair y a
   exact⟨f.gate,f.fi,f.br,f.ba,f.gone,f.floor,f.own⟩
theorem Inv.takes{s:St}(h:Inv s):∀{l:List It},(∀x∈l,lU x=true/\(x.gate=s.number->x.fi<=s.own))->Inv (l.foldl mg s):=by
 intro l;induction l generalizing s with
 |nil=>exact fun _=>h
 |cons x r ih=>
  intro a;have b:=a x sP;have e:=Xt s x;exact ih (h.take b.1 b.2) fun y c=>by rw[e.1,e.2.2.1];exact a y (by simp[c])
theorem yQ{s:St}{l:List It}(h:oh s l=true):∀x∈l,lU x=true/\(x.gate=s.number->x.fi<=s.own):=by
 unfold oh nz at h;simp only[aX,List.all_eq_true] at h;exact fun x a=>⟨h.1.1 x a,Ta (h.2 x a)⟩
theorem Inv.lf(R:List UInt8->List UInt8->List UInt8->Bool){s:St}(h:Inv s)(o:List UInt8)(l:List It):Inv (lf R s o l).2:=by
 unfold Bk.lf;split
 ·exact h
 ·rename_i a
  have a:oh s l=true:=by simpa using a
  split
  ·exact h.takes (yQ a)
  ·split
   ·exact h
   ·refine(h.ki R o).takes fun x b=> ?_
    have e:(Bk.ki R s o).2.number=s.number/\(Bk.ki R s o).2.own=s.own:=by
     unfold Bk.ki;split
     ·exact⟨rfl,rfl⟩
     ·split
      ·exact⟨rfl,rfl⟩
      ·split
       ·exact⟨rfl,rfl⟩
       ·exact⟨rfl,rfl⟩
    rw[e.1,e.2];exact yQ a x b
structure Tw where
 br:Int
 ba:Int
 gates:List Int
def Tw.pass(e:Tw):Int×Int:=(e.br,e.ba)
def kY(l:List It)(p:Int×Int):List Int:=((held l).filter fun x=>decide (x.pass=p)).map It.gate
structure sH(l:List It)(t:List Tw):Prop where
 g':t.Pairwise fun a b=>Lt2 a.pass b.pass
 mem:∀e,e∈t↔e.gates=kY l e.pass/\2<=e.gates.length
theorem sH.eq{l:List It}{t u:List Tw}(h:sH l t)(k:sH l u):t=u:=
 yR (R:=fun a b:Tw=>Lt2 a.pass b.pass) (fun _=>Lt2.irrefl) (fun h k=>h.trans k) h.g' k.g' fun x=>(h.mem x).trans (k.mem x).symm
abbrev En:=(Int×Int)×(Int×Int)
def LtE(a b:En):Prop:=Lt2 a.2 b.2\/(a.2=b.2/\Lt2 a.1 b.1)
theorem LtE.trans{a b c:En}(h:LtE a b)(k:LtE b c):LtE a c:=by
 unfold LtE at*;rcases h with h|⟨h,e⟩
 ·rcases k with k|⟨k,d⟩
  ·exact oL (h.trans k)
  ·exact oL (k▸h)
 ·rcases k with k|⟨k,d⟩
  ·exact oL (h▸k)
  ·exact oR ⟨h.trans k,e.trans d⟩
theorem LtE.irrefl{a:En}:¬LtE a a:=by
 unfold LtE;rintro(h|⟨_,h⟩)
 ·exact Lt2.irrefl h
 ·exact Lt2.irrefl h
structure qu(es:List En)(t:List Tw):Prop where
 g':t.Pairwise fun a b=>Lt2 a.pass b.pass
 mem:∀e:Tw,e∈t↔e.gates=(es.filter fun x=>decide (x.2=e.pass)).map (fun x=>x.1.1)/\2<=e.gates.length
theorem qu.nil:qu [] []:=⟨List.Pairwise.nil,fun e=>by
 simp only[eG,List.filter_nil,List.map_nil,false_iff,not_and];intro h;rw[h];simp⟩
theorem WX{es:List En}(h:∀x∈es,x.2=p):es.filter (fun x=>decide (x.2=p))=es:=List.filter_eq_self.2 fun x a=>by simp[h x a]
theorem filter_none{es:List En}(h:∀x∈es,x.2≠p):es.filter (fun x=>decide (x.2=p))=[]:=List.filter_eq_nil_iff.2 fun x a=>by simp[h x a]
theorem qu.run{done run:List En}{t:List Tw}(h:qu done t){p:Int×Int}(m:∀x∈run,x.2=p)(hd:∀x∈done,Lt2 x.2 p):
  qu (done++run) (if 1<run.length then t++[⟨p.1,p.2,run.map fun x=>x.1.1⟩] else t):=by
 have l:∀e∈t,Lt2 e.pass p:=by
  intro e d;obtain⟨h1,h2⟩:=(h.mem e).1 d;cases i:done.filter (fun x=>decide (x.2=e.pass)) with
  |nil=>rw[i] at h1;rw[h1] at h2;simp at h2
  |cons x r=>
   have f:x∈done.filter (fun x=>decide (x.2=e.pass)):=by rw[i];simp
   have:=(bK.1 f);have s:x.2=e.pass:=by simpa using this.2
   rw[<-s];exact hd x this.1
 have k:∀q,q≠p->(done++run).filter (fun x=>decide (x.2=q))=done.filter fun x=>decide (x.2=q):=by
  intro q u;rw[df,filter_none (es:=run) fun x f=>by rw[m x f];exact Ne.symm u,List.append_nil]
 have n:(done++run).filter (fun x=>decide (x.2=p))=run:=by
  rw[df,WX m,filter_none (es:=done) fun x f e=>Lt2.irrefl (e▸hd x f),List.nil_append]
 have g:∀e∈t,e.pass≠p:=fun e d o=>Lt2.irrefl (o▸l e d);have v:∀e:Tw,e.pass=p->¬(e.gates=(done.filter fun x=>decide (x.2=e.pass)).map (fun x=>x.1.1)/\2<=e.gates.length):=by
  rintro e d ⟨h1,h2⟩;exact g e ((h.mem e).2 ⟨h1,h2⟩) d
 split
 ·rename_i j
  refine⟨sK.2 ⟨h.g',fun e d=>l e d⟩,fun e=> ?_⟩;rw[bV,List.mem_singleton];by_cases d:e.pass=p
  ·rw[d,n]
   constructor
   ·rintro(h1|rfl)
    ·exact absurd d (g e h1)
    ·exact⟨rfl,by rw[aS];exact j⟩
   ·rintro⟨h1,_⟩
    right;obtain⟨a,b,c⟩:=e;obtain rfl:=d;simp only at h1;rw[h1];rfl
  ·rw[k _ d,<-h.mem e]
   constructor
   ·rintro(h1|rfl)
    ·exact h1
    ·exact absurd rfl d
   ·exact Or.inl
 ·rename_i j
  refine⟨h.g',fun e=> ?_⟩;by_cases d:e.pass=p
  ·rw[d,n]
   constructor
   ·intro h1
    exact absurd d (g e h1)
   ·rintro⟨h1,h2⟩
    rw[h1,aS] at h2;omega
  ·rw[k _ d]
   exact h.mem e
theorem OZ{l:List It}(i:qt l){es:List En}(j:es.Perm ((held l).map pair))(m:es.Pairwise LtE){t:List Tw}(h:qu es t):sH l t:=by
 refine⟨h.g',fun e=> ?_⟩;rw[h.mem e];have:es.filter (fun x=>decide (x.2=e.pass))=((held l).filter fun x=>decide (x.pass=e.pass)).map pair:=by
  refine yR (R:=fun a b:En=>Lt2 a.1 b.1) (fun _=>Lt2.irrefl) (fun h k=>h.trans k) ?_ ?_ fun x=> ?_
  ·refine(m.filter _).imp_of_mem ?_
   intro a b d g f;have h1:a.2=e.pass:=by simpa using (bK.1 d).2
   have h2:b.2=e.pass:=by simpa using (bK.1 g).2
   rcases f with h|h
   ·rw[h1,h2] at h
    exact absurd h Lt2.irrefl
   ·exact h.2
  ·rw[List.pairwise_map]
   exact((i.filter _).filter _)
  ·rw[bK,j.mem_iff]
   simp only[aU,bK,decide_eq_true_eq];constructor
   ·rintro⟨⟨y,c,rfl⟩,h2⟩
    exact⟨y,⟨c,h2⟩,rfl⟩
   ·rintro⟨y,⟨c,h2⟩,rfl⟩
    exact⟨⟨y,c,rfl⟩,h2⟩
 rw[this,List.map_map];rfl
