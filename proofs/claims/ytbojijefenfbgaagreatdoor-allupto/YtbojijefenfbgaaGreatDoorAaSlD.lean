/- Slices that can be read, wherever they lie. Walks of the law's own eyes: sameInts. Walks of the law's own eyes: sameDigest. Walks of the law's own eyes: sameNews. Walk of the document's gate: Digest. Walks of the law: digest. Walks of the law's own eyes: sameTwice. Walks of the document's digests: seen. -/
import Derived.Test.YtbojijefenfbgaaGreatDoorAaTwiceB
open Nat renaming lt_of_lt_of_le->aB,zero_le->aF,le_of_eq->bO,le_trans->ag
open List renaming getElem?_eq_getElem->ae,getElem?_map->ct,length->dH,mem_of_getElem?->aJ,length_append->ao,mem_append->bV,mem_singleton->cm,length_map->aS,mem_map->aU,map_append->ef,take_of_length_le->aT,range_succ->iE,filterMap_append->fQ
open Prod renaming fst->aj
open Go.Value renaming oneCell'->av
open Option renaming some->Z,none->Y
open Go.Value renaming int->I,pointer->X,agg->H,bool->Bl,tuple->Tp
open Go.IntKind renaming i64->J
open Go.Obj renaming cells->Cl
open Go.Ending renaming returned->Re
open Go renaming World->D,Value->Vl
open Go.RowKit renaming Below->O
set_option maxHeartbeats 4000000
set_option maxRecDepth 100000
open Go Go.RowKit
open Go.Proofs.YtbojijefenfbgaaGreatDoor
open Ks(au lp af aq gY box pt w0 decl pure)
open Qt(lW)
variable{S:Nat->Prop}{a:Act}{c' i:Nat}{o:Oper}{x y:Operand}
namespace Go.Proofs.YtbojijefenfbgaaGreatDoor
open Tryz
namespace Gt
open Mp Bk
def Sl(F:Nat->Prop)(w:D)(sz:Nat)(v:Vl)(n:Nat)(xs:List Vl):Prop:=xs.length=n*sz/\∃p cap,v= .slice p n cap/\(0<n->∃b off,p=Z ⟨b,off,Y⟩/\F b/\b<w.heap.size/\w.rangeAt b off xs)
namespace Sl
variable {F G:Nat->Prop} {w w':D} {sz n:Nat} {v:Vl} {xs:List Vl}
theorem congr(h:Sl F w sz v n xs)(hF:∀b,F b->G b)(d:w.heap.size<=w'.heap.size)(e:∀b,F b->b<w.heap.size->w'.heap[b]? =w.heap[b]?):Sl G w' sz v n xs:=by
 obtain⟨a,p,cap,rfl,h⟩:=h;refine⟨a,p,cap,rfl,fun c=> ?_⟩;obtain⟨b,off,rfl,h1,h2,h3⟩:=h c;exact⟨b,off,rfl,hF b h1,aB h2 d,fun j u hu=>by
  rw[World.cell?_of_block (w:=w) (by exact e b h1 h2)];exact h3 j u hu⟩
theorem below(h:Sl F w sz v n xs)(a:O w.heap.size w w'):Sl F w' sz v n xs:=h.congr (fun _ h=>h) a.size fun b _ c=>a.block b c
theorem one(h:Sl F w sz v n xs):v.oneCell'=true:=by
 obtain⟨_,p,cap,rfl,_⟩:=h;rfl
theorem mf{e:TypeId}(h:Row S w e sz v n xs):Sl S w sz v n xs:=by
 refine⟨h.length,?_⟩;rcases h.cases with⟨rfl,rfl,rfl⟩|⟨g,cap,d,rfl,b,a,_,_,_,c⟩
 ·exact⟨Y,0,rfl,fun h=>oM⟩
 ·exact⟨_,cap,rfl,fun _=>⟨g,0,rfl,b,(aL a),fun j u hu=>by
   rw[Nat.zero_add];exact Row.cell a c hu⟩⟩
theorem form{d:Type}{f:d->List Vl}{l:List d}(h:Sl F w sz v l.length (l.flatMap f))(a:∀x,(f x).length=sz):∃p cap,v= .slice p l.length cap/\∀i x,l[i]? =Z x->∃b off,p=Z ⟨b,off,Y⟩/\b<w.heap.size/\w.rangeAt b (off+i*sz) (f x):=by
 obtain⟨_,p,cap,rfl,h⟩:=h;refine⟨p,cap,rfl,fun i x c=> ?_⟩;obtain⟨b,off,rfl,_,h2,h3⟩:=h (by have:=(lL c);omega);refine⟨b,off,rfl,h2,fun j u hu=> ?_⟩;have e:j<sz:=by have:=(lL hu);rwa [a] at this
 rw[Nat.add_assoc];exact h3 (i*sz+j) u (by rw[flat_get f sz a l i j x c e];exact hu)
end Sl
theorem IK(l:List Int):l.map hE=l.flatMap fun x=>[hE x]:=by induction l with
 |nil=>rfl
 |cons x r ih=>rw[List.map_cons,List.flatMap_cons,ih];rfl
theorem Sl.ints{F:Nat->Prop}{w:D}{v:Vl}{l:List Int}(h:Sl F w 1 v l.length (l.map hE)):∃p cap,v= .slice p l.length cap/\∀i x,l[i]? =Z x->∃b off,p=Z ⟨b,off,Y⟩/\b<w.heap.size/\w.rangeAt b (off+i*1) [hE x]:=by
 rw[IK] at h;exact Sl.form (f:=fun x=>[hE x]) h fun _=>rfl
structure mi(F:Nat->Prop)(w:D)(v:Vl)(l:List (Sn×Vl)):Prop where
 row:Sl F w 3 v l.length (oq l)
 more:∀p∈l,Sl F w 1 p.2 p.1.more.length (p.1.more.map hE)
theorem mi.below{F:Nat->Prop}{w w':D}{v:Vl}{l:List (Sn×Vl)}(h:mi F w v l)(a:O w.heap.size w w'):mi F w' v l:=⟨h.row.below a,fun p b=>(h.more p b).below a⟩
theorem mi.uM{F:Nat->Prop}{w:D}{v:Vl}{l:List (Sn×Vl)}(h:ia F w v l):mi F w v l:=⟨Sl.mf h.row,fun p a=>Sl.mf (h.more p a)⟩
end Gt
namespace Gt
open Mp Bk Tk
theorem KE{F G:Nat->Prop}(w:D)(a b:Vl)(l:List Int)(g:Sl F w 1 a l.length (l.map hE))(h:Sl G w 1 b l.length (l.map hE))(C:l.length<=1000000000000):Rt 214 #[a,b] w (Bl true):=by
 obtain⟨p,cap,rfl,j⟩:=g.ints;obtain⟨q,u,rfl,k⟩:=h.ints;have r:Hq (∀i x,l[i]? =Z x->∃b off,p=Z ⟨b,off,Y⟩/\b<w.heap.size/\w.rangeAt b (off+i*1) [hE x]):=j;have s:Hq (∀i x,l[i]? =Z x->∃b off,q=Z ⟨b,off,Y⟩/\b<w.heap.size/\w.rangeAt b (off+i*1) [hE x]):=k;clear j k g h;go_enter func214,ntmps214
 refine au ?_;refine lp 26 (fun i:Nat=>[(0,.slice p l.length cap),(1,.slice q l.length u),(5,I J (i:Int))]) (fun m i wr=>i<=l.length/\m=l.length-i/\O w.heap.size w wr) l.length 0 ⟨aF _,rfl,Below.refl _ _⟩ ?_;rintro m i wr f ⟨hi,rfl,c⟩;refine af ?_;refine wp_cond_split rfl ?_ ?_
 ·intro d
  have d:i<l.length:=by have:=of_decide_eq_true d;omega
  obtain⟨x,n⟩:∃y,l[i]? =Z y:=⟨_,ae d⟩;obtain⟨b1,o1,rfl,h1,h2⟩:=r.o i x n;obtain⟨t,o2,rfl,h3,e⟩:=s.o i x n;have A:Hq (wr.rangeAt b1 (o1+i*1) [hE x]):=lX h2 c h1;have B:Hq (wr.rangeAt t (o2+i*1) [hE x]):=lX e c h3;clear h2 e;refine au ?_;refine lW kr kr ?_;refine aq ?_;intro w4 z;refine au ?_;exact⟨l.length-(i+1),i+1,oM,gY kr,d,rfl,c.trans (z.mono c.size)⟩
 ·intro d
  refine au ?_;refine bodyPost_ret (v:=Bl true) kr rfl ?_;exact⟨rfl,c⟩
theorem E0{b β:Type}{l k:List (b×β)}(h:l.map aj=k.map aj){x:b×β}(c:l[i]? =Z x):∃v,k[i]? =Z (x.1,v):=by
 have e:=congrArg (·[i]?) h;simp only[ct,c,Option.map_some] at e;cases a:k[i]? with
 |none=>rw[a] at e;cases e
 |some y=>rw[a] at e;simp only[Option.map_some,Option.some.injEq] at e;exact⟨y.2,by rw[e]⟩
theorem Dr{F G:Nat->Prop}(w:D)(d:Int)(a b:Vl)(l k:List (Sn×Vl))(z:mi F w a l)(c:mi G w b k)(S:l.map aj=k.map aj)(hl:l.length<=1000000000)(hm:∀p∈l,p.1.more.length<=1000000000):Rt 141 #[H #[I J d,a],H #[I J d,b]] w (Bl true):=by
 obtain⟨p,cap,rfl,V⟩:=z.row.form qE;obtain⟨q,t,R,W⟩:=c.row.form qE;have hk:k.length=l.length:=by have:=congrArg dH S;simpa using this.symm
 rw[hk] at R;subst R;have HA:Hq (mi F w (.slice p l.length cap) l):=z;have HK:Hq (mi G w (.slice q l.length t) k):=c;have HP:Hq (∀i x,l[i]? =Z x->∃b off,p=Z ⟨b,off,Y⟩/\b<w.heap.size/\w.rangeAt b (off+i*3) (jY x.1 x.2)):=V;have HQ:Hq (∀i x,k[i]? =Z x->∃b off,q=Z ⟨b,off,Y⟩/\b<w.heap.size/\w.rangeAt b (off+i*3) (jY x.1 x.2)):=W;clear V W z c;go_enter func141,ntmps141
 refine au ?_;refine box rfl _ _ rfl #[I J d,.slice p l.length cap] rfl ?_;intro w1 M a8 A C a6;simp only[zD];refine box rfl _ _ rfl #[I J d,.slice q l.length t] rfl ?_;intro w2 N b0 L r a7;have B:=ca r A;have E:=tq C r;clear A C r a6 a7 a8 b0;simp only[zD];refine au ?_;refine lp 73 (fun i:Nat=>[(2,pt M 0),(3,pt N 0),(5,I J (i:Int))]) (fun m i wr=>i<=l.length/\m=l.length-i/\O w2.heap.size w2 wr) l.length 0 ⟨aF _,rfl,Below.refl _ _⟩ ?_;have P:∀wr,O w2.heap.size w2 wr->Hq (wr.heap[M]? =Z (Cl #[I J d,.slice p l.length cap] 71 (0,0)))/\Hq (wr.heap[N]? =Z (Cl #[I J d,.slice q l.length t] 71 (0,0)))/\O w.heap.size w wr:=fun wr e=>⟨(e.block _ (aL B.o)).trans B.o,(e.block _ (aL L.o)).trans L.o,E.o.trans (e.mono E.o.size)⟩;rintro m i wr f ⟨hi,rfl,e⟩;obtain⟨H2,H3,h⟩:=P wr e;refine af ?_;refine wp_cond_split rfl ?_ ?_
 ·intro g
  have g:i<l.length:=by have:=of_decide_eq_true g;omega
  obtain⟨⟨s,mv⟩,j⟩:∃y,l[i]? =Z y:=⟨_,ae g⟩;obtain⟨n,hz⟩:=E0 S j;obtain⟨b1,o1,rfl,h1,h2⟩:=HP.o i _ j;obtain⟨b4,o4,rfl,h3,Q⟩:=HQ.o i _ hz;have X:Hq (∀w',O w.heap.size w w'->Hq (w'.rangeAt b1 (o1+i*3) (jY s mv))/\Hq (w'.rangeAt b4 (o4+i*3) (jY s n))):=fun w' c=>⟨lX h2 c h1,lX Q c h3⟩;obtain⟨R1,R2⟩:=X.o wr h;have T:=HA.o.more _ (aJ j);have U:=HK.o.more _ (aJ hz);have b8:=hm _ (aJ j);have K:Hq (Sl F w 1 mv s.more.length (s.more.map hE)/\Sl G w 1 n s.more.length (s.more.map hE)):=⟨T,U⟩;clear h2 Q T U;refine au ?_;refine lW kr kr ?_;refine aq ?_;refine Ks.WQ.mk (Qg.call (w0 rfl) 214 #[mv,n] (Bl true) (fun _=>kr) (fun w' c=>KE w' mv n s.more (K.o.1.below (tR h c)) (K.o.2.below (tR h c)) (by simp only at b8;omega)) ?_);simp only[zD];refine aq ?_;intro w4 b6;have u:=tR e b6;obtain⟨c4,c6,c0⟩:=P w4 u;obtain⟨c7,c8⟩:=X.o w4 c0;clear H2 H3 R1 R2;refine au ?_;refine lW kr kr ?_;refine aq ?_;intro w5 b7;refine au ?_;exact⟨l.length-(i+1),i+1,oM,gY kr,g,rfl,u.trans (b7.mono u.size)⟩
 ·intro g
  refine au ?_;refine bodyPost_ret (v:=Bl true) kr rfl ?_;exact⟨rfl,h⟩
theorem Gq{w:D}{z:It}(b:o.op= .binOp .neq 73 x y 73)(c:a.eval x=H (fF z).toArray)(d:a.eval y=H (fF z).toArray):(execOp a.eval o).run prog w= .ok (.value (Bl false)) w:=by
 unfold execOp;rw[b];dsimp only;rw[c,d];simp[go_sem,fF]
theorem P4{w:D}{s:ByteArray}(b:o.op= .binOp .neq 9 x y 9)(c:a.eval x= .string s)(d:a.eval y= .string s):(execOp a.eval o).run prog w= .ok (.value (Bl false)) w:=by
 unfold execOp;rw[b];dsimp only;rw[c,d];simp[go_sem]
theorem Ct{F G:Nat->Prop}(w:D)(s:ByteArray)(a b:Vl)(l:List It)(C:Sl F w 5 a l.length (gi l))(E:Sl G w 5 b l.length (gi l))(hl:l.length<=1000000000000):Rt 209 #[H #[.string s,a],H #[.string s,b]] w (Bl true):=by
 obtain⟨p,cap,rfl,K⟩:=Sl.form (f:=fF) C fun _=>rfl;obtain⟨q,A,rfl,L⟩:=Sl.form (f:=fF) E fun _=>rfl;have N:Hq (∀i x,l[i]? =Z x->∃b off,p=Z ⟨b,off,Y⟩/\b<w.heap.size/\w.rangeAt b (off+i*5) (fF x)):=K;have P:Hq (∀i x,l[i]? =Z x->∃b off,q=Z ⟨b,off,Y⟩/\b<w.heap.size/\w.rangeAt b (off+i*5) (fF x)):=L;clear K L C E;go_enter func209,ntmps209
 refine au ?_;refine box rfl _ _ rfl #[.string s,.slice p l.length cap] rfl ?_;intro w1 t S h k Q;simp only[zD];refine box rfl _ _ rfl #[.string s,.slice q l.length A] rfl ?_;intro w2 u T r e R;have j:=ca e h;have n:=tq k e;clear h k e Q R S T;simp only[zD];refine au ?_;refine(Ks.vb (w0 rfl) rfl (P4 rfl rfl rfl) ?_).o;refine Ks.WL.mk ?_;simp only[zD];refine au ?_;refine lp 38 (fun i:Nat=>[(2,pt t 0),(3,pt u 0),(5,I J (i:Int))]) (fun m i wr=>i<=l.length/\m=l.length-i/\O w2.heap.size w2 wr) l.length 0 ⟨aF _,rfl,Below.refl _ _⟩ ?_;have U:∀wr,O w2.heap.size w2 wr->Hq (wr.heap[t]? =Z (Cl #[.string s,.slice p l.length cap] 66 (0,0)))/\Hq (wr.heap[u]? =Z (Cl #[.string s,.slice q l.length A] 66 (0,0)))/\O w.heap.size w wr:=fun wr c=>⟨(c.block _ (aL j.o)).trans j.o,(c.block _ (aL r.o)).trans r.o,n.o.trans (c.mono n.o.size)⟩;rintro m i wr f ⟨hi,rfl,c⟩;obtain⟨X,H3,g⟩:=U wr c;refine af ?_;refine wp_cond_split rfl ?_ ?_
 ·intro d
  have d:i<l.length:=by have:=of_decide_eq_true d;omega
  obtain⟨x,M⟩:∃y,l[i]? =Z y:=⟨_,ae d⟩;obtain⟨b1,o1,rfl,h1,h2⟩:=N.o i _ M;obtain⟨b4,W,rfl,h3,B⟩:=P.o i _ M;have R1:Hq (wr.rangeAt b1 (o1+i*5) (fF x)):=lX h2 g h1;have R2:Hq (wr.rangeAt b4 (W+i*5) (fF x)):=lX B g h3;clear h2 B;refine au ?_;refine lW kr kr ?_;refine aq ?_;refine Ks.vq (w0 rfl) rfl (fun w' _=>Gq (z:=x) rfl rfl rfl) ?_;refine Ks.WQ.mk ?_;simp only[zD];refine aq ?_;intro w4 V;refine au ?_;exact⟨l.length-(i+1),i+1,oM,gY kr,d,rfl,c.trans (V.mono c.size)⟩
 ·intro d
  refine au ?_;refine bodyPost_ret (v:=Bl true) kr rfl ?_;exact⟨rfl,g⟩
theorem ia.Ez{w w':D}{v v' m:Vl}{l:List (Sn×Vl)}(h:ia S w v l)(s:Sn)(a:Row S w 3 1 m s.more.length (s.more.map hE))(g:∀p∈l,∀k,p.2.ownBlock=Z k->m.ownBlock≠Z k)(o:Row (fun k=>S k\/w.heap.size<=k) w' 213 3 v' (l.length+1) (oq l++jY s m))(j:Fr (fun k=>v.ownBlock=Z k) w.heap.size w w'):ia (fun k=>S k\/w.heap.size<=k) w' v' (l++[(s,m)]):=by
 have f:∀{u:Vl}{n:Nat}{xs:List Vl},Row S w 3 1 u n xs->Row (fun k=>S k\/w.heap.size<=k) w' 3 1 u n xs:=fun a=>(a.congr fun b d=>j.block b (a.lt b d) fun e=>by
  obtain⟨q,i⟩:=Row.kl h.row e;exact kV a i dc d).mono fun _ h=>oL h
 refine⟨?_,?_,?_⟩
 ·rw[ao]
  simpa [oq] using o
 ·intro p c
  rcases bV.1 c with c|c
  ·exact f (h.more p c)
  ·obtain rfl:p=_:=cm.1 c
   exact f a
 ·exact sK.2 ⟨h.apart,g⟩
theorem Jb(g:Int)(ns:List Int)(n:Int):n' g (ns++[n])=(n' g ns).lC n:=by simp[n']
theorem X'(g:Int)(ns:List Int)(h:∀n∈ns,1<=n/\n<=1000):(0<=(n' g ns).upto/\(n' g ns).upto<=1000)/\(n' g ns).more.length<=ns.length:=by
 induction ns using C' with
 |b=>simp[n']
 |h1 l x ih=>
  have i:=ih fun n a=>h n (List.mem_append_left _ a);have b:=h x sP;rw[Jb];unfold Sn.lC;split<;>simp<;>omega
theorem IX(g:Int)(ks:List (Int×Int))(k:Int×Int):ma g (ks++[k])=if k.1=g then ma g ks++[k.2] else ma g ks:=by
 unfold ma;rw[List.filter_append];by_cases h:k.1=g<;>simp[h]
theorem Ps(g:Int)(ks:List (Int×Int)):(ma g ks).length<=ks.length:=by
 unfold ma;rw[aS];exact List.length_filter_le _ _
theorem Pu{g:Int}{ks:List (Int×Int)}{n:Int}(h:n∈ma g ks):(g,n)∈ks:=by
 unfold ma at h;simp only[aU,List.mem_filter,decide_eq_true_eq] at h;obtain⟨⟨a,b⟩,⟨h1,h2⟩,h3⟩:=h;simp only at h2 h3;rw[<-h2,<-h3];exact h1
structure RD(w:D)(b2 bd:Nat)(F:Int)(vs:Vl)(l:List (Sn×Vl))(wr:D):Prop where
 kx:O w.heap.size w wr
 res:wr.heap[b2]? =Z (Cl #[I J 0,.slice none 0 0] 71 (0,0))
 d:wr.heap[bd]? =Z (Cl #[I J F,vs] 71 (0,0))
 seen:ia (fun k=>w.heap.size<=k) wr vs l
theorem RD.below{w:D}{b bd:Nat}{F:Int}{vs:Vl}{l:List (Sn×Vl)}{wr w':D}(h:RD w b bd F vs l wr)(a:O wr.heap.size wr w'):RD w b bd F vs l w':=
 ⟨h.kx.trans (a.mono h.kx.size),(a.block _ (aL h.res)).trans h.res,(a.block _ (aL h.d)).trans h.d,h.seen.below a⟩
theorem Jq{w:D}{g kn:Nat}{s:St}(h:jh S w g s kn)(hI:Inv s):Calls prog 135 #[X (Z ⟨g,0,Y⟩)] w fun e w'=>∃u,e=Re u/\(∃sv l,u=H #[I J s.floor,sv]/\l.map aj=mj s.keys/\ia (fun k=>w.heap.size<=k) w' sv l)/\O w.heap.size w w':=by
 obtain⟨hS,lv,hg,e7⟩:=h;obtain⟨p,cap,rfl,hp⟩:=Row.form e7;have e1:Hq (w.heap[g]? =Z (Cl (lF s (.slice p s.l.length cap) kn) 225 (0,0))):=hg;have HP:Hq (∀k,k<s.l.length->∃g c0,p=Z ⟨g,0,Y⟩/\w.heap[g]? =Z (Cl c0 73 (0,0))/\c0.toList.take (s.l.length*5)=gi s.l):=hp;have e5:=(aL hg);have hn:=hI.kB;have HI:Hq (Inv s):=hI;have l0:s.keys.length=s.l.length:=aS ..;clear hg e7 hI hp;go_enter func135,ntmps135
 refine au ?_;refine Ks.alloc rfl _ rfl (H #[I J 0,.slice none 0 0]) kr #[I J 0,.slice none 0 0] rfl ?_;intro w1 r e2 a8 R h8;have h6:Hq (w1.heap[g]? =Z (Cl (lF s (.slice p s.l.length cap) kn) 225 (0,0))):=(R.o.block g e5).trans e1.o;simp only[zD];refine au ?_;refine kv (H #[I J s.floor,.slice none 0 0]) ?_;refine decl rfl _ rfl (H #[I J 0,.slice none 0 0]) kr rfl _ _ rfl #[I J s.floor,.slice none 0 0] (fun _=>rfl) (fun _=>rfl) kr rfl (by simp[av]) ?_;intro w2 bd b8 c8 b3;have j0:w.heap.size<=r:=bO e2.o.symm;have j2:w.heap.size<=bd:=ag R.o.size b8.o;have j1:r≠bd:=fun e=>by have:=(aL a8.o);have:=b8.o;omega
 have j:Hq (RD w r bd s.floor (.slice none 0 0) [] w2):=⟨R.o.trans (b3.o.mono R.o.size),(b3.o.block _ (aL a8.o)).trans a8.o,c8.o,ia.nil _ _⟩;clear e2 a8 R h8 h6 c8 b3 b8;simp only[zD];refine au ?_;refine lp 65 (fun G:Nat=>[(0,pt g 0),(2,pt r 0),(3,pt bd 0),(4,I J (G:Int))]) (fun m G wr=>G<=16/\m=16-G/\∃vs l,l.map aj=(List.range G).filterMap (rE s.keys)/\RD w r bd s.floor vs l wr) 16 0 ⟨oM,rfl,_,[],rfl,j.o⟩ ?_;clear j;rintro m G wr f ⟨hG,rfl,vs,l,hl,hX⟩;have j:Hq (RD w r bd s.floor vs l wr):=hX;clear hX;refine af ?_;refine wp_cond_split rfl ?_ ?_
 ·intro b0
  have b0:G<=15:=by have:=of_decide_eq_true b0;omega
  refine au ?_;refine kv (H (jY (n' G []) (.slice none 0 0)).toArray) ?_;refine decl rfl _ rfl (H #[I J 0,I J 0,.slice none 0 0]) kr rfl _ _ rfl (jY (n' G []) (.slice none 0 0)).toArray (fun _=>rfl) (fun _=>rfl) kr rfl (by simp[jY,av]) ?_;intro w3 bs e3 c7 c6;have e4:wr.heap.size<=bs:=e3.o;clear e3;simp only[zD];refine au ?_;refine lp 65 (fun x:Bool×Nat=>[(0,pt g 0),(2,pt r 0),(3,pt bd 0),(4,I J (G:Int)),(5,pt bs 0),(6,Bl x.1),(7,I J (x.2:Int))]) (fun m x t=>x.2<=s.l.length/\m=s.l.length-x.2/\x.1=decide (ma G (s.keys.take x.2)≠ [])/\O wr.heap.size wr t/\∃mv,t.heap[bs]? =Z (Cl (jY (n' G (ma G (s.keys.take x.2))) mv).toArray 213 (0,0))/\Row (fun k=>wr.heap.size<=k) t 3 1 mv (n' G (ma G (s.keys.take x.2))).more.length ((n' G (ma G (s.keys.take x.2))).more.map hE)) s.l.length (false,0) ⟨aF _,rfl,rfl,c6.o,_,c7.o,Row.nil _ _ _ _⟩ ?_;clear c7 c6;rintro m ⟨an,i⟩ t f2 ⟨hi,rfl,V,hB,mv,hC,hM⟩;simp only at hi V hC hM;have U:Hq (t.heap[bs]? =_):=hC;have E:Hq (Row _ t _ _ mv _ _):=hM;have HB:Hq (O wr.heap.size wr t):=hB;have b6:Hq (O w.heap.size w t):=j.o.kx.trans (hB.mono j.o.kx.size);have HG:Hq (t.heap[g]? =Z (Cl (lF s (.slice p s.l.length cap) kn) 225 (0,0))):=(b6.o.block g e5).trans e1.o;clear hC hM hB;refine af ?_;refine wp_cond_split rfl ?_ ?_
  ·intro B
   have B:i<s.l.length:=by have:=of_decide_eq_true B;omega
   obtain⟨y,hy⟩:∃y,s.l[i]? =Z y:=⟨_,ae B⟩;obtain⟨gb,c0,rfl,c4,W⟩:=HP.o i B;have h7:Hq (t.rangeAt gb (i*5) (fF y)):=lX (Row.range qD c4 W hy) b6.o (aL c4);clear c4 W;have l3:=(HI.o.fair y (aJ hy)).fi;have W:s.keys.take (i+1)=s.keys.take i++[y.key]:=nd (by unfold St.keys;rw[ct,hy];rfl);have l1:∀n∈ma G (s.keys.take i),1<=n/\n<=1000:=fun n hn=>by
    obtain⟨z,hz,e⟩:=aU.1 (List.mem_of_mem_take (Pu hn));have:=(HI.o.fair z hz).fi;unfold It.key at e;injection e with _ e
    rwa [<-e]
   have j5:=X' G _ l1;have l4:(ma G (s.keys.take i)).length<=16000:=ag (Ps _ _) (by rw[List.length_take];omega);obtain⟨a,L⟩:=eX (n' G (ma G (s.keys.take i)));rw[<-L] at U E j5;refine au ?_;refine decl rfl _ rfl (H #[I J 0,I J 0,I J 0,I J 0,Bl false]) kr rfl _ _ rfl (fF y).toArray (fun _=>rfl) (fun _=>rfl) kr rfl (by simp[fF,av]) ?_;intro w4 bx h9 l2 a6;have M:=ca a6 U;have N:Hq (Row _ w4 _ _ mv _ _):=E.o.below a6.o lR;have T:=tq HB a6;clear HG U E HB b6 h9 a6 h7;simp only[zD];refine au ?_;by_cases he:y.gate=G
   ·rw[decide_eq_true he]
    have K:ma G (s.keys.take (i+1))=ma G (s.keys.take i)++[y.fi]:=by rw[W,IX,if_pos (by exact he)];rfl
    have b1:n' G (ma G (s.keys.take (i+1)))=a.lC y.fi:=by rw[K,Jb,<-L]
    refine au ?_;refine wp_cond_split rfl ?_ ?_
    ·intro h2
     have h2:y.fi=a.upto+1:=of_decide_eq_true h2;have es:a.lC y.fi={a with upto:=y.fi}:=if_pos h2;refine au ?_;refine Ks.store rfl _ _ _ rfl bs 1 (I J (a.upto+1)) rfl rfl M.o (by show 1<3;omega) kr rfl (jY (a.lC y.fi) mv).toArray (by rw[es];simp[jY,h2]) ?_;intro w5 a7 F C H4;simp only[Act.put];refine au ?_;refine⟨s.l.length-(i+1),(true,i+1),oM,gY kr,B,rfl,by simp[K],T.o.trans ((F.o (fun _=>False) wr.heap.size (oR e4)).below lR (fun _ _ h=>h)),mv,by rw[b1];exact a7.o,?_⟩;rw[b1,es];exact Row.other N.o (kV N.o M.o dc) C.o
    ·intro h2
     have h2:¬y.fi=a.upto+1:=of_decide_eq_false h2;have es:a.lC y.fi={a with more:=a.more++[y.fi]}:=if_neg h2;refine au ?_;refine Ks.push rfl rfl 25 3 _ _ _ rfl rfl (I J y.fi) (I J 0) rfl #[I J y.fi] 1 8 underlying25 qC dc dc kr rfl dc _ mv a.more.length (a.more.map hE) (fun _=>rfl) (fun _=>rfl) N.o rfl (fun c q=>by simp at q;rw[q];rfl) oM ?_;intro u e9 w5 Q P;have a7:Hq (w5.heap[bs]? =_):=(P.block bs (aL M.o) (kV N.o M.o dc)).trans M.o;simp only[zD];refine au ?_;refine Ks.store rfl _ _ _ rfl bs 2 _ rfl rfl a7.o (by show 2<3;omega) kr (row_one Q) (jY (a.lC y.fi) e9).toArray (by rw[es];rfl) ?_;intro w6 h4 F C H4;simp only[Act.put];refine au ?_;refine⟨s.l.length-(i+1),(true,i+1),oM,gY kr,B,rfl,by simp[K],(T.o.trans (P.below T.o.size fun k A e=>absurd (N.o.2 k e) oM)).trans ((F.o (fun _=>False) wr.heap.size (oR e4)).below lR (fun _ _ h=>h)),e9,by rw[b1];exact h4.o,?_⟩;rw[b1,es];refine(Row.other (S:=fun k=>wr.heap.size<=k\/w4.heap.size<=k) ?_ (kV Q a7.o dc) C.o).mono fun k A=>A.elim id fun e=>ag T.o.size e;rw[ao,ef];exact Q
   ·rw[decide_eq_false he]
    have K:ma G (s.keys.take (i+1))=ma G (s.keys.take i):=by rw[W,IX,if_neg (by exact he)]
    refine au ?_;exact⟨s.l.length-(i+1),(an,i+1),oM,gY kr,B,rfl,by rw[K];exact V,T.o,mv,by rw[K,<-L];exact M.o,by rw[K,<-L];exact N.o⟩
  ·intro B
   obtain rfl:i=s.l.length:=by have:=of_decide_eq_false B;omega
   rw[aT (bO l0)] at V U E;have v:Hq (RD w r bd s.floor vs l t):=j.o.below HB.o;have HD:Hq (t.heap[bd]? =_):=v.o.d;obtain⟨a,L⟩:=eX (n' G (ma G s.keys));rw[<-L] at U E;have l5:l.length<=16:=by
    have:=congrArg dH hl;rw[aS] at this;rw[this];exact ag (List.length_filterMap_le _ _) (by rw[List.length_range];omega)
   refine au ?_;cases q:decide (ma G s.keys≠ []) with
   |true=>
    obtain rfl:an=true:=V.trans q;have q:ma G s.keys≠ []:=of_decide_eq_true q;refine au ?_;refine Ks.push rfl rfl 69 213 _ _ _ rfl rfl (H (jY a mv).toArray) (H #[I J 0,I J 0,.slice none 0 0]) rfl (jY a mv).toArray 3 40 underlying69 wL dc dc kr rfl dc _ vs l.length (oq l) (fun _=>rfl) (fun _=>rfl) v.o.seen.row rfl (fun c q=>by
     simp[jY] at q;rcases q with rfl|rfl|rfl
     ·rfl
     ·rfl
     ·exact row_one E.o) oM ?_
    intro u h0 w5 Q P;have e6:∀b cs,t.heap[b]? =Z (Obj.cells cs 71 (0,0))->w5.heap[b]? =Z (Obj.cells cs 71 (0,0)):=fun b cs h=>(P.block b (aL h) (kV v.o.seen.row h dc)).trans h;have c9:Hq (w5.heap[bd]? =_):=e6 bd _ v.o.d;have b7:Hq (w5.heap[r]? =_):=e6 r _ v.o.res;simp only[zD];refine au ?_;refine Ks.store rfl _ _ _ rfl bd 1 _ rfl rfl c9.o (by show 1<2;omega) kr (row_one Q) #[I J s.floor,h0] rfl ?_;intro w6 h5 F C H4;simp only[Act.put];refine au ?_;have j9:O w.heap.size w w5:=v.o.kx.trans (P.below v.o.kx.size fun k A e=>absurd (v.o.seen.row.2 k e) oM);refine⟨16-(G+1),G+1,oM,gY kr,oM,rfl,h0,l++[(a,mv)],?_,j9.trans ((F.o (fun _=>False) w.heap.size (oR j2)).below lR (fun _ _ h=>h)),(C.o r j1).trans b7.o,h5.o,?_⟩
    ·rw[ef,hl,iE,fQ]
     simp[rE,q,L]
    ·refine((ia.Ez v.o.seen a (E.o.mono fun k A=>ag j.o.kx.size A) (fun p hp k h1 h2=> ?_) Q P).other c9.o dc dc C.o).mono fun k A=>A.elim id fun e=>ag v.o.kx.size e
     have:=(j.o.seen.more p hp).lt k h1;have:=E.o.2 k h2;omega
   |false=>
    obtain rfl:an=false:=V.trans q;have q:ma G s.keys=[]:=by simpa using of_decide_eq_false q
    refine au ?_;refine⟨16-(G+1),G+1,oM,gY kr,oM,rfl,vs,l,?_,v.o⟩;rw[hl,iE,fQ];simp[rE,q]
 ·intro b0
  obtain rfl:G=16:=by have:=of_decide_eq_false b0;omega
  have HD:Hq (wr.heap[bd]? =_):=j.o.d;refine au ?_;refine Ks.whole rfl _ _ _ rfl r #[I J s.floor,vs] rfl rfl j.o.res kr rfl (by simp[row_one j.o.seen.row];rfl) ?_;intro w5 b7 F C H4;simp only[Act.put];refine au ?_;refine Own.jM results135 rfl r _ #[I J s.floor,vs] _ _ rfl b7.o underlying71 rfl kr ⟨_,rfl,⟨vs,l,rfl,?_,j.o.seen.other j.o.res dc dc C.o⟩,j.o.kx.trans ((F.o (fun _=>False) w.heap.size (oR j0)).below lR (fun _ _ h=>h))⟩;rw[hl,QQ]
  ·exact List.pairwise_map.2 (HI.o.g'.imp fun h=>h)
  ·intro k A
   obtain⟨z,hz,rfl⟩:=aU.1 A;exact(HI.o.fair z hz).gate
theorem ia.cut{w:D}{v:Vl}{l:List (Sn×Vl)}(h:ia S w v l):ia (fun b=>S b/\b<w.heap.size) w v l:=⟨⟨h.row.1,fun b a=>⟨h.row.2 b a,h.row.lt b a⟩⟩,fun p c=>⟨(h.more p c).1,fun b a=>⟨(h.more p c).2 b a,(h.more p c).lt b a⟩⟩,h.apart⟩
theorem ia.frame{U:Nat->Prop}{w w':D}{v:Vl}{l:List (Sn×Vl)}(h:ia S w v l)(e:Fr U w.heap.size w w')(d:∀b,S b->¬U b):ia S w' v l:=⟨h.row.congr fun b a=>e.block b (h.row.lt b a) (d b (h.row.2 b a)),fun p c=>(h.more p c).congr fun b a=>e.block b ((h.more p c).lt b a) (d b ((h.more p c).2 b a)),h.apart⟩
theorem B0{s:St}(h:Inv s){l:List (Sn×Vl)}(a:l.map aj=mj s.keys):l.length<=16000/\∀p∈l,p.1.more.length<=16000:=by
 have h1:=Js s.keys;have h2:s.keys.length=s.l.length:=by simp[St.keys]
 have h3:=h.kB;have b:=congrArg dH a;rw[aS] at b;refine⟨oM,fun p d=> ?_⟩;have e:=Ku (ks:=s.keys) (fun k c=>(h.Fb k c).2) p.1 (a▸List.mem_map_of_mem d);omega
namespace ij
variable {Oa:Nat->Nat->Prop} {N:Nat} {w w':D} {W B K c:Nat} {ps:List Pr} {n:Nat} {lv:Vl} {ks:List lS}
theorem nL(h:ij Oa N w W B K c ps n lv ks)(a:c<=c'):ij Oa N w W B K c' ps n lv ks:=by
 obtain⟨C,d,h1,h2⟩:=h.book;exact⟨h.one,h.lt,h.wN,h.oW,h.world,⟨C,d,h1.more a,h2⟩,h.row,h.known,h.nk,h.np,h.gates⟩
theorem other(h:ij Oa N w W B K c ps n lv ks){r:Nat}(g:Fr (fun b=>b=r) w.heap.size w w')(l:∀j,¬Oa r j):ij Oa N w' W B K c ps n lv ks:=by
 have f:∀b j,Oa b j->w'.heap[b]? =w.heap[b]? :=fun b j a=>g.block b (h.lt b j a).2 fun e=>l j (e▸a);obtain⟨C,d,h1,h2⟩:=h.book;exact⟨h.one,fun b i a=>⟨(h.lt b i a).1,aB (h.lt b i a).2 g.size⟩,ag h.wN g.size,h.oW,(f W 1 h.oW).trans h.world,⟨C,d,h1.congr g.size fun b j a=>f b 2 (h2 b j a),h2⟩,h.row.congr fun b a=>f b 3 (h.row.2 b a),h.known.congr (fun _ h=>h) fun b a _=>f b 4 a,h.nk,h.np,fun i p k=>by
  obtain⟨a1,a2,a3,a4⟩:=h.gates i p k;exact⟨a1.congr (fun _ h=>h) fun b a _=>f b _ a,a2.congr (fun _ h=>h) fun b a _=>f b _ a,a3,a4⟩⟩
theorem sJ(h:ij Oa N w W B K c ps n lv ks)(g:∀b,S b->N<=b/\∀i,¬Oa b i){f:FuncId}{args:Array Vl}(m:∀C d,lH C w B c d->(∀b j,S b->¬C b j)->Calls prog f args w fun e w'=>e=Re (Tp #[])/\kU C S w w' B c'):
  Calls prog f args w fun e w'=>∃v,e=Re v/\(∃O',ij O' N w' W B K c' ps n lv ks/\∀b i,O' b i->Oa b i\/w.heap.size<=b\/S b)/\Fr (fun b=>Oa b 2\/S b) w.heap.size w w':=by
 obtain⟨C,d,k,a⟩:=h.book;refine(m C d k fun b j l o=>(g b l).2 2 (a b j o)).mono ?_;rintro e w' ⟨rfl,p⟩;obtain⟨O',h1,h2,h3⟩:=h.own a g p;exact⟨_,rfl,⟨O',h1,h2⟩,h3⟩
theorem kx(h:ij Oa N w W B K c ps n lv ks)(a:∀b,S b->N<=b)(d:Fr (fun b=>Oa b 2\/S b) w.heap.size w w'):O N w w':=d.below h.wN fun k e hu=>by
 rcases hu with x|x
 ·have:=(h.lt k 2 x).1
  omega
 ·have:=a k x
  omega
end ij
theorem Jr{Oa:Nat->Nat->Prop}{N:Nat}{w:D}{W B K c:Nat}{ps:List Pr}{n:Nat}{lv:Vl}{ks:List lS}(h:ij Oa N w W B K c ps n lv ks){p:Pr}(hp:ps[i]? =Z p)(he:p.s=p.t)(hc:c<=5790000000000):
  Calls prog 69 #[X (Z ⟨W,0,Y⟩),H (lP p).toArray] w fun e w'=>e=Re (Bl true)/\(∃O',ij O' N w' W B K (c+130000) ps n lv ks)/\O N w w':=by
 obtain⟨h9,j0,Q,o9⟩:=h.gates i p hp;have Ho:Hq (ij Oa N w W B K c ps n lv ks):=h;have HX:Hq (gg (fun b=>Oa b (5+2*i)) w p.x p.s):=h9;have HY:Hq (jh (fun b=>Oa b (6+2*i)) w p.y p.t K):=j0;have p6:=h.wN;have U:∀b j,Oa b j->b<w.heap.size:=fun b j r=>(h.lt b j r).2;clear h h9 j0;go_enter func69,ntmps69
 refine au ?_;refine box rfl _ _ rfl (lP p).toArray rfl ?_;intro w1 bp h6 M A o6;have q6:w.heap.size<=bp:=bO h6.o.symm;clear h6 o6;simp only[zD];refine au ?_;refine Ks.call rfl 36 #[pt p.x 0] kr (IF (HX.o.below A.o) Q) ?_;rintro u1 w2 ⟨⟨q7,m,rfl,e1,b1⟩,u⟩;obtain⟨q1,c1,rfl,_⟩:=Row.form b1.row;simp only[zD];refine decl rfl _ rfl (H #[I J 0,.slice none 0 0]) kr rfl _ _ rfl #[I J p.s.floor,.slice q1 m.length c1] (fun _=>rfl) (fun _=>rfl) kr rfl (by simp[av]) ?_;intro w3 b5 p8 c8 E;have c4:O w.heap.size w w3:=(tR A u).trans (E.o.mono (ag A.o.size u.size));have h4:Hq (w3.heap[bp]? =_):=(E.o.block _ (aB (aL M.o) u.size)).trans ((u.block _ (aL M.o)).trans M.o);have z:=b1.cut.below E.o;have z1:=A.o.size;have z2:=u.size;have z3:=E.o.size;clear M A u b1 E;simp only[zD];refine au ?_;refine Ks.call rfl 36 #[pt p.x 0] kr (IF (HX.o.below c4) Q) ?_;rintro u2 w4 ⟨⟨q8,V,rfl,e2,b3⟩,b0⟩;obtain⟨q2,c2,rfl,_⟩:=Row.form b3.row;simp only[zD];refine decl rfl _ rfl (H #[I J 0,.slice none 0 0]) kr rfl _ _ rfl #[I J p.s.floor,.slice q2 V.length c2] (fun _=>rfl) (fun _=>rfl) kr rfl (by simp[av]) ?_;intro w5 P h5 e6 L;have G:=tR b0 L;have c6:=tR c4 G;have o5:=ca G h4;have c9:=ca G c8;have j1:=z.below G;have l0:=b3.cut.below L.o;have z4:=b0.size;have z5:=L.o.size;clear h4 c8 G b0 z b3 L c4;simp only[zD];refine au ?_;refine Ks.call rfl 135 #[pt p.y 0] kr (Jq (HY.o.below c6) o9) ?_;rintro u3 w6 ⟨⟨q9,l3,rfl,e3,z⟩,h7⟩;obtain⟨q3,c3,rfl,_⟩:=Row.form z.row;simp only[zD];refine decl rfl _ rfl (H #[I J 0,.slice none 0 0]) kr rfl _ _ rfl #[I J p.t.floor,.slice q3 l3.length c3] (fun _=>rfl) (fun _=>rfl) kr rfl (by simp[av]) ?_;intro w7 b7 p9 a8 a6;have l:=tR h7 a6;have n0:=tR c6 l;have e4:=ca l c9;have e7:=ca l e6;have b2:=j1.below l;have l4:=l0.below l;have c0:=z.below a6.o;have z6:=l.size;clear o5 c9 e6 l h7 j1 l0 z a6 c6;simp only[zD];rw[<-he] at e3 a8;obtain⟨n1,m1⟩:=B0 Q e1;obtain⟨n2,m2⟩:=B0 Q e2;refine au ?_;refine pure (w0 rfl) 141 _ kr (Dr w7 p.s.floor _ _ m l3 (mi.uM b2) (mi.uM c0) (e1.trans e3.symm) oM fun q k=>by have:=m1 q k;omega) ?_;intro w8 a;have n5:=tR n0 a;have e5:=ca a e4;have e9:=ca a e7;have o4:=ca a a8;have j2:=b2.below a;have b8:=l4.below a;have l9:=c0.below a;have z7:=a.size;clear e4 e7 a8 b2 l4 c0 a n0;simp only[zD];refine au ?_;refine pure (w0 rfl) 141 _ kr (Dr w8 p.s.floor _ _ V l3 (mi.uM b8) (mi.uM l9) (e2.trans e3.symm) oM fun q k=>by have:=m2 q k;omega) ?_;intro w9 f;have c7:=tR n5 f;have n9:=ca f e5;have h0:=ca f e9;have j5:=j2.below f;have l5:=b8.below f;have H9:Hq (ij Oa N w9 W B K c ps n lv ks):=Ho.o.below c7;have o8:Hq (w9.heap[W]? =_):=H9.o.world;have z8:=f.size;clear e5 e9 o4 j2 b8 l9 f n5;simp only[zD];refine au ?_;refine Qg.im 5 kr kr ?_;refine aq ?_;intro wa g;have za:=g.size;have Ha:Hq (ij Oa N wa W B K c ps n lv ks):=H9.o.below g;have a7:=ca g h0;have j9:=j5.below g;have l6:=l5.below g;have p7:=tR c7 g;clear H9 o8 n9 h0 j5 l5 g c7;refine Ks.call rfl 142 _ kr (Ha.o.sJ (S:=fun b=>w1.heap.size<=b/\b<w2.heap.size) (c':=c+4*m.length+4) (fun b r=>⟨oM,fun j F=>by have:=U b j F;omega⟩) fun C d hK hS=>Dq hK p.s.floor _ m j9 hS oM (fun q k=>by have:=m1 q k;omega) oM) ?_;rintro _ wb ⟨⟨O1,h1,p3⟩,T⟩;have p5:=(aL a7.o);have p4:∀j,¬Oa P j:=fun j F=>by have:=U P j F;have:=h5.o;omega
 have o0:Hq (wb.heap[P]? =_):=(T.block P p5 fun x=>x.elim (p4 2) fun x=>by have:=h5.o;omega).trans a7.o;have l7:=l6.frame T fun b r x=>x.elim (fun x=>by have:=U b 2 x;omega) fun x=>oM
 have H1:Hq (ij O1 N wb W B K (c+4*m.length+4) ps n lv ks):=h1;have o7:Hq (wb.heap[W]? =_):=h1.world;have p0:=(p7.mono p6).trans (Ha.o.kx (fun b r=>oM) T);clear h1 a7 j9 l6 T Ha;simp only[zD];refine au ?_;refine Qg.im 5 kr kr ?_;refine aq ?_;intro wc R;have Hc:Hq (ij O1 N wc W B K (c+4*m.length+4) ps n lv ks):=H1.o.below R;have l8:=l7.below R;have p1:=p0.trans (R.mono H1.o.wN);clear H1 o7 o0 l7 R;refine Ks.call rfl 142 _ kr (Hc.o.sJ (S:=fun b=>w3.heap.size<=b/\b<w4.heap.size) (c':=c+4*m.length+4+4*V.length+4) (fun b r=>⟨oM,fun j F=>by
  rcases p3 b j F with x|x|x
  ·have:=U b j x
   omega
  ·omega
  ·omega⟩) fun C d hK hS=>Dq hK p.s.floor _ V l8 hS oM (fun q k=>by have:=m2 q k;omega) oM) ?_
 rintro _ wd ⟨⟨O2,h2,q5⟩,h8⟩;have p2:=p1.trans (Hc.o.kx (fun b r=>oM) h8);clear Hc l8 h8;simp only[zD];refine au ?_;refine bodyPost_ret (v:=Bl true) kr rfl ?_;exact⟨rfl,⟨O2,h2.nL oM⟩,p2⟩
def wB(p:Tw×Vl):List Vl:=[I J p.1.br,I J p.1.ba,p.2]
theorem GU(p:Tw×Vl):(wB p).length=3:=rfl
theorem Kn{T:Nat->Prop}(w:D)(a b:Vl)(l k:List (Tw×Vl))(j:nu S w a l)(c:nu T w b k)(A:l.map aj=k.map aj)(hl:l.length<=1000000000)(V:∀p∈l,p.1.gates.length<=1000000000):Rt 139 #[a,b] w (Bl true):=by
 obtain⟨p,cap,rfl,E⟩:=Sl.form (f:=wB) (Sl.mf j.row) GU;obtain⟨q,t,z,F⟩:=Sl.form (f:=wB) (Sl.mf c.row) GU;have U:k.length=l.length:=by have:=congrArg dH A;simpa using this.symm
 rw[U] at z;subst z;have K:Hq (nu S w (.slice p l.length cap) l):=j;have L:Hq (nu T w (.slice q l.length t) k):=c;have M:Hq (∀i x,l[i]? =Z x->∃b off,p=Z ⟨b,off,Y⟩/\b<w.heap.size/\w.rangeAt b (off+i*3) (wB x)):=E;have N:Hq (∀i x,k[i]? =Z x->∃b off,q=Z ⟨b,off,Y⟩/\b<w.heap.size/\w.rangeAt b (off+i*3) (wB x)):=F;clear E F j c;go_enter func139,ntmps139
 refine au ?_;refine lp 57 (fun i:Nat=>[(0,.slice p l.length cap),(1,.slice q l.length t),(5,I J (i:Int))]) (fun m i wr=>i<=l.length/\m=l.length-i/\O w.heap.size w wr) l.length 0 ⟨aF _,rfl,Below.refl _ _⟩ ?_;rintro m i wr f ⟨hi,rfl,e⟩;refine af ?_;refine wp_cond_split rfl ?_ ?_
 ·intro d
  have d:i<l.length:=by have:=of_decide_eq_true d;omega
  obtain⟨⟨s,mv⟩,g⟩:∃y,l[i]? =Z y:=⟨_,ae d⟩;obtain⟨h,H⟩:=E0 A g;obtain⟨b1,o1,rfl,h1,h2⟩:=M.o i _ g;obtain⟨b4,X,rfl,h3,u⟩:=N.o i _ H;have G:Hq (∀w',O w.heap.size w w'->Hq (w'.rangeAt b1 (o1+i*3) [I J s.br,I J s.ba,mv])/\Hq (w'.rangeAt b4 (X+i*3) [I J s.br,I J s.ba,h])):=fun w' c=>⟨lX h2 c h1,lX u c h3⟩;obtain⟨P,R2⟩:=G.o wr e;have B:=K.o.more _ (aJ g);have C:=L.o.more _ (aJ H);have W:=V _ (aJ g);have r:Hq (Sl S w 1 mv s.gates.length (s.gates.map hE)/\Sl T w 1 h s.gates.length (s.gates.map hE)):=⟨Sl.mf B,Sl.mf C⟩;clear h2 u B C;refine au ?_;refine lW kr kr ?_;refine aq ?_;refine Ks.WQ.mk (Qg.call (w0 rfl) 214 #[mv,h] (Bl true) (fun _=>kr) (fun w' c=>KE w' mv h s.gates (r.o.1.below (tR e c)) (r.o.2.below (tR e c)) (by simp only at W;omega)) ?_);simp only[zD];refine aq ?_;intro w4 Q;have n:=tR e Q;obtain⟨a6,a7⟩:=G.o w4 n;clear P R2;refine au ?_;refine lW kr kr ?_;refine aq ?_;intro w5 R;refine au ?_;exact⟨l.length-(i+1),i+1,oM,gY kr,d,rfl,n.trans (R.mono n.size)⟩
 ·intro d
  refine au ?_;refine bodyPost_ret (v:=Bl true) kr rfl ?_;exact⟨rfl,e⟩
theorem N1{F:Nat->Prop}(w:D)(u:Int)(sv:Vl)(l:List (Sn×Vl))(x:It)(h:mi F w sv l)(hl:l.length<=1000000000)(hm:∀p∈l,p.1.more.length<=1000000000):Rt 253 #[H #[I J u,sv],lO x] w (Bl (uU (l.map aj) x.key)):=by
 obtain⟨p,cap,rfl,hp⟩:=h.row.form qE;have c8:Hq (mi F w (.slice p l.length cap) l):=h;have HP:Hq (∀i x,l[i]? =Z x->∃b off,p=Z ⟨b,off,Y⟩/\b<w.heap.size/\w.rangeAt b (off+i*3) (jY x.1 x.2)):=hp;clear h hp;unfold lO;go_enter func253,ntmps253
 refine au ?_;refine box rfl _ _ rfl #[I J u,.slice p l.length cap] rfl ?_;intro w1 A e5 T V e1;simp only[zD];refine box rfl _ _ rfl (fF x).toArray rfl ?_;intro w2 B e6 a6 z e2;have U:=ca z T;have W:=tq V z;clear T V z e1 e2 e5 e6;simp only[zD];refine au ?_;refine lp 55 (fun i:Nat=>[(2,pt A 0),(3,pt B 0),(4,Bl false),(5,I J (i:Int))]) (fun m i wr=>i<=l.length/\m=l.length-i/\(∀q∈l.take i,(decide (q.1.gate=x.gate)&&q.1.has x.fi)=false)/\O w2.heap.size w2 wr) l.length 0 ⟨aF _,rfl,fun q a=>by simp at a,Below.refl _ _⟩ ?_;have r:∀wr,O w2.heap.size w2 wr->Hq (wr.heap[A]? =Z (Cl #[I J u,.slice p l.length cap] 71 (0,0)))/\Hq (wr.heap[B]? =Z (Cl (fF x).toArray 73 (0,0)))/\O w.heap.size w wr:=fun wr e=>⟨(e.block _ (aL U.o)).trans U.o,(e.block _ (aL a6.o)).trans a6.o,W.o.trans (e.mono W.o.size)⟩;rintro m i wr f ⟨hi,rfl,N,e⟩;obtain⟨S,HX,j⟩:=r wr e;refine af ?_;refine wp_cond_split rfl ?_ ?_
 ·intro c
  have c:i<l.length:=by have:=of_decide_eq_true c;omega
  obtain⟨⟨s,mv⟩,Q⟩:∃y,l[i]? =Z y:=⟨_,ae c⟩;have G:=aJ Q;have h0:=hm _ G;have K:=c8.o.more _ G;simp only at h0 K;obtain⟨mp,mc,rfl,b6⟩:=K.ints;obtain⟨gb,off,rfl,e9,hr⟩:=HP.o i _ Q;have HM:Hq (∀i x,s.more[i]? =Z x->∃b off,mp=Z ⟨b,off,Y⟩/\b<w.heap.size/\w.rangeAt b (off+i*1) [hE x]):=b6;clear b6 K;have P:Hq (∀w',O w.heap.size w w'->Hq (w'.rangeAt gb (off+i*3) (jY s (.slice mp s.more.length mc)))):=fun w' hb=>lX hr hb e9;have X:=P.o wr j;have b7:(decide (s.gate=x.gate)&&s.has x.fi)=false->∀q∈l.take (i+1),(decide (q.1.gate=x.gate)&&q.1.has x.fi)=false:=fun h q a=>by
   rw[nd Q] at a;rcases bV.1 a with a|a
   ·exact N q a
   ·obtain rfl:=cm.1 a
    exact h
  have c4:(decide (s.gate=x.gate)&&s.has x.fi)=true->uU (l.map aj) x.key=true:=fun h=>List.any_eq_true.2 ⟨s,aU.2 ⟨_,G,rfl⟩,h⟩;clear hr;refine au ?_;refine lW kr kr ?_;refine aq ?_;intro w4 b0;have C:=tR e b0;obtain⟨c6,e3,b8⟩:=r w4 C;have c9:=P.o w4 b8;clear S HX j X b0;by_cases t:s.gate=x.gate
  ·rw[decide_eq_true t]
   refine au ?_;refine lW kr kr ?_;refine aq ?_;intro w5 b1;have a7:=tR C b1;obtain⟨c7,e4,c0⟩:=r w5 a7;clear c6 e3 c9 b1 b8;refine au ?_;refine wp_cond_split rfl ?_ ?_
   ·intro hu
    have hu:=of_decide_eq_true hu;refine au ?_;refine bodyPost_ret (v:=Bl true) kr rfl ?_;exact⟨by rw[c4 (by simp[t,Sn.has,hu])],c0⟩
   ·intro hu
    have hu:=of_decide_eq_false hu;refine au ?_;refine lp 55 (fun k:Nat=>[(2,pt A 0),(3,pt B 0),(4,Bl false),(5,I J (i:Int)),(6,I J (k:Int))]) (fun m k wr=>k<=s.more.length/\m=s.more.length-k/\(∀n∈s.more.take k,n≠x.fi)/\O w2.heap.size w2 wr) s.more.length 0 ⟨aF _,rfl,fun q a=>by simp at a,a7⟩ ?_;clear c7 e4 c0;rintro m k R f2 ⟨hk,rfl,M,E⟩;obtain⟨S,HX,j⟩:=r R E;have X:=P.o R j;refine af ?_;refine wp_cond_split rfl ?_ ?_
    ·intro g
     have g:k<s.more.length:=by have:=of_decide_eq_true g;omega
     obtain⟨n,L⟩:∃y,s.more[k]? =Z y:=⟨_,ae g⟩;obtain⟨mb,mo,rfl,h4,h5⟩:=HM.o k n L;have HN:Hq (R.rangeAt mb (mo+k*1) [hE n]):=lX h5 j h4;refine au ?_;refine lW kr kr ?_;refine aq ?_;intro w6 e7;have a8:=tR E e7;refine au ?_;refine wp_cond_split rfl ?_ ?_
     ·intro d
      have d:=of_decide_eq_true d;refine au ?_;refine bodyPost_ret (v:=Bl true) kr rfl ?_;exact⟨by rw[c4 (by simp[t,Sn.has,<-d,aJ L])],(r w6 a8).2.2⟩
     ·intro d
      have d:=of_decide_eq_false d;refine au ?_;refine⟨s.more.length-(k+1),k+1,oM,gY kr,g,rfl,fun q a=> ?_,a8⟩;rw[nd L] at a;rcases bV.1 a with a|a
      ·exact M q a
      ·obtain rfl:=cm.1 a
       exact d
    ·intro g
     obtain rfl:k=s.more.length:=by have:=of_decide_eq_false g;omega
     refine au ?_;refine⟨l.length-(i+1),i+1,oM,gY kr,c,rfl,b7 ?_,E⟩;rw[aT lR] at M;rw[Bool.and_eq_false_iff];right;unfold Sn.has;simp;exact⟨fun h=>M _ h rfl,oM⟩
  ·rw[decide_eq_false t]
   refine au ?_;exact⟨l.length-(i+1),i+1,oM,gY kr,c,rfl,b7 (by simp[t]),C⟩
 ·intro c
  obtain rfl:i=l.length:=by have:=of_decide_eq_false c;omega
  refine au ?_;refine bodyPost_ret (v:=Bl false) kr rfl ?_;refine⟨?_,j⟩;rw[aT lR] at N;have:uU (l.map aj) x.key=false:=List.any_eq_false.2 fun s hs=>by
   obtain⟨q,a,rfl⟩:=aU.1 hs;have h1:=N q a;exact fun h2=>by rw[show(decide (q.1.gate=x.gate)&&q.1.has x.fi)=true from h2] at h1;cases h1
  rw[this]
