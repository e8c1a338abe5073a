/- Walks of the document's gate: high, ahead, gone. Walk of the document's gate: put. -/
import Derived.Test.YtbojijefenfbgaaGreatDoorAaGateG
import Derived.Test.YtbojijefenfbgaaGreatDoorAaDocX
open List renaming length_take->aY,take_succ_eq_append_getElem->cR,getElem?_eq_some_iff->aQ,drop_eq_getElem_cons->bL,length_append->ao,length_cons->bE,length_nil->cH
open Go.IntWalk renaming i64_in->az
open Option renaming some->Z,none->Y
open Go.Value renaming int->I,pointer->X,agg->H,bool->Bl,string->sT,tuple->Tp
open Go.IntKind renaming i64->J
open Go.Obj renaming cells->Cl
open Go.Ending renaming returned->Re
open Go renaming World->D,Value->Vl
open Go.RowKit renaming Below->O
set_option maxHeartbeats 4000000
set_option maxRecDepth 100000
open Go Go.RowKit
open Go.Proofs.YtbojijefenfbgaaGreatDoor
open Ks(au loop mr box pN ml whole single)
variable{S:Nat->Prop}{k:Nat}{w:D}
namespace Go.Proofs.YtbojijefenfbgaaGreatDoor
open Tryz
namespace Gt
open Mp Bk Tk
def yA(l:List UInt8)(k:Nat)(f:Nat->Vl):Act:={tmps:= #[sT ⟨l.toArray⟩,f 1,I J 0,I J (be (l.take k)),I J (k:Int),f 5,f 6,f 7,f 8,f 9,f 10,f 11,f 12,f 13,f 14,f 15,f 16,f 17,f 18],defers:=[]}
theorem Bo(l:List UInt8)(o:l.length<=4)(w:D):Rt 204 #[sT ⟨l.toArray⟩] w (I J (be l)):=by
 have i:∀(W:D)(k:Nat)(h:k<l.length),Sem.run prog (Instr.index 9 (sT ⟨l.toArray⟩) (I J (k:Int))) W= .ok (I .u8 ((l[k]).toNat:Int)) W:=fun W k h=>Dc.tG W ⟨l.toArray⟩ k (by exact h) k rfl;go_enter func204,ntmps204
 refine au ?_;refine loop (fun m a wr=>wr=w/\∃(k:Nat)(f:Nat->Vl),k<=l.length/\m=l.length-k/\a=yA l k f) l.length ⟨rfl,0,fun _=>undef,Nat.zero_le _,rfl,rfl⟩ ?_;rintro m a wr ⟨rfl,k,f,p,rfl,rfl⟩;have fin:∀(d:Act)(b:Nat),k<b->b<=l.length->d=yA l b (fun j=>d.tmps.getD j undef)->∃m,m<l.length-k/\wr=wr/\∃(k:Nat)(f:Nat->Vl),k<=l.length/\m=l.length-k/\d=yA l k f:=fun d b h1 h2 h3=>⟨l.length-b,oM,rfl,b,_,h2,rfl,h3⟩;unfold yA;refine wp_seq (wp_seq ?_);refine kX (kv (I J (k:Int)) ?_);refine kv (sT ⟨l.toArray⟩) ?_;refine kv (I J (l.length:Int)) ?_;refine kv (Bl (decide ((k:Int)<l.length))) ?_;refine kd ?_;refine wp_cond_split rfl ?_ ?_
 ·intro c
  have c:k<l.length:=by have:=of_decide_eq_true c;omega
  refine au ?_;have q:be (l.take k)<4294967296:=Nat.lt_of_lt_of_le (yp _) (by
   have:(l.take k).length<=4:=by rw[aY];omega
   exact Nat.pow_le_pow_right (n:=256) oM this)
  refine Ks.val rfl (I J ((256*be (l.take k):Nat):Int)) (by
   simp[execOp,go_sem];rw[az _ ⟨oM,oM⟩]) ?_
  simp only[zD];refine au ?_;refine Ks.val rfl (I .u8 ((l[k]'oM).toNat:Int)) (by
   have:=i wr k oM;simp[execOp,go_sem,this]) ?_
  simp only[zD];refine Ks.val rfl (I J ((l[k]'oM).toNat:Int)) (by
   have g:=(l[k]'oM).toNat_lt;simp[execOp,go_sem];exact az _ ⟨oM,oM⟩) ?_
  simp only[zD];refine Ks.val rfl (I J ((be (l.take (k+1)):Nat):Int)) (by
   have g:=(l[k]'oM).toNat_lt;have e:be (l.take (k+1))=256*be (l.take k)+(l[k]'oM).toNat:=by rw[cR oM,FY]
   rw[e];simp[execOp,go_sem];rw[az _ ⟨oM,oM⟩]) ?_
  simp only[zD];refine kv (I J ((be (l.take (k+1)):Nat):Int)) ?_;refine Ks.fin (mr ?_);refine kX (kv (I J (k:Int)) ?_);refine Ks.val rfl (I J ((k+1:Nat):Int)) (by
   simp[execOp,go_sem];rw[az _ ⟨oM,oM⟩]) ?_
  simp only[zD];refine kv (I J ((k+1:Nat):Int)) ?_;refine kd ?_;exact fin _ (k+1) oM c rfl
 ·intro c
  obtain rfl:k=l.length:=by have:=of_decide_eq_false c;omega
  refine wp_exit (Ks.oF ?_);refine km ?_;rw[List.take_of_length_le lR];refine wp_seq (kX (kv (I J (be l)) ?_));refine kv (I J (be l)) ?_;refine kd (wp_ret ?_);repeat (refine kt ?_)
  refine bodyPost_ret (v:=I J (be l)) kr rfl ?_;exact⟨rfl,Below.refl _ _⟩
def lO(x:It):Vl:=H (fF x).toArray
theorem FU(x y:It)(w:D):Rt 251 #[lO x,lO y] w (Bl (decide (z2e x y))):=by
 unfold lO fF;go_enter func251,ntmps251
 refine au ?_;refine box rfl _ _ rfl (fF x).toArray rfl ?_;intro w1 b1 l i g j;simp only[zD];refine box rfl _ _ rfl (fF y).toArray rfl ?_;intro w2 a m f c k;have d:=ca c i;have b:=tq g c;clear i g c j k l m;simp only[zD];refine kv (Bl false) ?_;refine kd (wp_seq ?_);refine kX (kv (X (Z ⟨b1,0,Y⟩)) ?_);refine Ks.cell rfl _ _ rfl underlying3 rfl b1 0 (I J x.gate) rfl (fy d.o 0 rfl) ?_;simp only[zD];refine kv (X (Z ⟨a,0,Y⟩)) ?_;refine Ks.cell rfl _ _ rfl underlying3 rfl a 0 (I J y.gate) rfl (fy f.o 0 rfl) ?_;simp only[zD];by_cases h1:x.gate<y.gate
 ·refine Ks.val rfl (Bl true) (by simp[execOp,go_sem,h1]) ?_
  simp only[zD];refine kv (Bl true) ?_;(with_reducible refine ab ?_;refine ab ?_;refine ab ?_;refine ab ?_;refine ab ?_;refine ab ?_;refine ab ?_;refine ab ?_;refine ab ?_;refine ab ?_;refine ab ?_;refine ab ?_);refine kv (Bl true) ?_;refine kv (Bl true) ?_;refine kd (wp_ret ?_);repeat (refine kt ?_)
  refine bodyPost_ret (v:=Bl true) kr rfl ?_;exact⟨by rw[decide_eq_true (show z2e x y from oL h1)],b.o⟩
 ·refine Ks.val rfl (Bl false) (by simp[execOp,go_sem,h1]) ?_
  simp only[zD];refine kv (Bl false) ?_;refine kg (X (Z ⟨b1,0,Y⟩)) ?_;refine pN kr _ _ rfl underlying3 rfl b1 0 (I J x.gate) rfl (fy d.o 0 rfl) ?_;simp only[zD];refine kg (X (Z ⟨a,0,Y⟩)) ?_;refine pN kr _ _ rfl underlying3 rfl a 0 (I J y.gate) rfl (fy f.o 0 rfl) ?_;simp only[zD];by_cases h2:x.gate=y.gate
  ·refine ml kr (Bl true) (by simp[execOp,go_sem,h2]) ?_
   simp only[zD];refine kg (Bl true) ?_;refine kg (X (Z ⟨b1,1,Y⟩)) ?_;refine pN kr _ _ rfl underlying3 rfl b1 1 (I J x.fi) rfl (fy d.o 1 rfl) ?_;simp only[zD];refine kg (X (Z ⟨a,1,Y⟩)) ?_;refine pN kr _ _ rfl underlying3 rfl a 1 (I J y.fi) rfl (fy f.o 1 rfl) ?_;simp only[zD];refine kg (Bl (decide (x.fi<y.fi))) ?_;refine kg (Bl (decide (x.fi<y.fi))) ?_;refine kv (Bl (decide (x.fi<y.fi))) ?_;refine kv (Bl (decide (x.fi<y.fi))) ?_;refine kd ?_;have e:decide (z2e x y)=decide (x.fi<y.fi):=by
    unfold z2e;congr 1;exact propext ⟨fun h=>oM,fun h=>oR ⟨h2,h⟩⟩
   rw[e];refine wp_ret ?_;repeat (refine kt ?_)
   refine bodyPost_ret (v:=Bl (decide (x.fi<y.fi))) kr rfl ?_;exact⟨rfl,b.o⟩
  ·refine ml kr (Bl false) (by simp[execOp,go_sem,h2]) ?_
   simp only[zD];refine kg (Bl false) ?_;(with_reducible refine ab ?_;refine ab ?_;refine ab ?_;refine ab ?_;refine ab ?_);refine kg (Bl false) ?_;refine kv (Bl false) ?_;refine kv (Bl false) ?_;refine kd (wp_ret ?_);repeat (refine kt ?_)
   refine bodyPost_ret (v:=Bl false) kr rfl ?_;exact⟨by rw[decide_eq_false (show¬z2e x y by unfold z2e;omega)],b.o⟩
theorem E7(x:It)(F:Int)(w:D):Rt 206 #[lO x,I J F] w (lO (jn F x)):=by
 unfold lO fF;go_enter func206,ntmps206
 refine au ?_;refine box rfl _ _ rfl (fF x).toArray rfl ?_;intro w1 b1 t n i r;simp only[zD];refine Ks.alloc rfl _ rfl (H #[I J 0,I J 0,I J 0,I J 0,Bl false]) kr #[I J 0,I J 0,I J 0,I J 0,Bl false] rfl ?_;intro w2 a q k j s;have p:=ca j n;have g:=tq i j;have l:w.heap.size<=a:=by rw[q.o];exact i.o.size
 clear n i j r s t q;simp only[zD];refine au ?_;by_cases f:x.gone=true
 ·have d:Hq (jn F x=x):=if_neg (by simp[f])
  rw[f];refine au ?_;refine whole rfl _ _ _ rfl a (fF x).toArray rfl rfl k.o kr rfl (by simp[fF,Value.oneCell']) ?_;intro w3 e c m H4;simp only[Act.put];refine kd (wp_ret ?_);exact Own.jM results206 rfl a _ (fF x).toArray _ _ rfl e.o underlying73 rfl kr ⟨by rw[d.o];rfl,g.o.trans ((c.o (fun _=>False) w.heap.size (oR l)).below lR (fun _ _ h=>h))⟩
 ·simp only[Bool.not_eq_true] at f
  rw[f];refine au ?_;refine wp_cond_split rfl ?_ ?_
  ·intro b
   have b:=of_decide_eq_true b;have d:Hq (jn F x=⟨x.gate,x.fi,0,0,true⟩):=if_pos ⟨f,b⟩;refine wp_seq (kX (kv (X (Z ⟨b1,0,Y⟩)) ?_));refine Ks.cell rfl _ _ rfl underlying3 rfl b1 0 (I J x.gate) rfl (fy p.o 0 rfl) ?_;simp only[zD];refine kv (X (Z ⟨b1,1,Y⟩)) ?_;refine Ks.cell rfl _ _ rfl underlying3 rfl b1 1 (I J x.fi) rfl (fy p.o 1 rfl) ?_;simp only[zD];refine kv (H (fF ⟨x.gate,x.fi,0,0,true⟩).toArray) ?_;refine whole rfl _ _ _ rfl a (fF ⟨x.gate,x.fi,0,0,true⟩).toArray rfl rfl k.o kr rfl (by simp[fF,Value.oneCell']) ?_;intro w3 e c m H4;simp only[Act.put];refine kd (wp_ret ?_);repeat (refine kt ?_)
   exact Own.jM results206 rfl a _ (fF ⟨x.gate,x.fi,0,0,true⟩).toArray _ _ rfl e.o underlying73 rfl kr ⟨by rw[d.o];rfl,g.o.trans ((c.o (fun _=>False) w.heap.size (oR l)).below lR (fun _ _ h=>h))⟩
  ·intro b
   have b:=of_decide_eq_false b;have d:Hq (jn F x=x):=if_neg (fun h=>b h.2);refine au ?_;refine whole rfl _ _ _ rfl a (fF x).toArray rfl rfl k.o kr rfl (by simp[fF,Value.oneCell']) ?_;intro w3 e c m H4;simp only[Act.put];refine kd (wp_ret ?_);exact Own.jM results206 rfl a _ (fF x).toArray _ _ rfl e.o underlying73 rfl kr ⟨by rw[d.o];rfl,g.o.trans ((c.o (fun _=>False) w.heap.size (oR l)).below lR (fun _ _ h=>h))⟩
theorem pc:(prog.info? 73).map (fun i=>(i.zero,i.size,i.bytes))=Z (Z (H #[I J 0,I J 0,I J 0,I J 0,Bl false]),5,40):=kr
theorem tC{x:It}{c:Vl}(h:c∈fF x):c.oneCell'=true:=by
 simp[fF] at h;rcases h with rfl|rfl|rfl|rfl|rfl<;>rfl
theorem qD(x:It):(fF x).length=5:=rfl
theorem lX{w':D}{b o B:Nat}{cs:List Vl}(h:w.rangeAt b o cs)(a:O B w w')(c:b<B):w'.rangeAt b o cs:=fun j v hv=>by
 rw[a.cell (by exact c)];exact h j v hv
theorem row_one{e:TypeId}{sz:Nat}{v:Vl}{n:Nat}{xs:List Vl}(h:Row S w e sz v n xs):v.oneCell'=true:=by
 rcases h.cases with⟨rfl,_⟩|⟨_,_,_,rfl,_⟩<;>rfl
def nQ(x:It)(l out:List It)(d:Bool)(k:Nat):Prop:=if d then out++l.drop k=ins x l else out=l.take k/\l.take k++ins x (l.drop k)=ins x l
theorem nQ.start(x:It)(l:List It):nQ x l [] false 0:=⟨rfl,rfl⟩
theorem nQ.ahead{x y:It}{l out:List It}(h:nQ x l out false k)(a:l[k]? =Z y)(b:z2e x y):nQ x l (out++[x]++[y]) true (k+1):=by
 obtain⟨h1,h2⟩:=h;obtain⟨c,a⟩:=aQ.1 a;show out++[x]++[y]++l.drop (k+1)=ins x l;rw[<-h2,bL c,a,ins,if_pos b,h1];simp
theorem nQ.behind{x y:It}{l out:List It}(h:nQ x l out false k)(a:l[k]? =Z y)(c:¬z2e x y):nQ x l (out++[y]) false (k+1):=by
 obtain⟨h1,h2⟩:=h;obtain⟨b,a⟩:=aQ.1 a;have e:l.take (k+1)=l.take k++[y]:=by rw[cR b,a]
 refine⟨by rw[e,h1],?_⟩;rw[<-h2,bL b,a,ins,if_neg c,e];simp
theorem nQ.more{x y:It}{l out:List It}(h:nQ x l out true k)(a:l[k]? =Z y):nQ x l (out++[y]) true (k+1):=by
 have h:=h;obtain⟨b,a⟩:=aQ.1 a;show out++[y]++l.drop (k+1)=ins x l;rw[<-h,bL b,a];simp
theorem nQ.len{x:It}{l out:List It}{d:Bool}(h:nQ x l out d k):out.length<=l.length+1:=by
 cases d with
 |false=>
  rw[h.1,aY];omega
 |true=>
  have h:=h;have:=congrArg List.length h;rw[ao,XP] at this;omega
def yM(g b:Nat)(a v:Vl)(d:Bool)(k:Nat)(f:Nat->Vl):Act:={tmps:= #[X (Z ⟨g,0,Y⟩),a,f 2,X (Z ⟨b,0,Y⟩),v,Bl d,I J (k:Int),f 7,f 8,f 9,f 10,f 11,f 12,f 13,f 14,f 15,f 16,f 17,f 18,f 19,f 20,f 21,f 22,f 23,f 24,f 25,f 26,f 27,f 28,f 29,f 30,f 31,f 32,f 33,f 34,f 35,f 36,f 37,f 38,f 39,f 40,f 41,f 42,f 43,f 44,f 45,f 46,f 47,f 48,f 49,f 50,f 51,f 52,f 53,f 54],defers:=[]}
theorem EA{g kn:Nat}{s:St}(h:jh S w g s kn)(x:It)(hn:s.l.length<=100000):Calls prog 205 #[X (Z ⟨g,0,Y⟩),lO x] w fun e w'=>e=Re (Tp #[])/\jh (fun k=>S k\/w.heap.size<=k) w' g {s with l:=ins x s.l} kn/\Fr S w.heap.size w w':=by
 obtain⟨hS,lv,hg,E⟩:=h;have Q:Hq (w.heap[g]? =Z (Cl (lF s lv kn) 225 (0,0))):=hg;have c7:Hq (Row S w 73 5 lv s.l.length (gi s.l)):=E;have R:=(aL hg);clear hg E;obtain⟨Xa,hX⟩:=eX (lO x);rw[<-hX];go_enter func205,ntmps205
 refine au ?_;refine box rfl _ _ rfl (fF x).toArray (by rw[hX];rfl) ?_;intro w1 n c9 c8 c6 e2;have e3:w.heap.size<=n:=Nat.le_of_eq c9.o.symm;clear e2 c9;simp only[zD];refine au ?_;refine loop (fun m a wr=>∃(k:Nat)(d:Bool)(v:Vl)(out:List It)(f:Nat->Vl),a=yM g n Xa v d k f/\k<=s.l.length/\m=s.l.length-k/\nQ x s.l out d k/\Row (fun j=>w.heap.size<=j/\j≠n) wr 73 5 v out.length (gi out)/\O w.heap.size w wr/\wr.heap[n]? =Z (Cl (fF x).toArray 73 (0,0))) s.l.length ⟨0,false,_,[],fun _=>undef,rfl,Nat.zero_le _,rfl,nQ.start x s.l,Row.nil _ _ _ _,c6.o,c8.o⟩ ?_;clear c8 c6 w1;rintro m a wr ⟨k,d,v,out,f,rfl,hk,rfl,hP,hR,hB,hx⟩;have fin:∀(a':Act)(w':D) U d' v' b1,a'=yM g n Xa v' d' U (fun j=>a'.tmps.getD j undef)->k<U->U<=s.l.length->nQ x s.l b1 d' U->Row (fun j=>w.heap.size<=j/\j≠n) w' 73 5 v' b1.length (gi b1)->O w.heap.size w w'->w'.heap[n]? =Z (Cl (fF x).toArray 73 (0,0))->∃m,m<s.l.length-k/\∃(k:Nat)(d:Bool)(v:Vl)(out:List It)(f:Nat->Vl),a'=yM g n Xa v d k f/\k<=s.l.length/\m=s.l.length-k/\nQ x s.l out d k/\Row (fun j=>w.heap.size<=j/\j≠n) w' 73 5 v out.length (gi out)/\O w.heap.size w w'/\w'.heap[n]? =Z (Cl (fF x).toArray 73 (0,0)):=
  fun a' w' U d' v' b1 h1 h2 h3 h4 h5 h6 h7=>⟨s.l.length-U,oM,U,d',v',b1,_,h1,h3,rfl,h4,h5,h6,h7⟩
 have b2:Hq _:=fin;clear fin;have W:Hq (nQ x s.l out d k):=hP;have e5:=hP.len;have p:Hq (Row (fun j=>w.heap.size<=j/\j≠n) wr 73 5 v out.length (gi out)):=hR;have i:Hq (O w.heap.size w wr):=hB;have A:Hq _:=hx;have K:Hq (wr.heap[g]? =Z (Cl (lF s lv kn) 225 (0,0))):=(hB.block g R).trans Q.o;have HL:Hq (Row S wr 73 5 lv s.l.length (gi s.l)):=c7.o.below hB lR;clear hP hR hB hx;unfold yM;refine au ?_;refine Ks.val rfl (I J (s.l.length:Int)) (by
  rcases HL.o.cases with⟨rfl,h0,_⟩|⟨G,cap,b0,rfl,_⟩
  ·rw[h0]
   kernel_rfl
  ·kernel_rfl) ?_
 simp only[zD];refine au ?_;refine wp_cond_split rfl ?_ ?_
 ·intro L
  have L:k<s.l.length:=by have:=of_decide_eq_true L;omega
  obtain⟨y,hy⟩:∃y,s.l[k]? =Z y:=⟨_,List.getElem?_eq_getElem L⟩;obtain⟨G,cap,b0,rfl,e4,c0,_,_,_,e1⟩:∃G cap b0,lv= .slice (Z ⟨G,0,Y⟩) s.l.length cap/\S G/\w.heap[G]? =Z (Cl b0 73 (0,0))/\s.l.length<=cap/\cap<=maxLen/\b0.size=cap*5/\b0.toList.take (s.l.length*5)=gi s.l:=by
   rcases c7.o.cases with⟨_,h0,_⟩|h
   ·omega
   ·exact h
  have a7:Hq _:=Row.range qD c0 e1 hy;have a6:=(aL c0);clear c0 e1 HL;refine au ?_;refine Qt.qj kr kr ?_;refine Qt.nn rfl _ _ rfl _ rfl _ _ _ _ A.o underlying73 rfl kr ?_;simp only[zD];refine yw (X (Z ⟨g,0,Y⟩)) ?_;refine yw (X (Z ⟨g,0,Y⟩)) ?_;refine yV (X (Z ⟨g,5,Y⟩)) ?_;refine mz rfl _ _ rfl underlying64 rfl g 5 _ rfl (aL K.o) (fy K.o 5 rfl) ?_;simp only[zD];refine yV (I J (k:Int)) ?_;refine Ks.qc rfl _ _ _ rfl 73 5 underlying64 kr kr G _ cap k rfl rfl L ?_;simp only[zD];refine Qt.um rfl _ _ rfl G (k*5) rfl (fF y) _ (Nat.lt_of_lt_of_le a6 i.o.size) (lX a7.o i.o a6) underlying73 rfl kr ?_;simp only[zD];refine Qt.ev rfl 251 #[lO x,lO y] (Bl (decide (z2e x y))) (fun _=>kr) (fun w' _=>FU x y w') ?_;simp only[zD];refine yV (Bl (decide (z2e x y))) ?_;refine Qt.gh ?_;intro w2 b3;refine km ?_;have p:Hq (Row (fun j=>w.heap.size<=j/\j≠n) w2 73 5 v out.length (gi out)):=p.o.below b3 lR;have A:=ca b3 A;have i:=tq i b3;have K:Hq (w2.heap[g]? =Z (Cl (lF s (.slice (Z ⟨G,0,Y⟩) s.l.length cap) kn) 225 (0,0))):=(i.o.block g R).trans Q.o;clear b3;refine au ?_;by_cases ha:z2e x y
  ·rw[decide_eq_true ha]
   refine kg (Bl d) ?_;cases d with
   |false=>
    refine au ?_;refine single rfl 64 73 _ rfl (lO x) (H #[I J 0,I J 0,I J 0,I J 0,Bl false]) rfl (fF x).toArray 5 40 underlying64 pc dc dc kr ?_;intro b6 a8 M F q;have t:Hq (Row (fun j=>w.heap.size<=j/\j≠n) b6 73 5 v (out).length (gi (out))):=p.o.below q.o lR;have r:Hq _:=i.o.trans (q.o.mono i.o.size);have u:=ca q A;clear p i A M;simp only[zD];refine re rfl _ _ _ rfl 73 (H #[I J 0,I J 0,I J 0,I J 0,Bl false]) 5 40 underlying64 pc rfl dc dc _ _ (out).length (gi (out)) rfl t.o 1 a8 1 (fF x) rfl (fun j c B=>(cell_of_row b6 a8 j _ _ _ F.o).trans (by simpa using B)) rfl (fun c B=>tC B) (by(try simp only[ao,bE,cH]);omega) ?_;intro T w3 E C;have p:Hq (Row (fun j=>w.heap.size<=j/\j≠n) w3 73 5 T (out++[x]).length (gi (out++[x]))):=by
     show Row _ _ _ _ _ _ _;rw[sQ,ao];exact E.mono fun j z=>z.elim id fun e=>by rw[e];exact⟨r.o.size,by have:=(aL u.o);omega⟩
    have i:Hq _:=r.o.grown C r.o.size fun j z=>(t.o.2 j z).1;have A:Hq (w3.heap[n]? =_):=(C.block n (aL u.o) (fun e=>(t.o.2 n e.symm).2 rfl)).trans u.o;have K:Hq _:=(i.o.block g R).trans Q.o;clear E C t r u F q;simp only[zD];refine kv (T) ?_;refine kd (kX (kv (Bl true) ?_));refine kd (kX (kv (T) ?_));refine kv (X (Z ⟨g,0,Y⟩)) ?_;refine kv (X (Z ⟨g,0,Y⟩)) ?_;refine kv (X (Z ⟨g,5,Y⟩)) ?_;refine Ks.cell rfl _ _ rfl underlying64 rfl g 5 _ rfl (fy K.o 5 rfl) ?_;simp only[zD];refine kv (I J (k:Int)) ?_;refine Ks.idx kr _ _ _ rfl 73 5 underlying64 kr kr G _ cap k rfl rfl L ?_;simp only[zD];refine Ks.pj rfl _ _ rfl G (k*5) rfl (fF y) (lX a7.o i.o a6) underlying73 rfl kr ?_;simp only[zD];refine single rfl 64 73 _ rfl (lO y) (H #[I J 0,I J 0,I J 0,I J 0,Bl false]) rfl (fF y).toArray 5 40 underlying64 pc dc dc kr ?_;intro V N M F q;have t:Hq _:=p.o.below q.o lR;have r:Hq _:=i.o.trans (q.o.mono i.o.size);have u:=ca q A;clear p i A M;simp only[zD];refine re rfl _ _ _ rfl 73 (H #[I J 0,I J 0,I J 0,I J 0,Bl false]) 5 40 underlying64 pc rfl dc dc _ _ (out++[x]).length (gi (out++[x])) rfl t.o 1 N 1 (fF y) rfl (fun j c B=>(cell_of_row V N j _ _ _ F.o).trans (by simpa using B)) rfl (fun c B=>tC B) (by(try simp only[ao,bE,cH]);omega) ?_;intro P w4 E C;have p:Hq (Row (fun j=>w.heap.size<=j/\j≠n) w4 73 5 P (out++[x]++[y]).length (gi (out++[x]++[y]))):=by
     show Row _ _ _ _ _ _ _;rw[sQ,ao];exact E.mono fun j z=>z.elim id fun e=>by rw[e];exact⟨r.o.size,by have:=(aL u.o);omega⟩
    have i:Hq _:=r.o.grown C r.o.size fun j z=>(t.o.2 j z).1;have A:Hq (w4.heap[n]? =_):=(C.block n (aL u.o) (fun e=>(t.o.2 n e.symm).2 rfl)).trans u.o;have K:Hq _:=(i.o.block g R).trans Q.o;clear E C t r u F q;simp only[zD];refine kv (P) ?_;refine Ks.fin (mr ?_);refine kX (kv (I J (k:Int)) ?_);refine Ks.val rfl (I J ((k+1:Nat):Int)) (by
     simp[execOp,go_sem];rw[az _ ⟨oM,oM⟩]) ?_
    simp only[zD];refine kv (I J ((k+1:Nat):Int)) ?_;refine kd ?_;exact b2.o _ _ (k+1) _ _ _ rfl oM L (W.o.ahead hy ha) p.o i.o A.o
   |true=>
    refine kg (Bl false) ?_;refine kv (Bl false) ?_;refine kd (wp_cond_false rfl ?_);refine wp_skip (km ?_);refine kX (kv (v) ?_);refine kv (X (Z ⟨g,0,Y⟩)) ?_;refine kv (X (Z ⟨g,0,Y⟩)) ?_;refine kv (X (Z ⟨g,5,Y⟩)) ?_;refine Ks.cell rfl _ _ rfl underlying64 rfl g 5 _ rfl (fy K.o 5 rfl) ?_;simp only[zD];refine kv (I J (k:Int)) ?_;refine Ks.idx kr _ _ _ rfl 73 5 underlying64 kr kr G _ cap k rfl rfl L ?_;simp only[zD];refine Ks.pj rfl _ _ rfl G (k*5) rfl (fF y) (lX a7.o i.o a6) underlying73 rfl kr ?_;simp only[zD];refine single rfl 64 73 _ rfl (lO y) (H #[I J 0,I J 0,I J 0,I J 0,Bl false]) rfl (fF y).toArray 5 40 underlying64 pc dc dc kr ?_;intro V N M F q;have t:Hq _:=p.o.below q.o lR;have r:Hq _:=i.o.trans (q.o.mono i.o.size);have u:=ca q A;clear p i A M;simp only[zD];refine re rfl _ _ _ rfl 73 (H #[I J 0,I J 0,I J 0,I J 0,Bl false]) 5 40 underlying64 pc rfl dc dc _ _ (out).length (gi (out)) rfl t.o 1 N 1 (fF y) rfl (fun j c B=>(cell_of_row V N j _ _ _ F.o).trans (by simpa using B)) rfl (fun c B=>tC B) (by(try simp only[ao,bE,cH]);omega) ?_;intro P w4 E C;have p:Hq (Row (fun j=>w.heap.size<=j/\j≠n) w4 73 5 P (out++[y]).length (gi (out++[y]))):=by
     show Row _ _ _ _ _ _ _;rw[sQ,ao];exact E.mono fun j z=>z.elim id fun e=>by rw[e];exact⟨r.o.size,by have:=(aL u.o);omega⟩
    have i:Hq _:=r.o.grown C r.o.size fun j z=>(t.o.2 j z).1;have A:Hq (w4.heap[n]? =_):=(C.block n (aL u.o) (fun e=>(t.o.2 n e.symm).2 rfl)).trans u.o;have K:Hq _:=(i.o.block g R).trans Q.o;clear E C t r u F q;simp only[zD];refine kv (P) ?_;refine Ks.fin (mr ?_);refine kX (kv (I J (k:Int)) ?_);refine Ks.val rfl (I J ((k+1:Nat):Int)) (by
     simp[execOp,go_sem];rw[az _ ⟨oM,oM⟩]) ?_
    simp only[zD];refine kv (I J ((k+1:Nat):Int)) ?_;refine kd ?_;exact b2.o _ _ (k+1) _ _ _ rfl oM L (W.o.more hy) p.o i.o A.o
  ·rw[decide_eq_false ha]
   (with_reducible refine ab ?_;refine ab ?_);refine kv (Bl false) ?_;refine kd (wp_cond_false rfl ?_);refine wp_skip (km ?_);cases d with
   |false=>
    refine kX (kv (v) ?_);refine kv (X (Z ⟨g,0,Y⟩)) ?_;refine kv (X (Z ⟨g,0,Y⟩)) ?_;refine kv (X (Z ⟨g,5,Y⟩)) ?_;refine Ks.cell rfl _ _ rfl underlying64 rfl g 5 _ rfl (fy K.o 5 rfl) ?_;simp only[zD];refine kv (I J (k:Int)) ?_;refine Ks.idx kr _ _ _ rfl 73 5 underlying64 kr kr G _ cap k rfl rfl L ?_;simp only[zD];refine Ks.pj rfl _ _ rfl G (k*5) rfl (fF y) (lX a7.o i.o a6) underlying73 rfl kr ?_;simp only[zD];refine single rfl 64 73 _ rfl (lO y) (H #[I J 0,I J 0,I J 0,I J 0,Bl false]) rfl (fF y).toArray 5 40 underlying64 pc dc dc kr ?_;intro V N M F q;have t:Hq _:=p.o.below q.o lR;have r:Hq _:=i.o.trans (q.o.mono i.o.size);have u:=ca q A;clear p i A M;simp only[zD];refine re rfl _ _ _ rfl 73 (H #[I J 0,I J 0,I J 0,I J 0,Bl false]) 5 40 underlying64 pc rfl dc dc _ _ (out).length (gi (out)) rfl t.o 1 N 1 (fF y) rfl (fun j c B=>(cell_of_row V N j _ _ _ F.o).trans (by simpa using B)) rfl (fun c B=>tC B) (by(try simp only[ao,bE,cH]);omega) ?_;intro P w4 E C;have p:Hq (Row (fun j=>w.heap.size<=j/\j≠n) w4 73 5 P (out++[y]).length (gi (out++[y]))):=by
     show Row _ _ _ _ _ _ _;rw[sQ,ao];exact E.mono fun j z=>z.elim id fun e=>by rw[e];exact⟨r.o.size,by have:=(aL u.o);omega⟩
    have i:Hq _:=r.o.grown C r.o.size fun j z=>(t.o.2 j z).1;have A:Hq (w4.heap[n]? =_):=(C.block n (aL u.o) (fun e=>(t.o.2 n e.symm).2 rfl)).trans u.o;have K:Hq _:=(i.o.block g R).trans Q.o;clear E C t r u F q;simp only[zD];refine kv (P) ?_;refine Ks.fin (mr ?_);refine kX (kv (I J (k:Int)) ?_);refine Ks.val rfl (I J ((k+1:Nat):Int)) (by
     simp[execOp,go_sem];rw[az _ ⟨oM,oM⟩]) ?_
    simp only[zD];refine kv (I J ((k+1:Nat):Int)) ?_;refine kd ?_;exact b2.o _ _ (k+1) _ _ _ rfl oM L (W.o.behind hy ha) p.o i.o A.o
   |true=>
    refine kX (kv (v) ?_);refine kv (X (Z ⟨g,0,Y⟩)) ?_;refine kv (X (Z ⟨g,0,Y⟩)) ?_;refine kv (X (Z ⟨g,5,Y⟩)) ?_;refine Ks.cell rfl _ _ rfl underlying64 rfl g 5 _ rfl (fy K.o 5 rfl) ?_;simp only[zD];refine kv (I J (k:Int)) ?_;refine Ks.idx kr _ _ _ rfl 73 5 underlying64 kr kr G _ cap k rfl rfl L ?_;simp only[zD];refine Ks.pj rfl _ _ rfl G (k*5) rfl (fF y) (lX a7.o i.o a6) underlying73 rfl kr ?_;simp only[zD];refine single rfl 64 73 _ rfl (lO y) (H #[I J 0,I J 0,I J 0,I J 0,Bl false]) rfl (fF y).toArray 5 40 underlying64 pc dc dc kr ?_;intro V N M F q;have t:Hq _:=p.o.below q.o lR;have r:Hq _:=i.o.trans (q.o.mono i.o.size);have u:=ca q A;clear p i A M;simp only[zD];refine re rfl _ _ _ rfl 73 (H #[I J 0,I J 0,I J 0,I J 0,Bl false]) 5 40 underlying64 pc rfl dc dc _ _ (out).length (gi (out)) rfl t.o 1 N 1 (fF y) rfl (fun j c B=>(cell_of_row V N j _ _ _ F.o).trans (by simpa using B)) rfl (fun c B=>tC B) (by(try simp only[ao,bE,cH]);omega) ?_;intro P w4 E C;have p:Hq (Row (fun j=>w.heap.size<=j/\j≠n) w4 73 5 P (out++[y]).length (gi (out++[y]))):=by
     show Row _ _ _ _ _ _ _;rw[sQ,ao];exact E.mono fun j z=>z.elim id fun e=>by rw[e];exact⟨r.o.size,by have:=(aL u.o);omega⟩
    have i:Hq _:=r.o.grown C r.o.size fun j z=>(t.o.2 j z).1;have A:Hq (w4.heap[n]? =_):=(C.block n (aL u.o) (fun e=>(t.o.2 n e.symm).2 rfl)).trans u.o;have K:Hq _:=(i.o.block g R).trans Q.o;clear E C t r u F q;simp only[zD];refine kv (P) ?_;refine Ks.fin (mr ?_);refine kX (kv (I J (k:Int)) ?_);refine Ks.val rfl (I J ((k+1:Nat):Int)) (by
     simp[execOp,go_sem];rw[az _ ⟨oM,oM⟩]) ?_
    simp only[zD];refine kv (I J ((k+1:Nat):Int)) ?_;refine kd ?_;exact b2.o _ _ (k+1) _ _ _ rfl oM L (W.o.more hy) p.o i.o A.o
 ·intro L
  obtain rfl:k=s.l.length:=by have:=of_decide_eq_false L;omega
  refine au ?_;cases d with
  |false=>
   have b8:out++[x]=ins x s.l:=by
    obtain⟨h1,h2⟩:=W.o;rw[<-h2,h1];simp[ins]
   refine au ?_;refine single rfl 64 73 _ rfl (lO x) (H #[I J 0,I J 0,I J 0,I J 0,Bl false]) rfl (fF x).toArray 5 40 underlying64 pc dc dc kr ?_;intro b6 a8 M F q;have t:Hq _:=p.o.below q.o lR;have r:Hq _:=i.o.trans (q.o.mono i.o.size);have u:=ca q A;clear p i A M;simp only[zD];refine re rfl _ _ _ rfl 73 (H #[I J 0,I J 0,I J 0,I J 0,Bl false]) 5 40 underlying64 pc rfl dc dc _ _ (out).length (gi (out)) rfl t.o 1 a8 1 (fF x) rfl (fun j c B=>(cell_of_row b6 a8 j _ _ _ F.o).trans (by simpa using B)) rfl (fun c B=>tC B) (by(try simp only[ao,bE,cH]);omega) ?_;intro T w3 E C;have p:Hq (Row (fun j=>w.heap.size<=j/\j≠n) w3 73 5 T (out++[x]).length (gi (out++[x]))):=by
    show Row _ _ _ _ _ _ _;rw[sQ,ao];exact E.mono fun j z=>z.elim id fun e=>by rw[e];exact⟨r.o.size,by have:=(aL u.o);omega⟩
   have i:Hq _:=r.o.grown C r.o.size fun j z=>(t.o.2 j z).1;have A:Hq (w3.heap[n]? =_):=(C.block n (aL u.o) (fun e=>(t.o.2 n e.symm).2 rfl)).trans u.o;have K:Hq _:=(i.o.block g R).trans Q.o;clear E C t r u F q;simp only[zD];refine au ?_;refine Ks.store rfl _ _ _ rfl g 5 _ rfl rfl K.o (by show 5<7;omega) kr (row_one p.o) (lF {s with l:=ins x s.l} T kn) rfl ?_;intro w9 b7 H2 H3 H4;simp only[Act.put];refine Ks.fin ?_;go_end0
   have c4:T.ownBlock≠Z g:=fun e=>by
    have:=(p.o.2 g e).1;omega
   refine⟨rfl,⟨oL hS,T,b7.o,?_⟩,(Fr.kq i.o lR).trans (H2.o _ _ (oL hS))⟩;show Row _ _ _ _ _ (ins x s.l).length (gi (ins x s.l));rw[<-b8];exact(p.o.congr fun b hb=>H3.o b (fun e=>c4 (by rw[hb,e]))).mono fun j z=>oR z.1
  |true=>
   have b8:out=ins x s.l:=by
    have h:=W.o;rw[<-h];simp
   refine au ?_;refine Ks.store rfl _ _ _ rfl g 5 _ rfl rfl K.o (by show 5<7;omega) kr (row_one p.o) (lF {s with l:=ins x s.l} v kn) rfl ?_;intro w9 b7 H2 H3 H4;simp only[Act.put];refine Ks.fin ?_;go_end0
   have c4:v.ownBlock≠Z g:=fun e=>by
    have:=(p.o.2 g e).1;omega
   refine⟨rfl,⟨oL hS,v,b7.o,?_⟩,(Fr.kq i.o lR).trans (H2.o _ _ (oL hS))⟩;show Row _ _ _ _ _ (ins x s.l).length (gi (ins x s.l));rw[<-b8];exact(p.o.congr fun b hb=>H3.o b (fun e=>c4 (by rw[hb,e]))).mono fun j z=>oR z.1
