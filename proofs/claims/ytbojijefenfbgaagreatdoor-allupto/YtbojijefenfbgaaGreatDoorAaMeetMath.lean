/- Gates that tell one another what they know: what they know is of one world. Walks of the program's gate: Digest; of its talk: is it a digest? Walks of the program's talk: is it a digest? Walk of the program's talk: IsDigest. Walks: slices.BinarySearch of whole numbers; of the program's talk: Has. -/
import Derived.Test.YtbojijefenfbgaaGreatDoorAaBookA
open List renaming mem_map->aU,length_map->aS,getElem?_eq_getElem->ae,getElem?_map->ct,drop_eq_getElem_cons->bL,mem_of_getElem?->aJ,getElem_of_mem->eQ,find?_eq_none->gJ
open Prod renaming fst->aj
open Nat renaming le_trans->ag,zero_le->aF,mul_one->fA
open Array renaming getD->dS
open Go.IntWalk renaming i64_in->az
open Option renaming some->Z,none->Y
open Go.Value renaming int->I,pointer->X,agg->H,bool->Bl,tuple->Tp
open Go.IntKind renaming i64->J,u64->Uq
open Go.Obj renaming cells->Cl
open Go.Ending renaming returned->Re
open Go renaming World->D,Value->Vl
open Go.RowKit renaming Below->O
set_option maxHeartbeats 4000000
set_option maxRecDepth 100000
open Go Go.RowKit
open Go.Proofs.YtbojijefenfbgaaGreatDoor
open Ks(loop au mB mr box decl oF pN)
variable{S:Nat->Prop}{x:Int×Int}
namespace Go.Proofs.YtbojijefenfbgaaGreatDoor
open Tryz
namespace Bk
def St.keys(s:St):List (Int×Int):=s.l.map It.key
def Ef(P:Int×Int->Int×Int)(k:Int×Int):It:=⟨k.1,k.2,(P k).1,(P k).2,false⟩
structure YN(P:Int×Int->Int×Int)(ow:Int->Int)(s:St):Prop where
 inv:Inv s
 item:∀x∈s.l,x=jn s.floor (Ef P x.key)
 made:∀x∈s.l,x.fi<=ow x.gate
 own:s.own=ow s.number
structure YL(P:Int×Int->Int×Int)(ow:Int->Int)(f:Int)(n:List It):Prop where
 ok:nz n=true
 item:∀x∈n,x=jn f (Ef P x.key)
 made:∀x∈n,x.fi<=ow x.gate
section
variable (R:List UInt8->List UInt8->List UInt8->Bool)
structure Good(k o:List UInt8):Prop where
 len:o.length=67
 head:o.head? =Z 67
 right:R k (o.take 3) (o.drop 3)=true
variable {R}
theorem Inv.Fb{s:St}(h:Inv s):∀k∈s.keys,(0<=k.1/\k.1<=15)/\1<=k.2/\k.2<=1000:=by
 intro k b;obtain⟨x,a,rfl⟩:=aU.1 b;exact⟨(h.fair x a).gate,(h.fair x a).fi⟩
end
end Bk
namespace Gt
open Mp Bk Tk
theorem IF{w:D}{g:Nat}{s:St}(h:gg S w g s)(m:Inv s):Calls prog 36 #[X (Z ⟨g,0,Y⟩)] w fun e w'=>∃u,e=Re u/\(∃sv l,u=H #[I J s.floor,sv]/\l.map aj=mj s.keys/\ia (fun k=>w.heap.size<=k) w' sv l)/\O w.heap.size w w':=by
 go_enter func36,ntmps36
 refine wp_seq (kX (Ks.alloc rfl _ rfl (H #[I J 0,.slice none 0 0]) BZ #[I J 0,.slice none 0 0] rfl ?_));intro w1 b C j c B;have i:Hq (gg S w1 g s):=h.below c.o;have G:w.heap.size<=b:=Nat.le_of_eq C.o.symm;simp only[zD];refine kd (wp_seq ?_);refine wp_seq (kX (kv (X (Z ⟨g,0,Y⟩)) ?_));refine kv (Bl false) ?_;refine kd (wp_cond_false rfl ?_);refine wp_skip (km ?_);refine wp_seq (Qg.im 7 kr kr ?_);simp only[List.take_succ_cons,List.take_zero,List.drop_succ_cons,List.drop_zero];refine qv (X (Z ⟨g,0,Y⟩)) ?_;refine qv (X (Z ⟨g,0,Y⟩)) ?_;refine qv (X (Z ⟨g,3,Y⟩)) ?_;refine Qg.call kr 75 #[X (Z ⟨g,3,Y⟩)] (I J s.floor) (fun _=>kr) (fun w' F=>uJ (i.o.below F)) ?_;simp only[zD];refine qv (X (Z ⟨g,0,Y⟩)) ?_;refine qv (X (Z ⟨g,0,Y⟩)) ?_;refine qv (X (Z ⟨g,3,Y⟩)) ?_;refine wpQuiet_nil ?_;intro w2 d;have z:Hq (gg S w2 g s):=i.o.below d;have p:Hq (w2.heap[b]? =_):=(Below.block d _ (aL j.o)).trans j.o;have f:Hq (O w.heap.size w w2):=c.o.trans (Below.mono d c.o.size);clear d i j c B;refine Ks.call rfl 88 #[X (Z ⟨g,3,Y⟩)] kr (J4 z.o m) ?_;rintro v w3 ⟨M,a⟩;simp only[zD];have N:Row (fun k=>w2.heap.size<=k) w3 154 2 v (s.l.map It.key).length ((s.l.map It.key).flatMap kC):=by rw[aS];exact M
 refine Ks.call rfl 87 #[I J s.floor,v] kr (UF w3 v (s.l.map It.key) s.floor N (fun k n=>(m.Fb k n).2) (by rw[aS];exact m.kB)) ?_;rintro _ w4 ⟨⟨sv,l,rfl,K,t⟩,r⟩;have q:Hq (w4.heap[b]? =Z (Cl #[I J 0,.slice none 0 0] 71 (0,0))):=by
  have h2:=(aL p.o);have h3:=Nat.lt_of_lt_of_le h2 a.size;exact((r.block b h3).trans (a.block b h2)).trans p.o
 have E:O w.heap.size w w4:=(tR f a).trans (r.mono (ag f.o.size a.size));have L:w.heap.size<=w3.heap.size:=ag f.o.size a.size;simp only[zD];refine Ks.whole rfl _ _ _ rfl b #[I J s.floor,sv] rfl rfl q.o kr rfl (by
  have:=Row.one t.row;simp[Value.oneCell'] at this⊢;exact this) ?_
 intro w5 A x y H4;simp only[Act.put];refine kd (wp_ret ?_);exact Own.jM results36 rfl b _ #[I J s.floor,sv] _ _ rfl A.o underlying71 rfl kr ⟨_,rfl,⟨sv,l,rfl,K,(t.other q.o dc dc y.o).mono fun k n=>ag L n⟩,E.trans ((x.o (fun _=>False) w.heap.size (oR G)).below lR (fun _ _ h=>h))⟩
def yH(b:Nat)(p:Option Addr)(n cap k:Nat)(ls:Int)(f:Nat->Vl):Act:={tmps:= #[f 0,X (Z ⟨b,0,Y⟩),Bl false,I J ls,f 4,f 5,f 6,f 7,f 8,f 9,f 10,f 11,f 12,f 13,f 14,f 15,f 16,f 17,f 18,f 19,f 20,f 21,f 22,f 23,f 24,f 25,f 26,f 27,.slice p n cap,I J (n:Int),I J (k:Int),f 31,f 32,f 33,f 34,f 35,f 36,f 37,f 38,f 39,f 40,f 41,f 42,f 43,f 44],defers:=[]}
theorem W8(ls n:Int)(r:List Int)(h:2<=ls):okMore ls (n::r)=(decide (ls<=n)&&(gx 1 n 1000&&okMore (n+1) r)):=by
 show(decide (ls<=n)&&decide (n<=1000)&&okMore (n+1) r)=_;unfold gx;by_cases h1:ls<=n
 ·have:(1:Int)<=n:=by omega
  simp[h1,this]
 ·simp[h1]
theorem X1(s:Sn):px s=if s.upto=0/\s.more=[] then false else if s.upto≠0/\gx 1 s.upto 1000=false then false else okMore (s.upto+2) s.more:=by
 unfold px gx;by_cases h1:s.upto=0
 ·by_cases h2:s.more=[]
  ·simp[h1,h2]
  ·simp[h1,h2]
 ·by_cases h2:1<=s.upto/\s.upto<=1000
  ·have:0<=s.upto:=by omega
   simp[h1,h2,this]
  ·rw[if_neg (by simp[h1]),if_pos ⟨h1,by simp;omega⟩]
   have:¬(0<=s.upto/\s.upto<=1000):=oM
   simp only[this,decide_false,Bool.and_false,Bool.false_and]
theorem OY(w:D)(s:Sn)(m:Vl)(M:Row S w 3 1 m s.more.length (s.more.map hE))(hl:s.more.length<=1000000000):Rt 145 #[H #[I J s.gate,I J s.upto,m]] w (Bl (px s)):=by
  obtain⟨p,cap,rfl,mT⟩:=Row.form M;have y:Hq _:=Ke;have i:Hq _:=X1 s;generalize px s=R at i⊢;have q:∀o,Hq (O w.heap.size w (w.alloc o)):=fun o=>(Below.refl _ _).alloc lR _;go_enter func145,ntmps145
  go_wp2_with (go_at_call 217;refine(y.o _ _).mono ?_;rintro _ _ ⟨rfl,rfl⟩)
  · have h1:s.upto=0:=by assumption
    have h2:((s.more.length:Int)==0)=true:=by assumption
    have l:R=false:=by rw[i.o,if_pos ⟨h1,List.length_eq_zero_iff.1 (by simpa using h2)⟩]
    rw[l];go_ret
    exact⟨rfl,(q _).o⟩
  rotate_left
  · have h1:¬s.upto=0:=by assumption
    have h2:(s.upto !=0)=true/\(!gx 1 s.upto 1000)=true:=by assumption
    have l:R=false:=by rw[i.o,if_neg (fun h=>h1 h.1),if_pos ⟨h1,by simpa using h2.2⟩]
    rw[l];go_ret
    exact⟨rfl,(q _).o⟩
  all_goals
    rename_i K E;have N:(0<=s.upto/\s.upto<=1000)/\R=okMore (s.upto+2) s.more:=by
      first
        | (have h1 : s.upto = 0 := by assumption
           have h2:((s.more.length:Int)==0)=false:=by assumption
           refine⟨oM,?_⟩;rw[i.o,if_neg (fun h=>by rw[h.2] at h2;simp at h2),if_neg (fun h=>h.1 h1)])
        | (have h1 : ¬ s.upto = 0 := by assumption
           have h2:(s.upto !=0)=false\/(!gx 1 s.upto 1000)=false:=by assumption
           have h3:gx 1 s.upto 1000=true:=by
             rcases h2 with h2|h2
             · simp at h2;exact absurd h2 h1
             · simpa using h2
           have:=tJ h3;refine⟨oM,?_⟩;rw[i.o,if_neg (fun h=>h1 h.1),if_neg (fun h=>by rw[h3] at h;cases h.2)])
    obtain⟨hu,l⟩:=N;clear i;generalize A:w.alloc _=w1;have t:O w.heap.size w w1:=by rw[<-A];exact(q _).o
    clear A q;refine loop (fun m a wr=>wr=w1/\∃(k:Nat)(ls:Int)(f:Nat->Vl),k<=s.more.length/\m=s.more.length-k/\(2<=ls/\ls<=1002)/\R=okMore ls (s.more.drop k)/\a=yH w.heap.size p s.more.length cap k ls f) s.more.length ?_ ?_
    · first
        | (have h1 : s.upto = 0 := by assumption
           refine⟨rfl,0,s.upto+2,fun j=>dS #[H #[I J s.gate,I J 0,.slice p s.more.length cap],undef,undef,undef,undef,undef,X (Z ⟨w.heap.size,1,Y⟩),I J 0,Bl true,Bl true,X (Z ⟨w.heap.size,2,Y⟩),.slice p s.more.length cap,I J (s.more.length:Int),Bl ((s.more.length:Int)==0),Bl ((s.more.length:Int)==0),X (Z ⟨w.heap.size,1,Y⟩),I J 0,Bl false,Bl false,undef,undef,undef,undef,Bl false,X (Z ⟨w.heap.size,1,Y⟩),I J 0,I J 2,X (Z ⟨w.heap.size,2,Y⟩)] j undef,aF _,rfl,oM,l,?_⟩;rw[h1];rfl)
        | (refine ⟨rfl, 0, s.upto + 2, fun j => dS #[H #[I J s.gate, I J s.upto, .slice p s.more.length cap], undef, undef, undef, undef, undef, X (Z ⟨w.heap.size, 1, Y⟩), I J s.upto, Bl (s.upto == 0), Bl (s.upto == 0), undef, undef, undef, undef, Bl false, X (Z ⟨w.heap.size, 1, Y⟩), I J s.upto, Bl (s.upto != 0), Bl (s.upto != 0), X (Z ⟨w.heap.size, 1, Y⟩), I J s.upto, Bl (gx 1 s.upto 1000), Bl (!gx 1 s.upto 1000), Bl (s.upto != 0 && !gx 1 s.upto 1000), X (Z ⟨w.heap.size, 1, Y⟩), I J s.upto, I J (s.upto + 2), X (Z ⟨w.heap.size, 2, Y⟩)] j undef, aF _, rfl, by omega, l, ?_⟩
           have e:wrap64 (s.upto+2)=s.upto+2:=IntWalk.wrap64_in _ ⟨oM,oM⟩;rw[e];rfl)
    · rintro m a wr ⟨rfl,k,ls,f,hk,rfl,L,c,rfl⟩
      have fin:∀(r:Act)(d:Nat)(n:Int),k<d->d<=s.more.length->(2<=n/\n<=1002)->R=okMore n (s.more.drop d)->r=yH w.heap.size p s.more.length cap d n (fun j=>r.tmps.getD j undef)->∃m,m<s.more.length-k/\wr=wr/\∃(k:Nat)(ls:Int)(f:Nat->Vl),k<=s.more.length/\m=s.more.length-k/\(2<=ls/\ls<=1002)/\R=okMore ls (s.more.drop k)/\r=yH w.heap.size p s.more.length cap k ls f:=fun r d n q1 q2 q3 q4 U=>⟨s.more.length-d,oM,rfl,d,n,_,q2,rfl,q3,q4,U⟩;unfold yH;refine au ?_;refine wp_cond_split rfl ?_ ?_
      · intro b
        have b:k<s.more.length:=by have:=of_decide_eq_true b;omega
        obtain⟨g,V,rfl,z,P⟩:=mT k b;have G:=(aL z);obtain⟨x,B⟩:∃x,s.more[k]=x:=⟨_,rfl⟩;have T:s.more[k]? =Z x:=by rw[ae b,B]
        have Q:wr.cell? ⟨g,k*1,Y⟩=Z (I J x):=by
          rw[t.cell (by exact G)];exact Row.cell z P (by rw[fA,ct,T];rfl)
        have F:s.more.drop k=x::s.more.drop (k+1):=by rw[bL b,B]
        rw[F,W8 _ _ _ L.1] at c;refine wp_skip (km ?_);refine wp_seq (wp_block ?_);refine wp_seq (kX (Ks.idx kr _ _ _ rfl 3 1 underlying25 kr kr g s.more.length cap k rfl rfl b ?_));simp only[zD];refine Ks.cell rfl _ _ rfl underlying3 rfl g (k*1) (I J x) rfl Q ?_;simp only[zD];refine au ?_;by_cases C:x<ls
        · rw[decide_eq_true C]
          (with_reducible refine ab ?_;refine ab ?_;refine ab ?_);refine kv (Bl true) ?_;refine kd (wp_cond_true rfl ?_);refine wp_seq (kX (kv (Bl false) ?_));refine kd ?_;obtain rfl:R=false:=by rw[c];simp;omega
          refine wp_ret ?_;repeat (refine kt ?_)
          refine mB ?_;repeat (refine kt ?_)
          refine mB ?_;repeat (refine kt ?_)
          exact bodyPost_ret (v:=Bl false) kr rfl ⟨rfl,t⟩
        · rw[decide_eq_false C]
          refine kg (I J x) ?_;refine Ks.same kr 217 #[I J x] kr (y.o x wr) ?_;simp only[zD];refine au ?_;cases u:gx 1 x 1000 with
          |false=>
            rw[u] at c;refine wp_cond_true rfl (wp_seq ?_);refine kX (kv (Bl false) ?_);refine kd ?_;obtain rfl:R=false:=by rw[c];simp
            refine wp_ret ?_;repeat (refine kt ?_)
            refine mB ?_;repeat (refine kt ?_)
            refine mB ?_;repeat (refine kt ?_)
            exact bodyPost_ret (v:=Bl false) kr rfl ⟨rfl,t⟩
          |true=>
            have W:=tJ u;rw[u,decide_eq_true (by omega:ls<=x)] at c;refine wp_cond_false rfl (wp_skip ?_);refine km (kX (kv (I J x) ?_));refine Ks.val rfl (I J (x+1)) (by
              simp[execOp,go_sem];rw[az _ ⟨oM,oM⟩]) ?_
            simp only[zD];refine kv (I J (x+1)) ?_;refine Ks.fin (mr (kX ?_));refine Ks.val rfl (I J ((k+1:Nat):Int)) (by
              simp[execOp,go_sem];rw[az _ ⟨oM,oM⟩]) ?_
            simp only[zD];refine kv (I J ((k+1:Nat):Int)) ?_;refine kd ?_;exact fin _ (k+1) (x+1) oM b ⟨oM,oM⟩ (by rw[c];rfl) rfl
      · intro b
        obtain rfl:k=s.more.length:=by have:=of_decide_eq_false b;omega
        rw[List.drop_length] at c;refine au ?_;obtain rfl:R=true:=c;refine E _ _ ?_;refine wp_seq (kX (kv (Bl true) ?_));refine kd (wp_ret ?_);repeat (refine kt ?_)
        refine bodyPost_ret (v:=Bl true) kr rfl ?_;exact⟨rfl,t⟩
def yC(v0:Vl)(b:Nat)(p:Option Addr)(n cap k:Nat)(ls:Int)(f:Nat->Vl):Act:={tmps:= #[v0,X (Z ⟨b,0,Y⟩),Bl false,I J ls,f 4,f 5,f 6,f 7,f 8,f 9,f 10,.slice p n cap,I J (n:Int),I J (k:Int),f 14,f 15,f 16,f 17,f 18,f 19,f 20,f 21,f 22,f 23,f 24,f 25,f 26,f 27,f 28,f 29,f 30,f 31,f 32,f 33,f 34,f 35],defers:=[]}
theorem Xc(ls:Int)(s:Sn)(r:List Sn)(h:0<=ls):okSeen ls (s::r)=(!(decide (s.gate<ls))&&(gx 0 s.gate 15&&(px s&&okSeen (s.gate+1) r))):=by
 show(decide (ls<=s.gate/\s.gate<=15)&&px s&&okSeen (s.gate+1) r)=_;unfold gx;by_cases h1:ls<=s.gate
 ·have h2:(0:Int)<=s.gate:=by omega
  have h3:¬s.gate<ls:=oM
  simp[h1,h2,h3,Bool.and_assoc]
 ·have h3:s.gate<ls:=by omega
  simp[h1,h3]
theorem Kx(w:D)(F:Int)(sv:Vl)(l:List (Sn×Vl))(h:ia S w sv l)(hl:l.length<=1000000000)(hm:∀p∈l,p.1.more.length<=1000000000):Rt 73 #[H #[I J F,sv]] w (Bl (mY F (l.map aj))):=by
 obtain⟨p,cap,rfl,mT⟩:=Row.form h.row;have n:Hq (mY F (l.map aj)=(gx 0 F 65535&&okSeen 0 (l.map aj))):=by
  show mY _ _=_;unfold mY gx;congr 1;by_cases h1:0<=F<;>by_cases h2:F<=65535<;>simp[h1,h2]
 generalize mY F (l.map aj)=R at n⊢;go_enter func73,ntmps73
 refine au ?_;refine box rfl _ _ rfl #[I J F,.slice p l.length cap] rfl ?_;intro w1 b1 U T u Q;simp only[zD];refine au ?_;refine Ks.same kr 56 #[I J F] kr (Gh F w1) ?_;simp only[zD];refine au ?_;cases d:gx 0 F 65535 with
 |false=>
  obtain rfl:R=false:=by rw[n.o,d];rfl
  refine wp_cond_true rfl (wp_seq ?_);refine kX (kv (Bl false) ?_);refine kd (wp_ret ?_);repeat (refine kt ?_)
  refine bodyPost_ret (v:=Bl false) kr rfl ?_;exact⟨rfl,u.o⟩
 |true=>
  have z:Hq (R=okSeen 0 (l.map aj)):=by
   show R=_;rw[n.o,d,Bool.true_and]
  clear n d;refine wp_cond_false rfl (au ?_);refine loop (fun m a wr=>∃(k:Nat)(ls:Int)(f:Nat->Vl),k<=l.length/\m=l.length-k/\(0<=ls/\ls<=16)/\R=okSeen ls ((l.map aj).drop k)/\O w.heap.size w wr/\a=yC (H #[I J F,.slice p l.length cap]) b1 p l.length cap k ls f) l.length ⟨0,0,fun j=>dS #[undef,undef,undef,undef,undef,undef,X (Z ⟨b1,0,Y⟩),I J F,Bl true,Bl (!true),X (Z ⟨b1,1,Y⟩)] j undef,aF _,rfl,oM,z.o,u.o,rfl⟩ ?_;clear z T u Q U;rintro m a wr ⟨k,ls,f,hk,rfl,a6,b,r,rfl⟩;have fin:∀(q:Act)(w':D)(e:Nat)(i:Int),k<e->e<=l.length->(0<=i/\i<=16)->R=okSeen i ((l.map aj).drop e)->O w.heap.size w w'->q=yC (H #[I J F,.slice p l.length cap]) b1 p l.length cap e i (fun j=>q.tmps.getD j undef)->∃m,m<l.length-k/\∃(k:Nat)(ls:Int)(f:Nat->Vl),k<=l.length/\m=l.length-k/\(0<=ls/\ls<=16)/\R=okSeen ls ((l.map aj).drop k)/\O w.heap.size w w'/\q=yC (H #[I J F,.slice p l.length cap]) b1 p l.length cap k ls f:=fun q w' e i q1 q2 q3 q4 q5 q6=>⟨l.length-e,oM,e,i,_,q2,rfl,q3,q4,q5,q6⟩;unfold yC;refine au ?_;refine wp_cond_split rfl ?_ ?_
  ·intro c
   have c:k<l.length:=by have:=of_decide_eq_true c;omega
   obtain⟨g,b3,rfl,C,b0⟩:=mT k c;have W:=(aL C);obtain⟨s,mv,G⟩:∃s mv,l[k]=(s,mv):=⟨_,_,rfl⟩;have K:l[k]? =Z (s,mv):=by rw[ae c,G]
   have x:(s,mv)∈l:=aJ K;have a7:=(h.more (s,mv) x).below r lR;have b7:wr.rangeAt g (k*3) (jY s mv):=mG (Row.range (f:=fun p:Sn×Vl=>jY p.1 p.2) qE C b0 K) r W;have V:(l.map aj).drop k=s::(l.map aj).drop (k+1):=by
    rw[bL (by simpa using c)];simp[G]
   rw[V,Xc _ _ _ a6.1] at b;refine au ?_;refine decl rfl _ rfl (H #[I J 0,I J 0,.slice none 0 0]) kr rfl _ _ rfl #[I J s.gate,I J s.upto,mv] (fun _=>rfl) (fun _=>rfl) kr rfl (by
    have:=Row.one a7;simp[Value.oneCell'] at this⊢;exact this) ?_
   intro M b5 b2 y P;have t:=tR r P;have a8:=(h.more (s,mv) x).below t lR;simp only[zD];refine au ?_;by_cases L:s.gate<ls
   ·rw[decide_eq_true L] at b⊢
    (with_reducible refine ab ?_;refine ab ?_;refine ab ?_;refine ab ?_);refine kv (Bl true) ?_;refine kv (Bl true) ?_;(with_reducible refine ab ?_;refine ab ?_;refine ab ?_);refine kv (Bl true) ?_;refine kd (wp_cond_true rfl ?_);refine wp_seq (kX (kv (Bl false) ?_));refine kd ?_;obtain rfl:R=false:=by rw[b];simp
    refine wp_ret ?_;repeat (refine kt ?_)
    refine mB ?_;repeat (refine kt ?_)
    refine mB ?_;repeat (refine kt ?_)
    exact bodyPost_ret (v:=Bl false) kr rfl ⟨rfl,t⟩
   ·rw[decide_eq_false L] at b⊢
    refine au ?_;refine Ks.same kr 84 #[I J s.gate] kr (E1 s.gate M) ?_;simp only[zD];refine au ?_;cases d:gx 0 s.gate 15 with
    |false=>
     (with_reducible refine ab ?_;refine ab ?_;refine ab ?_);refine kv (Bl true) ?_;refine kd (wp_cond_true rfl ?_);refine wp_seq (kX (kv (Bl false) ?_));refine kd ?_;obtain rfl:R=false:=by rw[b,d];simp
     refine wp_ret ?_;repeat (refine kt ?_)
     refine mB ?_;repeat (refine kt ?_)
     refine mB ?_;repeat (refine kt ?_)
     exact bodyPost_ret (v:=Bl false) kr rfl ⟨rfl,t⟩
    |true=>
     have b6:=tJ d;rw[d] at b;refine Ks.Wp kr _ _ rfl b5 rfl y.o underlying213 rfl kr ?_;simp only[zD];refine Ks.pure kr 145 #[H #[I J s.gate,I J s.upto,mv]] kr (OY M s mv a8 (hm (s,mv) x)) ?_;intro wb B;have A:=tR t B;have N:=cP B y;simp only[zD];refine au ?_;cases E:px s with
     |false=>
      rw[E] at b;refine wp_cond_true rfl (wp_seq ?_);refine kX (kv (Bl false) ?_);refine kd ?_;obtain rfl:R=false:=by rw[b];simp
      refine wp_ret ?_;repeat (refine kt ?_)
      refine mB ?_;repeat (refine kt ?_)
      refine mB ?_;repeat (refine kt ?_)
      exact bodyPost_ret (v:=Bl false) kr rfl ⟨rfl,A⟩
     |true=>
      rw[E] at b;refine wp_cond_false rfl (wp_skip ?_);refine km (kX (kv (X (Z ⟨b5,0,Y⟩)) ?_));refine Ks.cell rfl _ _ rfl underlying3 rfl b5 0 (I J s.gate) rfl (fy N 0 rfl) ?_;simp only[zD];refine Ks.val rfl (I J (s.gate+1)) (by
       simp[execOp,go_sem];rw[az _ ⟨oM,oM⟩]) ?_
      simp only[zD];refine kv (I J (s.gate+1)) ?_;refine Ks.fin (mr (kX ?_));refine Ks.val rfl (I J ((k+1:Nat):Int)) (by
       simp[execOp,go_sem];rw[az _ ⟨oM,oM⟩]) ?_
      simp only[zD];refine kv (I J ((k+1:Nat):Int)) ?_;refine kd ?_;exact fin _ wb (k+1) (s.gate+1) oM c ⟨oM,oM⟩ (by rw[b];rfl) A rfl
  ·intro c
   obtain rfl:k=l.length:=by have:=of_decide_eq_false c;omega
   rw[List.drop_of_length_le sP] at b;obtain rfl:R=true:=b;refine wp_exit (oF ?_);refine km (wp_seq ?_);refine kX (kv (Bl true) ?_);refine kd (wp_ret ?_);repeat (refine kt ?_)
   refine bodyPost_ret (v:=Bl true) kr rfl ?_;exact⟨rfl,r⟩
theorem uX(x y:Int)(w:D):Calls prog 255 #[I J x,I J y] w fun e w'=>e=Re (Bl (decide (x<y)))/\w'=w:=by
 have a:Hq _:=Gn;generalize c:decide (x<y)=b;go_enter func255,ntmps255
 go_wp2_with (go_at_call 267;refine(a.o _ _).mono ?_;rintro _ _ ⟨rfl,rfl⟩)
 exact bodyPost_ret (v:=Bl b) (by simp[results,results255,go_sem,<-c]) rfl ⟨rfl,rfl⟩
theorem OX(x:Int)(w:D):Calls prog 256 #[I J x] w fun e w'=>e=Re (Bl false)/\w'=w:=by
 go_enter func256,ntmps256
 go_wp2_with fail
 exact bodyPost_ret (v:=Bl false) (by simp[results,results256,go_sem]) rfl ⟨rfl,rfl⟩
def yx(p:Option Addr)(n cap:Nat)(x:Int)(i j:Nat)(f:Nat->Vl):Act:={tmps:= #[.slice p n cap,I J x,f 2,f 3,I J 0,Bl false,I J (n:Int),I J (i:Int),I J (j:Int),f 9,f 10,f 11,f 12,f 13,f 14,f 15,f 16,f 17,f 18,f 19,f 20,f 21,f 22,f 23,f 24,f 25,f 26,f 27,f 28,f 29,f 30,f 31,f 32,f 33,f 34,f 35,f 36,f 37,f 38,f 39,f 40,f 41,f 42,f 43,f 44,f 45,f 46,f 47,f 48,f 49,f 50,f 51,f 52,f 53],defers:=[]}
theorem PW(w:D)(m:Vl)(xs:List Int)(x:Int)(M:Row S w 3 1 m xs.length (xs.map hE))(W:xs.length<=1000000000)(N:xs.Pairwise (· < ·)):Calls prog 218 #[m,I J x] w fun e w'=>∃v,e=Re v/\(∃i:Nat,v=Tp #[I J (i:Int),Bl (decide (x∈xs))])/\w'=w:=by
 obtain⟨p,cap,rfl,mT⟩:=Row.form M;have y:∀a b (A:a<xs.length) (B:b<xs.length),a<b->xs[a]<xs[b]:=fun a b A B G=>List.pairwise_iff_getElem.1 N a b A B G;have C:∀k (c:k<xs.length),∃g,p=Z ⟨g,0,Y⟩/\w.cell? ⟨g,k*1,Y⟩=Z (I J xs[k]):=fun k c=>by
  obtain⟨g,R,e,H,O⟩:=mT k c;exact⟨g,e,Row.cell H O (by rw[fA,ct,ae c];rfl)⟩
 go_enter func218,ntmps218
 refine au ?_;refine loop (fun m a wr=>wr=w/\∃(i j:Nat)(f:Nat->Vl),i<=j/\j<=xs.length/\m=j-i/\(∀k (c:k<xs.length),k<i->xs[k]<x)/\(∀k (c:k<xs.length),j<=k->x<=xs[k])/\a=yx p xs.length cap x i j f) xs.length ⟨rfl,0,xs.length,fun j=>dS #[undef,undef,undef,undef,undef,undef,undef,undef,undef,undef,.slice p xs.length cap,I J (xs.length:Int),I J (xs.length:Int)] j undef,aF _,Nat.le_refl _,rfl,fun k c h=>absurd h oM,fun k c h=>absurd h oM,rfl⟩ ?_;rintro m a wr ⟨rfl,i,j,f,V,K,rfl,t,F,rfl⟩;have fin:∀(q:Act)(n d:Nat),n<=d->d<=xs.length->d-n<j-i->(∀k (c:k<xs.length),k<n->xs[k]<x)->(∀k (c:k<xs.length),d<=k->x<=xs[k])->q=yx p xs.length cap x n d (fun j=>q.tmps.getD j undef)->∃m,m<j-i/\wr=wr/\∃(i j:Nat)(f:Nat->Vl),i<=j/\j<=xs.length/\m=j-i/\(∀k (c:k<xs.length),k<i->xs[k]<x)/\(∀k (c:k<xs.length),j<=k->x<=xs[k])/\q=yx p xs.length cap x i j f:=fun q n d q1 q2 q3 q4 P Q=>⟨d-n,q3,rfl,n,d,_,q1,q2,rfl,q4,P,Q⟩;unfold yx;refine au ?_;refine wp_cond_split rfl ?_ ?_
 ·intro s
  have s:i<j:=by have:=of_decide_eq_true s;omega
  obtain⟨h,T⟩:=eX ((i+j) / 2);have U:i<=h/\h<j:=oM
  obtain⟨g,rfl,r⟩:=C h oM;refine wp_skip (km ?_);refine wp_block (wp_seq ?_);refine kX (kv (I J (i:Int)) ?_);refine kv (I J (j:Int)) ?_;refine Ks.val rfl (I J ((i+j:Nat):Int)) (by
   simp[execOp,go_sem];rw[az _ ⟨oM,oM⟩]) ?_
  simp only[zD];refine Ks.val rfl (I Uq ((i+j:Nat):Int)) (by
   simp[execOp,go_sem];simp[IntKind.wrap,IntKind.bits,IntKind.signed];omega) ?_
  simp only[zD];refine Ks.val rfl (I Uq ((h:Nat):Int)) (by
   simp[execOp,go_sem];omega) ?_
  simp only[zD];refine Ks.val rfl (I J ((h:Nat):Int)) (by
   simp[execOp,go_sem];exact az _ ⟨oM,oM⟩) ?_
  simp only[zD];refine kv (I J (h:Int)) ?_;refine kd (wp_seq ?_);refine kX (kv (.slice (Z ⟨g,0,Y⟩) xs.length cap) ?_);refine kv (I J (h:Int)) ?_;refine Ks.idx kr _ _ _ rfl 3 1 underlying25 kr kr g xs.length cap h rfl rfl oM ?_;simp only[zD];refine Ks.cell rfl _ _ rfl underlying3 rfl g (h*1) (I J (xs[h]'oM)) rfl r ?_;simp only[zD];refine kv (I J x) ?_;refine Ks.same kr 255 #[I J (xs[h]'oM),I J x] kr (uX _ x wr) ?_;simp only[zD];refine kd ?_;refine wp_cond_split rfl ?_ ?_
  ·intro l
   have l:xs[h]'oM<x:=of_decide_eq_true l;refine kX (kv (I J (h:Int)) ?_);refine Ks.val rfl (I J ((h+1:Nat):Int)) (by
    simp[execOp,go_sem];rw[az _ ⟨oM,oM⟩]) ?_
   simp only[zD];refine au ?_;refine fin _ (h+1) j oM K oM (fun k c L=> ?_) F rfl;by_cases e:k=h
   ·subst e;exact l
   ·exact Int.lt_trans (y k h c oM oM) l
  ·intro l
   have l:¬xs[h]'oM<x:=of_decide_eq_false l;refine au ?_;refine fin _ i h oM oM oM t (fun k c L=> ?_) rfl;by_cases e:k=h
   ·subst e;omega
   ·have:=y h k oM c oM
    omega
 ·intro s
  obtain rfl:i=j:=by have:=of_decide_eq_false s;omega
  refine au ?_;by_cases o:i<xs.length
  ·obtain⟨g,rfl,r⟩:=C i o
   rw[decide_eq_true (by omega:(i:Int)<(xs.length:Int))];refine kg (.slice (Z ⟨g,0,Y⟩) xs.length cap) ?_;refine kg (I J (i:Int)) ?_;refine Ks.idx kr _ _ _ rfl 3 1 underlying25 kr kr g xs.length cap i rfl rfl o ?_;simp only[zD];refine pN kr _ _ rfl underlying3 rfl g (i*1) (I J xs[i]) rfl r ?_;simp only[zD];refine au ?_;have u:decide (x∈xs)=decide (xs[i]=x):=by
    rw[decide_eq_decide];constructor
    ·intro z
     obtain⟨k,c,e⟩:=eQ z;by_cases h1:k<i
     ·have:=t k c h1;omega
     ·by_cases h2:k=i
      ·subst h2;exact e
      ·have:=y i k o c oM
       have:=F i o lR;omega
    ·intro e
     rw[<-e];exact List.getElem_mem o
   rw[u];by_cases E:xs[i]=x
   ·rw[decide_eq_true E]
    (with_reducible refine ab ?_;refine ab ?_;refine ab ?_;refine ab ?_;refine ab ?_;refine ab ?_;refine ab ?_;refine ab ?_;refine ab ?_);refine kg (Bl true) ?_;refine kv (Bl true) ?_;refine kv (I J (i:Int)) ?_;refine kv (Bl true) ?_;refine kd (wp_ret ?_);repeat (refine kt ?_)
    refine bodyPost_ret (v:=Tp #[I J (i:Int),Bl true]) kr rfl ?_;exact⟨_,rfl,⟨i,rfl⟩,rfl⟩
   ·rw[decide_eq_false E]
    refine kg (.slice (Z ⟨g,0,Y⟩) xs.length cap) ?_;refine kg (I J (i:Int)) ?_;refine Ks.idx kr _ _ _ rfl 3 1 underlying25 kr kr g xs.length cap i rfl rfl o ?_;simp only[zD];refine pN kr _ _ rfl underlying3 rfl g (i*1) (I J xs[i]) rfl r ?_;simp only[zD];refine Ks.same kr 256 #[I J xs[i]] kr (OX _ wr) ?_;simp only[zD];refine kg (Bl false) ?_;(with_reducible refine ab ?_;refine ab ?_);refine kg (Bl false) ?_;refine kg (Bl false) ?_;refine kv (Bl false) ?_;refine kv (I J (i:Int)) ?_;refine kv (Bl false) ?_;refine kd (wp_ret ?_);repeat (refine kt ?_)
    refine bodyPost_ret (v:=Tp #[I J (i:Int),Bl false]) kr rfl ?_;exact⟨_,rfl,⟨i,rfl⟩,rfl⟩
  ·rw[decide_eq_false (by omega:¬(i:Int)<(xs.length:Int))]
   have u:decide (x∈xs)=false:=by
    rw[decide_eq_false_iff_not];intro z;obtain⟨k,c,e⟩:=eQ z;have:=t k c oM;omega
   rw[u];(with_reducible refine ab ?_;refine ab ?_;refine ab ?_;refine ab ?_;refine ab ?_;refine ab ?_;refine ab ?_;refine ab ?_;refine ab ?_;refine ab ?_;refine ab ?_;refine ab ?_;refine ab ?_;refine ab ?_;refine ab ?_;refine ab ?_;refine ab ?_);refine kv (Bl false) ?_;refine kv (I J (i:Int)) ?_;refine kv (Bl false) ?_;refine kd (wp_ret ?_);repeat (refine kt ?_)
   refine bodyPost_ret (v:=Tp #[I J (i:Int),Bl false]) kr rfl ?_;exact⟨_,rfl,⟨i,rfl⟩,rfl⟩
def zA(v0 c:Vl)(a b:Nat)(p:Option Addr)(n cap k:Nat)(f:Nat->Vl):Act:={tmps:= #[v0,c,X (Z ⟨a,0,Y⟩),X (Z ⟨b,0,Y⟩),Bl false,f 5,f 6,f 7,f 8,f 9,.slice p n cap,I J (n:Int),I J (k:Int),f 13,f 14,f 15,f 16,f 17,f 18,f 19,f 20,f 21,f 22,f 23,f 24,f 25,f 26,f 27,f 28,f 29,f 30,f 31,f 32,f 33,f 34,f 35,f 36,f 37],defers:=[]}
theorem OS{l:List (Sn×Vl)}{k:Nat}{s:Sn}{m:Vl}(a:∀q∈l.take k,q.1.gate≠x.1)(h:l[k]? =Z (s,m))(e:s.gate=x.1):has (l.map aj) x=s.has x.2:=by
 unfold has;have c:l=l.take k++(s,m)::l.drop (k+1):=by
  obtain⟨b,e⟩:=List.getElem?_eq_some_iff.1 h;conv=>lhs;rw[<-List.take_append_drop k l,bL b,e]
 rw[c,List.map_append,List.find?_append,gJ.2 (by
  intro t f;obtain⟨q,d,rfl⟩:=aU.1 f;simp[a q d])]
 simp[e]
theorem OR{l:List (Sn×Vl)}(a:∀q∈l,q.1.gate≠x.1):has (l.map aj) x=false:=by
 unfold has;rw[gJ.2 (by
  intro t c;obtain⟨q,b,rfl⟩:=aU.1 c;simp[a q b])]
theorem U9(w:D)(F:Int)(sv:Vl)(l:List (Sn×Vl))(c b:Int)(h:ia S w sv l)(hl:l.length<=1000000000)(hm:∀p∈l,p.1.more.length<=1000000000/\p.1.more.Pairwise (· < ·)):Rt 146 #[H #[I J F,sv],H #[I J c,I J b]] w (Bl (has (l.map aj) (c,b))):=by
 obtain⟨p,cap,rfl,mT⟩:=Row.form h.row;obtain⟨R,N⟩:=eX (has (l.map aj) (c,b));rw[<-N];go_enter func146,ntmps146
 refine au ?_;refine box rfl _ _ rfl #[I J F,.slice p l.length cap] rfl ?_;intro w1 z b1 W U a7;simp only[zD];refine box rfl _ _ rfl #[I J c,I J b] rfl ?_;intro w2 d b7 a6 M a8;have b0:=ca M W;have T:=tq U M;clear W U M a7 a8 b1 b7;simp only[zD];refine au ?_;refine loop (fun m a wr=>∃(k:Nat)(f:Nat->Vl),k<=l.length/\m=l.length-k/\(∀q∈l.take k,q.1.gate≠c)/\wr.heap[d]? =Z (Cl #[I J c,I J b] 154 (0,0))/\O w.heap.size w wr/\a=zA (H #[I J F,.slice p l.length cap]) (H #[I J c,I J b]) z d p l.length cap k f) l.length ⟨0,fun j=>dS #[undef,undef,undef,undef,undef,undef,undef,undef,undef,X (Z ⟨z,1,Y⟩)] j undef,aF _,rfl,sP,a6.o,T.o,rfl⟩ ?_;clear b0 a6 T;rintro m a wr ⟨k,f,hk,rfl,A,hY,B,rfl⟩;have fin:∀(y:Act)(w':D)(r:Nat),k<r->r<=l.length->(∀q∈l.take r,q.1.gate≠c)->w'.heap[d]? =Z (Cl #[I J c,I J b] 154 (0,0))->O w.heap.size w w'->y=zA (H #[I J F,.slice p l.length cap]) (H #[I J c,I J b]) z d p l.length cap r (fun j=>y.tmps.getD j undef)->∃m,m<l.length-k/\∃(k:Nat)(f:Nat->Vl),k<=l.length/\m=l.length-k/\(∀q∈l.take k,q.1.gate≠c)/\w'.heap[d]? =Z (Cl #[I J c,I J b] 154 (0,0))/\O w.heap.size w w'/\y=zA (H #[I J F,.slice p l.length cap]) (H #[I J c,I J b]) z d p l.length cap k f:=fun y w' r q1 q2 q3 q4 q5 q6=>⟨l.length-r,oM,r,_,q2,rfl,q3,q4,q5,q6⟩;unfold zA;refine au ?_;refine wp_cond_split rfl ?_ ?_
 ·intro n
  have n:k<l.length:=by have:=of_decide_eq_true n;omega
  obtain⟨g,c8,rfl,hg,c6⟩:=mT k n;have b8:=(aL hg);obtain⟨s,mv,hx⟩:∃s mv,l[k]=(s,mv):=⟨_,_,rfl⟩;have K:l[k]? =Z (s,mv):=by rw[ae n,hx]
  have G:(s,mv)∈l:=aJ K;have c0:=(h.more (s,mv) G).below B lR;have c9:wr.rangeAt g (k*3) (jY s mv):=mG (Row.range (f:=fun p:Sn×Vl=>jY p.1 p.2) qE hg c6 K) B b8;refine au ?_;refine decl rfl _ rfl (H #[I J 0,I J 0,.slice none 0 0]) kr rfl _ _ rfl #[I J s.gate,I J s.upto,mv] (fun _=>rfl) (fun _=>rfl) kr rfl (by
   have:=Row.one c0;simp[Value.oneCell'] at this⊢;exact this) ?_
  intro wa t c7 L V;have C:=tR B V;have c4:=(h.more (s,mv) G).below C lR;have E:=(V.o.block d (aL hY)).trans hY;simp only[zD];refine kd (wp_seq ?_);refine kX (kv (X (Z ⟨t,0,Y⟩)) ?_);refine Ks.cell rfl _ _ rfl underlying3 rfl t 0 (I J s.gate) rfl (fy L.o 0 rfl) ?_;simp only[zD];refine kv (X (Z ⟨d,0,Y⟩)) ?_;refine Ks.cell rfl _ _ rfl underlying3 rfl d 0 (I J c) rfl (fy E 0 rfl) ?_;simp only[zD];refine au ?_;refine wp_cond_split rfl ?_ ?_
  ·intro e
   have e:s.gate=c:=of_decide_eq_true e;have Q:=OS (x:=(c,b)) A K e;rw[<-N] at Q;refine wp_seq (kX (kv (X (Z ⟨t,2,Y⟩)) ?_));refine Ks.cell rfl _ _ rfl underlying25 rfl t 2 mv rfl (fy L.o 2 rfl) ?_;simp only[zD];refine kv (X (Z ⟨d,1,Y⟩)) ?_;refine Ks.cell rfl _ _ rfl underlying3 rfl d 1 (I J b) rfl (fy E 1 rfl) ?_;simp only[zD];refine Ks.call rfl 218 #[mv,I J b] kr (PW wa mv s.more b c4 (hm (s,mv) G).1 (hm (s,mv) G).2) ?_;rintro _ _ ⟨⟨i,rfl⟩,rfl⟩;simp only[zD];obtain⟨fo,P⟩:=eX (decide (b∈s.more));rw[<-P];refine kv (Tp #[I J (i:Int),Bl fo]) ?_;refine kv (I J (i:Int)) ?_;refine kv (Bl fo) ?_;refine kv (I J (i:Int)) ?_;refine kv (Bl fo) ?_;refine kd (wp_seq ?_);refine kX (kv (Bl fo) ?_);refine kv (Bl fo) ?_;cases fo with
   |true=>
    (with_reducible refine ab ?_;refine ab ?_;refine ab ?_;refine ab ?_;refine ab ?_);refine kv (Bl true) ?_;refine kv (Bl true) ?_;refine kd ?_;obtain rfl:R=true:=by rw[Q,Sn.has,<-P];rfl
    refine wp_ret ?_;repeat (refine kt ?_)
    refine mB ?_;repeat (refine kt ?_)
    refine mB ?_;repeat (refine kt ?_)
    exact bodyPost_ret (v:=Bl true) kr rfl ⟨rfl,C⟩
   |false=>
    refine kg (X (Z ⟨d,1,Y⟩)) ?_;refine pN kr _ _ rfl underlying3 rfl d 1 (I J b) rfl (fy E 1 rfl) ?_;simp only[zD];refine kg (X (Z ⟨t,1,Y⟩)) ?_;refine pN kr _ _ rfl underlying3 rfl t 1 (I J s.upto) rfl (fy L.o 1 rfl) ?_;simp only[zD];refine kg (Bl (decide (b<=s.upto))) ?_;refine kv (Bl (decide (b<=s.upto))) ?_;refine kv (Bl (decide (b<=s.upto))) ?_;refine kd ?_;obtain rfl:R=decide (b<=s.upto):=by rw[Q,Sn.has,<-P];rfl
    refine wp_ret ?_;repeat (refine kt ?_)
    refine mB ?_;repeat (refine kt ?_)
    refine mB ?_;repeat (refine kt ?_)
    exact bodyPost_ret (v:=Bl (decide (b<=s.upto))) kr rfl ⟨rfl,C⟩
  ·intro e
   have e:¬s.gate=c:=of_decide_eq_false e;refine wp_skip (mr (kX ?_));refine Ks.val rfl (I J ((k+1:Nat):Int)) (by
    simp[execOp,go_sem];rw[az _ ⟨oM,oM⟩]) ?_
   simp only[zD];refine kv (I J ((k+1:Nat):Int)) ?_;refine kd ?_;refine fin _ wa (k+1) oM n ?_ E C rfl;rw[nd K];intro q u;rcases List.mem_append.1 u with u|u
   ·exact A q u
   ·obtain rfl:q=(s,mv):=List.mem_singleton.1 u
    exact e
 ·intro n
  obtain rfl:k=l.length:=by have:=of_decide_eq_false n;omega
  rw[List.take_of_length_le lR] at A;obtain rfl:R=false:=by rw[N,OR (x:=(c,b)) A]
  refine wp_exit (oF ?_);refine km (wp_seq ?_);refine kX (kv (Bl false) ?_);refine kd (wp_ret ?_);repeat (refine kt ?_)
  refine bodyPost_ret (v:=Bl false) kr rfl ?_;exact⟨rfl,B⟩
