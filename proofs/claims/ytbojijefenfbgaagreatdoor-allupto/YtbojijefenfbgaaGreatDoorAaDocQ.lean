/- Walk of the document's long. Walk of the document's summed. Walk of the document's Bytes. -/
import Derived.Test.YtbojijefenfbgaaGreatDoorAaDocN
open Go.IntWalk renaming i64_in->az
open Int renaming add_mul_ediv_right->fO,mul_assoc->dy,mul_comm->eD
open Option renaming some->Z,none->Y
open Go.Value renaming int->I,pointer->X,agg->H,string->sT
open Go.IntKind renaming i64->J
open Go.Obj renaming cells->Cl
open Go.Ending renaming returned->Re
open Go renaming World->D,Value->Vl
open Go.RowKit renaming Below->O
set_option maxHeartbeats 4000000
set_option maxRecDepth 100000
open Go Go.RowKit
variable{B:Nat}{a:Act}{o:Oper}{w:D}
namespace Go.Proofs.YtbojijefenfbgaaGreatDoor
open Tryz
namespace Dc
open Bt Ed Cw
theorem JC:(prog.info? 3).map (fun i=>(i.zero,i.size,i.bytes))=Z (Z (I J 0),1,8):=kr
theorem Tg(x:Operand)(c:o.op= .buildSlice 25 1 #[(0,x)])(v:Int)(d:a.eval x=I J v)(b:B<=w.heap.size):Qt.oE prog w (Ap.qs B 3 [I J v]) ((execOp a.eval o).run prog w):=
 Gw.xA 25 3 1 _ c #[I J v] (I J 0) 1 8 underlying25 JC dc dc [(0,I J v)] (by simp[d]) kr ⟨w.heap.size,rfl,b,heap_alloc_new _ _⟩
theorem EM{W:D}{K:Act->Prop}{l:List Oper}(b:o.guard=Y)(x ix:Operand)(c:o.op= .index 9 x ix)(s:ByteArray)(i:Int)(v:Vl)(d:a.eval x= .string s)(hi:a.eval ix=I J i)(hv:∀w,Sem.run prog (Instr.index 9 (.string s) (I J i)) w= .ok v w)
  (h:Qt.Lex prog W K l (a.put o.dst v)):Qt.Lex prog W K (o::l) a:=by
 refine Qt.kb b v (fun w' _=> ?_) h;unfold execOp;simp only[c,d,hi,hv,Sem.run_bind,Sem.run_pure,Result.andThen_ok]
def sw(N k:Nat):List Vl:=(List.range k).map fun j=>I J (dg (N:Int) j)
theorem Qi(N k:Nat):sw N (k+1)=sw N k++[I J (dg (N:Int) k)]:=by simp[sw,List.range_succ]
theorem Nx(s:ByteArray)(n:Nat)(l:s.size=2*n)(F:n<=100)(G:0<n)(w:D):Calls prog 45 #[.string s] w fun e w'=>∃v,e=Re v/\w'.ownsRow w.heap.size 3 1 v n (sw (le s.data.toList) n)/\O w.heap.size w w':=by
 have H:(s.size:Int)=2*(n:Int):=oM
 have Hs:Hq (s.size=2*n):=l;clear l;go_enter func45,ntmps45
 go_wp2_with fail
 go_loopw [3,4] (fun v i p=>∃k:Nat,k<=n/\i=I J (2*(k:Int))/\p.ownsRow w.heap.size 3 1 v k (sw (le s.data.toList) k)/\O w.heap.size w p) (fun _ i _=>2*n-(intOf i).toNat)
 case atStart=>exact⟨0,oM,rfl,World.ownsRow_nil _ _ _ _,Below.refl _ _⟩
 case round=>
  rename D=>K
  obtain⟨k,B,rfl,j,h⟩:=hrel;have c:Hq _:=j;have a:Hq _:=h;clear j h;by_cases E:k<n
  ·have C:2*k+1<s.size:=by have:=Hs.o;omega
   have d:=Gu s.data.toList k (by have:s.data.size=s.size:=rfl;simp;omega);have b:=(s[2*k]).toNat_lt;have f:=(s[2*k+1]).toNat_lt;have t:Hq (∀W,Sem.run prog (Instr.index 9 (.string s) (I J (2*(k:Int)))) W= .ok (I .u8 ((s[2*k]).toNat:Int)) W):=fun W=>tG W s (2*k) oM _ oM;have z:Hq (∀W,Sem.run prog (Instr.index 9 (.string s) (I J (2*(k:Int)+1))) W= .ok (I .u8 ((s[2*k+1]).toNat:Int)) W):=fun W=>tG W s (2*k+1) oM _ oM;have d:Hq (((s[2*k]).toNat:Int)+256*((s[2*k+1]).toNat:Int)=dg (le s.data.toList:Int) k):=d;generalize (s[2*k]).toNat=x at*;generalize (s[2*k+1]).toNat=y at*;go_wp2_with fail
   refine Qt.tT 12 (Ap.qs w.heap.size 3 [I J ((x:Int)+256*(y:Int))]) kr kr Ap.qs.FQ _ rfl ?_;refine yw (u3) ?_;refine yw (.string s) ?_;refine yV (I J (2*(k:Int))) ?_;refine EM rfl _ _ rfl s (2*(k:Int)) (I .u8 (x:Int)) rfl rfl t.o ?_;simp only[zD];refine Qt.kb rfl (I J (x:Int)) (fun w' _=>by go_simp;exact az _ ⟨oM,oM⟩) ?_;refine yw (.string s) ?_;refine yV (I J (2*(k:Int))) ?_;refine Qt.kb rfl (I J (2*(k:Int)+1)) (fun w' _=>by go_simp;exact az _ ⟨oM,oM⟩) ?_;simp only[zD];refine EM rfl _ _ rfl s (2*(k:Int)+1) (I .u8 (y:Int)) rfl rfl z.o ?_;simp only[zD];refine Qt.kb rfl (I J (y:Int)) (fun w' _=>by go_simp;exact az _ ⟨oM,oM⟩) ?_;simp only[zD];refine Qt.kb rfl (I J (256*(y:Int))) (fun w' _=>by go_simp;exact az _ ⟨oM,oM⟩) ?_;simp only[zD];refine Qt.kb rfl (I J ((x:Int)+256*(y:Int))) (fun w' _=>by go_simp;exact az _ ⟨oM,oM⟩) ?_;simp only[zD];refine Qt.gh ⟨fun w' A=>Tg _ rfl _ rfl (Nat.le_trans a.o.size A.size),?_⟩;intro u w1 b m;simp only[List.setIfInBounds_toArray,List.set_cons_zero,List.set_cons_succ];simp only[List.drop_succ_cons,List.drop_zero];refine Ap.QA rfl _ _ 25 rfl 3 (I J 0) 1 8 underlying25 JC rfl dc dc w.heap.size u3 k _ rfl (Ap.I0 c.o b) u _ rfl m rfl (by simp;rfl) oM (Nat.le_trans a.o.size b.size) ?_;intro v' w2 g f _;rw[d.o,<-Qi] at g;have r:Hq _:=g;have q:Hq (O w.heap.size w w2):=(tR a b).trans f;clear g f b m c a;go_wp2_with fail
   refine⟨⟨k+1,oM,by congr 1,r.o,q.o⟩,?_⟩;show 2*n-(2*(k:Int)+2).toNat<2*n-(2*(k:Int)).toNat;omega
  ·obtain rfl:k=n:=by omega
   go_wp2_with fail
   exact bodyPost_ret (v:=u3) (by simp[results,results45,go_sem]) rfl ⟨u3,rfl,c.o,a.o⟩
theorem S0{w':D}{v:Vl}{N n:Nat}(p:0<n)(h:w.ownsRow B 3 1 v n (sw N n))(b:N<2^(16*n))(d:n<=100)(e:O w.heap.size w w'):
  Rt 44 #[v] w' (H (nm ((N % Sw.LL:Nat):Int))):=by
 obtain⟨h1,h2⟩:=Ap.I0 h e;rcases h2 with⟨_,k⟩|⟨g,cap,i,rfl,l,a,m,o,q,f⟩
 ·omega
 ·refine NY g cap n N b d w' (fun j c=> ?_) (aL a)
  rw[cell_of_row w' g j _ _ _ a];have:(sw N n)[j]? =Z (I J (dg (N:Int) j)):=by simp[sw,c]
  rw[<-f,List.getElem?_take_of_lt oM] at this;simpa using this
theorem QO(N b:Int)(d:0<=N)(f:N<57896044618658097711785492504343953926634992332820282019728792003956564819968)(g:b=0\/b=1)(j:Nat)(h:j<16):(if j=15 then dg N 15+32768*b else dg N j)=dg (N+57896044618658097711785492504343953926634992332820282019728792003956564819968*b) j:=by
 have e:(57896044618658097711785492504343953926634992332820282019728792003956564819968:Int)=32768*65536^15:=dc
 by_cases a:j=15
 ·subst a
  rw[if_pos rfl];unfold dg;rw[e,show N+32768*65536^15*b=N+(32768*b)*65536^15 by rw[Int.mul_right_comm],fO _ _ dc];have h1:0<=N / 65536^15/\N / 65536^15<32768:=⟨Int.ediv_nonneg d dc,Int.ediv_lt_of_lt_mul dc (by rw[<-e];exact f)⟩;generalize N / 65536^15=x at*;omega
 ·rw[if_neg a]
  unfold dg;have c:(65536:Int)^15=65536^(14-j)*(65536*65536^j):=by
   rw[<-dy,eD _ 65536,dy,<-Int.pow_add,<-Int.pow_succ'];congr 1;omega
  rw[e,c,show N+32768*(65536^(14-j)*(65536*65536^j))*b=N+(65536*(32768*65536^(14-j)*b))*65536^j by
   generalize (65536:Int)^(14-j)=u;generalize (65536:Int)^j=v;simp only[dy,eD,Int.mul_left_comm]
  ,fO _ _ (Int.ne_of_gt (rN dc j))]
  generalize N / 65536^j=x;generalize (32768*65536^(14-j)*b)=y;omega
theorem B6{ops:Array Oper}{rest:List Oper}{Q:Exit->Act->D->Prop}(c:o.guard=Y)(x:Operand)(d:o.op= .load 95 x)(b off:Nat)(v:F)(f:a.eval x=X (Z ⟨b,off,Y⟩))(e:w.rangeAt b off (rn v).toList)
  (h:wpList prog ops Q rest (a.put o.dst (H (rn v))) w):wpList prog ops Q (o::rest) a w:=
 wpList_load_mid c 95 x d b off f (rn v).toList _ e underlying95 rfl (by rw[Array.length_toList,jD];kernel_rfl) h
theorem Bs(x:F):dg (x.val:Int) 0 % 2=if iq x then 1 else 0:=by
 rw[sy,Nat.pow_zero,Nat.div_one];unfold iq;rcases Nat.mod_two_eq_zero_or_one x.val with h|h
 ·rw[h,if_neg dc]
  omega
 ·rw[h,if_pos dc]
  omega
theorem QS(x y:F):(y.val:Int)+57896044618658097711785492504343953926634992332820282019728792003956564819968*(if iq x then 1 else 0)=((enc x y:Nat):Int):=by
 unfold enc;split<;>omega
theorem QG(p:T3)(w:D):Rt 51 #[H (tp p)] w (sT ⟨(leB (enc (p.x*inv p.z) (p.y*inv p.z)) 32).toArray⟩):=by
 obtain⟨s,i⟩:=eX ((leB (enc (p.x*inv p.z) (p.y*inv p.z)) 32).toArray);obtain⟨u,hu⟩:=eX (inv p.z);have b6:Hq (∀w,Rt 96 #[H (rn p.z)] w (H (rn u))):=by rw[hu];exact GY _
 rw[<-i];rw[<-hu] at i;obtain⟨x,Q⟩:=eX (p.x*u);obtain⟨y,R⟩:=eX (p.y*u);have Hx:Hq (∀w,Rt 93 #[H (rn p.x),H (rn u)] w (H (rn x))):=by rw[Q];exact nh _ _
 have Hy:Hq (∀w,Rt 93 #[H (rn p.y),H (rn u)] w (H (rn y))):=by rw[R];exact nh _ _
 rw[<-Q,<-R] at i;have b2:Hq (∀w,Rt 104 #[H (nm ((enc x y:Nat):Int))] w (sT ⟨s⟩)):=by rw[i];exact Ve _
 clear i Q R hu;go_enter func51,ntmps51
 generalize d:w.alloc (Cl (tp p) 100)=w0;have c:=nZ d;have l:Hq (ej w0 w.heap.size p):=c.1;have S:Hq _:=c.2;have f:Hq _:=d;clear d c;go_wp2_with (first|(rw[f.o];refine B6 rfl _ rfl w.heap.size 32 p.z rfl l.o.z ?_)|fail)
 refine(b6.o _).mono ?_;rintro e w1 ⟨rfl,N⟩;have F:Hq (ej w1 w.heap.size p):=l.o.below N l.o.lt;have T:=tq S N;clear N l S f b6;obtain⟨g,t⟩:=eX w1.heap.size;have e6:w.heap.size<g:=by
  rw[t];exact F.o.lt
 generalize d:w1.alloc (Cl (rn u) 95)=w2;have c:=nZ d;rw[<-t] at c;have m:Hq (ej w2 w.heap.size p):=F.o.below c.2 oM;have n:Hq (ep w2 g u):=c.1;have U:Hq (O w.heap.size w w2):=T.o.trans (c.2.mono oM);have f:Hq _:=d;have b0:Hq _:=t;clear d c t;go_wp2_with (first|refine mx _ rfl rfl ?_|(refine wG rfl _ _ rfl u rfl _ _ rfl rfl ?_;rw[f.o,<-b0.o])|refine B6 rfl _ rfl w.heap.size 0 p.x rfl m.o.x ?_|refine qH rfl _ rfl g u rfl n.o ?_)
 refine(Hx.o _).mono ?_;rintro e w3 ⟨rfl,q⟩;have X:Hq (ej w3 w.heap.size p):=m.o.below q m.o.lt;have G:Hq (ep w3 g u):=n.o.below q n.o.lt;have V:=tq U q;clear q m n U f b0 F T Hx;obtain⟨h,A⟩:=eX w3.heap.size;have e7:g<h:=by
  rw[A];exact G.o.lt
 generalize d:w3.alloc (Cl (rn x) 95)=w4;have c:=nZ d;rw[<-A] at c;have a6:Hq (ej w4 w.heap.size p):=X.o.below c.2 oM;have a7:Hq (ep w4 g u):=G.o.below c.2 oM;have K:Hq (ep w4 h x):=c.1;have W:Hq (O w.heap.size w w4):=V.o.trans (c.2.mono oM);have f:Hq _:=d;have b1:Hq _:=A;clear d c A;go_wp2_with (first|refine mx _ rfl rfl ?_|(refine wG rfl _ _ rfl x rfl _ _ rfl rfl ?_;rw[f.o,<-b1.o])|refine B6 rfl _ rfl w.heap.size 16 p.y rfl a6.o.y ?_|refine qH rfl _ rfl g u rfl a7.o ?_)
 refine(Hy.o _).mono ?_;rintro e w5 ⟨rfl,P⟩;have a8:Hq (ep w5 h x):=K.o.below P K.o.lt;have b8:=tq W P;clear P a6 a7 K W f b1 X G V Hy;obtain⟨gy,B⟩:=eX w5.heap.size;have e9:h<gy:=by
  rw[B];exact a8.o.lt
 generalize d:w5.alloc (Cl (rn y) 95)=w6;have c:=nZ d;rw[<-B] at c;have c7:Hq (w6.heap[h]? =Z (Cl (num (dg (x.val:Int))) 95 (0,0))):=by
  have:=a8.o.below c.2 oM;unfold ep at this;rw[mJ] at this;exact this
 have L:Hq (w6.heap[gy]? =Z (Cl (num (dg (y.val:Int))) 95 (0,0))):=by
  have:=c.1;rw[mJ] at this;exact this
 have c0:Hq (O w.heap.size w w6):=b8.o.trans (c.2.mono oM);have f:Hq _:=d;have c8:Hq _:=B;clear d c B;have e2:=lx L.o 15 oM;have e5:=oa L.o 15;have e1:=lx c7.o 0 oM;have e4:=kk (y.val:Int) 15;have e3:=kk (x.val:Int) 0;have b3:Hq _:=Bs x;have k:Hq ((w6.setCell ⟨gy,15,Y⟩ (I J (dg (y.val:Int) 15+32768*(dg (x.val:Int) 0 % 2)))).heap[gy]? =Z (Cl (nm ((enc x y:Nat):Int)) 95 (0,0))):=by
  rw[b3.o,<-QS];refine(nV L.o 15 _).trans (congrArg (fun r=>Z (Obj.cells r 95 (0,0))) (lJ fun j hj=> ?_));refine QO (y.val:Int) _ (Int.natCast_nonneg _) ?_ ?_ j hj
  ·exact Int.lt_trans (Int.ofNat_lt.2 y.isLt) dc
  ·split
   ·exact .inr rfl
   ·exact .inl rfl
 have C:Hq (O w.heap.size w (w6.setCell ⟨gy,15,Y⟩ (I J (dg (y.val:Int) 15+32768*(dg (x.val:Int) 0 % 2))))):=mS c0.o _ _ oM _;obtain⟨a,ha⟩:=eX (dg (y.val:Int) 15);obtain⟨b,hb⟩:=eX (dg (x.val:Int) 0);rw[<-ha] at e2 e4 k C;rw[<-hb] at e1 e3 k C;obtain⟨E,M⟩:=eX (dg ((enc x y:Nat):Int));have c6:Hq ((w6.setCell ⟨gy,15,Y⟩ (I J (a+32768*(b % 2)))).heap[gy]? =Z (Cl (num E) 95 (0,0))):=by rw[M];exact k.o
 have c9:Hq (∀w,Rt 104 #[H (num E)] w (sT ⟨s⟩)):=by rw[M];exact b2.o
 clear ha hb k b3 M b2;go_wp2_with (first|refine mx _ rfl rfl ?_|(refine wG rfl _ _ rfl y rfl _ _ rfl rfl ?_;rw[f.o,<-c8.o])|refine pT rfl _ rfl gy E rfl c6.o ?_)
 refine(c9.o _).mono ?_;rintro e w8 ⟨rfl,b7⟩;have c4:=tq C b7;clear b7;go_wp2_with fail
 exact bodyPost_ret (v:=sT ⟨s⟩) (by simp[results,results51,go_sem]) rfl ⟨rfl,c4.o⟩
theorem Sz{e:T3}{p:Pt}(h:oN e p)(w:D):Calls prog 51 #[H (tp e)] w fun a w'=>a=Re (sT ⟨(nR p).toArray⟩)/\O w.heap.size w w':=by
 have:=QG e w;rw[NW h,NX h] at this;exact this
