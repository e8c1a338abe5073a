/- Walks of the document's own reckoning: below, less. Walk of the document's own reckoning: settled. Walks of the document's own reckoning: add, sub. Walks of the document's own reckoning: sub. -/
import Derived.Test.YtbojijefenfbgaaGreatDoorAaSignD
open Int renaming le_of_lt->dn,ediv_le_ediv->ky,pow_zero->eK,ediv_one->dQ,zero_add->jf,mul_le_mul_of_nonneg_right->gW,emod_eq_of_lt->j7,natCast_add->bB
open Go.RowKit.Below renaming refl->ai,heap_setCell->aC
open Nat renaming le_of_eq->bO,lt_irrefl->eJ,le_of_lt->cA
open Go.World renaming size_alloc->cd,alloc->bU
open List renaming take_succ_cons->ak,take_zero->aE,drop_succ_cons->ax,drop_zero->aK
open Option renaming some->Z,none->Y
open Go.Value renaming int->I,pointer->X,agg->H,bool->Bl
open Go.IntKind renaming i64->J
open Go.Obj renaming cells->Cl
open Go renaming World->D,Value->Vl
open Go.RowKit renaming Below->O
set_option maxHeartbeats 4000000
set_option maxRecDepth 100000
open Go Go.RowKit
variable{A B C:Array Vl}{F:Nat->Int}{U m n:Int}{k:Nat}{s t u:TypeId}{w w0:D}
namespace Go.Proofs.YtbojijefenfbgaaGreatDoor
open Tryz
namespace Dc
open Bt
theorem vf{ops:Array Oper}{rest:List Oper}{o:Oper}{a:Act}{w:D}{Q:Exit->Act->D->Prop}(b:o.guard=Y)(x y:Operand)(c:o.op= .store 95 x y)(g f:Nat->Int)
  (d:a.eval x=X (Z ⟨w.heap.size,0,Y⟩)) (e:a.eval y=H (num f))
  (h:wpList prog ops Q rest (a.put o.dst undef) (w.alloc (Cl (num f) 95))):wpList prog ops Q (o::rest) a (w.alloc (Cl (num g) 95)):=
 Own.qy b 95 x y c (num g) (num f) 95 d e (by rw[kP];kernel_rfl) (by rw[kP,kP]) (uL f) h
theorem wv(n:Int)(k:Nat):n / 65536^(k+1)=n / 65536^k / 65536:=by
 rw[Int.pow_succ,Int.ediv_ediv_of_nonneg (dn (rN dc k))]
theorem cmp_eq(h:n / 65536^(k+1)=m / 65536^(k+1))(hd:dg n k=dg m k):n / 65536^k=m / 65536^k:=by
 rw[wv,wv] at h;unfold dg at hd;omega
theorem EW(h:n / 65536^(k+1)=m / 65536^(k+1))(hd:dg n k≠dg m k):decide (dg n k<dg m k)=decide (n<m):=by
 rw[wv,wv] at h;unfold dg at*;have b:=rN (show(0:Int)<65536 by decide) k;generalize (65536:Int)^k=B at*;by_cases a:n<m
 ·have:=ky b (dn a)
  rw[decide_eq_true a,decide_eq_true];omega
 ·have:=ky b (Int.not_lt.1 a)
  rw[decide_eq_false a,decide_eq_false];omega
theorem wX(a:0<=n)(h1:n<65536^16):n / 65536^16=0:=Int.ediv_eq_zero_of_lt a h1
theorem BE:0<=pI:=dc
theorem xS:pI<65536^16:=dc
theorem wT(n:Int)(F:0<=n)(h1:n<65536^16)(w:D):Rt 92 #[H (nm n)] w (Bl (decide (n<pI))):=by
 have a:Hq (n / 65536^16=pI / 65536^16):=by
  show _=_;rw[wX F h1,wX BE xS]
 clear F h1;have E:Hq (∀w,Rt 97 #[] w (H (nm pI))):=uN;obtain⟨P,G⟩:=eX pI;rw[<-G] at a E⊢;clear G;go_enter func92,ntmps92
 go_wp2_with fail
 refine(E.o _).mono ?_;rintro e w1 ⟨rfl,s⟩;obtain⟨g,j⟩:=eX w.heap.size;have c:Hq (w1.heap[g]? =Z (Cl (nm n) 95 (0,0))):=by
  rw[j];exact(s.block _ sP).trans (heap_alloc_new _ _)
 have B:Hq (O g w w1):=by
  rw[j];exact((ai _ _).alloc lR _).trans (s.mono sP)
 have C:Hq (w.heap.size<=g):=bO j.symm;rw[<-j];clear s j;obtain⟨d,l⟩:=eX w1.heap.size;have W:g<d:=by
  rw[l];exact(aL c.o)
 go_wp2_with (first|refine mx _ rfl rfl ?_|refine vf rfl _ _ rfl _ (dg P) rfl rfl ?_)
 have p:Hq ((w1.alloc (Cl (num (dg P)) 95)).heap[d]? =Z (Cl (num (dg P)) 95 (0,0))):=by
  rw[l];exact heap_alloc_new _ _
 have m:Hq ((w1.alloc (Cl (num (dg P)) 95)).heap[g]? =Z (Cl (nm n) 95 (0,0))):=(heap_alloc_old _ _ (by rw[<-l];exact W)).trans c.o;have f:Hq (O g w (w1.alloc (Cl (num (dg P)) 95))):=B.o.alloc oM _;rw[<-l];clear c B l;generalize w1.alloc (Cl (num (dg P)) 95)=w2 at*;go_loopw [4] (fun i A=>∃k:Nat,k<=16/\i=I J ((k:Int)-1)/\n / 65536^k=P / 65536^k/\A.heap[g]? =Z (Cl (nm n) 95 (0,0))/\A.heap[d]? =Z (Cl (num (dg P)) 95 (0,0))/\O g w A) (fun i _=>(intOf i+1).toNat)
 case atStart=>exact⟨16,oM,rfl,a.o,m.o,p.o,f.o⟩
 case round=>
  clear p m f a;rename D=>b
  obtain⟨k,hk,rfl,Q,K,R,L⟩:=hrel;have c:Hq _:=K;have r:Hq _:=R;have q:Hq _:=L;have a:Hq _:=Q;clear K R L Q;by_cases X:k=0
  ·subst X
   go_wp2_with fail
   have e:decide (n<P)=false:=by
    have:=a.o;rw[eK,dQ,dQ] at this;rw[this];simp
   rw[e];exact bodyPost_ret (v:=Bl false) (by simp[results,results92,go_sem]) rfl ⟨rfl,q.o.mono C.o⟩
  ·obtain⟨i,rfl⟩:∃i,k=i+1:=⟨k-1,oM⟩
   have V:((i+1:Nat):Int)-1=(i:Int):=oM
   rw[V];have M:b.cell? ⟨g,i,Y⟩=Z (I J (dg n i)):=lx c.o i oM;have N:b.cell? ⟨d,i,Y⟩=Z (I J (dg P i)):=lx r.o i oM;have T:Hq (dg n i=dg P i->n / 65536^i=P / 65536^i):=fun h=>cmp_eq a.o h;have U:Hq (dg n i≠dg P i->decide (dg n i<dg P i)=decide (n<P)):=fun h=>EW a.o h;clear a;generalize dg n i=x at*;generalize dg P i=y at*;have a7:i<16:=oM
   go_wp2_with fail
   refine wp_region_quiet_lit kr kr ?_;repeat (first|go_big_quiet_step (fail)|quiet_step (fail))
   refine wpQuiet_nil ?_;intro _ t;obtain⟨nq,u⟩:=t;subst u;have M:(b.drewN nq).cell? ⟨g,i,Y⟩=Z (I J x):=M;have N:(b.drewN nq).cell? ⟨d,i,Y⟩=Z (I J y):=N;have m:Hq ((b.drewN nq).heap[g]? =Z (Cl (nm n) 95 (0,0))):=c.o;have p:Hq ((b.drewN nq).heap[d]? =Z (Cl (num (dg P)) 95 (0,0))):=r.o;have f:Hq (O g w (b.drewN nq)):=q.o.trans (Fw.below_drewN _ _ _);clear c r q;generalize b.drewN nq=wb at*;by_cases z:x=y
   ·subst z
    go_wp2_with fail
    refine⟨⟨i,oM,rr,T.o rfl,m.o,p.o,f.o⟩,?_⟩;show((i:Int)-1+1).toNat<((i:Int)+1).toNat;omega
   ·have a8:(x !=y)=true:=by simp[z]
    go_wp2_with fail
    refine wp_region_quiet_lit kr kr ?_;repeat (first|go_big_quiet_step (fail)|quiet_step (fail))
    refine wpQuiet_nil ?_;intro _ t;obtain⟨a6,u⟩:=t;subst u;have S:Hq (O g w (wb.drewN a6)):=f.o.trans (Fw.below_drewN _ _ _);go_wp2_with fail
    rw[<-U.o z];exact bodyPost_ret (v:=Bl (decide (x<y))) (by simp[results,results92,go_sem]) rfl ⟨rfl,S.o.mono C.o⟩
theorem uX(n P:Int)(B:0<=n)(h1:n<65536^16)(h2:0<=P)(h3:P<65536^16)(w:D):Rt 39 #[H (nm n),H (nm P)] w (Bl (decide (n<P))):=by
 have b:Hq (n / 65536^16=P / 65536^16):=by
  show _=_;rw[wX B h1,wX h2 h3]
 clear B h1 h2 h3;go_enter func39,ntmps39
 go_wp2_with fail
 obtain⟨g,c⟩:=eX w.heap.size;obtain⟨f,r⟩:=eX (g+1);have A:Hq (w.heap.size<=g):=bO c.symm;have j:Hq (((w.alloc (Cl (nm n) 95)).alloc (Cl (nm P) 95)).heap[g]? =Z (Cl (nm n) 95 (0,0))):=by
  rw[c];exact(heap_alloc_old _ _ sP).trans (heap_alloc_new _ _)
 have l:Hq (((w.alloc (Cl (nm n) 95)).alloc (Cl (nm P) 95)).heap[f]? =Z (Cl (num (dg P)) 95 (0,0))):=by
  have:=heap_alloc_new (w.alloc (Cl (nm n) 95)) (Cl (nm P) 95);rw[cd,<-c,<-r] at this;exact this
 have d:Hq (O g w ((w.alloc (Cl (nm n) 95)).alloc (Cl (nm P) 95))):=by
  rw[c];exact((ai _ _).alloc lR _).alloc sP _
 generalize (w.alloc (Cl (nm n) 95)).alloc (Cl (nm P) 95)=w2 at*;rw[<-c,<-r];clear c r;go_loopw [5] (fun i z=>∃k:Nat,k<=16/\i=I J ((k:Int)-1)/\n / 65536^k=P / 65536^k/\z.heap[g]? =Z (Cl (nm n) 95 (0,0))/\z.heap[f]? =Z (Cl (num (dg P)) 95 (0,0))/\O g w z) (fun i _=>(intOf i+1).toNat)
 case atStart=>exact⟨16,oM,rfl,b.o,j.o,l.o,d.o⟩
 case round=>
  clear l j d b;rename D=>a
  obtain⟨k,V,rfl,K,C,L,E⟩:=hrel;have m:Hq _:=C;have q:Hq _:=L;have p:Hq _:=E;have b:Hq _:=K;clear C L E K;by_cases S:k=0
  ·subst S
   go_wp2_with fail
   have e:decide (n<P)=false:=by
    have:=b.o;rw[eK,dQ,dQ] at this;rw[this];simp
   rw[e];exact bodyPost_ret (v:=Bl false) (by simp[results,results39,go_sem]) rfl ⟨rfl,p.o.mono A.o⟩
  ·obtain⟨i,rfl⟩:∃i,k=i+1:=⟨k-1,oM⟩
   have R:((i+1:Nat):Int)-1=(i:Int):=oM
   rw[R];have F:a.cell? ⟨g,i,Y⟩=Z (I J (dg n i)):=lx m.o i oM;have G:a.cell? ⟨f,i,Y⟩=Z (I J (dg P i)):=lx q.o i oM;have N:Hq (dg n i=dg P i->n / 65536^i=P / 65536^i):=fun h=>cmp_eq b.o h;have Q:Hq (dg n i≠dg P i->decide (dg n i<dg P i)=decide (n<P)):=fun h=>EW b.o h;clear b;generalize dg n i=x at*;generalize dg P i=y at*;have U:i<16:=oM
   go_wp2_with fail
   refine wp_region_quiet_lit kr kr ?_;repeat (first|go_big_quiet_step (fail)|quiet_step (fail))
   refine wpQuiet_nil ?_;intro _ s;obtain⟨nq,t⟩:=s;subst t;have F:(a.drewN nq).cell? ⟨g,i,Y⟩=Z (I J x):=F;have G:(a.drewN nq).cell? ⟨f,i,Y⟩=Z (I J y):=G;have j:Hq ((a.drewN nq).heap[g]? =Z (Cl (nm n) 95 (0,0))):=m.o;have l:Hq ((a.drewN nq).heap[f]? =Z (Cl (num (dg P)) 95 (0,0))):=q.o;have d:Hq (O g w (a.drewN nq)):=p.o.trans (Fw.below_drewN _ _ _);clear m q p;generalize a.drewN nq=wb at*;by_cases u:x=y
   ·subst u
    go_wp2_with fail
    refine⟨⟨i,oM,rr,N.o rfl,j.o,l.o,d.o⟩,?_⟩;show((i:Int)-1+1).toNat<((i:Int)+1).toNat;omega
   ·have W:(x !=y)=true:=by simp[u]
    go_wp2_with fail
    refine wp_region_quiet_lit kr kr ?_;repeat (first|go_big_quiet_step (fail)|quiet_step (fail))
    refine wpQuiet_nil ?_;intro _ s;obtain⟨T,t⟩:=s;subst t;have M:Hq (O g w (wb.drewN T)):=d.o.trans (Fw.below_drewN _ _ _);go_wp2_with fail
    rw[<-Q.o u];exact bodyPost_ret (v:=Bl (decide (x<y))) (by simp[results,results39,go_sem]) rfl ⟨rfl,M.o.mono A.o⟩
def tl(V:Int):Nat->Int
 |0=>V
 |n+1=>rd (tl V n)
def Bd(F:Nat->Int):Prop:=∀j,j<16->-1125899906842624<=F j/\F j<=1125899906842624
def cD(F:Nat->Int)(k j:Nat):Int:=if j<k then(F j+cF 65536 0 F j) % 65536 else F j
theorem F1(F:Nat->Int)(k j:Nat):(if j=k then F k+cF 65536 0 F k-(F k+cF 65536 0 F k) / 65536*65536 else cD F k j)=cD F (k+1) j:=by
 unfold cD;by_cases e:j=k
 ·subst e
  rw[if_pos rfl,if_pos oM];omega
 ·rw[if_neg e]
  by_cases h:j<k
  ·rw[if_pos h,if_pos oM]
  ·rw[if_neg h,if_neg oM]
theorem ES(F:Nat->Int)(j:Nat)(a:j<16):cD F 16 j=dg (vi 65536 F 16) j:=by
 unfold cD dg;rw[if_pos a,Bn dc 0 F a,jf]
theorem kk(U:Int)(j:Nat):0<=dg U j/\dg U j<65536:=by
 unfold dg;omega
theorem TW{n:Nat}(h:∀j,j<n->-1125899906842624<=F j/\F j<=1125899906842624): -(1125899906842624*vi 65536 (fun _=>1) n)<=vi 65536 F n/\vi 65536 F n<=1125899906842624*vi 65536 (fun _=>1) n:=by
 induction n with
 |zero=>simp[vi]
 |succ n ih=>
  have h1:=ih fun j f=>h j oM;have h2:=h n oM;have c:=rN (show(0:Int)<65536 by decide) n;simp only[vi];generalize (65536:Int)^n=p at*;generalize vi 65536 F n=a at*;generalize vi 65536 (fun _=>1) n=b at*;have d:=gW h2.1 (dn c);have e:=gW h2.2 (dn c);generalize F n*p=x at*;omega
theorem J0(h:Bd F): -2037035976334486086268445688409378161051468393665936250636140449354381299763336706183397376<=vi 65536 F 16/\vi 65536 F 16<=2037035976334486086268445688409378161051468393665936250636140449354381299763336706183397376:=by
 have h1:=TW (n:=16) h;rw[show vi 65536 (fun _=>1) 16=1766874025136433896750911497805568136923323180981774075523881651146915841 from by decide] at h1;omega
theorem EE(U:Int):rF U=fun j=>if j=0 then dg U 0+19*(U / 57896044618658097711785492504343953926634992332820282019728792003956564819968) else if j=15 then dg U 15 % 32768 else dg U j:=by
 funext j;unfold rF dg;rw[eK,dQ]
theorem Vp(h1: -2037035976334486086268445688409378161051468393665936250636140449354381299763336706183397376<=U)(h2:U<=2037035976334486086268445688409378161051468393665936250636140449354381299763336706183397376):Bd (rF U):=by
 intro j _;rw[EE];show-1125899906842624<=(if j=0 then dg U 0+19*(U / 57896044618658097711785492504343953926634992332820282019728792003956564819968) else if j=15 then dg U 15 % 32768 else dg U j)/\(if j=0 then dg U 0+19*(U / 57896044618658097711785492504343953926634992332820282019728792003956564819968) else if j=15 then dg U 15 % 32768 else dg U j)<=1125899906842624;have a:=kk U 0;have b:=kk U 15;have c:=kk U j;split
 ·omega
 ·split<;>omega
theorem LK{V:Int}(h1: -2037035976334486086268445688409378161051468393665936250636140449354381299763336706183397376<=V)(h2:V<=2037035976334486086268445688409378161051468393665936250636140449354381299763336706183397376):0<=tl V 3/\tl V 3<57896044618658097711785492504343953926634992332820282019728792003956564819968/\tl V 3 % pI=V % pI:=NS h1 h2
theorem N7(a:0<=U)(h1:U<57896044618658097711785492504343953926634992332820282019728792003956564819968)(h2:¬U<pI):U-pI=U % pI:=by
 unfold pI at*;omega
def dd(U P:Int)(j:Nat):Int:=dg U j-dg P j
def cE(G A:Nat->Int)(k j:Nat):Int:=if j<k then(G j+cF 65536 0 G j) % 65536 else A j
theorem F2(G A:Nat->Int)(k j:Nat):(if j=k then G k+cF 65536 0 G k-(G k+cF 65536 0 G k) / 65536*65536 else cE G A k j)=cE G A (k+1) j:=by
 unfold cE;by_cases e:j=k
 ·subst e
  rw[if_pos rfl,if_pos oM];omega
 ·rw[if_neg e]
  by_cases h:j<k
  ·rw[if_pos h,if_pos oM]
  ·rw[if_neg h,if_neg oM]
theorem Ep(U P:Int):Bd (dd U P):=by
 intro j _;have h1:=kk U j;have h2:=kk P j;unfold dd;omega
theorem qY(h:0<=U/\U<65536^16):vi 65536 (dg U) 16=U:=by
 have h1:=FJ (B:=65536) dc U 16;rw[j7 h.1 h.2] at h1;exact h1
theorem ET(U P:Int)(b:0<=P/\P<65536^16)(hU:0<=U/\U<65536^16)(j:Nat)(a:j<16):cE (dd U P) (dg U) 16 j=dg (U-P) j:=by
 have e:vi 65536 (dd U P) 16=U-P:=by
  have:=FM 65536 (dg U) (dg P) 16;rw[qY b,qY hU] at this;exact this
 unfold cE;rw[if_pos a,Bn dc 0 (dd U P) a,e,jf];rfl
theorem CP(f:Nat->Int)(hf:Bd f)(w:D):Rt 98 #[H (num f)] w (H (nm (vi 65536 f 16 % pI))):=by
 obtain⟨V,X⟩:=eX (vi 65536 f 16);rw[<-X];have e1:Hq (Bd f/\vi 65536 f 16=tl V 0):=⟨hf,X.symm⟩;have HV:Hq (-2037035976334486086268445688409378161051468393665936250636140449354381299763336706183397376<=V/\V<=2037035976334486086268445688409378161051468393665936250636140449354381299763336706183397376):=by
  rw[X];exact J0 hf
 clear hf X;go_enter func98,ntmps98
 go_wp2_with (refine mx _ rfl rfl ?_)
 obtain⟨g,M⟩:=eX w.heap.size;have b8:Hq (((w.alloc (Cl (num f) 95)).alloc (Cl (num fun _=>0) 95)).heap[g]? =Z (Cl (num f) 95 (0,0))):=by
  rw[M];exact(heap_alloc_old _ _ sP).trans (heap_alloc_new _ _)
 have e4:Hq (((w.alloc (Cl (num f) 95)).alloc (Cl (num fun _=>0) 95)).heap[g+1]? =Z (Cl (num fun _=>0) 95 (0,0))):=by
  have:=heap_alloc_new (w.alloc (Cl (num f) 95)) (Cl (num fun _=>0) 95);rw[cd,<-M] at this;exact this
 have c7:Hq (O g w ((w.alloc (Cl (num f) 95)).alloc (Cl (num fun _=>0) 95))):=by
  rw[M];exact((ai _ _).alloc lR _).alloc sP _
 generalize (w.alloc (Cl (num f) 95)).alloc (Cl (num fun _=>0) 95)=w0 at*;rw[<-M];have HG:Hq _:=bO M.symm;clear M;go_loopw [3] (fun i h=>∃(n:Nat)(F:Nat->Int),n<=3/\i=I J (n:Int)/\(Bd F/\vi 65536 F 16=tl V n)/\h.heap[g]? =Z (Cl (num F) 95 (0,0))/\h.heap[g+1]? =Z (Cl (num fun _=>0) 95 (0,0))/\O g w h) (fun i _=>3-(intOf i).toNat)
 case atStart=>exact⟨0,f,oM,rfl,e1.o,b8.o,e4.o,c7.o⟩
 case round=>
  clear b8 e4 c7 e1;rename D=>l
  obtain⟨n,F,hn,rfl,hF,m,q,p⟩:=hrel;have a:Hq _:=m;have b:Hq _:=q;have d:Hq _:=p;have A:Hq _:=hF;clear m q p hF;by_cases l5:n<3
  ·go_wp2_with fail
   go_loopw [4,5] (fun c i h=>∃k:Nat,k<=16/\i=I J (k:Int)/\c=I J (cF 65536 0 F k)/\h.heap[g]? =Z (Cl (num (cD F k)) 95 (0,0))/\h.heap[g+1]? =Z (Cl (num fun _=>0) 95 (0,0))/\O g w h) (fun _ i _=>16-(intOf i).toNat)
   case atStart=>exact⟨0,oM,rfl,rfl,a.o,b.o,d.o⟩
   case round=>
    clear a b d;rename D=>l
    obtain⟨k,hk,rfl,rfl,m,q,p⟩:=hrel;have a:Hq _:=m;have b:Hq _:=q;have d:Hq _:=p;clear m q p;by_cases E:k<16
    ·have B:=lx a.o k E
     have a8:=oa a.o k;rw[cD,if_neg (eJ k)] at B;have b6:=A.o.1 k E;have G:=xD (c0:=0) A.o.1 oM k oM;obtain⟨u,hu⟩:=eX (F k);obtain⟨c,t⟩:=eX (cF 65536 0 F k);rw[<-hu] at B b6;rw[<-t] at G⊢;have S:Hq _:=hu;have R:Hq _:=t;clear hu t;go_wp2_with fail
     refine⟨⟨k+1,oM,by rw[bB];rfl,?_,?_,?_,?_⟩,?_⟩
     ·rw[S.o,R.o]
      rfl
     ·rw[nV a.o k,lJ]
      intro j _;rw[S.o,R.o];exact F1 F k j
     ·exact(aC _ _ _ (g+1) (by show g+1≠g;omega)).trans b.o
     ·exact mS d.o _ _ oM _
     ·show 16-((k:Int)+1).toNat<16-(k:Int).toNat
      omega
    ·obtain rfl:k=16:=by omega
     obtain⟨U,hU⟩:=eX (vi 65536 F 16);have x:Hq (l.heap[g]? =Z (Cl (num (dg U)) 95 (0,0))):=by
      rw[hU];exact a.o.trans (by rw[lJ (ES F)])
     have h6:Hq (cF 65536 0 F 16=U / 65536^16):=by
      show _=_;rw[Ek dc,hU,jf]
     have G:=xD (c0:=0) A.o.1 oM 16 oM;have s:Hq (-2037035976334486086268445688409378161051468393665936250636140449354381299763336706183397376<=U/\U<=2037035976334486086268445688409378161051468393665936250636140449354381299763336706183397376/\U=tl V n):=by
      have:=J0 A.o.1;rw[hU];exact⟨this.1,this.2,A.o.2⟩
     clear a A hU;rw[h6.o] at G⊢;have h8:=lx x.o 15 oM;have l3:=oa x.o 15;have j1:=kk U 15;have b3:Hq (2*(U / 65536^16)+dg U 15 / 32768=U / 57896044618658097711785492504343953926634992332820282019728792003956564819968):=Ob U;have h0:Hq _:=EE U;have r:Hq _:=nV x.o 15 (dg U 15 % 32768);have C:Hq ((l.setCell ⟨g,15,Y⟩ (I J (dg U 15 % 32768))).heap[g+1]? =Z (Cl (num fun _=>0) 95 (0,0))):=(aC _ _ _ (g+1) (by show g+1≠g;omega)).trans b.o;have K:Hq (O g w (l.setCell ⟨g,15,Y⟩ (I J (dg U 15 % 32768)))):=mS d.o _ _ oM _;have b7:=lx r.o 0 oM;have j5:=oa r.o 0;rw[if_neg oM] at b7;have j0:=kk U 0;have b2:Hq (∀j,(if j=0 then dg U 0+19*(U / 57896044618658097711785492504343953926634992332820282019728792003956564819968) else if j=15 then dg U 15 % 32768 else dg U j)=rF U j):=by rw[h0.o];exact fun _=>rfl
     clear h0;obtain⟨c,t⟩:=eX (U / 65536^16);rw[<-t] at G b3⊢;obtain⟨y,hy⟩:=eX (dg U 15);rw[<-hy] at h8 j1 b3 r C K b7 j5 b2;obtain⟨z,hz⟩:=eX (dg U 0);rw[<-hz] at b7 j0 b2;clear t hz hy;go_wp2_with fail
     refine⟨⟨n+1,rF U,oM,by rw[bB];rfl,⟨Vp s.o.1 s.o.2.1,?_⟩,?_,?_,?_⟩,?_⟩
     ·rw[Vr,s.o.2.2]
      rfl
     ·rw[b3.o,nV r.o 0,lJ]
      intro j _;exact b2.o j
     ·exact(aC _ _ _ (g+1) (by show g+1≠g;omega)).trans C.o
     ·exact mS K.o _ _ oM _
     ·show 3-((n:Int)+1).toNat<3-(n:Int).toNat
      omega
  ·obtain rfl:n=3:=by omega
   obtain⟨U,hU⟩:=eX (vi 65536 F 16);have s:Hq (0<=U/\U<57896044618658097711785492504343953926634992332820282019728792003956564819968/\U % pI=V % pI):=by
    rw[hU,A.o.2];exact LK HV.o.1 HV.o.2
   have b0:Hq _:=A.o.1;have e6:Hq _:=hU;clear A hU;go_wp2_with fail
   go_loopw [8,9] (fun c i h=>∃k:Nat,k<=16/\i=I J (k:Int)/\c=I J (cF 65536 0 F k)/\h.heap[g]? =Z (Cl (num (cD F k)) 95 (0,0))/\h.heap[g+1]? =Z (Cl (num fun _=>0) 95 (0,0))/\O g w h) (fun _ i _=>16-(intOf i).toNat)
   case atStart=>exact⟨0,oM,rfl,rfl,a.o,b.o,d.o⟩
   case round=>
    clear a b d;rename D=>l
    obtain⟨k,hk,rfl,rfl,m,q,p⟩:=hrel;have a:Hq _:=m;have b:Hq _:=q;have d:Hq _:=p;clear m q p;by_cases E:k<16
    ·have B:=lx a.o k E
     have a8:=oa a.o k;rw[cD,if_neg (eJ k)] at B;have b6:=b0.o k E;have G:=xD (c0:=0) b0.o oM k oM;obtain⟨u,hu⟩:=eX (F k);obtain⟨c,t⟩:=eX (cF 65536 0 F k);rw[<-hu] at B b6;rw[<-t] at G⊢;have S:Hq _:=hu;have R:Hq _:=t;clear hu t;go_wp2_with fail
     refine⟨⟨k+1,oM,by rw[bB];rfl,?_,?_,?_,?_⟩,?_⟩
     ·rw[S.o,R.o]
      rfl
     ·rw[nV a.o k,lJ]
      intro j _;rw[S.o,R.o];exact F1 F k j
     ·exact(aC _ _ _ (g+1) (by show g+1≠g;omega)).trans b.o
     ·exact mS d.o _ _ oM _
     ·show 16-((k:Int)+1).toNat<16-(k:Int).toNat
      omega
    ·obtain rfl:k=16:=by omega
     have x:Hq (l.heap[g]? =Z (Cl (nm U) 95 (0,0))):=by
      rw[e6.o];exact a.o.trans (by rw[lJ (ES F)];rfl)
     have e7:Hq _:=wT U s.o.1 (Int.lt_trans s.o.2.1 dc);clear a b0 e6;obtain⟨cc,h4⟩:=eX (cF 65536 0 F 16);rw[<-h4];clear h4;go_wp2_with (refine pT rfl _ rfl g (dg U) rfl x.o ?_)
     refine(e7.o _).mono ?_;rintro e w1 ⟨rfl,a6⟩;have r:Hq _:=(a6.block _ (aL x.o)).trans x.o;have C:Hq _:=(a6.block _ (aL b.o)).trans b.o;have K:Hq _:=d.o.trans (a6.mono (cA (aL x.o)));clear a6 x b d e7;by_cases Q:U<pI
     ·have j2:=decide_eq_true Q
      have T:Hq (U=V % pI):=by
       have h1:=s.o;show _=_;rw[<-h1.2.2];exact(j7 h1.1 Q).symm
      clear Q;go_wp2_with (first|refine pT rfl _ rfl g (dg U) rfl r.o ?_|refine mH rfl _ _ rfl (g+1) _ _ rfl rfl C.o ?_)
      refine Own.jM results98 rfl (g+1) 95 _ (0,0) _ rfl (setRow_heap _ _ _ _ _ _ C.o) underlying95 rfl (by rw[kP];kernel_rfl) ⟨?_,?_⟩
      ·rw[<-T.o]
       rfl
      ·exact(K.o.trans ((Fw.hJ _ _ _).mono oM)).mono HG.o
     ·have j2:=decide_eq_false Q
      have T:Hq (U-pI=V % pI):=by
       have h1:=s.o;show _=_;rw[<-h1.2.2];exact N7 h1.1 h1.2.1 Q
      have e9:Hq _:=uN;clear Q;go_wp2_with fail
      refine(e9.o _).mono ?_;rintro e w2 ⟨rfl,a7⟩;have c4:Hq _:=(a7.block _ (aL r.o)).trans r.o;have b1:Hq _:=(a7.block _ (aL C.o)).trans C.o;have c8:Hq _:=K.o.trans (a7.mono (cA (aL r.o)));clear a7 r C K e9;obtain⟨P,hP⟩:=eX pI;rw[<-hP] at T⊢;have e2:Hq _:=hP;clear hP;obtain⟨L,N⟩:=eX w2.heap.size;have l4:g+1<L:=by
       rw[N];exact(aL b1.o)
      go_wp2_with (first|refine mx _ rfl rfl ?_|refine vf rfl _ _ rfl _ (dg P) rfl rfl ?_)
      have e3:Hq ((w2.alloc (Cl (num (dg P)) 95)).heap[L]? =Z (Cl (num (dg P)) 95 (0,0))):=by
       rw[N];exact heap_alloc_new _ _
      have c6:Hq ((w2.alloc (Cl (num (dg P)) 95)).heap[g]? =Z (Cl (nm U) 95 (0,0))):=(heap_alloc_old _ _ (by rw[<-N];omega)).trans c4.o;have e5:Hq ((w2.alloc (Cl (num (dg P)) 95)).heap[g+1]? =Z (Cl (num fun _=>0) 95 (0,0))):=(heap_alloc_old _ _ (by rw[<-N];omega)).trans b1.o;have c9:Hq (O g w (w2.alloc (Cl (num (dg P)) 95))):=c8.o.alloc oM _;rw[<-N];clear c4 b1 c8 N;generalize w2.alloc (Cl (num (dg P)) 95)=w3 at*;go_loopw [8,13] (fun c i h=>∃k:Nat,k<=16/\i=I J (k:Int)/\c=I J (cF 65536 0 (dd U P) k)/\h.heap[g]? =Z (Cl (num (cE (dd U P) (dg U) k)) 95 (0,0))/\h.heap[g+1]? =Z (Cl (num fun _=>0) 95 (0,0))/\h.heap[L]? =Z (Cl (num (dg P)) 95 (0,0))/\O g w h) (fun _ i _=>16-(intOf i).toNat)
      case atStart=>exact⟨0,oM,rfl,rfl,c6.o,e5.o,e3.o,c9.o⟩
      case round=>
       clear c6 e5 e3 c9;rename D=>l
       obtain⟨k,hk,rfl,rfl,m,q,hp,p⟩:=hrel;have a:Hq _:=m;have b:Hq _:=q;have W:Hq _:=hp;have d:Hq _:=p;clear m q hp p;by_cases E:k<16
       ·have B:=lx a.o k E
        have a8:=oa a.o k;have h9:=lx W.o k E;rw[cE,if_neg (eJ k)] at B;have l2:=kk U k;have l1:=kk P k;have G:=xD (c0:=0) (Ep U P) oM k oM;have Hs:Hq (∀j,(if j=k then dg U k-dg P k+cF 65536 0 (dd U P) k-(dg U k-dg P k+cF 65536 0 (dd U P) k) / 65536*65536 else cE (dd U P) (dg U) k j)=cE (dd U P) (dg U) (k+1) j):=F2 (dd U P) (dg U) k;have h7:Hq ((dg U k-dg P k+cF 65536 0 (dd U P) k) / 65536=cF 65536 0 (dd U P) (k+1)):=rfl;generalize dg U k=u at*;generalize dg P k=v at*;generalize cF 65536 0 (dd U P) k=c at*;go_wp2_with fail
        refine wp_region_quiet_lit kr kr ?_;repeat (first|go_big_quiet_step (fail)|quiet_step (fail))
        refine wpQuiet_nil ?_;intro _ j9;obtain⟨nq,l0⟩:=j9;subst l0;have a8:(l.drewN nq).frozen? ⟨g,k,Y⟩=false:=a8;have B:(l.drewN nq).cell? ⟨g,k,Y⟩=Z (I J u):=B;have a:Hq ((l.drewN nq).heap[g]? =_):=a.o;have b:Hq ((l.drewN nq).heap[g+1]? =_):=b.o;have W:Hq ((l.drewN nq).heap[L]? =_):=W.o;have d:Hq (O g w (l.drewN nq)):=d.o.trans (Fw.below_drewN _ _ _);clear h9;generalize l.drewN nq=wb at*;go_wp2_with fail
        refine⟨⟨k+1,oM,by rw[bB];rfl,?_,?_,?_,?_,?_⟩,?_⟩
        ·rw[h7.o]
        ·rw[nV a.o k,lJ]
         intro j _;exact Hs.o j
        ·exact(aC _ _ _ (g+1) (by show g+1≠g;omega)).trans b.o
        ·exact(aC _ _ _ L (by show L≠g;omega)).trans W.o
        ·exact mS d.o _ _ oM _
        ·show 16-((k:Int)+1).toNat<16-(k:Int).toNat
         omega
       ·obtain rfl:k=16:=by omega
        have h5:Hq (l.heap[g]? =Z (Cl (num (dg (V % P))) 95 (0,0))):=by
         rw[<-T.o];exact a.o.trans (by rw[lJ (ET U P (by rw[e2.o];exact⟨BE,xS⟩) ⟨s.o.1,Int.lt_trans s.o.2.1 dc⟩)])
        clear a;generalize cF 65536 0 (dd U P) 16=cx at*;go_wp2_with (first|refine pT rfl _ rfl g (dg (V % P)) rfl h5.o ?_|refine mH rfl _ _ rfl (g+1) _ _ rfl rfl b.o ?_)
        refine Own.jM results98 rfl (g+1) 95 _ (0,0) _ rfl (setRow_heap _ _ _ _ _ _ b.o) underlying95 rfl (by rw[kP];kernel_rfl) ⟨?_,?_⟩
        ·rw[<-e2.o]
         rfl
        ·exact(d.o.trans ((Fw.hJ _ _ _).mono oM)).mono HG.o
theorem nZ(h:w.alloc (Cl A s)=w0):w0.heap[w.heap.size]? =Z (Cl A s (0,0))/\O w.heap.size w w0:=by
 subst h;exact⟨heap_alloc_new _ _,(ai _ _).alloc lR _⟩
theorem tU(h:(w.alloc (Cl A s)).alloc (Cl B t)=w0):w0.heap[w.heap.size]? =Z (Cl A s (0,0))/\w0.heap[w.heap.size+1]? =Z (Cl B t (0,0))/\O w.heap.size w w0:=by
 obtain⟨h1,h2⟩:=nZ h;have h3:=nZ (w:=w) (A:=A) (s:=s) rfl;rw[cd] at h1 h2;exact⟨(h2.block _ (Nat.lt_succ_self _)).trans h3.1,h1,h3.2.trans (h2.mono (Nat.le_succ _))⟩
theorem tV(h:((w.alloc (Cl A s)).alloc (Cl B t)).alloc (Cl C u)=w0):w0.heap[w.heap.size]? =Z (Cl A s (0,0))/\w0.heap[w.heap.size+1]? =Z (Cl B t (0,0))/\w0.heap[w.heap.size+1+1]? =Z (Cl C u (0,0))/\O w.heap.size w w0:=by
 obtain⟨h1,h2⟩:=nZ h;have h3:=tU (w:=w) (A:=A) (s:=s) (B:=B) (t:=t) rfl;rw[cd,cd] at h1 h2;exact⟨(h2.block _ oM).trans h3.1,(h2.block _ oM).trans h3.2.1,h1,h3.2.2.trans (h2.mono oM)⟩
theorem tW{a:Array Vl}{v:TypeId}(h:(((w.alloc (Cl A s)).alloc (Cl B t)).alloc (Cl C u)).alloc (Cl a v)=w0):w0.heap[w.heap.size]? =Z (Cl A s (0,0))/\w0.heap[w.heap.size+1]? =Z (Cl B t (0,0))/\w0.heap[w.heap.size+1+1]? =Z (Cl C u (0,0))/\w0.heap[w.heap.size+1+1+1]? =Z (Cl a v (0,0))/\O w.heap.size w w0:=by
 obtain⟨h1,h2⟩:=nZ h;have h3:=tV (w:=w) (A:=A) (s:=s) (B:=B) (t:=t) (C:=C) (u:=u) rfl;rw[cd,cd,cd] at h1 h2;exact⟨(h2.block _ oM).trans h3.1,(h2.block _ oM).trans h3.2.1,(h2.block _ oM).trans h3.2.2.1,h1,h3.2.2.2.trans (h2.mono oM)⟩
def sA(F G:Nat->Int)(k j:Nat):Int:=if j<k then F j+G j else F j
theorem L5(F G:Nat->Int)(k j:Nat):(if j=k then F k+G k else sA F G k j)=sA F G (k+1) j:=by
 unfold sA;by_cases e:j=k
 ·subst e
  rw[if_pos rfl,if_pos oM]
 ·rw[if_neg e]
  by_cases h:j<k
  ·rw[if_pos h,if_pos oM]
  ·rw[if_neg h,if_neg oM]
theorem Oz(n m:Int)(K:0<=n/\n<65536^16)(c:0<=m/\m<65536^16)(w:D):Rt 94 #[H (nm n),H (nm m)] w (H (nm ((n+m) % pI))):=by
 obtain⟨r,f⟩:∃r,num r=nm ((n+m) % pI):=⟨_,rfl⟩;have R:Hq (∀w,Rt 98 #[H (num (sA (dg n) (dg m) 16))] w (H (num r))):=by
  have e:vi 65536 (sA (dg n) (dg m) 16) 16=n+m:=by
   have h:=Bu 65536 (dg n) (dg m) 16;rw[qY K,qY c] at h;rw[<-h];exact wR fun j q=>if_pos q
  rw[f,<-e];refine CP _ fun j q=> ?_;have h1:=kk n j;have h2:=kk m j;unfold sA;rw[if_pos q];omega
 rw[<-f];clear f K c;go_enter func94,ntmps94
 go_wp2_with (refine mx _ rfl rfl ?_)
 generalize M:bU _ _=w0;obtain⟨g,p⟩:=eX w.heap.size;have a:=tV M;rw[<-p] at a⊢;have s:Hq _:=a.1;have z:Hq _:=a.2.1;have B:Hq _:=a.2.2.1;have x:Hq _:=a.2.2.2;have Q:Hq (w.heap.size<=g):=bO p.symm;clear p M a;go_loopw [5] (fun i d=>∃k:Nat,k<=16/\i=I J (k:Int)/\d.heap[g]? =Z (Cl (num (sA (dg n) (dg m) k)) 95 (0,0))/\d.heap[g+1]? =Z (Cl (nm m) 95 (0,0))/\d.heap[g+1+1]? =Z (Cl (num fun _=>0) 95 (0,0))/\O g w d) (fun i _=>16-(intOf i).toNat)
 case atStart=>exact⟨0,oM,rfl,s.o,z.o,B.o,x.o⟩
 case round=>
  clear s z B x;rename D=>N
  obtain⟨k,X,rfl,E,c,L,F⟩:=hrel;have b:Hq _:=E;have y:Hq _:=c;have A:Hq _:=L;have t:Hq _:=F;clear E c L F;by_cases G:k<16
  ·have S:N.cell? ⟨g,k,Y⟩=Z (I J (sA (dg n) (dg m) k k)):=lx b.o k G
   have W:=oa b.o k;have V:N.cell? ⟨g+1,k,Y⟩=Z (I J (dg m k)):=lx y.o k G;rw[sA,if_neg (eJ k)] at S;have U:=kk n k;have T:=kk m k;have Hs:Hq (∀j,(if j=k then dg n k+dg m k else sA (dg n) (dg m) k j)=sA (dg n) (dg m) (k+1) j):=L5 (dg n) (dg m) k;generalize dg n k=u at*;generalize dg m k=v at*;go_wp2_with fail
   refine wp_region_still_tail 9 kr kr ?_;simp only[ak,aE,ax,aK];repeat still_step
   refine wpStill_nil ?_;go_wp2_with fail
   refine⟨⟨k+1,oM,by rw[bB];rfl,?_,?_,?_,?_⟩,?_⟩
   ·refine(nV b.o k _).trans ?_
    rw[lJ];intro j _;exact Hs.o j
   ·exact(aC _ _ _ (g+1) (by show g+1≠g;omega)).trans y.o
   ·exact(aC _ _ _ (g+1+1) (by show g+1+1≠g;omega)).trans A.o
   ·exact(mS t.o _ _ oM _).drew
   ·show 16-((k:Int)+1).toNat<16-(k:Int).toNat
    omega
  ·obtain rfl:k=16:=by omega
   go_wp2_with (refine pT rfl _ rfl g _ rfl b.o ?_)
   refine(R.o _).mono ?_;rintro e w1 ⟨rfl,l⟩;have C:=ca l A;have P:Hq (O g w w1):=t.o.trans (l.mono (cA (aL b.o)));clear l;go_wp2_with (refine mH rfl _ _ rfl (g+1+1) _ _ rfl rfl C.o ?_)
   exact Own.jM results94 rfl (g+1+1) 95 _ (0,0) _ rfl (setRow_heap _ _ _ _ _ _ C.o) underlying95 rfl (by rw[kP];kernel_rfl) ⟨rfl,(P.o.trans ((Fw.hJ _ _ _).mono oM)).mono Q.o⟩
def sB(F G a:Nat->Int)(k j:Nat):Int:=if j<k then F j-G j+a j else F j
theorem L6(F G a:Nat->Int)(k j:Nat):(if j=k then F k-G k+a k else sB F G a k j)=sB F G a (k+1) j:=by
 unfold sB;by_cases e:j=k
 ·subst e
  rw[if_pos rfl,if_pos oM]
 ·rw[if_neg e]
  by_cases h:j<k
  ·rw[if_pos h,if_pos oM]
  ·rw[if_neg h,if_neg oM]
theorem VA(n m:Int)(hn:0<=n/\n<65536^16)(p:0<=m/\m<65536^16)(w:D):Rt 42 #[H (nm n),H (nm m)] w (H (nm ((n-m) % pI))):=by
 obtain⟨r,y⟩:∃r,num r=nm ((n-m) % pI):=⟨_,rfl⟩;have a8:Hq (∀w,Rt 98 #[H (num (sB (dg n) (dg m) (dg pI) 16))] w (H (num r))):=by
  have e:vi 65536 (sB (dg n) (dg m) (dg pI) 16) 16 % pI=(n-m) % pI:=by
   have h:=Bu 65536 (fun j=>dg n j-dg m j) (dg pI) 16;rw[FM,qY hn,qY p,qY ⟨BE,xS⟩] at h;rw[wR (f:=sB (dg n) (dg m) (dg pI) 16) (g:=fun j=>dg n j-dg m j+dg pI j) fun j C=>if_pos C,h];exact Int.add_emod_right _ _
  rw[y,<-e];refine CP _ fun j C=> ?_;have h1:=kk n j;have h2:=kk m j;have h3:=kk pI j;unfold sB;rw[if_pos C];omega
 rw[<-y];clear y hn p;have a7:Hq (∀w,Rt 97 #[] w (H (nm pI))):=uN;generalize pI=P at*;go_enter func42,ntmps42
 go_wp2_with (refine mx _ rfl rfl ?_)
 generalize q:bU _ _=w0;obtain⟨g,A⟩:=eX w.heap.size;have a:=tV q;rw[<-A] at a⊢;have x:Hq _:=a.1;have R:Hq _:=a.2.1;have X:Hq _:=a.2.2.1;have M:Hq _:=a.2.2.2;have HG:Hq (w.heap.size<=g):=bO A.symm;clear A q a;refine(a7.o _).mono ?_;rintro e w1 ⟨rfl,b⟩;have G:=ca b x;have S:=ca b R;have c:=ca b X;have t:Hq (O g w w1):=M.o.trans (b.mono (cA (aL x.o)));clear b x R X M;obtain⟨l,B⟩:=eX w1.heap.size;have c0:g+1+1<l:=by
  rw[B];exact(aL c.o)
 go_wp2_with (first|refine mx _ rfl rfl ?_|refine vf rfl _ _ rfl _ (dg P) rfl rfl ?_)
 generalize q:bU _ _=w2;have a:=nZ q;rw[<-B] at a⊢;have V:Hq _:=a.1;have K:Hq (w2.heap[g]? =_):=(a.2.block _ oM).trans G.o;have T:Hq (w2.heap[g+1]? =_):=(a.2.block _ oM).trans S.o;have a6:Hq (w2.heap[g+1+1]? =_):=(a.2.block _ oM).trans c.o;have N:Hq (O g w w2):=t.o.trans (a.2.mono oM);clear B q a G S c t;go_loopw [6] (fun i s=>∃k:Nat,k<=16/\i=I J (k:Int)/\s.heap[g]? =Z (Cl (num (sB (dg n) (dg m) (dg P) k)) 95 (0,0))/\s.heap[g+1]? =Z (Cl (nm m) 95 (0,0))/\s.heap[g+1+1]? =Z (Cl (num fun _=>0) 95 (0,0))/\s.heap[l]? =Z (Cl (num (dg P)) 95 (0,0))/\O g w s) (fun i _=>16-(intOf i).toNat)
 case atStart=>exact⟨0,oM,rfl,K.o,T.o,a6.o,V.o,N.o⟩
 case round=>
  clear K T a6 N V;rename D=>F
  obtain⟨k,hk,rfl,ha,p,hr,hp,hb⟩:=hrel;have d:Hq _:=ha;have Q:Hq _:=p;have W:Hq _:=hr;have U:Hq _:=hp;have L:Hq _:=hb;clear ha p hr hb hp;by_cases E:k<16
  ·have b0:F.cell? ⟨g,k,Y⟩=Z (I J (sB (dg n) (dg m) (dg P) k k)):=lx d.o k E
   have b8:=oa d.o k;have b6:F.cell? ⟨g+1,k,Y⟩=Z (I J (dg m k)):=lx Q.o k E;have b7:F.cell? ⟨l,k,Y⟩=Z (I J (dg P k)):=lx U.o k E;rw[sB,if_neg (eJ k)] at b0;have b3:=kk n k;have b1:=kk m k;have b2:=kk P k;have Hs:Hq (∀j,(if j=k then dg n k-dg m k+dg P k else sB (dg n) (dg m) (dg P) k j)=sB (dg n) (dg m) (dg P) (k+1) j):=L6 (dg n) (dg m) (dg P) k;generalize dg n k=u at*;generalize dg m k=v at*;generalize dg P k=z at*;go_wp2_with fail
   refine wp_region_still_tail 13 kr kr ?_;simp only[ak,aE,ax,aK];repeat still_step
   refine wpStill_nil ?_;go_wp2_with fail
   refine⟨⟨k+1,oM,by rw[bB];rfl,?_,?_,?_,?_,?_⟩,?_⟩
   ·refine(nV d.o k _).trans ?_
    rw[lJ];intro j _;exact Hs.o j
   ·exact(aC _ _ _ (g+1) (by show g+1≠g;omega)).trans Q.o
   ·exact(aC _ _ _ (g+1+1) (by show g+1+1≠g;omega)).trans W.o
   ·exact(aC _ _ _ l (by show l≠g;omega)).trans U.o
   ·exact(mS L.o _ _ oM _).drew
   ·show 16-((k:Int)+1).toNat<16-(k:Int).toNat
    omega
  ·obtain rfl:k=16:=by omega
   go_wp2_with (refine pT rfl _ rfl g _ rfl d.o ?_)
   refine(a8.o _).mono ?_;rintro e w1 ⟨rfl,b⟩;have c:=ca b W;have t:Hq (O g w w1):=L.o.trans (b.mono (cA (aL d.o)));clear b;go_wp2_with (refine mH rfl _ _ rfl (g+1+1) _ _ rfl rfl c.o ?_)
   exact Own.jM results42 rfl (g+1+1) 95 _ (0,0) _ rfl (setRow_heap _ _ _ _ _ _ c.o) underlying95 rfl (by rw[kP];kernel_rfl) ⟨rfl,(t.o.trans ((Fw.hJ _ _ _).mono oM)).mono HG.o⟩
