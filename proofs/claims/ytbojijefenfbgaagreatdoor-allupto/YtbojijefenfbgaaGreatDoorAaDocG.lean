/- Walks of the document's own reckoning: mul. The document's numbers as elements of F; power. Walks of the document's own reckoning: divided, under, curve. Points by three coordinates, as the document holds them; under. -/
import Derived.Test.YtbojijefenfbgaaGreatDoorAaDocC
open Go.IntKind renaming i64->cI
open List renaming replicate->cY,take_succ_cons->ak,take_zero->aE,drop_succ_cons->ax,drop_zero->aK
open Go.Value renaming int->bf
open Int renaming mul_assoc->dy,add_mul->j6,le_of_lt->dn,add_mul_emod_self_left->ff,natCast_add->bB,natCast_emod->eu,natCast_ediv->kz,natCast_pow->eM,ediv_nonneg->kK,pow_pos->jx,ediv_ediv_of_nonneg->ck,mul_comm->eD,pow_zero->eK,ediv_one->dQ,pow_succ->fg
open Go.World renaming alloc->bU
open Nat renaming le_of_eq->bO,le_of_lt->cA,div_div_eq_div_mul->bZ
open Go.RowKit.Below renaming heap_setCell->aC
open Classical renaming choose->eS,choose_spec->et
open Array renaming length_toList->bw,getElem?_append_left->bD,getElem?_append_right->di,modify->kW,getElem?_modify->cn
open Option renaming some->Z,none->Y
open Go.Value renaming int->I,pointer->X,agg->H
open Go.IntKind renaming i64->J
open Go.Obj renaming cells->Cl
open Go.Ending renaming returned->Re
open Go renaming World->D,Value->Vl
open Go.RowKit renaming Below->O
set_option maxHeartbeats 4000000
set_option maxRecDepth 100000
open Go Go.RowKit
open Go.Proofs.YtbojijefenfbgaaGreatDoor
open Own(dk zN jI nv mX mn nJ jM qy qz)
open Qt(Dw Lex nn ev)
open Fw(hJ)
variable{W w w':D}{a:Act}{b c:Nat}{f:Nat->Int}{fn:Func}{o:Oper}{p:Tmp}{post:Ending->D->Prop}{t:TypeId}
namespace Go.Proofs.YtbojijefenfbgaaGreatDoor
open Tryz
namespace Dc
open Bt
theorem wrap64{x:Int}(h1: -9223372036854775808<=x)(h2:x<=9223372036854775807):cI.wrap x=x:=IntWalk.i64_in x ⟨h1,h2⟩
def qS(f:Nat->Int):Array Vl:=dk 32 fun j=>I J (f j)
theorem Qj:qS (fun _=>0)=(cY 32 (bf .i64 0)).toArray:=(zN _ 32 sP _ fun j a=>(List.getElem_replicate (h:=a)).symm).symm
theorem CH(h:w.heap[b]? =Z (Cl (qS f) t (0,0)))(j:Nat)(a:j<32):w.cell? ⟨b,j,Y⟩=Z (I J (f j)):=jI h j a
theorem W7(h:w.heap[b]? =Z (Cl (qS f) t (0,0)))(j:Nat):w.frozen? ⟨b,j,Y⟩=false:=nv h j
theorem XZ(h:w.heap[b]? =Z (Cl (qS f) t (0,0)))(i:Nat)(v:Int):(w.setCell ⟨b,i,Y⟩ (I J v)).heap[b]? =Z (Cl (qS fun j=>if j=i then v else f j) t (0,0)):=by
 refine(mX h i _).trans (congrArg (fun r=>Z (Obj.cells r t (0,0))) (mn fun j _=> ?_));by_cases e:j=i
 ·show _=bf .i64 (if j=i then v else f j)
  rw[if_pos e,if_pos e]
 ·show _=bf .i64 (if j=i then v else f j)
  rw[if_neg e,if_neg e]
theorem O5(w:D){ops:Array Oper}{rest:List Oper}{a:Act}{Q:Exit->Act->D->Prop}(c:o.guard=Y)(d:o.op=Op.alloc 260)
  (b:wpList prog ops Q rest (a.put o.dst (X (Z ⟨w.heap.size,0,Y⟩))) (w.alloc (Cl (qS fun _=>0) 260))):wpList prog ops Q (o::rest) a w:=
 nJ w c 260 d _ (by rw[Qj];kernel_rfl) b
def mRow(a b:Nat->Int)(i:Nat)(W:Nat->Int):Nat->Nat->Int
 |0=>W
 |k+1=>fun j=>if j=i+k then mRow a b i W k (i+k)+a i*b k else mRow a b i W k j
def nI(a b:Nat->Int):Nat->Nat->Int
 |0=>fun _=>0
 |i+1=>mRow a b i (nI a b i) 16
theorem RF(B:Int)(a b:Nat->Int)(i:Nat)(W:Nat->Int)(hi:i<16)(k:Nat)(c:k<=16):vi B (mRow a b i W k) 32=vi B W 32+a i*B^i*vi B b k:=by
 induction k with
 |zero=>simp[mRow,vi]
 |succ k ih=>
  rw[mRow,FL B (mRow a b i W k) (i+k) 32 _ oM,ih oM,show vi B b (k+1)=vi B b k+b k*B^k from rfl,Int.mul_add,Int.pow_add];generalize B^i=p;generalize B^k=q;rw[show mRow a b i W k (i+k)+a i*b k-mRow a b i W k (i+k)=a i*b k by omega,show a i*b k*(p*q)=a i*p*(b k*q) by rw[dy,dy,Int.mul_left_comm (b k)]];omega
theorem RC(B:Int)(a b:Nat->Int)(i:Nat)(hi:i<=16):vi B (nI a b i) 32=vi B a i*vi B b 16:=by
 induction i with
 |zero=>
  show vi B (fun _=>0) 32=0*_;rw[Int.zero_mul];have:∀n,vi B (fun _=>0) n=0:=fun n=>by
   induction n with
   |zero=>rfl
   |succ n ih=>rw[vi,ih,Int.zero_mul];rfl
  exact this 32
 |succ i ih=>
  rw[nI,RF B a b i _ oM 16 lR,ih oM,show vi B a (i+1)=vi B a i+a i*B^i from rfl,j6]
def Lo(c:Int)(W:Nat->Int):Prop:=∀j,0<=W j/\W j<=c*4294967296
theorem GJ{x y:Int}(a:0<=x/\x<65536)(b:0<=y/\y<65536):0<=x*y/\x*y<=4294967296:=by
 refine⟨Int.mul_nonneg a.1 b.1,?_⟩;have h1:=Int.mul_le_mul_of_nonneg_right (dn a.2) b.1;omega
theorem Gy{a b:Nat->Int}(e:∀j,0<=a j/\a j<65536)(f:∀j,0<=b j/\b j<65536){i:Nat}{W:Nat->Int}{c:Int}(d:Lo c W)(k:Nat):Lo (c+k) (mRow a b i W k):=by
 induction k with
 |zero=>exact fun j=>by rw[show c+((0:Nat):Int)=c by omega];exact d j
 |succ k ih=>
  intro j;have h1:=GJ (e i) (f k);have h2:=ih (i+k);have h3:=ih j;show 0<=(if j=i+k then mRow a b i W k (i+k)+a i*b k else mRow a b i W k j)/\(if j=i+k then mRow a b i W k (i+k)+a i*b k else mRow a b i W k j)<=_;generalize a i*b k=x at*;split<;>omega
theorem B7{a b:Nat->Int}(c:∀j,0<=a j/\a j<65536)(d:∀j,0<=b j/\b j<65536)(i:Nat):Lo (16*i) (nI a b i):=by
 induction i with
 |zero=>exact fun j=>⟨Int.le_refl _,by show(0:Int)<=_;omega⟩
 |succ i ih=>
  have h:=Gy c d (i:=i) ih 16;intro j;have:=h j;show 0<=mRow a b i (nI a b i) 16 j/\_;refine⟨this.1,?_⟩;rw[show nI a b (i+1)=mRow a b i (nI a b i) 16 from rfl];omega
def pW(W:Nat->Int)(k j:Nat):Int:=if j<k then W j+38*W (j+16) else 0
theorem S1(W:Nat->Int)(k j:Nat):(if j=k then W k+38*W (k+16) else pW W k j)=pW W (k+1) j:=by
 unfold pW;by_cases e:j=k
 ·subst e
  rw[if_pos rfl,if_pos oM]
 ·rw[if_neg e]
  by_cases h:j<k
  ·rw[if_pos h,if_pos oM]
  ·rw[if_neg h,if_neg oM]
theorem RE(W:Nat->Int):vi 65536 (pW W 16) 16 % pI=vi 65536 W 32 % pI:=by
 have h1:vi 65536 (pW W 16) 16=vi 65536 W 16+38*vi 65536 (fun j=>W (16+j)) 16:=by
  rw[<-FK,<-Bu];refine wR fun j a=> ?_;show(if j<16 then W j+38*W (j+16) else 0)=_;rw[if_pos a,Nat.add_comm j 16]
 rw[h1,show(32:Nat)=16+16 from rfl,GZ];generalize vi 65536 W 16=x;generalize vi 65536 (fun j=>W (16+j)) 16=y;rw[show x+65536^16*y=(x+38*y)+pI*(2*y) by rw[show(65536:Int)^16=pI*2+38 from by decide];generalize pI=p;rw[j6,<-dy];omega,ff]
theorem Vi(n m:Int)(hn:0<=n/\n<65536^16)(q:0<=m/\m<65536^16)(w:D):Rt 93 #[H (nm n),H (nm m)] w (H (nm ((n*m) % pI))):=by
 obtain⟨r,K⟩:∃r,num r=nm ((n*m) % pI):=⟨_,rfl⟩;have c6:Hq (∀w,Rt 98 #[H (num (pW (nI (dg n) (dg m) 16) 16))] w (H (num r))):=by
  have e:vi 65536 (pW (nI (dg n) (dg m) 16) 16) 16 % pI=(n*m) % pI:=by
   rw[RE,RC _ _ _ _ lR,qY hn,qY q]
  rw[K,<-e];refine CP _ fun j hj=> ?_;have hl:=B7 (kk n) (kk m) 16;have h1:=hl j;have h2:=hl (j+16);unfold pW;rw[if_pos hj];omega
 rw[<-K];clear K hn q;go_enter func93,ntmps93
 go_wp2_with (first|refine mx _ rfl rfl ?_|refine O5 _ rfl rfl ?_)
 generalize F:bU _ _=w0;obtain⟨g,M⟩:=eX w.heap.size;have d:=tW F;rw[<-M] at d⊢;have S:Hq _:=d.1;have V:Hq _:=d.2.1;have a6:Hq _:=d.2.2.1;have b0:Hq _:=d.2.2.2.1;have T:Hq _:=d.2.2.2.2;have HG:Hq (w.heap.size<=g):=bO M.symm;clear M F d;go_loopw [6] (fun i b=>∃k:Nat,k<=16/\i=I J (k:Int)/\b.heap[g]? =Z (Cl (nm n) 95 (0,0))/\b.heap[g+1]? =Z (Cl (nm m) 95 (0,0))/\b.heap[g+1+1]? =Z (Cl (num fun _=>0) 95 (0,0))/\b.heap[g+1+1+1]? =Z (Cl (qS (nI (dg n) (dg m) k)) 260 (0,0))/\O g w b) (fun i _=>16-(intOf i).toNat)
 case atStart=>exact⟨0,oM,rfl,S.o,V.o,a6.o,b0.o,T.o⟩
 case round=>
  clear S V a6 T b0;rename D=>t
  obtain⟨i,hi,rfl,E,q,s,a,l⟩:=hrel;have y:Hq _:=E;have A:Hq _:=q;have f:Hq _:=s;have c:Hq _:=a;have h:Hq _:=l;clear E q s l a;by_cases c9:i<16
  ·go_wp2_with fail
   have C:Hq (Lo (16*i) (nI (dg n) (dg m) i)):=B7 (kk n) (kk m) i;go_loopw [7] (fun x b=>∃k:Nat,k<=16/\x=I J (k:Int)/\b.heap[g]? =Z (Cl (nm n) 95 (0,0))/\b.heap[g+1]? =Z (Cl (nm m) 95 (0,0))/\b.heap[g+1+1]? =Z (Cl (num fun _=>0) 95 (0,0))/\b.heap[g+1+1+1]? =Z (Cl (qS (mRow (dg n) (dg m) i (nI (dg n) (dg m) i) k)) 260 (0,0))/\O g w b) (fun x _=>16-(intOf x).toNat)
   case atStart=>exact⟨0,oM,rfl,y.o,A.o,f.o,c.o,h.o⟩
   case round=>
    clear y A f h c;rename D=>t
    obtain⟨k,hk,rfl,E,q,s,a,l⟩:=hrel;have y:Hq _:=E;have A:Hq _:=q;have f:Hq _:=s;have c:Hq _:=a;have h:Hq _:=l;clear E q s l a;by_cases P:k<16
    ·have c8:t.cell? ⟨g,i,Y⟩=Z (I J (dg n i)):=lx y.o i c9
     have b6:t.cell? ⟨g+1,k,Y⟩=Z (I J (dg m k)):=lx A.o k P;have b7:=CH c.o (i+k) oM;have b8:=W7 c.o (i+k);have b3:=kk n i;have b2:=kk m k;have e4:=GJ b3 b2;have c7:=Gy (kk n) (kk m) (i:=i) C.o k (i+k);have Hs:Hq ((fun j=>if j=i+k then mRow (dg n) (dg m) i (nI (dg n) (dg m) i) k (i+k)+dg n i*dg m k else mRow (dg n) (dg m) i (nI (dg n) (dg m) i) k j)=mRow (dg n) (dg m) i (nI (dg n) (dg m) i) (k+1)):=rfl;generalize dg n i=u at*;generalize dg m k=v at*;generalize mRow (dg n) (dg m) i (nI (dg n) (dg m) i) k (i+k)=z at*;obtain⟨p,a⟩:=eX (i+k);rw[<-a] at b7 b8 Hs;have e3:p<32:=oM
     have e6:cI.wrap ((i:Int)+(k:Int))=(p:Int):=by rw[a,bB];exact wrap64 oM oM
     have e5:cI.wrap (u*v)=u*v:=wrap64 oM oM;have e7:cI.wrap (z+u*v)=z+u*v:=wrap64 oM oM;clear a e4 c7 b3 b2;go_wp2_with fail
     refine Dw 17 kr kr ?_;simp only[ak,aE,ax,aK];repeat (first|go_big_quiet_step (fail)|quiet_step (fail))
     refine wpQuiet_nil ?_;intro _ Q;obtain⟨nq,R⟩:=Q;subst R;go_wp2_with fail
     refine⟨⟨k+1,oM,by rw[bB];rfl,?_,?_,?_,?_,?_⟩,?_⟩
     ·exact(aC _ _ _ g (by show g≠g+1+1+1;omega)).trans y.o
     ·exact(aC _ _ _ (g+1) (by show g+1≠g+1+1+1;omega)).trans A.o
     ·exact(aC _ _ _ (g+1+1) (by show g+1+1≠g+1+1+1;omega)).trans f.o
     ·refine(XZ (w:=t.drewN nq) c.o p _).trans ?_
      rw[Hs.o]
     ·exact mS (h.o.trans (Fw.below_drewN _ _ _)) _ _ oM _
     ·show 16-((k:Int)+1).toNat<16-(k:Int).toNat
      omega
    ·obtain rfl:k=16:=by omega
     have c4:Hq (t.heap[g+1+1+1]? =Z (Cl (qS (nI (dg n) (dg m) (i+1))) 260 (0,0))):=c.o;clear c C;go_wp2_with fail
     refine⟨⟨i+1,oM,by rw[bB];rfl,y.o,A.o,f.o,c4.o,h.o⟩,?_⟩;show 16-((i:Int)+1).toNat<16-(i:Int).toNat;omega
  ·obtain rfl:i=16:=by omega
   have C:Hq (Lo (16*(16:Nat)) (nI (dg n) (dg m) 16)):=B7 (kk n) (kk m) 16;generalize nI (dg n) (dg m) 16=W at*;obtain⟨B,N⟩:=eX t.heap.size;have e9:g+1+1+1<B:=by
    rw[N];exact(aL c.o)
   go_wp2_with (refine mx _ rfl rfl ?_)
   generalize F:bU _ _=w2;have d:=nZ F;rw[<-N] at d⊢;have X:Hq (w2.heap[B]? =Z (Cl (num (pW W 0)) 95 (0,0))):=d.1;have a8:Hq (w2.heap[g+1+1]? =_):=(d.2.block _ oM).trans f.o;have b1:Hq (w2.heap[g+1+1+1]? =_):=(d.2.block _ oM).trans c.o;have U:Hq (O g w w2):=h.o.trans (d.2.mono oM);clear N F d y A f c h;go_loopw [9] (fun x b=>∃k:Nat,k<=16/\x=I J (k:Int)/\b.heap[g+1+1]? =Z (Cl (num fun _=>0) 95 (0,0))/\b.heap[g+1+1+1]? =Z (Cl (qS W) 260 (0,0))/\b.heap[B]? =Z (Cl (num (pW W k)) 95 (0,0))/\O g w b) (fun x _=>16-(intOf x).toNat)
   case atStart=>exact⟨0,oM,rfl,a8.o,b1.o,X.o,U.o⟩
   case round=>
    clear a8 b1 X U;rename D=>t
    obtain⟨k,hk,rfl,s,a,ho,l⟩:=hrel;have f:Hq _:=s;have c:Hq _:=a;have G:Hq _:=ho;have h:Hq _:=l;clear s l a ho;by_cases P:k<16
    ·have c8:=CH c.o k oM
     have b6:=CH c.o (k+16) oM;have b7:=lx G.o k P;have b8:=oa G.o k;have e1:=C.o k;have e2:=C.o (k+16);have Hs:Hq (∀j,(if j=k then W k+38*W (k+16) else pW W k j)=pW W (k+1) j):=S1 W k;generalize W k=u at*;generalize W (k+16)=v at*;obtain⟨p,a⟩:=eX (k+16);rw[<-a] at b6;have e3:p<32:=oM
     have e6:cI.wrap ((k:Int)+16)=(p:Int):=by rw[a,bB];exact wrap64 oM oM
     have e5:cI.wrap (38*v)=38*v:=wrap64 oM oM;have e7:cI.wrap (u+38*v)=u+38*v:=wrap64 oM oM;clear a e1 e2;go_wp2_with fail
     refine Dw 11 kr kr ?_;simp only[ak,aE,ax,aK];repeat (first|go_big_quiet_step (fail)|quiet_step (fail))
     refine wpQuiet_nil ?_;intro _ Q;obtain⟨nq,R⟩:=Q;subst R;go_wp2_with fail
     refine⟨⟨k+1,oM,by rw[bB];rfl,?_,?_,?_,?_⟩,?_⟩
     ·exact(aC _ _ _ (g+1+1) (by show g+1+1≠B;omega)).trans f.o
     ·exact(aC _ _ _ (g+1+1+1) (by show g+1+1+1≠B;omega)).trans c.o
     ·refine(nV (w:=t.drewN nq) G.o k _).trans ?_
      rw[lJ];intro j _;exact Hs.o j
     ·exact mS (h.o.trans (Fw.below_drewN _ _ _)) _ _ oM _
     ·show 16-((k:Int)+1).toNat<16-(k:Int).toNat
      omega
    ·obtain rfl:k=16:=by omega
     go_wp2_with (refine pT rfl _ rfl B _ rfl G.o ?_)
     refine(c6.o _).mono ?_;rintro e w1 ⟨rfl,L⟩;have a7:=ca L f;have c0:Hq (O g w w1):=h.o.trans (L.mono (by have:=(aL f.o);omega));clear L;go_wp2_with (refine mH rfl _ _ rfl (g+1+1) _ _ rfl rfl a7.o ?_)
     exact jM results93 rfl (g+1+1) 95 _ (0,0) _ rfl (setRow_heap _ _ _ _ _ _ a7.o) underlying95 rfl (by rw[kP];kernel_rfl) ⟨rfl,(c0.o.trans ((hJ _ _ _).mono oM)).mono HG.o⟩
end Dc
namespace Dc
open Bt Ed
theorem EF:∃f:F->Array Vl,∀x:F,f x=nm (x.val:Int):=⟨fun x=>nm (x.val:Int),fun _=>rfl⟩
noncomputable def rn:F->Array Vl:=eS EF
theorem mJ(x:F):rn x=nm (x.val:Int):=et EF x
theorem jD(x:F):(rn x).size=16:=by rw[mJ];exact kP _
theorem qK(x:F):(rn x).all (·.oneCell')=true:=by rw[mJ];exact uL _
theorem vU:pI=(P:Int):=rfl
theorem u'(x:F):0<=(x.val:Int)/\(x.val:Int)<65536^16:=⟨Int.natCast_nonneg _,Int.lt_trans (show(x.val:Int)<pI by rw[vU];exact Int.ofNat_lt.2 x.isLt) xS⟩
theorem me(x y:F):((x.val:Int)+y.val) % pI=((x+y).val:Int):=by
 rw[vU,<-bB,<-eu];rfl
theorem tQ(x y:F):((x.val:Int)*y.val) % pI=((x*y).val:Int):=by
 rw[vU,<-Int.natCast_mul,<-eu];rfl
theorem oZ(x y:F):((x.val:Int)-y.val) % pI=((x-y).val:Int):=by
 have h:((x-y).val:Int)=(((P-y.val+x.val) % P:Nat):Int):=rfl;rw[h,vU,eu,bB,Int.natCast_sub (cA y.isLt)];rw[show(P:Int)-(y.val:Int)+(x.val:Int)=((x.val:Int)-y.val)+(P:Int)*1 by omega,ff]
theorem vY(x y:F)(w:D):Rt 94 #[H (rn x),H (rn y)] w (H (rn (x+y))):=by
 have h:=Oz x.val y.val (u' x) (u' y) w;rw[me,<-mJ,<-mJ,<-mJ] at h;exact h
theorem tx(x y:F)(w:D):Rt 42 #[H (rn x),H (rn y)] w (H (rn (x-y))):=by
 have h:=VA x.val y.val (u' x) (u' y) w;rw[oZ,<-mJ,<-mJ,<-mJ] at h;exact h
theorem nh(x y:F)(w:D):Rt 93 #[H (rn x),H (rn y)] w (H (rn (x*y))):=by
 have h:=Vi x.val y.val (u' x) (u' y) w;rw[tQ,<-mJ,<-mJ,<-mJ] at h;exact h
theorem pz(n:Nat)(a:n<65536)(w:D):Rt 43 #[I J (n:Int)] w (H (rn (Fin.ofNat P n))):=by
 have h:=Me n oM oM w;rw[mJ,show((Fin.ofNat P n).val:Int)=(n:Int) by show((n % P:Nat):Int)=_;rw[Nat.mod_eq_of_lt (Nat.lt_trans a dc)]];exact h
def ep(w:D)(b:Nat)(x:F):Prop:=w.heap[b]? =Z (Cl (rn x) 95 (0,0))
theorem ep.lt{x:F}(h:ep w b x):b<w.heap.size:=(aL h)
theorem ep.below{B:Nat}{x:F}(h:ep w b x)(a:O B w w')(c:b<B):ep w' b x:=(a.block b c).trans h
theorem ep.setRow{w:D}{b:Nat}{hQ:Array Vl}(h:w.heap[b]? =Z (Cl hQ 95 (0,0)))(x:F):ep (w.setRow b (rn x)) b x:=setRow_heap _ _ _ _ _ _ h
theorem qH{ops:Array Oper}{rest:List Oper}{Q:Exit->Act->D->Prop}(d:o.guard=Y)(x:Operand)(e:o.op= .load 95 x)(b:Nat)(v:F)(f:a.eval x=X (Z ⟨b,0,Y⟩))(c:ep w b v)
  (h:wpList prog ops Q rest (a.put o.dst (H (rn v))) w):wpList prog ops Q (o::rest) a w:=
 wpList_load_row d 95 x e b f 95 (rn v) (0,0) _ c underlying95 rfl (by rw[jD];kernel_rfl) h
theorem rP{ops:Array Oper}{rest:List Oper}{Q:Exit->Act->D->Prop}(d:o.guard=Y)(x y:Operand)(e:o.op= .store 95 x y)(b:Nat)(v:F)(hQ:Array Vl)(f:hQ.size=16)(g:a.eval x=X (Z ⟨b,0,Y⟩))(i:a.eval y=H (rn v))(c:w.heap[b]? =Z (Cl hQ 95 (0,0)))
  (h:wpList prog ops Q rest (a.put o.dst undef) (w.setRow b (rn v))):wpList prog ops Q (o::rest) a w:=
 wpList_store_row d 95 x y e b (rn v) g i 95 hQ c (by rw[jD];kernel_rfl) (by rw[jD,f]) (qK v) h
theorem wm{ops:Array Oper}{rest:List Oper}{a:Act}{w:D}{Q:Exit->Act->D->Prop}(b:o.guard=Y)(x y:Operand)(c:o.op= .store 95 x y)(g:Nat->Int)(v:F)
  (d:a.eval x=X (Z ⟨w.heap.size,0,Y⟩)) (e:a.eval y=H (rn v))
  (h:wpList prog ops Q rest (a.put o.dst undef) (w.alloc (Cl (rn v) 95))):wpList prog ops Q (o::rest) a (w.alloc (Cl (num g) 95)):=
 qy b 95 x y c (num g) (rn v) 95 d e (by rw[jD];kernel_rfl) (by rw[kP,jD]) (qK v) h
theorem AH(h:fn.results= #[.cell p 95])(hd:a.defers=[])(g:Nat)(v:F)(c:a.tmps.getD p undef=X (Z ⟨g,0,Y⟩))(b:ep w g v)(d:post (Re (H (rn v))) w):bodyPost prog fn post .ret a w:=
 jM h hd g 95 (rn v) (0,0) _ c b underlying95 rfl (by rw[jD];kernel_rfl) d
theorem BU(x r:Nat)(a:r<16):x % 65536 / 2^r % 2=x / 2^r % 2:=by
 rcases r with _|_|_|_|_|_|_|_|_|_|_|_|_|_|_|_|r;all_goals first|omega|simp only[Nat.reduceAdd,Nat.reducePow];omega
theorem Bm(N i:Nat):dg (N:Int) (i / 16) / 2^(i % 16) % 2=((N / 2^i % 2:Nat):Int):=by
 have h1:N / 65536^(i / 16) % 65536 / 2^(i % 16) % 2=N / 2^i % 2:=by
  rw[BU _ _ (Nat.mod_lt _ dc),bZ,show(65536:Nat)=2^16 from rfl,<-Nat.pow_mul,<-Nat.pow_add,Nat.div_add_mod]
 rw[<-h1];unfold dg;rw[eu,kz,eu,kz,eM,eM];rfl
theorem B2(N k:Nat):N / 2^k=2*(N / 2^(k+1))+N / 2^k % 2:=by
 rw[Nat.pow_succ,<-bZ];omega
theorem UR(x:F)(n:Nat):gp x n*gp x n=gp x (2*n):=by rw[<-oc,Nat.two_mul]
theorem Cb(x:F)(N:Nat)(hN:N<2^255)(w:D):Rt 164 #[H (rn x),H (nm (N:Int))] w (H (rn (gp x N))):=by
 have e3:Hq (∀w,Rt 43 #[I J 1] w (H (rn (gp x (N / 2^255))))):=by
  rw[Nat.div_eq_of_lt hN,SP];exact pz 1 dc
 have e2:Hq (∀x y w,Rt 93 #[H (rn x),H (rn y)] w (H (rn (x*y)))):=nh;have e1:Hq (gp x (N / 2^0)=gp x N):=by
  show _=_;rw[Nat.pow_zero,Nat.div_one]
 rw[<-e1.o];clear e1 hN;go_enter func164,ntmps164
 go_wp2_with (refine mx _ rfl rfl ?_)
 generalize q:bU _ _=w0;obtain⟨g,U⟩:=eX w.heap.size;have b:=tV q;rw[<-U] at b⊢;have t:Hq (ep w0 g x):=b.1;have b6:Hq _:=b.2.1;have c7:Hq _:=b.2.2.1;have b0:Hq _:=b.2.2.2;have HG:Hq (w.heap.size<=g):=bO U.symm;clear U q b;refine(e3.o _).mono ?_;rintro e w1 ⟨rfl,p⟩;have a6:Hq (ep w1 g x):=t.o.below p t.o.lt;have b7:=ca p b6;have P:=ca p c7;have b1:Hq (O g w w1):=b0.o.trans (p.mono (cA t.o.lt));clear p t b6 c7 b0 e3;obtain⟨a,V⟩:=eX w1.heap.size;have h7:g+1+1<a:=by
  rw[V];exact(aL P.o)
 generalize hv:gp x (N / 2^255)=v;have G:Hq _:=hv;clear hv;go_wp2_with (first|refine mx _ rfl rfl ?_|refine wm rfl _ _ rfl _ v rfl rfl ?_)
 generalize q:bU _ _=w2;have b:=nZ q;rw[<-V] at b⊢;have c4:Hq (ep w2 a (gp x (N / 2^255))):=by rw[G.o];exact b.1
 have a7:Hq (ep w2 g x):=a6.o.below b.2 oM;have b8:Hq (w2.heap[g+1]? =_):=(b.2.block _ oM).trans b7.o;have c8:Hq (w2.heap[g+1+1]? =_):=(b.2.block _ oM).trans P.o;have b2:Hq (O g w w2):=b1.o.trans (b.2.mono oM);clear V q b a6 b7 P b1 G;go_loopw [6] (fun i r=>∃k:Nat,k<=255/\i=I J ((k:Int)-1)/\ep r g x/\r.heap[g+1]? =Z (Cl (nm (N:Int)) 95 (0,0))/\r.heap[g+1+1]? =Z (Cl (num fun _=>0) 95 (0,0))/\ep r a (gp x (N / 2^k))/\O g w r) (fun i _=>(intOf i+1).toNat)
 case atStart=>exact⟨255,oM,rfl,a7.o,b8.o,c8.o,c4.o,b2.o⟩
 case round=>
  clear a7 b8 c8 c4 b2;rename D=>wa
  obtain⟨k,hk,rfl,ha,he,hr,ho,hb⟩:=hrel;have s:Hq (ep wa g x):=ha;have HE:Hq _:=he;have C:Hq _:=hr;have c:Hq (ep wa a (gp x (N / 2^k))):=ho;have K:Hq _:=hb;clear ha he hr ho hb;by_cases h6:k=0
  ·subst h6
   obtain⟨v,hv⟩:=eX (gp x (N / 2^0));rw[<-hv] at c;have G:Hq _:=hv;clear hv;go_wp2_with (first|refine qH rfl _ rfl a v rfl c.o ?_|refine rP rfl _ _ rfl (g+1+1) v _ (kP _) rfl rfl C.o ?_)
   exact AH results164 rfl (g+1+1) v rfl (ep.setRow C.o v) ⟨by rw[G.o],(K.o.trans ((hJ _ _ _).mono oM)).mono HG.o⟩
  ·obtain⟨i,rfl⟩:∃i,k=i+1:=⟨k-1,oM⟩
   have ei:((i+1:Nat):Int)-1=(i:Int):=oM
   rw[ei];have R:Hq (gp x (N / 2^(i+1))*gp x (N / 2^(i+1))=gp x (2*(N / 2^(i+1)))):=UR _ _;obtain⟨v,hv⟩:=eX (gp x (N / 2^(i+1)));rw[<-hv] at c R;clear hv;go_wp2_with (refine qH rfl _ rfl a v rfl c.o ?_)
   refine(e2.o _ _ _).mono ?_;rintro e w3 ⟨rfl,j⟩;rw[R.o];have a8:Hq (ep w3 g x):=s.o.below j s.o.lt;have c0:=ca j HE;have c9:=ca j C;have M:Hq (ep w3 a v):=c.o.below j c.o.lt;have b3:Hq (O g w w3):=K.o.trans (j.mono (cA s.o.lt));clear j s HE C c K R;obtain⟨u,hu⟩:=eX (gp x (2*(N / 2^(i+1))));rw[<-hu];have E:Hq _:=hu;clear hu;have m:Hq (O a w3 (w3.setRow a (rn u))):=hJ _ _ _;have f:Hq (ep (w3.setRow a (rn u)) g x):=a8.o.below m.o oM;have B:Hq ((w3.setRow a (rn u)).heap[g+1]? =_):=(m.o.block _ oM).trans c0.o;have Q:Hq ((w3.setRow a (rn u)).heap[g+1+1]? =_):=(m.o.block _ oM).trans c9.o;have n:Hq (ep (w3.setRow a (rn u)) a u):=ep.setRow M.o u;have L:Hq (O g w (w3.setRow a (rn u))):=b3.o.trans (m.o.mono oM);obtain⟨w4,W⟩:=eX (w3.setRow a (rn u));rw[<-W] at f B Q n L;have e4:Hq _:=W;clear W m a8 c0 c9 b3;have hc:w4.cell? ⟨g+1,i / 16,Y⟩=Z (I J (dg (N:Int) (i / 16))):=lx B.o (i / 16) oM;have e5:=kk (N:Int) (i / 16);have T:=Bm N i;obtain⟨d,hd⟩:=eX (dg (N:Int) (i / 16));rw[<-hd] at hc e5 T;clear hd;have h8:i<255:=oM
   have e6:(d / 2^(i % 16)).tmod 2=((N / 2^i % 2:Nat):Int):=by
    rw[Int.tmod_eq_emod_of_nonneg (kK e5.1 (dn (jx dc))),T]
   clear T;have h:Hq (N / 2^i=2*(N / 2^(i+1))+N / 2^i % 2):=B2 N i;by_cases h1:N / 2^i % 2=1
   ·rw[h1] at e6 h
    have S:Hq (u*x=gp x (N / 2^i)):=by
     show _=_;rw[h.o,oc,rM,E.o]
    clear h1 h E;go_wp2_with (first|(refine rP rfl _ _ rfl a u _ (jD _) rfl rfl M.o ?_;rw[<-e4.o])|refine qH rfl _ rfl a u rfl n.o ?_|refine qH rfl _ rfl g x rfl f.o ?_)
    refine(e2.o _ _ _).mono ?_;rintro e w5 ⟨rfl,l⟩;rw[S.o];have e7:Hq (ep w5 g x):=f.o.below l f.o.lt;have h4:=ca l B;have h5:=ca l Q;have c6:Hq (ep w5 a u):=n.o.below l n.o.lt;have e9:Hq (O g w w5):=L.o.trans (l.mono (cA f.o.lt));clear l;obtain⟨z,X⟩:=eX (gp x (N / 2^i));rw[<-X];have Hz:Hq _:=X;clear X;go_wp2_with (refine rP rfl _ _ rfl a z _ (jD _) rfl rfl c6.o ?_)
    have A:O a w5 (w5.setRow a (rn z)):=hJ _ _ _;refine⟨⟨i,oM,rfl,e7.o.below A oM,(A.block _ oM).trans h4.o,(A.block _ oM).trans h5.o,by rw[<-Hz.o];exact ep.setRow c6.o z,e9.o.trans (A.mono oM)⟩,?_⟩;show((i:Int)-1+1).toNat<((i:Int)+1).toNat;omega
   ·have b:N / 2^i % 2=0:=by omega
    rw[b] at e6 h;have S:Hq (u=gp x (N / 2^i)):=by
     show _=_;rw[h.o,E.o];rfl
    clear h1 b h E;go_wp2_with (refine rP rfl _ _ rfl a u _ (jD _) rfl rfl M.o ?_;rw[<-e4.o])
    refine⟨⟨i,oM,rfl,f.o,B.o,Q.o,by rw[<-S.o];exact n.o,L.o⟩,?_⟩;show((i:Int)-1+1).toNat<((i:Int)+1).toNat;omega
def hF(U:Int)(k j:Nat):Int:=if j<k then dg (U / 2) j else dg U j
theorem Gj(U:Int)(k:Nat):dg U k / 2+32768*(dg U (k+1) % 2)=dg (U / 2) k:=by
 have e:U / 2 / 65536^k=U / 65536^k / 2:=by
  rw[ck (show(0:Int)<=2 by decide),eD 2,<-ck (dn (rN dc k))]
 unfold dg;rw[wv,e];generalize U / 65536^k=a;omega
theorem OQ(U:Int)(h:0<=U/\U<65536^16):dg U 16 % 2=0:=by
 unfold dg;rw[wX h.1 h.2];rfl
theorem Rf(U:Int)(k j:Nat):(if j=k then dg (U / 2) k else hF U k j)=hF U (k+1) j:=by
 unfold hF;by_cases e:j=k
 ·subst e
  rw[if_pos rfl,if_pos oM]
 ·rw[if_neg e]
  by_cases h:j<k
  ·rw[if_pos h,if_pos oM]
  ·rw[if_neg h,if_neg oM]
theorem QN(U b:Int)(c:0<=dg U 0+b)(h1:dg U 0+b<65536)(j:Nat):(if j=0 then dg U 0+b else dg U j)=dg (U+b) j:=by
 by_cases e:j=0
 ·subst e
  rw[if_pos rfl];unfold dg at*;rw[eK,dQ] at*;omega
 ·rw[if_neg e]
  obtain⟨k,rfl⟩:∃k,j=k+1:=⟨j-1,oM⟩;unfold dg at*;rw[eK,dQ] at c h1;have a:∀V:Int,V / 65536^(k+1)=V / 65536 / 65536^k:=fun V=>by
   rw[fg,eD,ck dc]
  rw[a,a,show(U+b) / 65536=U / 65536 by omega]
theorem CA(b:Int)(bits:Nat)(h0:0<=65517+b)(h1:65517+b<65536)(b8:bits<=100)(w:D):Rt 165 #[I J b,I J (bits:Int)] w (H (nm ((pI+b) / 2^bits))):=by
 have W:Hq (∀w,Rt 97 #[] w (H (nm pI))):=uN;have p:Hq (dg pI 0=65517):=by
  show _=_;decide
 have y:Hq (0<=pI+b/\pI+b<65536^16):=by
  show 0<=pI+b/\pI+b<65536^16;rw[show(65536:Int)^16=115792089237316195423570985008687907853269984665640564039457584007913129639936 from by decide];unfold pI;omega
 generalize pI=P at*;obtain⟨V,C⟩:=eX (P+b);have HV:Hq _:=C;rw[<-C] at y⊢;clear C;go_enter func165,ntmps165
 go_wp2_with (refine mx _ rfl rfl ?_)
 generalize m:bU _ _=w0;obtain⟨g,F⟩:=eX w.heap.size;have d:=nZ m;rw[<-F] at d⊢;have A:Hq _:=d.1;have G:Hq _:=d.2;have HG:Hq (w.heap.size<=g):=bO F.symm;clear F m d;refine(W.o _).mono ?_;rintro e w1 ⟨rfl,E⟩;have B:=ca E A;have K:Hq (O g w w1):=G.o.trans (E.mono (cA (aL A.o)));clear E A G;obtain⟨a,z⟩:=eX w1.heap.size;have c4:g<a:=by
  rw[z];exact(aL B.o)
 generalize m:w1.alloc (Cl (num (dg P)) 95)=w2;have d:=nZ m;rw[<-z] at d;have x:Hq _:=d.1;have Q:Hq (w2.heap[g]? =_):=(d.2.block _ oM).trans B.o;have L:Hq (O g w w2):=K.o.trans (d.2.mono oM);have T:Hq _:=z;have X:Hq _:=m;clear z m d B K;have a6:=lx x.o 0 oM;have b2:=oa x.o 0;rw[p.o] at a6;go_wp2_with (first|refine mx _ rfl rfl ?_|(refine vf rfl _ _ rfl _ (dg P) rfl rfl ?_;rw[<-T.o,X.o]))
 clear T X a6 b2 W;have N:Hq ((w2.setCell ⟨a,0,Y⟩ (I J (65517+b))).heap[a]? =Z (Cl (nm (V / 2^0)) 95 (0,0))):=by
  refine(nV x.o 0 _).trans ?_;rw[eK,dQ,HV.o,<-p.o];exact congrArg (fun r=>Z (Obj.cells r 95 (0,0))) (lJ fun j _=>QN P b (by rw[p.o];exact h0) (by rw[p.o];exact h1) j)
 have R:Hq ((w2.setCell ⟨a,0,Y⟩ (I J (65517+b))).heap[g]? =_):=(aC _ _ _ g (by show g≠a;omega)).trans Q.o;have M:Hq (O g w (w2.setCell ⟨a,0,Y⟩ (I J (65517+b)))):=mS L.o _ _ oM _;generalize w2.setCell ⟨a,0,Y⟩ (I J (65517+b))=w3 at*;clear x Q L h0 h1 p;go_loopw [6] (fun i l=>∃n:Nat,n<=bits/\i=I J (n:Int)/\l.heap[g]? =Z (Cl (num fun _=>0) 95 (0,0))/\l.heap[a]? =Z (Cl (nm (V / 2^n)) 95 (0,0))/\O g w l) (fun i _=>bits-(intOf i).toNat)
 case atStart=>exact⟨0,oM,rfl,R.o,N.o,M.o⟩
 case round=>
  clear N R M;rename D=>wa
  obtain⟨n,hn,rfl,t,s,q⟩:=hrel;have f:Hq _:=t;have c:Hq _:=s;have h:Hq _:=q;clear t s q;by_cases c7:n<bits
  ·obtain⟨U,hU⟩:=eX (V / 2^n)
   have HU:Hq (U / 2=V / 2^(n+1)):=by
    show _=_;rw[hU,fg,ck (dn (jx dc))]
   have a8:Hq (0<=U/\U<65536^16):=by
    have h2:(0:Int)<2^n:=jx dc;rw[hU];exact⟨kK y.o.1 (dn h2),Int.lt_of_le_of_lt (Int.ediv_le_self _ y.o.1) y.o.2⟩
   rw[<-hU] at c;clear hU;go_wp2_with fail
   go_loopw [7,8] (fun i lo l=>∃k:Nat,k<=16/\i=I J (k:Int)/\l.heap[g]? =Z (Cl (num fun _=>0) 95 (0,0))/\l.heap[a]? =Z (Cl (num (hF U k)) 95 (0,0))/\O g w l) (fun i _ _=>16-(intOf i).toNat)
   case atStart=>exact⟨0,oM,rfl,f.o,c.o,h.o⟩
   case round=>
    clear f c h;rename D=>wa
    obtain⟨k,hk,rfl,t,s,q⟩:=hrel;have f:Hq _:=t;have c:Hq _:=s;have h:Hq _:=q;clear t s q;by_cases b3:k<16
    ·have b0:=lx c.o k b3
     have c0:=oa c.o k;rw[hF,if_neg (Nat.lt_irrefl k)] at b0;have b6:=kk U k;have Hs:Hq (∀j,(if j=k then dg (U / 2) k else hF U k j)=hF U (k+1) j):=Rf U k;by_cases c6:k<15
     ·have b1:=lx c.o (k+1) oM
      rw[hF,if_neg oM] at b1;have b7:=kk U (k+1);have S:=Gj U k;generalize dg U k=u at*;generalize dg U (k+1)=v at*;go_wp2_with fail
      refine⟨⟨k+1,oM,by rw[bB];rfl,?_,?_,?_⟩,?_⟩
      ·exact(aC _ _ _ g (by show g≠a;omega)).trans f.o
      ·refine(nV c.o k _).trans ?_
       rw[lJ];intro j _;exact Hs.o j
      ·exact mS h.o _ _ oM _
      ·show 16-((k:Int)+1).toNat<16-(k:Int).toNat
       omega
     ·obtain rfl:k=15:=by omega
      have S:=Gj U 15;rw[OQ U a8.o,Int.mul_zero,Int.add_zero] at S;generalize dg U 15=u at*;go_wp2_with fail
      refine⟨⟨16,oM,rfl,?_,?_,?_⟩,dc⟩
      ·exact(aC _ _ _ g (by show g≠a;omega)).trans f.o
      ·refine(nV c.o 15 _).trans ?_
       rw[lJ];intro j _;exact Hs.o j
      ·exact mS h.o _ _ oM _
    ·obtain rfl:k=16:=by omega
     have a7:Hq (wa.heap[a]? =Z (Cl (nm (V / 2^(n+1))) 95 (0,0))):=by
      rw[<-HU.o];exact c.o.trans (congrArg (fun r=>Z (Obj.cells r 95 (0,0))) (lJ fun j hj=>if_pos hj))
     go_wp2_with fail
     refine⟨⟨n+1,oM,by rw[bB];rfl,f.o,a7.o,h.o⟩,?_⟩;show bits-((n:Int)+1).toNat<bits-(n:Int).toNat;omega
  ·obtain rfl:n=bits:=by omega
   go_wp2_with (first|refine pT rfl _ rfl a _ rfl c.o ?_|refine mH rfl _ _ rfl g _ _ rfl rfl f.o ?_)
   exact jM results165 rfl g 95 _ (0,0) _ rfl (setRow_heap _ _ _ _ _ _ f.o) underlying95 rfl (by rw[kP];kernel_rfl) ⟨rfl,(h.o.trans ((hJ _ _ _).mono oM)).mono HG.o⟩
theorem BX(w:D):Rt 50 #[] w (H (rn dD)):=by
 have a:Hq (rn dD= #[I J 30883,I J 4953,I J 19914,I J 30187,I J 55467,I J 16705,I J 2637,I J 112,I J 59544,I J 30585,I J 16505,I J 36039,I J 65139,I J 11119,I J 27886,I J 20995]):=by
  show _=_;rw[mJ,uK];exact lJ (of_decide_eq_true kr)
 obtain⟨x,b⟩:=eX dD;rw[<-b] at a⊢;clear b;go_enter func50,ntmps50
 refine wp_seq (wp_region_list ?_);refine mx _ rfl rfl ?_;simp only[Act.put,List.setIfInBounds_toArray,List.set_cons_zero];refine Qt.done ?_;refine wp_seq (wp_region_list ?_);refine qz rfl 95 _ rfl (rn x) (by rw[a.o];kernel_rfl) ?_;simp only[zD];refine wm rfl _ _ rfl _ x rfl rfl ?_;simp only[Act.put];refine Qt.done ?_;go_wp2_with fail
 exact AH results50 rfl w.heap.size x rfl (heap_alloc_new _ _) ⟨rfl,(Below.refl _ _).alloc lR _⟩
theorem XW(f:Nat->Vl):dk 16 f= #[f 0,f 1,f 2,f 3,f 4,f 5,f 6,f 7,f 8,f 9,f 10,f 11,f 12,f 13,f 14,f 15]:=
 (zN [f 0,f 1,f 2,f 3,f 4,f 5,f 6,f 7,f 8,f 9,f 10,f 11,f 12,f 13,f 14,f 15] 16 rfl f fun j a=>by
  rcases j with _|_|_|_|_|_|_|_|_|_|_|_|_|_|_|_|j<;>first|rfl|(simp at a;omega)).symm
theorem Cs(x:F):∃v0 a h v3 v4 v5 i k l v9 b c d e f g:Vl,rn x= #[v0,a,h,v3,v4,v5,i,k,l,v9,b,c,d,e,f,g]:=by
 rw[mJ,show nm (x.val:Int)=dk 16 (fun j=>bf .i64 (dg x.val j)) from rfl,XW];exact⟨_,_,_,_,_,_,_,_,_,_,_,_,_,_,_,_,rfl⟩
theorem LV:rn 0=num fun _=>0:=by
 rw[mJ];exact lJ dc
theorem EJ:∃f:T3->Array Vl,∀e,f e=rn e.x++rn e.y++rn e.z:=⟨_,fun _=>rfl⟩
noncomputable def tp:T3->Array Vl:=eS EJ
theorem rA(e:T3):tp e=rn e.x++rn e.y++rn e.z:=et EJ e
theorem lE(e:T3):(tp e).size=48:=by rw[rA];simp[jD]
theorem qh(e:T3):(tp e).all (·.oneCell')=true:=by
 rw[rA];simp only[Array.all_append,qK,Bool.and_self]
theorem Jl(x y z:F):prog.built 100 [(0,H (rn x)),(1,H (rn y)),(2,H (rn z))]=Z (tp ⟨x,y,z⟩):=by
 rw[rA];obtain⟨a0,a1,a2,a3,a4,a5,j,k,l,a9,d,e,f,g,h,i,a⟩:=Cs x;obtain⟨m,b1,t,u,b4,b5,v,w,A,b9,n,o,p,q,r,s,b⟩:=Cs y;obtain⟨c0,B,K,L,M,N,O,P,Q,R,C,D,E,G,I,J,c⟩:=Cs z;simp only[a,b,c];kernel_rfl
def t0:T3:=⟨0,0,0⟩
def ry:Array Vl:=(cY 48 (bf .i64 0)).toArray
theorem wZ:tp t0=ry:=by
 rw[rA];simp only[t0,LV,Cj];rfl
theorem Qa:(prog.info? 100).map (fun i=>i.zero)=Z (Z (H ry)):=kr
theorem oV:(prog.info? 95).map (fun i=>i.zero)=Z (Z (H (num fun _=>0))):=by
 rw[Cj];kernel_rfl
def ej(w:D)(b:Nat)(e:T3):Prop:=w.heap[b]? =Z (Cl (tp e) 100 (0,0))
theorem ej.lt{e:T3}(h:ej w b e):b<w.heap.size:=(aL h)
theorem ej.below{e:T3}(h:ej w b e){k:Nat}(a:O k w w')(c:b<k):ej w' b e:=(a.block b c).trans h
theorem ej.zero(h:w.heap[b]? =Z (Cl ry 100 (0,0))):ej w b t0:=by unfold ej;rw[wZ];exact h
theorem ej.setRow{w:D}{b:Nat}{e:T3}(h:ej w b e)(f:T3):ej (w.setRow b (tp f)) b f:=setRow_heap _ _ _ _ _ _ h
theorem ej.range{e:T3}(h:ej w b e)(off:Nat)(v:F)(hv:∀j,j<16->(tp e)[off+j]? =(rn v)[j]?):w.rangeAt b off (rn v).toList:=fun j u hu=>by
 have a:j<16:=by
  have:=(lL hu);rw[bw,jD] at this;exact this
 rw[cell_of_row w b (off+j) _ _ _ h,hv j a];simpa using hu
theorem ej.x{w:D}{b:Nat}{e:T3}(h:ej w b e):w.rangeAt b 0 (rn e.x).toList:=h.range 0 e.x fun j a=>by
 rw[rA,bD (by simp[jD];omega),bD (by simp[jD];omega)];congr 1;omega
theorem ej.y{w:D}{b:Nat}{e:T3}(h:ej w b e):w.rangeAt b 16 (rn e.y).toList:=h.range 16 e.y fun j a=>by
 rw[rA,bD (by simp[jD];omega),di (by simp[jD])];congr 1;simp[jD]
theorem ej.z{w:D}{b:Nat}{e:T3}(h:ej w b e):w.rangeAt b 32 (rn e.z).toList:=h.range 32 e.z fun j a=>by
 rw[rA,di (by simp[jD])];congr 1;simp[jD]
theorem kj{K:Act->Prop}{l:List Oper}(d:o.guard=Y)(x:Operand)(e:o.op= .load 95 x)(b:Nat)(v:F)(f:a.eval x=X (Z ⟨b,0,Y⟩))(c:ep W b v)
  (h:Lex prog W K l (a.put o.dst (H (rn v)))):Lex prog W K (o::l) a:=
 nn d 95 x e b f 95 (rn v) (0,0) _ c underlying95 rfl (by rw[jD];kernel_rfl) h
theorem qo{K:Act->Prop}{l:List Oper}(d:o.guard=Y)(x:Operand)(e:o.op= .load 95 x)(b off:Nat)(v:F)(g:a.eval x=X (Z ⟨b,off,Y⟩))(c:b<W.heap.size)(f:W.rangeAt b off (rn v).toList)
  (h:Lex prog W K l (a.put o.dst (H (rn v)))):Lex prog W K (o::l) a:=
 Qt.um d 95 x e b off g (rn v).toList _ c f underlying95 rfl (by rw[bw,jD];kernel_rfl) h
theorem ue{W:D}{K:Act->Prop}{l:List Oper}(d:o.guard=Y)(b:Array (Nat×Operand))(f:o.op= .build 100 b)(e:T3)(c:(b.map fun(i,x)=>(i,a.eval x)).toList=[(0,H (rn e.x)),(1,H (rn e.y)),(2,H (rn e.z))])
  (h:Lex prog W K l (a.put o.dst (H (tp e)))):Lex prog W K (o::l) a:=by
 refine Qt.kb d (H (tp e)) (fun w' _=> ?_) h;have g:=run_build (P:=prog) w' 100 (b.map fun(i,x)=>(i,a.eval x)) (tp e) (by rw[c];exact Jl e.x e.y e.z);unfold execOp;simp only[f,Sem.run_bind,Sem.run_pure,Result.andThen_ok,g]
theorem KS{K:Act->Prop}{l:List Oper}(d:o.guard=Y)(x:Operand)(e:o.op= .load 100 x)(b:Nat)(v:T3)(f:a.eval x=X (Z ⟨b,0,Y⟩))(c:ej W b v)
  (h:Lex prog W K l (a.put o.dst (H (tp v)))):Lex prog W K (o::l) a:=
 nn d 100 x e b f 100 (tp v) (0,0) _ c underlying100 rfl (by rw[lE];kernel_rfl) h
theorem tb{ops:Array Oper}{rest:List Oper}{Q:Exit->Act->D->Prop}(d:o.guard=Y)(x y:Operand)(e:o.op= .store 100 x y)(b:Nat)(v hQ:T3)(f:a.eval x=X (Z ⟨b,0,Y⟩))(g:a.eval y=H (tp v))(c:ej w b hQ)
  (h:wpList prog ops Q rest (a.put o.dst undef) (w.setRow b (tp v))):wpList prog ops Q (o::rest) a w:=
 wpList_store_row d 100 x y e b (tp v) f g 100 (tp hQ) c (by rw[lE];kernel_rfl) ((lE _).trans (lE _).symm) (qh v) h
theorem uY{ops:Array Oper}{rest:List Oper}{Q:Exit->Act->D->Prop}(d:o.guard=Y)(x:Operand)(e:o.op= .load 100 x)(b:Nat)(v:T3)(f:a.eval x=X (Z ⟨b,0,Y⟩))(c:ej w b v)
  (h:wpList prog ops Q rest (a.put o.dst (H (tp v))) w):wpList prog ops Q (o::rest) a w:=
 wpList_load_row d 100 x e b f 100 (tp v) (0,0) _ c underlying100 rfl (by rw[lE];kernel_rfl) h
theorem wq(h:fn.results= #[.cell p 100])(hd:a.defers=[])(g:Nat)(v:T3)(c:a.tmps.getD p undef=X (Z ⟨g,0,Y⟩))(b:ej w g v)(d:post (Re (H (tp v))) w):
  bodyPost prog fn post .ret a w:=
 jM h hd g 100 (tp v) (0,0) _ c b underlying100 rfl (by rw[lE];kernel_rfl) d
theorem ny{ops:Array Oper}{rest:List Oper}{os:Oper}{w0 w:D}{Q:Exit->Act->D->Prop}{x y:Operand}(d:os.guard=Y)(f:os.op= .store 95 x y)(b:Nat)(v:F)(i:a.eval x=X (Z ⟨b,0,Y⟩))(j:a.eval y=H (rn v))
  (g:O w0.heap.size w0 w) (e:w0.heap.size<=b) (c:w.heap[b]? =Z (Cl (num fun _=>0) 95 (0,0)))
  (h:∀w2,ep w2 b v->O w0.heap.size w0 w2->wpList prog ops Q rest (a.put os.dst undef) w2):wpList prog ops Q (os::rest) a w:=
 rP d x y f b v _ (kP _) i j c (h _ (ep.setRow c v) (g.trans ((hJ _ _ _).mono e)))
theorem ep.other{e:F}(h:ep w b e)(a:b≠c)(cs:Array Vl):ep (w.setRow c cs) b e:=by
 unfold ep at*;rw[<-h];show(kW _ _ _)[b]? =_;rw[cn,if_neg (Ne.symm a)]
theorem ej.other{e:T3}(h:ej w b e)(a:b≠c)(cs:Array Vl):ej (w.setRow c cs) b e:=by
 unfold ej at*;rw[<-h];show(kW _ _ _)[b]? =_;rw[cn,if_neg (Ne.symm a)]
theorem GY(x:F)(w:D):Rt 96 #[H (rn x)] w (H (rn (inv x))):=by
 have d:Hq (∀w,Rt 165 #[I J (-2),I J 0] w (H (nm ((P-2:Nat):Int)))):=CA (-2) 0 dc dc dc;obtain⟨v,hv⟩:=eX (inv x);have e:Hq (∀w,Rt 164 #[H (rn x),H (nm ((P-2:Nat):Int))] w (H (rn v))):=by
  rw[hv];exact Cb x (P-2) dc
 rw[<-hv];clear hv;obtain⟨E,f⟩:=eX (nm ((P-2:Nat):Int));rw[<-f] at d e;clear f;go_enter func96,ntmps96
 go_wp2_with (refine mx _ rfl rfl ?_)
 simp only[zD];rw[World.size_alloc];generalize g:bU (bU _ _) _=w0;have a:=tU g;have h:Hq (ep w0 w.heap.size x):=a.1;have k:Hq _:=a.2.1;have i:Hq _:=a.2.2;clear g a;refine Qt.im 3 kr kr ?_;refine kj rfl _ rfl w.heap.size x rfl h.o ?_;refine ev rfl 165 #[I J (-2),I J 0] (H E) (fun _=>kr) (fun w' _=>d.o w') ?_;simp only[zD];refine ev rfl 164 #[H (rn x),H E] (H (rn v)) (fun _=>kr) (fun w' _=>e.o w') ?_;simp only[zD];refine Qt.gh ?_;intro w1 b;have c:=ca b k;have j:=tq i b;clear b;refine rP rfl _ _ rfl (w.heap.size+1) v _ (kP _) rfl rfl c.o ?_;go_wp2_with fail
 exact AH results96 rfl (w.heap.size+1) v rfl (ep.setRow c.o v) ⟨rfl,j.o.trans ((hJ _ _ _).mono oM)⟩
