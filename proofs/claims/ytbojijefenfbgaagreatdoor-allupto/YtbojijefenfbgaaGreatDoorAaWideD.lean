/- Walks of the program's wide numbers: mulAdd, Mul, Join. What the program's wide product is worth; bits of a number of eight words. Walks of the program's scalars: Order, reduce. Walks of the program's scalars: Join, FromHash, AddMul. What the program's Sum of terms stands for. -/
import Derived.Test.YtbojijefenfbgaaGreatDoorAaWideB
open Go.RowKit.Below renaming heap_setCell->aC,refl->ai
open Nat renaming mul_le_mul_right->gk,pow_succ->bW,mul_comm->bJ,add_mul->dB,one_mul->fm,add_mul_div_right->en,div_eq_of_lt->fD,pow_add->fp,mul_assoc->dU,mul_left_comm->ek,pow_mul->dV,div_div_eq_div_mul->bZ,lt_trans->jK,shiftRight_eq_div_pow->fh,add_mod->fB,pow_zero->jL,div_one->j4
open BitVec renaming toNat_and->dr,toNat_ushiftRight->eR
open Option renaming some->Z,none->Y
open Go.Value renaming int->I,pointer->X,agg->H,string->sT
open Go.IntKind renaming i64->J,u64->Uq
open Go.Obj renaming cells->Cl
open Go renaming World->D,Value->Vl
open Go.RowKit renaming Below->O
set_option maxHeartbeats 4000000
set_option maxRecDepth 100000
open Go Go.RowKit
variable{W:Nat->BitVec 64}{b c o:Nat}{w:D}
namespace Go.Proofs.YtbojijefenfbgaaGreatDoor
open Tryz
namespace Ww
open Fw Bt
attribute [local go_sem] UV.ni UV.nX UV.ot UV.nM UV.nj UV.mW UV.mE UV.mZ UV.nY UV.om UV.nW rL sO va
def Wl(x y p q:BitVec 64):BitVec 64:=x*y+p+bv false+q+bv false
def Wk(x y p q:BitVec 64):BitVec 64:=mQ x y+bv (carry (x*y) p false)+bv (carry (x*y+p+bv false) q false)
def dF(W:Nat->BitVec 64)(k:Nat):Vl:=I Uq (un (W k))
def mM(w:D)(b:Nat)(W:Nat->BitVec 64):Prop:=w.heap[b]? =Z (Cl (Own.dk 8 (dF W)) 265 (0,0))
theorem mM.lt(h:mM w b W):b<w.heap.size:=(aL h)
theorem mM.below{w':D}(h:mM w b W){k:Nat}(a:O k w w')(c:b<k):mM w' b W:=(a.block b c).trans h
theorem mM.cell{w:D}{b:Nat}{W:Nat->BitVec 64}(h:mM w b W)(k:Nat)(a:k<8):w.cell? ⟨b,k,Y⟩=Z (I Uq (un (W k))):=Own.jI h k a
theorem fY.C9{q:Q}(h:fY w b q)(a:b≠c)(v:Vl):fY (w.setCell ⟨c,o,Y⟩ v) b q:=by
 show _=_;rw[aC _ _ _ _ (by exact a)];exact h
theorem mM.C9(h:mM w b W)(a:b≠c)(v:Vl):mM (w.setCell ⟨c,o,Y⟩ v) b W:=by
 show _=_;rw[aC _ _ _ _ (by exact a)];exact h
end Ww
namespace Ww
open Fw Bt
def nU(B:Nat)(W:Nat->BitVec 64):Nat->Nat
 |0=>0
 |n+1=>nU B W n+(W n).toNat*B^n
section
variable (B:Nat) (hB:∀x y p q:BitVec 64,(Wl x y p q).toNat+B*(Wk x y p q).toNat=x.toNat*y.toNat+p.toNat+q.toNat)
include hB
end
theorem TR(B:Nat)(hB:0<B)(W:Nat->BitVec 64)(c:∀k,(W k).toNat<B)(k n:Nat)(g:k<n):∃r,nU B W n / B^k=(W k).toNat+B*r:=by
 have a:∀m,0<B^m:=fun m=>Nat.pow_pos hB;have d:∀m,nU B W m<B^m:=fun m=>by
  induction m with
  |zero=>exact Nat.one_pos
  |succ m ih=>
   show nU B W m+(W m).toNat*B^m<B^(m+1);have h2:((W m).toNat+1)*B^m<=B*B^m:=gk _ (c m);rw[bW,bJ (B^m) B];rw[dB,fm] at h2;omega
 induction n with
 |zero=>omega
 |succ n ih=>
  by_cases e:k=n
  ·subst e
   refine⟨0,?_⟩;show(nU B W k+(W k).toNat*B^k) / B^k=_;rw[en _ _ (a k),fD (d k)];omega
  ·obtain⟨r,f⟩:=ih oM
   refine⟨r+(W n).toNat*B^(n-1-k),?_⟩;show(nU B W n+(W n).toNat*B^n) / B^k=_;have e0:B^n=B*B^(n-1-k)*B^k:=by
    rw[bJ B,<-bW,<-fp];congr 1;omega
   have b:(W n).toNat*B^n=(B*((W n).toNat*B^(n-1-k)))*B^k:=by
    rw[e0];simp only[dU,ek]
   rw[b,en _ _ (a k),f,Nat.mul_add,Nat.add_assoc]
def BB:Nat:=18446744073709551616
theorem ym:BB=18446744073709551616:=rfl
theorem BU(x r s:Nat)(a:s<64):(x+BB*r) / 2^s % 2=x / 2^s % 2:=by
 have e:BB*r=(2*(2^(63-s)*r))*2^s:=by
  have h:BB=2*2^(63-s)*2^s:=by
   rw[dU,<-fp,show 63-s+s=63 by omega,ym]
  rw[h];generalize 2^(63-s)=u;generalize 2^s=v;simp only[dU,ek,bJ]
 rw[e,en _ _ (Nat.two_pow_pos s)];omega
theorem OG(W:Nat->BitVec 64)(i:Nat)(hi:i<512):nU BB W 8 / 2^i % 2=(W (i / 64)).toNat / 2^(i % 64) % 2:=by
 obtain⟨r,a⟩:=TR BB dc W (fun k=>by rw[ym];exact(W k).isLt) (i / 64) 8 oM;have e:(2:Nat)^i=BB^(i / 64)*2^(i % 64):=by
  rw[show BB=2^64 from rfl,<-dV,<-fp];congr 1;omega
 rw[e,<-bZ,a,BU _ _ _ oM]
end Ww
namespace Sw
open Fw Bt Ww
abbrev LL:Nat:=7237005577332262213973186563042994240857116359379907606001950938285454250989
theorem Eg:LL=7237005577332262213973186563042994240857116359379907606001950938285454250989:=rfl
theorem GC(w:D):Rt 107 #[] w (H (nq LL).cells):=by
 go_enter func107,ntmps107
 go_wp2_with fail
 exact Own.jM results107 rfl w.heap.size 184 _ (0,0) _ rfl (heap_alloc_new _ _) underlying184 rfl kr ⟨rfl,(ai _ _).alloc lR _⟩
theorem EN:(nq LL).num=LL:=qI dc
theorem Wd(r:Nat)(h:r<LL):rm (nq r) (nq r)=nq (2*r):=by
 have a:r<115792089237316195423570985008687907853269984665640564039457584007913129639936:=jK h dc;have h1:=Ua (nq r) (nq r);rw[qI a] at h1;have h2:=qJ (rm (nq r) (nq r));refine sq ?_;rw[Eg] at h;omega
theorem NJ(x b:BitVec 64)(c:x.toNat % 2=0)(a:b.toNat<=1):(x|||b).toNat=x.toNat+b.toNat:=by
 rw[BitVec.toNat_or];have h:=Nat.shiftLeft_add_eq_or_of_lt (show b.toNat<2^1 by omega) (x.toNat / 2);rw[Nat.shiftLeft_eq] at h;have e:x.toNat=x.toNat / 2*2^1:=oM
 rw[<-e] at h;exact h.symm
theorem Se(n:Nat)(b:BitVec 64)(c:n % 2=0)(h:n<115792089237316195423570985008687907853269984665640564039457584007913129639936-1)(a:b.toNat<=1):(⟨(nq n).a0|||b,(nq n).a1,(nq n).a2,(nq n).a3⟩:Q)=nq (n+b.toNat):=by
 refine sq ?_;have h1:=qI (n:=n) oM;generalize nq n=q at h1⊢;unfold Q.num at*;simp only;rw[NJ q.a0 b oM a];omega
theorem Vd(n:Nat)(h:n<2*LL):uC (nq n) (nq LL)=nq (n % LL):=by
 refine sq ?_;have a:n<115792089237316195423570985008687907853269984665640564039457584007913129639936:=jK h dc;rw[SZ _ _ (by rw[qI a,EN];exact h),qI a,EN]
def rU(W:Nat->BitVec 64)(i:Nat):BitVec 64:=W (i / 64)>>>(i % 64)&&&1#64
theorem Um(W:Nat->BitVec 64)(i:Nat)(hi:i<512):(rU W i).toNat=nU BB W 8 / 2^i % 2:=by
 rw[OG W i hi];unfold rU;rw[dr,eR,fh,show(1#64).toNat=1 from rfl,Nat.and_one_is_mod]
theorem Vy(N i:Nat):(2*(N / 2^(i+1) % LL)+N / 2^i % 2) % LL=N / 2^i % LL:=by
 have e:N / 2^i=2*(N / 2^(i+1))+N / 2^i % 2:=by
  rw[bW,<-bZ];omega
 have h2:(2*(N / 2^(i+1) % LL)+N / 2^i % 2) % LL=(2*(N / 2^(i+1))+N / 2^i % 2) % LL:=by
  rw[fB,Nat.mul_mod_mod,<-fB]
 rw[h2,<-e]
theorem Mj(W:Nat->BitVec 64)(n:Nat)(c:n=64*8):nU BB W 8 / 2^n=0:=by
 have b:∀m,nU BB W m<BB^m:=fun m=>by
  induction m with
  |zero=>exact Nat.one_pos
  |succ m ih=>
   have hB:∀B,(∀k,(W k).toNat<B)->nU B W m<B^m->nU B W (m+1)<B^(m+1):=fun B a ih=>by
    show nU B W m+(W m).toNat*B^m<B^(m+1);have h2:((W m).toNat+1)*B^m<=B*B^m:=gk _ (a m);rw[bW,bJ (B^m) B];rw[dB,fm] at h2;omega
   exact hB BB (fun k=>by rw[ym];exact(W k).isLt) ih
 have h:=b 8;have e:BB^8=2^(64*8):=(congrArg (· ^8) (show BB=2^64 from rfl)).trans (dV 2 64 8).symm;rw[e,<-c] at h;exact fD h
theorem fY.Ws{q:Q}(h:fY w b q)(v:BitVec 64):fY (w.setCell ⟨b,0,Y⟩ (I Uq (un v))) b ⟨v,q.a1,q.a2,q.a3⟩:=heap_setCell_same w b 0 q.cells 184 (I Uq (un v)) h
theorem mM.other(h:mM w b W)(a:b≠c)(cs:Array Vl):mM (w.setRow c cs) b W:=by
 unfold mM at*;rw[<-h,setRow_other _ _ _ _ a]
theorem fY.other{q:Q}(h:fY w b q)(a:b≠c)(cs:Array Vl):fY (w.setRow c cs) b q:=by
 unfold fY at*;rw[<-h,setRow_other _ _ _ _ a]
theorem R'{r:Nat}(h:r<LL)(b:Nat)(a:b<=1):2*r+b<2*LL:=oM
theorem OC(x:BitVec 64):bits .and .u64 (un x) 1=un (x&&&1#64):=UV.nj x 1#64
abbrev E3(w:D)(W:Nat->BitVec 64):D:=((w.alloc (Cl (Own.dk 8 (dF W)) 265)).alloc (Cl zQ.cells 184)).alloc (Cl zQ.cells 184)
theorem VI(w:D)(W:Nat->BitVec 64):mM (E3 w W) w.heap.size W:=mM.below (jv w _ _ rfl) (((ai (w.heap.size+1) _).alloc sP _).alloc sP _) oM
theorem VJ(w:D)(W:Nat->BitVec 64):fY (E3 w W) (w.heap.size+1) zQ:=fY.below (jv _ _ _ sP) ((ai (w.heap.size+2) _).alloc sP _) oM
theorem VK(w:D)(W:Nat->BitVec 64):fY (E3 w W) (w.heap.size+1+1) zQ:=jv _ _ _ sP
theorem VH(w:D)(W:Nat->BitVec 64):O w.heap.size w (E3 w W):=(((ai _ _).alloc lR _).alloc sP _).alloc (by simp;omega) _
theorem PM(W:Nat->BitVec 64)(w:D):Rt 167 #[H (Own.dk 8 (dF W))] w (H (nq (nU BB W 8 % LL)).cells):=by
 obtain⟨N,u⟩:=eX (nU BB W 8);have b0:Hq (N / 2^512=0):=by rw[u];exact Mj W 512 rfl
 have S:Hq (∀i,i<512->(rU W i).toNat=N / 2^i % 2):=by rw[u];exact Um W
 rw[<-u];clear u;obtain⟨v,B⟩:=eX ((nq LL).cells);have b3:Hq (∀w,Rt 107 #[] w (H v)):=by rw[B];exact GC
 have b1:Hq (∀n,n<2*LL->∀w,Rt 202 #[H (nq n).cells,H v] w (H (nq (n % LL)).cells)):=by
  intro n hn w;rw[B,<-Vd n hn];exact uX _ _ w
 clear B;have f:Hq (mM (E3 w W) w.heap.size W):=VI w W;have b:Hq (fY (E3 w W) (w.heap.size+1) zQ):=VJ w W;have a:Hq (fY (E3 w W) (w.heap.size+1+1) zQ):=VK w W;have d:Hq (O w.heap.size w (E3 w W)):=VH w W;go_enter func167,ntmps167
 go_wp2_with fail
 go_loopw [4] (fun F x=>∃k:Nat,k<=512/\F=I J ((k:Int)-1)/\fY x (w.heap.size+1+1) (nq (N / 2^k % LL))/\mM x w.heap.size W/\fY x (w.heap.size+1) zQ/\O w.heap.size w x) (fun F _=>(intOf F+1).toNat)
 case atStart=>exact⟨512,oM,rfl,by rw[b0.o];exact a.o,f.o,b.o,d.o⟩
 case round=>
  clear f b a d;rename D=>l
  obtain⟨k,hk,rfl,ht,hd,c,U⟩:=hrel;have a:Hq (fY l (w.heap.size+1+1) (nq (N / 2^k % LL))):=ht;have f:Hq (mM l w.heap.size W):=hd;have b:Hq (fY l (w.heap.size+1) zQ):=c;have d:Hq (O w.heap.size w l):=U;clear ht hd c U;rcases k with _|i
  ·rw[show N / 2^0 % LL=N % LL by rw[jL,j4]] at a
   go_wp2_with (first|refine oz rfl _ rfl (w.heap.size+1+1) (nq (N % LL)) rfl a.o ?_|refine pP rfl _ _ rfl (w.heap.size+1) (nq (N % LL)) zQ rfl rfl b.o ?_)
   exact uG results167 rfl (w.heap.size+1) (nq (N % LL)) rfl (b.o.setRow _) ⟨rfl,d.o.trans ((hJ _ _ _).mono oM)⟩
  ·have T:(((i+1:Nat):Int)-1)=(i:Int):=by omega
   rw[T];clear T;have hi:i<512:=oM
   obtain⟨r,c⟩:=eX (N / 2^(i+1) % LL);have E:r<LL:=by rw[c];exact Nat.mod_lt _ dc
   have b6:Hq ((2*r+N / 2^i % 2) % LL=N / 2^i % LL):=by rw[c];exact Vy N i
   rw[<-c] at a;clear c;go_wp2_with (refine oz rfl _ rfl (w.heap.size+1+1) (nq r) rfl a.o ?_)
   refine(Oq (nq r) (nq r) _).mono ?_;rintro e w1 ⟨rfl,V⟩;rw[Wd r E];have p:Hq (O l.heap.size l w1):=V;have z:Hq (fY w1 (w.heap.size+1+1) (nq r)):=a.o.below p.o a.o.lt;clear V;obtain⟨w2,h⟩:=eX (w1.setRow (w.heap.size+1+1) (nq (2*r)).cells);have g:Hq (fY w2 (w.heap.size+1+1) (nq (2*r))):=by rw[h];exact z.o.setRow _
   have m:Hq (mM w2 w.heap.size W):=by rw[h];exact mM.other (f.o.below p.o f.o.lt) oM _
   have y:Hq (fY w2 (w.heap.size+1) zQ):=by rw[h];exact fY.other (b.o.below p.o b.o.lt) oM _
   have G:Hq (O w.heap.size w w2):=by rw[h];exact(tR d p).trans ((hJ _ _ _).mono oM)
   have P:Hq _:=h;clear h;go_wp2_with (refine pP rfl _ _ rfl (w.heap.size+1+1) (nq (2*r)) (nq r) rfl rfl z.o ?_;rw[<-P.o])
   clear P z p a f b d;obtain⟨q2,C⟩:=eX (nq (2*r));have b2:Hq ((⟨q2.a0|||rU W i,q2.a1,q2.a2,q2.a3⟩:Q)=nq (2*r+N / 2^i % 2)):=by
    show _=_;rw[C,Se (2*r) (rU W i) oM (by rw[Eg] at E;omega) (by rw[S.o i hi];omega),S.o i hi]
   rw[<-C] at g;clear C;refine Qt.im 12 kr kr ?_;refine yw (X (Z ⟨w.heap.size+1+1,0,Y⟩)) ?_;refine Cw.yf rfl _ rfl (w.heap.size+1+1) 0 (I Uq (un q2.a0)) rfl g.o.lt (wJ g.o 0 oM) ?_;simp only[zD];refine yV (I J (i:Int)) ?_;refine Qt.kb rfl (I J ((i / 64:Nat):Int)) (fun w' _=>by go_simp;rw[IntKind.wrap_i64];omega) ?_;simp only[zD];refine Qt.qc rfl 265 _ _ rfl 159 8 1 underlying265 kr kr w.heap.size 0 (i / 64) .i64 rfl rfl oM ?_;rw[show 0+i / 64*1=i / 64 by omega];refine Cw.yf rfl _ rfl w.heap.size (i / 64) (I Uq (un (W (i / 64)))) rfl m.o.lt (m.o.cell (i / 64) oM) ?_;simp only[zD];refine yV (I J (i:Int)) ?_;refine Qt.kb rfl (I J ((i % 64:Nat):Int)) (fun w' _=>by go_simp;exact Int.tmod_eq_emod_of_nonneg oM) ?_;simp only[zD];refine Qt.kb rfl (I Uq (un (W (i / 64)>>>(i % 64)))) (fun w' _=> ?_) ?_
   ·go_simp
    rw[show((i:Int) % 64).toNat=i % 64 by omega];exact UV.mE _ _
   simp only[zD];refine Qt.kb rfl (I Uq (un (rU W i))) (fun w' _=>by go_simp;exact OC _) ?_;simp only[zD];refine Qt.kb rfl (I Uq (un (q2.a0|||rU W i))) (fun w' _=>by go_simp;exact UV.mW _ _) ?_;simp only[zD];refine yV (X (Z ⟨w.heap.size+1+1,0,Y⟩)) ?_;refine Qt.gh ?_;intro w3 a6;have q:Hq (O w2.heap.size w2 w3):=a6;clear a6;have s:Hq (fY w3 (w.heap.size+1+1) q2):=g.o.below q.o g.o.lt;have b7:w3.cell? ⟨w.heap.size+1+1,0,Y⟩=Z (I Uq (un q2.a0)):=wJ s.o 0 oM;have b8:w3.frozen? ⟨w.heap.size+1+1,0,Y⟩=false:=Cw.fY.frozen s.o 0;obtain⟨w4,j⟩:=eX (w3.setCell ⟨w.heap.size+1+1,0,Y⟩ (I Uq (un (q2.a0|||rU W i))));have A:Hq (fY w4 (w.heap.size+1+1) (nq (2*r+N / 2^i % 2))):=by rw[j,<-b2.o];exact fY.Ws s.o _
   have K:Hq (mM w4 w.heap.size W):=by rw[j];exact(m.o.below q.o m.o.lt).C9 oM _
   have L:Hq (fY w4 (w.heap.size+1) zQ):=by rw[j];exact(y.o.below q.o y.o.lt).C9 oM _
   have a8:Hq (O w.heap.size w w4):=by rw[j];exact(tR G q).setCell (by show w.heap.size<=w.heap.size+1+1;omega) _
   have R:Hq _:=j;clear j q s g m y G;go_wp2_with fail
   rw[<-R.o];clear R;have Hl:Hq (2*r+N / 2^i % 2<2*LL):=R' E _ oM;refine Qt.im 3 kr kr ?_;refine xn rfl _ rfl (w.heap.size+1+1) (nq (2*r+N / 2^i % 2)) rfl A.o ?_;refine Qt.ev rfl 107 #[] (H v) (fun _=>kr) (fun w' _=>b3.o w') ?_;refine Qt.ev rfl 202 #[H (nq (2*r+N / 2^i % 2)).cells,H v] (H (nq ((2*r+N / 2^i % 2) % LL)).cells) (fun _=>kr) (fun w' _=>b1.o _ Hl.o w') ?_;rw[b6.o];simp only[zD];refine Qt.gh ?_;intro w5 a7;have t:Hq (O w4.heap.size w4 w5):=a7;clear a7;have M:Hq (fY w5 (w.heap.size+1+1) (nq (2*r+N / 2^i % 2))):=A.o.below t.o A.o.lt;refine pP rfl _ _ rfl (w.heap.size+1+1) (nq (N / 2^i % LL)) (nq (2*r+N / 2^i % 2)) rfl rfl M.o ?_;simp only[Act.put];go_wp2_with fail
   exact⟨⟨i,oM,rfl,M.o.setRow _,mM.other (K.o.below t.o K.o.lt) oM _,fY.other (L.o.below t.o L.o.lt) oM _,(tR a8 t).trans ((hJ _ _ _).mono oM)⟩,by simp[intOf]⟩
def jW(a b:Q)(k:Nat):BitVec 64:=if k<4 then Cw.qw a k else Cw.qw b (k-4)
theorem Nr(a b:Q):nU BB (jW a b) 8=a.num+115792089237316195423570985008687907853269984665640564039457584007913129639936*b.num:=by
 have e:∀B,nU B (jW a b) 8=0+a.a0.toNat*B^0+a.a1.toNat*B^1+a.a2.toNat*B^2+a.a3.toNat*B^3+b.a0.toNat*B^4+b.a1.toNat*B^5+b.a2.toNat*B^6+b.a3.toNat*B^7:=fun B=>rfl;rw[e,ym];unfold Q.num;omega
theorem Ns(a b:Q)(w:D):Rt 168 #[H a.cells,H b.cells] w (H (Own.dk 8 (dF (jW a b)))):=by
 unfold Q.cells;go_enter func168,ntmps168
 go_wp2_with fail
 exact Own.jM results168 rfl (w.heap.size+1+1) 265 (Own.dk 8 (dF (jW a b))) (0,0) _ rfl (jv _ _ _ sP) underlying265 rfl (by rw[Own.oU];kernel_rfl) ⟨rfl,(((ai _ _).alloc lR _).alloc sP _).alloc (by simp;omega) _⟩
abbrev H4(w:D)(r k n:Q):D:=(((w.alloc (Cl r.cells 184)).alloc (Cl k.cells 184)).alloc (Cl n.cells 184)).alloc (Cl zQ.cells 184)
theorem uI(l:List UInt8)(s e:Nat):(⟨l.toArray⟩:ByteArray).extract s e=⟨((l.drop s).take (e-s)).toArray⟩:=by
 apply ByteArray.ext;rw[ByteArray.data_extract];simp
theorem Ml(l:List UInt8)(a:l.length=64):(bq (l.take 32)).num+115792089237316195423570985008687907853269984665640564039457584007913129639936*(bq ((l.drop 32).take 32)).num=le l:=by
 rw[tB _ (by simp;omega),tB _ (by simp;omega)];have h:=CF (l.take 32) (l.drop 32);rw[List.take_append_drop,show(l.take 32).length=32 by simp;omega] at h;rw[List.take_of_length_le (l:=l.drop 32) (by simp;omega),h]
theorem XJ(l:List UInt8)(N:l.length=64)(w:D):Rt 108 #[sT ⟨l.toArray⟩] w (H (nq (le l % LL)).cells):=by
 have P:(l.length:Int)=64:=oM
 go_enter func108,ntmps108
 go_wp2_with fail
 refine(zM l oM _).mono ?_;rintro e w1 ⟨rfl,F⟩;have j:Hq (O (w.alloc (Cl zQ.cells 184)).heap.size (w.alloc (Cl zQ.cells 184)) w1):=F;have g:Hq (fY w1 w.heap.size zQ):=(tN w).below j.o (tN w).lt;have s:Hq (O w.heap.size w w1):=((ai _ _).alloc lR _).trans (j.o.mono sP);clear F j;go_wp2_with (refine Cw.wW rfl rfl rfl rfl (bq (l.take 32)) (fun _=>rfl) (fun _=>rfl) ?_)
 intro w2 b1 m a G;have k:Hq (O w1.heap.size w1 w2):=G;have d:Hq (fY w2 b1 (bq (l.take 32))):=a;have h:Hq (fY w2 w.heap.size zQ):=g.o.below k.o g.o.lt;have t:=tq s k;clear m a G k g s;go_wp2_with fail
 rw[uI,List.take_of_length_le (l:=l.drop 32) (by simp;omega)];refine(zM (l.drop 32) (by simp;omega) _).mono ?_;rintro e w3 ⟨rfl,I⟩;have b:Hq (O w2.heap.size w2 w3):=I;have f:Hq (fY w3 b1 (bq (l.take 32))):=d.o.below b.o d.o.lt;have i:Hq (fY w3 w.heap.size zQ):=h.o.below b.o h.o.lt;have u:=tq t b;clear I b d h t;go_wp2_with (refine Cw.wW rfl rfl rfl rfl (bq ((l.drop 32).take 32)) (fun _=>rfl) (fun _=>rfl) ?_)
 intro w4 E m a J;have c:Hq (O w3.heap.size w3 w4):=J;have v:Hq (fY w4 E (bq ((l.drop 32).take 32))):=a;have x:Hq (fY w4 b1 (bq (l.take 32))):=f.o.below c.o f.o.lt;have y:Hq (fY w4 w.heap.size zQ):=i.o.below c.o i.o.lt;have M:=tq u c;have C:Hq (nU BB (jW (bq (l.take 32)) (bq ((l.drop 32).take 32))) 8=le l):=by
  show _=_;rw[Nr];exact Ml l N
 clear m a J c f i u;obtain⟨q,n⟩:=eX (bq (l.take 32));obtain⟨r,p⟩:=eX (bq ((l.drop 32).take 32));rw[<-n,<-p] at C;rw[<-n] at x;rw[<-p] at v;clear n p;go_wp2_with (first|refine oz rfl _ rfl b1 q rfl x.o ?_|refine oz rfl _ rfl E r rfl v.o ?_)
 refine(Ns q r _).mono ?_;rintro e w5 ⟨rfl,K⟩;have A:Hq (O w4.heap.size w4 w5):=K;clear K;go_wp2_with fail
 refine(PM (jW q r) _).mono ?_;rintro e w6 ⟨rfl,L⟩;rw[C.o];have B:=tq A L;have z:Hq (fY w6 w.heap.size zQ):=y.o.below B.o y.o.lt;clear L A;go_wp2_with (refine pP rfl _ _ rfl w.heap.size (nq (le l % LL)) zQ rfl rfl z.o ?_)
 exact uG results108 rfl w.heap.size (nq (le l % LL)) rfl (z.o.setRow _) ⟨rfl,oT M.o B.o _ lR _⟩
end Sw
namespace Ed
def pS(p:Nat->Pt)(c:Nat->Nat):Nat->Pt
 |0=>zero
 |m+1=>jS (pS p c m) (lD (p m) (c m))
theorem rG{p:Nat->Pt}(a:∀j,gF (p j))(c:Nat->Nat)(m:Nat):gF (pS p c m):=by
 induction m with
 |zero=>exact G6
 |succ m ih=>exact tS ih (ox (a m) _)
theorem VC{a b c d:Pt}(g:gF a)(e:gF b)(f:gF c)(hd:gF d):jS (jS a b) (jS c d)=jS (jS a c) (jS b d):=by
 rw[vg g e (tS f hd),<-vg e f hd,CK b c,vg f e hd,<-vg g f (tS e hd)]
theorem wI{p:Nat->Pt}(c:∀j,gF (p j))(a b:Nat->Nat)(m:Nat):jS (pS p a m) (pS p b m)=pS p (fun j=>a j+b j) m:=by
 induction m with
 |zero=>exact xy zero
 |succ m ih=>
  show jS (jS (pS p a m) (lD (p m) (a m))) (jS (pS p b m) (lD (p m) (b m)))=jS (pS p (fun j=>a j+b j) m) (lD (p m) (a m+b m));rw[VC (rG c a m) (ox (c m) _) (rG c b m) (ox (c m) _),ih,C2 (c m)]
theorem C4{p:Nat->Pt}{a b:Nat->Nat}(h:∀j,a j=b j)(m:Nat):pS p a m=pS p b m:=by
 rw[show a=b from funext h]
end Ed
namespace Cw
open Fw Ww Bt Ed
theorem QR{T:Nat->Q×E}{p:Nat->Pt}(a:∀j,gF (p j))(e:∀j,lI (T j).2 (p j))(i:Nat){c:E}{b:Pt}(d:gF b)(f:lI c b)(j:Nat):lI (oK T i c j) (jS b (pS p (fun k=>(nr (T k).1 i).toNat) j)):=by
 induction j with
 |zero=>rw[show pS p _ 0=zero from rfl,xy];exact f
 |succ j ih=>
  have h1:=C0 (tS d (rG a _ j)) (ox (a j) (nr (T j).1 i).toNat) ih (UG (a j) (e j) (nr (T j).1 i).toNat);rw[vg d (rG a _ j) (ox (a j) _)] at h1;exact h1
theorem UA{p:Nat->Pt}(a:∀j,gF (p j)){e:E}{c:Nat->Nat}{m:Nat}(h:lI e (pS p c m)):lI (nb e) (pS p (fun j=>16*c j) m):=by
 have d1:=xE (rG a c m) h;rw[wI a] at d1;have d2:=xE (rG a _ m) d1;rw[wI a] at d2;have d3:=xE (rG a _ m) d2;rw[wI a] at d3;have d:=xE (rG a _ m) d3;rw[wI a] at d;rw[C4 (b:=fun j=>16*c j) (fun j=>oM)] at d;exact d
theorem MH(x r b:Nat)(a:b<16):(x+18446744073709551616*r) / 16^b % 16=x / 16^b % 16:=by
 have h:(18446744073709551616:Nat)=16*16^(15-b)*16^b:=by
  rw[dU,<-fp,show 15-b+b=15 by omega]
 have e:18446744073709551616*r=(16*(16^(15-b)*r))*16^b:=by
  rw[h];generalize 16^(15-b)=u;generalize 16^b=v;simp only[dU,ek,bJ]
 rw[e,en _ _ (Nat.pow_pos dc)];omega
theorem MK(q:Q)(i:Nat)(hi:i<64):(nr q i).toNat=q.num / 16^i % 16:=by
 obtain⟨r,a⟩:=Jh q (i / 16) oM;have e:(16:Nat)^i=18446744073709551616^(i / 16)*16^(i % 16):=by
  rw[show(18446744073709551616:Nat)=16^16 from by decide,<-dV,<-fp];congr 1;omega
 rw[e,<-bZ,a,MH _ _ _ oM];unfold nr;rw[dr,eR,fh,show(16:Nat)^(i % 16)=2^(4*(i % 16)) by rw[dV]];exact Nat.and_two_pow_sub_one_eq_mod _ 4
theorem QP(N d:Nat)(hd:d<64):16*(N / 16^(64-d))+N / 16^(63-d) % 16=N / 16^(64-(d+1)):=by
 have e:(16:Nat)^(64-d)=16^(63-d)*16:=by rw[<-bW];congr 1;omega
 rw[e,<-bZ,show 64-(d+1)=63-d by omega];omega
theorem UL{T:Nat->Q×E}{p:Nat->Pt}(a:∀j,gF (p j))(c:∀j,lI (T j).2 (p j))(m d:Nat)(hd:d<=64):lI (pr T m d) (pS p (fun j=>(T j).1.num / 16^(64-d)) m):=by
 induction d with
 |zero=>
  have e:∀j,(T j).1.num / 16^64=0:=fun j=>fD (Nat.lt_of_lt_of_le (qJ _) dc);have:∀m,pS p (fun j=>(T j).1.num / 16^(64-0)) m=zero:=fun m=>by
   induction m with
   |zero=>rfl
   |succ m ih=>
    show jS (pS p (fun j=>(T j).1.num / 16^(64-0)) m) (lD (p m) ((T m).1.num / 16^(64-0)))=zero;rw[ih,show(T m).1.num / 16^(64-0)=0 from e m];exact xy zero
  rw[this];exact CB
 |succ d ih=>
  have h1:=QR a c (63-d) (rG a _ m) (UA a (ih oM)) m;rw[wI a] at h1;rw[C4 (b:=fun j=>(T j).1.num / 16^(64-(d+1))) (fun j=>by
   show 16*((T j).1.num / 16^(64-d))+(nr (T j).1 (63-d)).toNat=_;rw[MK _ _ oM,QP _ _ oM])] at h1
  exact h1
theorem UK{T:Nat->Q×E}{p:Nat->Pt}(c:∀j,gF (p j))(a:∀j,lI (T j).2 (p j))(m:Nat):lI (pr T m 64) (pS p (fun j=>(T j).1.num) m):=by
 have h:=UL c a m 64 lR;rw[C4 (b:=fun j=>(T j).1.num) (fun j=>by rw[Nat.sub_self,jL,j4])] at h;exact h
def nR(p:Pt):List UInt8:=leB (enc p.1 p.2) 32
theorem TC{e:E}{p:Pt}(h:lI e p):leB (enc (e.x*inv e.z) (e.y*inv e.z)) 32=nR p:=by
 rw[Vs h,Vt h];rfl
