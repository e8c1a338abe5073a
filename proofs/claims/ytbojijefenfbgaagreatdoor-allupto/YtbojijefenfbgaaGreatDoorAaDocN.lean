/- Walks of the document's low, parts, order. What Right asks, in points. The base's order; a signature is right, and with another s it is not. Multiples of a point reckoned by the kernel; the base's order. Walks of the package postern: Key, Sign, Right. Walk of the document's rest. An element appended to a slice of the call's own: the law in one form. -/
import Derived.Test.YtbojijefenfbgaaGreatDoorAaDocK
import Derived.Laws.AppendOwn
import Derived.OwnWalk
import Derived.Below
open Go.Obj renaming cells->cK
open Int renaming natCast_pow->eM,natCast_add->bB,natCast_nonneg->dp,ofNat_lt->fP
open Nat renaming pow_succ->bW,div_div_eq_div_mul->bZ,le_of_eq->bO,zero_add->bC,mod_eq_of_lt->aP,beq->j8,pow_zero->jL,div_one->j4,eq_of_beq_eq_true->fI,div_eq_of_lt->fD,add_mod->fB,mul_mod->iG,lt_trans->jK,lt_irrefl->eJ
open Go.RowKit.Below renaming heap_setCell->aC,refl->ai
open Go.Instr renaming index->dW
open Option renaming some->Z,none->Y
open Go.Value renaming int->I,agg->H,bool->Bl,string->sT
open Go.IntKind renaming i64->J
open Go.Obj renaming cells->Cl
open Go renaming World->D,Value->Vl
open Go.RowKit renaming Below->O
set_option maxHeartbeats 4000000
set_option maxRecDepth 100000
open Go Go.RowKit
variable{e t:TypeId}{f:Nat->Nat}{l:List UInt8}{h':Bool}{w:D}
namespace Go.Proofs.YtbojijefenfbgaaGreatDoor
open Tryz
namespace Dc
open Bt Ed Cw
def bF(N m j:Nat):Nat:=if j<m then N / 256^j % 256 else 0
def tf(f:Nat->Nat):Array Vl:=Own.dk 32 fun j=>I .u8 (f j:Int)
theorem KJ{b:Nat}(h:w.heap[b]? =Z (Cl (tf f) t (0,0)))(i:Nat)(v:Nat):(w.setCell ⟨b,i,Y⟩ (I .u8 (v:Int))).heap[b]? =Z (Cl (tf fun j=>if j=i then v else f j) t (0,0)):=by
 refine(Own.mX h i _).trans (congrArg (fun r=>Z (cK r t (0,0))) (Own.mn fun j _=> ?_));by_cases e:j=i
 ·show _=Value.int .u8 ((if j=i then v else f j:Nat):Int)
  rw[if_pos e,if_pos e]
 ·show _=Value.int .u8 ((if j=i then v else f j:Nat):Int)
  rw[if_neg e,if_neg e]
theorem CX{b:Nat}(h:w.heap[b]? =Z (Cl (tf f) t (0,0)))(j:Nat)(a:j<32):w.cell? ⟨b,j,Y⟩=Z (I .u8 (f j:Int)):=Own.jI h j a
theorem Kr{b:Nat}(h:w.heap[b]? =Z (Cl (tf f) t (0,0)))(j:Nat):w.frozen? ⟨b,j,Y⟩=false:=Own.nv h j
theorem FX(N m:Nat):(fun j=>if j=m then N / 256^m % 256 else bF N m j)=bF N (m+1):=by
 funext j;unfold bF;by_cases e:j=m
 ·subst e
  rw[if_pos rfl,if_pos oM]
 ·rw[if_neg e]
  by_cases h:j<m
  ·rw[if_pos h,if_pos oM]
  ·rw[if_neg h,if_neg oM]
theorem sy(N i:Nat):dg (N:Int) i=((N / 65536^i % 65536:Nat):Int):=by
 unfold dg;rw[Int.natCast_emod,Int.natCast_ediv,eM];rfl
theorem Cq(i:Nat):(65536:Nat)^i=256^(2*i):=by rw[show(65536:Nat)=256^2 from rfl,<-Nat.pow_mul]
theorem OI(N i:Nat):dg (N:Int) i % 256=((N / 256^(2*i) % 256:Nat):Int):=by
 rw[sy,Cq];omega
theorem OH(N i:Nat):dg (N:Int) i / 256=((N / 256^(2*i+1) % 256:Nat):Int):=by
 rw[sy,Cq,bW,<-bZ];omega
theorem Ve(N:Nat)(w:D):Rt 104 #[H (nm (N:Int))] w (sT ⟨(leB N 32).toArray⟩):=by
 obtain⟨L,e⟩:=eX (leB N 32);have t:Hq (L.length=32):=by
  rw[e];exact xw _ _
 have u:Hq (∀j (h:j<L.length),((L[j]).toNat:Int)=((N / 256^j % 256:Nat):Int)):=by
  intro j h;subst e;rw[B5];simp
 rw[<-e];clear e;go_enter func104,ntmps104
 go_wp2_with (at_make;refine Own.Dl _ rfl _ _ 145 rfl 5 (I .u8 0) 1 underlying145 tP rfl .i64 .i64 _ _ 32 rfl rfl rfl rfl dc dc ?_)
 generalize E:World.alloc _ _=w0;obtain⟨g,l⟩:=eX w.heap.size;have b:=tU E;rw[<-l] at b⊢;have p:Hq (w0.heap[g]? =Z (Cl (nm (N:Int)) 95 (0,0))):=b.1;have v:Hq (w0.heap[g+1]? =Z (Cl (tf (bF N (2*0))) 5 (0,0))):=b.2.1;have s:Hq _:=b.2.2;have K:Hq (w.heap.size<=g):=bO l.symm;clear l E b;go_loopw [4] (fun i m=>∃k:Nat,k<=16/\i=I J (k:Int)/\m.heap[g]? =Z (Cl (nm (N:Int)) 95 (0,0))/\m.heap[g+1]? =Z (Cl (tf (bF N (2*k))) 5 (0,0))/\O g w m) (fun i _=>16-(intOf i).toNat)
 case atStart=>exact⟨0,oM,rfl,p.o,v.o,s.o⟩
 case round=>
  clear p v s;rename D=>a
  obtain⟨k,hk,rfl,z,C,A⟩:=hrel;have n:Hq _:=z;have c:Hq _:=C;have r:Hq _:=A;clear z C A;by_cases B:k<16
  ·have P:a.cell? ⟨g,k,Y⟩=Z (I J (dg (N:Int) k)):=lx n.o k B
   have M:=kk (N:Int) k;have y:Hq _:=OI N k;have x:Hq _:=OH N k;have T:=CX c.o (2*k) oM;have W:=Kr c.o (2*k);obtain⟨d,hd⟩:=eX (dg (N:Int) k);rw[<-hd] at P M y x;have f:Hq ((a.setCell ⟨g+1,2*k,Y⟩ (I .u8 (d % 256))).heap[g+1]? =Z (Cl (tf (bF N (2*k+1))) 5 (0,0))):=by
    rw[y.o,<-FX];exact KJ c.o _ _
   have q:Hq ((a.setCell ⟨g+1,2*k,Y⟩ (I .u8 (d % 256))).heap[g]? =_):=(aC _ _ _ g (by show g≠g+1;omega)).trans n.o;have F:Hq (O g w (a.setCell ⟨g+1,2*k,Y⟩ (I .u8 (d % 256)))):=mS r.o _ _ oM _;have U:(a.setCell ⟨g+1,2*k,Y⟩ (I .u8 (d % 256))).cell? ⟨g,k,Y⟩=Z (I J d):=by
    refine(lx q.o k B).trans ?_;rw[hd]
   have V:=CX f.o (2*k+1) oM;have X:=Kr f.o (2*k+1);clear hd;go_wp2_with fail
   refine⟨⟨k+1,oM,by rw[bB];rfl,?_,?_,?_⟩,?_⟩
   ·exact(aC _ _ _ g (by show g≠g+1;omega)).trans q.o
   ·rw[x.o,show 2*(k+1)=2*k+1+1 by omega,<-FX]
    exact KJ f.o _ _
   ·exact mS F.o _ _ oM _
   ·show 16-((k:Int)+1).toNat<16-(k:Int).toNat
    omega
  ·obtain rfl:k=16:=by omega
   have G:Hq (∀j (h:j<L.length),a.cell? ⟨g+1,0+j,Y⟩=Z (I .u8 (L[j].toNat:Int))):=fun j Q=>by
    have R:j<32:=by have:=t.o;omega
    rw[bC,CX c.o j R,u.o j Q,bF,if_pos oM]
   have S:=t.o;clear u;go_wp2_with (refine Own.zL _ rfl _ 145 9 5 rfl underlying145 underlying5 underlying9 (g+1) 0 32 L (by rw[S];rfl) G.o ?_)
   go_ret
   exact⟨rfl,r.o.mono K.o⟩
def pF(l:List UInt8)(k j:Nat):Int:=if j<k then dg (le l:Int) j else 0
theorem Gs(l:List UInt8)(j:Nat)(h:j<l.length):(l[j]).toNat=le l / 256^j % 256:=by
 have h1:=B5 l.length (le l) j (by rw[xw];exact h);have h2:(leB (le l) l.length)[j]'(by rw[xw];exact h)=l[j]:=by simp only[Br]
 rw[<-h2,h1];simp
theorem Gu(l:List UInt8)(k:Nat)(h:2*k+1<l.length):((l[2*k]).toNat:Int)+256*((l[2*k+1]).toNat:Int)=dg (le l:Int) k:=by
 rw[sy,Cq,Gs,Gs,bW,<-bZ];omega
theorem RY(l:List UInt8)(k j:Nat):(if j=k then dg (le l:Int) k else pF l k j)=pF l (k+1) j:=by
 unfold pF;by_cases e:j=k
 ·subst e
  rw[if_pos rfl,if_pos oM]
 ·rw[if_neg e]
  by_cases h:j<k
  ·rw[if_pos h,if_pos oM]
  ·rw[if_neg h,if_neg oM]
theorem tG(W:D)(s:ByteArray)(k:Nat)(h:k<s.size)(i:Int)(hi:i=(k:Int)):Sem.run prog (dW 9 (.string s) (I J i)) W= .ok (I .u8 ((s[k]).toNat:Int)) W:=by
 subst hi;have h1:(0:Int)<=(k:Int)/\(k:Int)<(s.size:Int):=oM
 simp[dW,asIntOf,run_underlying underlying9,h]
theorem RZ(s:ByteArray)(Q:s.size=32)(w:D):Rt 38 #[.string s] w (H (nm (le s.data.toList:Int))):=by
 go_enter func38,ntmps38
 go_wp2_with (refine mx _ rfl rfl ?_)
 generalize u:World.alloc _ _=w0;obtain⟨g,e⟩:=eX w.heap.size;have b:=tU u;rw[<-e] at b⊢;have n:Hq _:=b.1;have m:Hq (w0.heap[g+1]? =Z (Cl (num (pF s.data.toList 0)) 95 (0,0))):=b.2.1;have l:Hq _:=b.2.2;have z:Hq (w.heap.size<=g):=bO e.symm;clear e u b;go_loopw [4] (fun i f=>∃k:Nat,k<=16/\i=I J (k:Int)/\f.heap[g]? =Z (Cl (num fun _=>0) 95 (0,0))/\f.heap[g+1]? =Z (Cl (num (pF s.data.toList k)) 95 (0,0))/\O g w f) (fun i _=>16-(intOf i).toNat)
 case atStart=>exact⟨0,oM,rfl,n.o,m.o,l.o⟩
 case round=>
  clear n m l;rename D=>v
  obtain⟨k,N,rfl,t,q,p⟩:=hrel;have c:Hq _:=t;have a:Hq _:=q;have h:Hq _:=p;clear t q p;by_cases C:k<16
  ·have L:=lx a.o k C
   have M:=oa a.o k;have P:2*k+1<s.size:=oM
   have d:=Gu s.data.toList k (by have:s.data.size=s.size:=rfl;simp;omega);have G:=(s[2*k]).toNat_lt;have K:=(s[2*k+1]).toNat_lt;have R:∀W,Sem.run prog (dW 9 (.string s) (I J (2*(k:Int)))) W= .ok (I .u8 ((s[2*k]).toNat:Int)) W:=fun W=>tG W s (2*k) oM _ oM;have S:∀W,Sem.run prog (dW 9 (.string s) (I J (2*(k:Int)+1))) W= .ok (I .u8 ((s[2*k+1]).toNat:Int)) W:=fun W=>tG W s (2*k+1) oM _ oM;have d:Hq (((s[2*k]).toNat:Int)+256*((s[2*k+1]).toNat:Int)=dg (le s.data.toList:Int) k):=d;generalize (s[2*k]).toNat=x at*;generalize (s[2*k+1]).toNat=y at*;go_wp2_with fail
   refine Qt.Dw 15 kr kr ?_;simp only[List.take_succ_cons,List.take_zero,List.drop_succ_cons,List.drop_zero];repeat (first|go_big_quiet_step (fail)|quiet_step (fail))
   refine wpQuiet_nil ?_;intro _ E;obtain⟨nq,F⟩:=E;subst F;go_wp2_with fail
   refine⟨⟨k+1,oM,by rw[bB];rfl,?_,?_,?_⟩,?_⟩
   ·exact(aC _ _ _ g (by show g≠g+1;omega)).trans c.o
   ·rw[d.o]
    refine(nV (w:=v.drewN nq) a.o k _).trans ?_;rw[lJ];intro j _;exact RY _ k j
   ·exact mS (h.o.trans (Fw.below_drewN _ _ _)) _ _ oM _
   ·show 16-((k:Int)+1).toNat<16-(k:Int).toNat
    omega
  ·obtain rfl:k=16:=by omega
   have A:Hq (v.heap[g+1]? =Z (Cl (nm (le s.data.toList:Int)) 95 (0,0))):=a.o.trans (congrArg (fun r=>Z (cK r 95 (0,0))) (lJ fun j B=>if_pos B));clear a;go_wp2_with (first|refine pT rfl _ rfl (g+1) _ rfl A.o ?_|refine mH rfl _ _ rfl g _ _ rfl rfl c.o ?_)
   exact Own.jM results38 rfl g 95 _ (0,0) _ rfl (setRow_heap _ _ _ _ _ _ c.o) underlying95 rfl (by rw[kP];kernel_rfl) ⟨rfl,(h.o.trans ((Fw.hJ _ _ _).mono oM)).mono z.o⟩
theorem GF(l:List UInt8)(a:l.length=32)(w:D):Rt 38 #[sT ⟨l.toArray⟩] w (H (nm (le l:Int))):=RZ ⟨l.toArray⟩ a w
def oI:Int:=7237005577332262213973186563042994240857116359379907606001950938285454250989
theorem GD(w:D):Rt 40 #[] w (H (nm oI)):=by
 have a:Hq (nm oI= #[I J 54253,I J 23797,I J 25370,I J 22546,I J 40150,I J 41719,I J 63966,I J 5342,I J 0,I J 0,I J 0,I J 0,I J 0,I J 0,I J 0,I J 4096]):=by
  show _=_;rw[uK];exact lJ (of_decide_eq_true kr)
 obtain⟨x,b⟩:=eX oI;rw[<-b] at a⊢;clear b;go_enter func40,ntmps40
 refine wp_seq (wp_region_list ?_);refine mx _ rfl rfl ?_;simp only[Act.put,List.setIfInBounds_toArray,List.set_cons_zero];refine Qt.done ?_;refine wp_seq (wp_region_list ?_);refine Own.qz rfl 95 _ rfl (nm x) (by rw[a.o];kernel_rfl) ?_;simp only[zD];refine vf rfl _ _ rfl _ (dg x) rfl rfl ?_;simp only[Act.put];refine Qt.done ?_;go_wp2_with fail
 exact Own.jM results40 rfl w.heap.size 95 _ (0,0) _ rfl (heap_alloc_new _ _) underlying95 rfl (by rw[kP];kernel_rfl) ⟨rfl,(ai _ _).alloc lR _⟩
end Dc
namespace Gw
open Fw Bt Ww Sw Cw Ed
theorem JF(q:Q):(pK q).num=q.num % 57896044618658097711785492504343953926634992332820282019728792003956564819968:=by
 unfold pK Q.num;simp only;rw[Gx];have a:=q.a0.isLt;have h1:=q.a1.isLt;have h2:=q.a2.isLt;have h3:=q.a3.isLt;omega
theorem JX(q:Q):decide (un (q.a3>>>(63:Nat))=1)=decide (q.num / 57896044618658097711785492504343953926634992332820282019728792003956564819968=1):=by
 have e:(q.a3>>>(63:Nat)).toNat=q.num / 57896044618658097711785492504343953926634992332820282019728792003956564819968:=by
  rw[BitVec.toNat_ushiftRight,Nat.shiftRight_eq_div_pow];unfold Q.num;have a:=q.a0.isLt;have h1:=q.a1.isLt;have h2:=q.a2.isLt;have h3:=q.a3.isLt;omega
 unfold un;rw[e];by_cases h:q.num / 57896044618658097711785492504343953926634992332820282019728792003956564819968=1
 ·rw[h];rfl
 ·rw[decide_eq_false h]
  exact decide_eq_false oM
theorem zw(p:Pt):enc p.1 p.2 % 57896044618658097711785492504343953926634992332820282019728792003956564819968=p.2.val/\enc p.1 p.2 / 57896044618658097711785492504343953926634992332820282019728792003956564819968=if iq p.1 then 1 else 0:=by
 have h:p.2.val<57896044618658097711785492504343953926634992332820282019728792003956564819949:=p.2.isLt;unfold enc;split<;>omega
theorem zv(p:Pt):le (nR p)=enc p.1 p.2:=Nu 32 _ (Nat.lt_of_lt_of_le (ML _ _) dc)
theorem Jt{p q:Pt}(b:gF p)(d:gF q)(h:nR p=nR q):p=q:=by
 have e:enc p.1 p.2=enc q.1 q.2:=by rw[<-zv,<-zv,h]
 have h1:=zw p;have h2:=zw q;rw[e] at h1;have g:p.2=q.2:=Fin.ext (h1.1.symm.trans h2.1);have a:iq p.1=iq q.1:=by
  have:=h1.2.symm.trans h2.2;cases c:iq p.1<;>cases f:iq q.1<;>rw[c,f] at this<;>simp_all
 obtain⟨j,y1⟩:=p;obtain⟨k,y2⟩:=q;have i:y1=y2:=g;subst i;rw[Te b d a]
theorem A0(R A t:List UInt8):kN R A t<LL:=RJ _
noncomputable def ub(f:F×Bool)(h':Bool):E×Bool:=if f.2=false then(e0,false) else if (nf f.1 h').2=false then(e0,false) else(mq (nf f.1 h').1 f.1,true)
theorem SG{f:F×Bool}(h:(ub f h').2=true):f.2=true/\(nf f.1 h').2=true/\(ub f h').1=mq (nf f.1 h').1 f.1:=by
 unfold ub at*;by_cases h1:f.2=false
 ·rw[if_pos h1] at h;cases h
 ·rw[if_neg h1] at h⊢
  by_cases h2:(nf f.1 h').2=false
  ·rw[if_pos h2] at h;cases h
  ·rw[if_neg h2]
   exact⟨by simpa using h1,by simpa using h2,rfl⟩
theorem XC{y:F}(h:(ub (y,true) h').2=false):(nf y h').2=false:=by
 unfold ub at h;rw[if_neg sP] at h;by_cases h2:(nf y h').2=false
 ·exact h2
 ·rw[if_neg h2] at h;cases h
theorem Gb(q:Q):tj q=ub (oG (pK q)) (decide (un (q.a3>>>(63:Nat))=1)):=rfl
theorem SQ{q:Q}(h:(oG q).2=true):(oG q).1.val=q.num:=by
 unfold oG at h⊢;by_cases h2:q.num<Ed.P
 ·rw[dif_pos h2]
 ·rw[dif_neg h2] at h;cases h
theorem EX{x y:F}{N:Nat}(b:y.val=N % 57896044618658097711785492504343953926634992332820282019728792003956564819968)(a:iq x=decide (N / 57896044618658097711785492504343953926634992332820282019728792003956564819968=1))(c:N<115792089237316195423570985008687907853269984665640564039457584007913129639936):enc x y=N:=by
 unfold enc;rw[b,a];by_cases h:N / 57896044618658097711785492504343953926634992332820282019728792003956564819968=1
 ·rw[decide_eq_true h,if_pos rfl];omega
 ·rw[decide_eq_false h,if_neg sP];omega
theorem UB(d:l.length=32){x y:F}(a:E)(b:gF (x,y))(hD:a=mq x y)(g:y.val=(bq l).num % 57896044618658097711785492504343953926634992332820282019728792003956564819968)(c:iq x=decide ((bq l).num / 57896044618658097711785492504343953926634992332820282019728792003956564819968=1)):∃p:Pt,gF p/\a=mq p.1 p.2/\nR p=l:=by
 refine⟨(x,y),b,hD,?_⟩;have f:=tB l oM;have e:=EX g c (qJ _);show leB (enc x y) 32=l;rw[e,f];have:=Br l;rwa [d] at this
theorem CZ(h:(lq l).2=true):∃p:Pt,gF p/\(lq l).1=mq p.1 p.2/\nR p=l:=by
 unfold lq at h⊢;by_cases a:l.length=32
 ·rw[if_pos a] at h⊢
  rw[Gb,JX] at h⊢;obtain⟨h1,h2,h3⟩:=SG h;obtain⟨b,c⟩:=Yx h2;exact UB a _ b h3 ((SQ h1).trans (JF (bq l))) c
 ·rw[if_neg a] at h;cases h
theorem Cy(h:(lq l).2=false)(p:Pt)(i:gF p):nR p≠l:=by
 intro c;have f:l.length=32:=by rw[<-c];exact Ju p
 have b:(bq l).num=enc p.1 p.2:=by rw[tB l oM,<-c,zv]
 unfold lq at h;rw[if_pos f,Gb,JX] at h;have d:=zw p;have a:=JF (bq l);rw[b,d.1] at a;have e:oG (pK (bq l))=(p.2,true):=by
  unfold oG;rw[dif_pos (by rw[a];exact p.2.isLt)];exact Prod.ext (Fin.ext a) rfl
 rw[b,e,d.2] at h;have g:decide ((if iq p.1=true then 1 else 0)=1)=iq p.1:=by cases iq p.1<;>rfl
 rw[g] at h;exact Ym (XC h) p.1 i rfl
theorem JV{p:Pt}(b:gF p)(s k:Q):xZ s k (mq p.1 p.2)=nR (jS (lD bP s.num) (lD (neg p) k.num)):=by
 have h:=UK (T:=TT s k (mq p.1 p.2)) (p:=fun j=>if j=0 then bP else neg p) (fun j=>by
  show gF (if j=0 then bP else neg p);split
  ·exact vZ
  ·exact Fq b) (fun j=>by
  show lI (TU s k (mq bX bY) (rX (mq p.1 p.2)) j).2 (if j=0 then bP else neg p);unfold TU;by_cases a:j=0
  ·rw[if_pos a,if_pos a];exact zs bX bY
  ·rw[if_neg a,if_neg a];exact UH (zs p.1 p.2)) 2
 have h2:pS (fun j=>if j=0 then bP else neg p) (fun j=>(TT s k (mq p.1 p.2) j).1.num) 2=jS (lD bP s.num) (lD (neg p) k.num):=by
  show jS (jS zero (lD bP s.num)) (lD (neg p) k.num)=_;rw[T1]
 rw[h2] at h;exact TC h
theorem TF(k t g:List UInt8):ga k t g=true↔g.length=64/\le (g.drop 32)<LL/\∃p:Pt,gF p/\nR p=k/\nR (jS (lD bP (le (g.drop 32))) (lD (neg p) (kN (g.take 32) k t)))=g.take 32:=by
 unfold ga;constructor
 ·intro h
  by_cases h1:k.length=32/\g.length=64
  ·rw[if_pos h1] at h
   by_cases h2:le (g.drop 32)<LL
   ·rw[if_pos h2] at h
    by_cases h3:(lq k).2=true
    ·rw[if_pos h3] at h
     obtain⟨p,a,hd,b⟩:=CZ h3;have c:=of_decide_eq_true h;rw[hd,JV a,tB _ (by simp;omega),qI (yn (A0 _ _ _))] at c;exact⟨h1.2,h2,p,a,b,c⟩
    ·rw[if_neg h3] at h;cases h
   ·rw[if_neg h2] at h;cases h
  ·rw[if_neg h1] at h;cases h
 ·rintro⟨e,m,p,a,b,l⟩
  have f:k.length=32:=by rw[<-b];exact Ju p
  rw[if_pos ⟨f,e⟩,if_pos m];have h3:(lq k).2=true:=by
   cases h:(lq k).2 with
   |true=>rfl
   |false=>exact absurd b (Cy h p a)
  rw[if_pos h3];obtain⟨n,i,hd,d⟩:=CZ h3;have j:n=p:=Jt i a (d.trans b.symm);subst j;refine decide_eq_true ?_;rw[hd,JV a,tB _ (by simp;omega),qI (yn (A0 _ _ _))];exact l
end Gw
namespace Ed
section
variable {b:Pt} {L:Nat}
end
end Ed
namespace Gw
open Fw Bt Ww Sw Cw Ed
theorem Fa(l:List UInt8):Ir l=nR (lD bP (sec l)):=rfl
end Gw
namespace Ed
def force(n:Nat)(k:Nat->Bool):Bool:=Nat.rec (k 0) (fun m _=>k (m+1)) n
theorem force_eq(n:Nat)(k:Nat->Bool):force n k=k n:=by cases n<;>rfl
def tX(v:F)(k:F->Bool):Bool:=force v.val fun n=>k (Fin.ofNat P n)
theorem yz(v:F)(k:F->Bool):tX v k=k v:=by
 unfold tX;rw[force_eq];congr 1;exact Fin.ext (aP v.isLt)
def xO(e:E)(k:E->Bool):Bool:=tX e.x fun x=>tX e.y fun y=>tX e.z fun z=>tX e.t fun t=>k ⟨x,y,z,t⟩
theorem Gi(e:E)(k:E->Bool):xO e k=k e:=by
 unfold xO;rw[yz,yz,yz,yz]
def runB(b:E)(n:Nat):Nat->E->(E->Bool)->Bool
 |0,c,k=>k c
 |i+1,c,k=>xO (mh c) fun a=>cond (j8 (n / 2^i % 2) 1) (xO (oP a b) fun a=>runB b n i a k) (runB b n i a k)
theorem PT{b:E}{p:Pt}(f:gF p)(m:lI b p)(n:Nat)(k:E->Bool)(i:Nat):∀c,lI c (lD p (n / 2^i))->runB b n i c k=true->∃e,lI e (lD p n)/\k e=true:=by
 induction i with
 |zero=>
  intro c h a;rw[jL,j4] at h;exact⟨c,h,a⟩
 |succ i ih=>
  intro c h a;unfold runB at a;rw[Gi] at a;have hd:=xE (ox f _) h;rw[<-C2 f] at hd;have j:n / 2^(i+1)=n / 2^i / 2:=by rw[bW,bZ]
  rw[j] at hd;cases d:j8 (n / 2^i % 2) 1 with
  |true=>
   rw[d,cond_true,Gi] at a;have h1:n / 2^i % 2=1:=fI d;have g:=C0 (ox f _) f hd m;have l:jS (lD p (n / 2^i / 2+n / 2^i / 2)) p=lD p (n / 2^i / 2+n / 2^i / 2+1):=rfl;rw[l,show n / 2^i / 2+n / 2^i / 2+1=n / 2^i by omega] at g;exact ih _ g a
  |false=>
   rw[d,cond_false] at a;have h1:n / 2^i % 2≠1:=Nat.ne_of_beq_eq_false d;rw[show n / 2^i / 2+n / 2^i / 2=n / 2^i by omega] at hd;exact ih _ hd a
def Av(x y:F)(e:E):Bool:=j8 e.x.val (x*e.z).val&&j8 e.y.val (y*e.z).val
theorem zR(n:Nat)[NeZero n](a b:Fin n):a*b=b*a:=by grind
theorem OV{x y:F}{e:E}{q:Pt}(h:Av x y e=true)(a:lI e q):q=(x,y):=by
 unfold Av at h;rw[Bool.and_eq_true] at h;have h1:e.x=x*e.z:=Fin.ext (fI h.1);have h2:e.y=y*e.z:=Fin.ext (fI h.2);have b:e.z*q.1=e.z*x:=by rw[zR P e.z q.1,zR P e.z x,<-a.x,h1]
 have c:e.z*q.2=e.z*y:=by rw[zR P e.z q.2,zR P e.z y,<-a.y,h2]
 exact Prod.ext (tH a.z b) (tH a.z c)
theorem NC{b:E}{p:Pt}(g:gF p)(c:lI b p)(n i:Nat)(f:n<2^i)(x y:F)(h:runB b n i pf (Av x y)=true):lD p n=(x,y):=by
 have a:lI pf (lD p (n / 2^i)):=by
  rw[fD f];exact CB
 obtain⟨e,j,d⟩:=PT g c n _ i _ a h;exact OV d j
end Ed
namespace Gw
open Fw Bt Ww Sw Cw Ed
end Gw
namespace Dc
open Bt Ed Cw
open Sw (LL)
theorem A1:oI=(LL:Int):=rfl
def mN(R:Nat)(j:Nat):Int:=2*dg (R:Int) j
def cG(R c:Nat)(k j:Nat):Int:=if j<k then(mN R j+cF 65536 (c:Int) (mN R) j) % 65536 else dg (R:Int) j
theorem QH(R c k j:Nat):(if j=k then(mN R k+cF 65536 (c:Int) (mN R) k) % 65536 else cG R c k j)=cG R c (k+1) j:=by
 unfold cG;by_cases e:j=k
 ·subst e
  rw[if_pos rfl,if_pos oM]
 ·rw[if_neg e]
  by_cases h:j<k
  ·rw[if_pos h,if_pos oM]
  ·rw[if_neg h,if_neg oM]
theorem MA(R c:Nat)(a:c<=1)(k:Nat):0<=cF 65536 (c:Int) (mN R) k/\cF 65536 (c:Int) (mN R) k<=1:=by
 induction k with
 |zero=>exact⟨dp _,by show(c:Int)<=1;omega⟩
 |succ k ih=>
  have h:=kk (R:Int) k;have hd:0<=mN R k/\mN R k<=131070:=by
   unfold mN;omega
  show 0<=(mN R k+cF 65536 (c:Int) (mN R) k) / 65536/\(mN R k+cF 65536 (c:Int) (mN R) k) / 65536<=1;generalize cF 65536 (c:Int) (mN R) k=x at*;generalize mN R k=y at*;omega
theorem MB(R c:Nat)(b:R<65536^16)(j:Nat)(a:j<16):cG R c 16 j=dg ((2*R+c:Nat):Int) j:=by
 have e:vi 65536 (mN R) 16=2*(R:Int):=by
  have h:=FK 65536 2 (dg (R:Int)) 16;rw[qY ⟨dp _,by have h:=fP.2 b;rw[eM] at h;exact h⟩] at h;exact h
 unfold cG;rw[if_pos a,Bn dc (c:Int) (mN R) a,e];unfold dg;rw[show(c:Int)+2*(R:Int)=((2*R+c:Nat):Int) by omega]
theorem yn:LL<65536^16:=dc
theorem LP(R c:Nat)(h:2*R+c<LL):(2*R+c) % LL=2*R+c:=aP h
theorem LO(R c:Nat)(a:R<LL)(b:c<=1)(h:¬2*R+c<LL):(2*R+c) % LL=2*R+c-LL:=by
 rw[Nat.mod_eq_sub_mod (Nat.not_lt.1 h),aP oM]
theorem TD(N i:Nat):N / 2^i % LL=(2*(N / 2^(i+1) % LL)+N / 2^i % 2) % LL:=by
 have h:=B2 N i;generalize N / 2^i % 2=b at*;rw[h];generalize N / 2^(i+1)=q;rw[fB,iG,fB (2*(q % LL)),iG 2 (q % LL),Nat.mod_mod]
theorem LN(R c:Nat)(a:R<LL)(b:c<=1):2*R+c<65536^16:=by
 have:2*LL+1<65536^16:=dc
 omega
theorem NY(b cap n N:Nat)(hN:N<2^(16*n))(hn:n<=100)(w:D)(T:∀j,j<n->w.cell? ⟨b,j,Y⟩=Z (I J (dg (N:Int) j)))(B:b<w.heap.size):
  Rt 44 #[.slice (Z ⟨b,0,Y⟩) n cap] w (H (nm ((N % LL:Nat):Int))):=by
 have e4:Hq (∀w,Rt 40 #[] w (H (nm oI))):=GD;have Hz:Hq (N / 2^(16*n)=0):=fD hN;have j9:Hq (∀R:Nat,R<65536^16->∀w,Rt 39 #[H (nm (R:Int)),H (nm oI)] w (Bl (decide (R<LL)))):=fun R M w=>by
  have h:=uX (R:Int) oI (dp _) (by have h:=fP.2 M;rw[eM] at h;exact h) dc dc w;rw[A1,show decide ((R:Int)<(LL:Int))=decide (R<LL) from decide_eq_decide.2 fP] at h;exact h
 have HO:Hq (oI=(LL:Int)):=A1;have HC:Hq _:=T;have b7:Hq _:=B;obtain⟨P,hP⟩:=eX oI;rw[<-hP] at e4 j9 HO;clear hP T B hN;go_enter func44,ntmps44
 go_wp2_with (refine mx _ rfl rfl ?_)
 generalize S:World.alloc _ _=w0;obtain⟨g,X⟩:=eX w.heap.size;have t:=nZ S;rw[<-X] at t⊢;have a6:Hq _:=t.1;have h4:Hq _:=t.2;have HG:Hq (w.heap.size<=g):=bO X.symm;have a7:Hq (b<g/\∀j,j<n->w0.cell? ⟨b,j,Y⟩=Z (I J (dg (N:Int) j))):=⟨by rw[X];exact b7.o,fun j z=>(t.2.cell (by show b<g;rw[X];exact b7.o)).trans (HC.o j z)⟩;clear X S t HC b7;refine(e4.o _).mono ?_;rintro e w1 ⟨rfl,b0⟩;have c6:=ca b0 a6;have h5:Hq (O g w w1):=h4.o.trans (b0.mono (Nat.le_of_lt (aL a6.o)));have a8:Hq (b<g/\∀j,j<n->w1.cell? ⟨b,j,Y⟩=Z (I J (dg (N:Int) j))):=⟨a7.o.1,fun j z=>(b0.cell (jK a7.o.1 (aL a6.o))).trans (a7.o.2 j z)⟩;clear b0 a6 h4 a7 e4;obtain⟨a,b2⟩:=eX w1.heap.size;have o5:g<a:=by
  rw[b2];exact(aL c6.o)
 generalize S:(w1.alloc (Cl (num (dg P)) 95)).alloc (Cl (num fun _=>0) 95)=w2;have t:=tU S;rw[<-b2] at t;have h9:Hq (w2.heap[g]? =_):=(t.2.2.block _ oM).trans c6.o;have h7:Hq _:=t.1;have h8:Hq (w2.heap[a+1]? =Z (Cl (nm ((N / 2^(16*n) % LL:Nat):Int)) 95 (0,0))):=by
  rw[Hz.o];exact t.2.1.trans (congrArg (fun r=>Z (cK r 95 (0,0))) (lJ dc))
 have h6:Hq (O g w w2):=h5.o.trans (t.2.2.mono oM);have j0:Hq (b<g/\∀j,j<n->w2.cell? ⟨b,j,Y⟩=Z (I J (dg (N:Int) j))):=⟨a8.o.1,fun j z=>(t.2.2.cell (by have:=a8.o.1;show b<a;omega)).trans (a8.o.2 j z)⟩;have l0:Hq _:=S;have j5:Hq _:=b2;clear S t b2 c6 h5 a8;go_wp2_with (first|refine mx _ rfl rfl ?_|refine vf rfl _ _ rfl _ (dg P) rfl rfl ?_)
 rw[l0.o,<-j5.o];clear l0 j5;go_loopw [5] (fun i p=>∃k:Nat,k<=16*n/\i=I J ((k:Int)-1)/\p.heap[g]? =Z (Cl (num fun _=>0) 95 (0,0))/\p.heap[a]? =Z (Cl (num (dg P)) 95 (0,0))/\p.heap[a+1]? =Z (Cl (nm ((N / 2^k % LL:Nat):Int)) 95 (0,0))/\(b<g/\∀j,j<n->p.cell? ⟨b,j,Y⟩=Z (I J (dg (N:Int) j)))/\O g w p) (fun i _=>(intOf i+1).toNat)
 case atStart=>exact⟨16*n,oM,sP,h9.o,h7.o,h8.o,j0.o,h6.o⟩
 case round=>
  clear h9 h7 h8 j0 h6 Hz;rename D=>m
  obtain⟨k,hk,rfl,F,C,E,G,B⟩:=hrel;have s:Hq _:=F;have q:Hq _:=C;have f:Hq _:=E;have l:Hq _:=G;have A:Hq _:=B;clear F C E G B;by_cases l2:k=0
  ·subst l2
   have K:Hq (m.heap[a+1]? =Z (Cl (num (dg ((N % LL:Nat):Int))) 95 (0,0))):=by
    have:=f.o;rw[jL,j4] at this;exact this
   clear f;go_wp2_with (first|refine pT rfl _ rfl (a+1) _ rfl K.o ?_|refine mH rfl _ _ rfl g _ _ rfl rfl s.o ?_)
   exact Own.jM results44 rfl g 95 _ (0,0) _ rfl (setRow_heap _ _ _ _ _ _ s.o) underlying95 rfl (by rw[kP];kernel_rfl) ⟨rfl,(A.o.trans ((Fw.hJ _ _ _).mono oM)).mono HG.o⟩
  ·obtain⟨i,rfl⟩:∃i,k=i+1:=⟨k-1,oM⟩
   have ei:((i+1:Nat):Int)-1=(i:Int):=oM
   rw[ei];obtain⟨R,M⟩:=eX (N / 2^(i+1) % LL);have c8:Hq (R<LL):=by
    rw[M];exact Nat.mod_lt _ dc
   have c9:Hq (N / 2^i % LL=(2*R+N / 2^i % 2) % LL):=by
    rw[M];exact TD N i
   rw[<-M] at f;clear M ei l2;have T:m.cell? ⟨b,i / 16,Y⟩=Z (I J (dg (N:Int) (i / 16))):=l.o.2 (i / 16) oM;have e7:=kk (N:Int) (i / 16);have e6:=Bm N i;obtain⟨d,hd⟩:=eX (dg (N:Int) (i / 16));rw[<-hd] at T e7 e6;clear hd;have l9:(d / 2^(i % 16)).tmod 2=((N / 2^i % 2:Nat):Int):=by
    rw[Int.tmod_eq_emod_of_nonneg (Int.ediv_nonneg e7.1 (Int.le_of_lt (Int.pow_pos dc))),e6]
   clear e6;have b1:N / 2^i % 2<=1:=oM
   generalize N / 2^i % 2=c at*;go_wp2_with fail
   go_loopw [6,7] (fun x y p=>∃k:Nat,k<=16/\y=I J (k:Int)/\x=I J (cF 65536 (c:Int) (mN R) k)/\p.heap[g]? =Z (Cl (num fun _=>0) 95 (0,0))/\p.heap[a]? =Z (Cl (num (dg P)) 95 (0,0))/\p.heap[a+1]? =Z (Cl (num (cG R c k)) 95 (0,0))/\(b<g/\∀j,j<n->p.cell? ⟨b,j,Y⟩=Z (I J (dg (N:Int) j)))/\O g w p) (fun _ y _=>16-(intOf y).toNat)
   case atStart=>exact⟨0,oM,rfl,rfl,s.o,q.o,f.o,l.o,A.o⟩
   case round=>
    clear s q f l A;rename D=>m
    obtain⟨k,hk,rfl,rfl,F,C,E,G,B⟩:=hrel;have s:Hq _:=F;have q:Hq _:=C;have f:Hq _:=E;have l:Hq _:=G;have A:Hq _:=B;clear F C E G B T l9 e7;by_cases b3:k<16
    ·have W:=lx f.o k b3
     have e9:=oa f.o k;rw[cG,if_neg (eJ k)] at W;have o0:=kk (R:Int) k;have l6:=MA R c b1 k;have l5:Hq ((2*dg (R:Int) k+cF 65536 (c:Int) (mN R) k) / 65536=cF 65536 (c:Int) (mN R) (k+1)):=rfl;have e5:Hq (∀j,(if j=k then(2*dg (R:Int) k+cF 65536 (c:Int) (mN R) k) % 65536 else cG R c k j)=cG R c (k+1) j):=QH R c k;generalize dg (R:Int) k=u at*;generalize cF 65536 (c:Int) (mN R) k=v at*;go_wp2_with fail
     refine⟨⟨k+1,oM,by rw[bB];rfl,by rw[l5.o],?_,?_,?_,⟨l.o.1,fun j z=> ?_⟩,?_⟩,?_⟩
     ·exact(aC _ _ _ g (by show g≠a+1;omega)).trans s.o
     ·exact(aC _ _ _ a (by show a≠a+1;omega)).trans q.o
     ·refine(nV f.o k _).trans ?_
      rw[lJ];intro j _;exact e5.o j
     ·exact((mS (ai g m) (a+1) k oM _).cell l.o.1).trans (l.o.2 j z)
     ·exact mS A.o _ _ oM _
     ·show 16-((k:Int)+1).toNat<16-(k:Int).toNat
      omega
    ·obtain rfl:k=16:=by omega
     have K:Hq (m.heap[a+1]? =Z (Cl (nm ((2*R+c:Nat):Int)) 95 (0,0))):=f.o.trans (congrArg (fun r=>Z (cK r 95 (0,0))) (lJ fun j z=>MB R c (jK c8.o yn) j z));have e3:Hq (2*R+c<65536^16):=LN R c c8.o b1;have e2:Hq (∀w,Rt 39 #[H (nm ((2*R+c:Nat):Int)),H (nm P)] w (Bl (decide (2*R+c<LL)))):=j9.o (2*R+c) e3.o;clear f;generalize cF 65536 (c:Int) (mN R) 16=cx at*;have j1:Hq (2*R+c<LL->(2*R+c) % LL=2*R+c):=LP R c;have j2:Hq (¬2*R+c<LL->(2*R+c) % LL=2*R+c-LL):=LO R c c8.o b1;obtain⟨U,hU⟩:=eX (2*R+c);rw[<-hU] at K e3 e2 c9 j1 j2;clear hU b1;go_wp2_with (first|refine pT rfl _ rfl (a+1) (dg (U:Int)) rfl K.o ?_|refine pT rfl _ rfl a (dg P) rfl q.o ?_)
     refine(e2.o _).mono ?_;rintro e w3 ⟨rfl,Q⟩;have l1:a+1<m.heap.size:=(aL K.o);have c7:Hq (w3.heap[g]? =_):=(Q.block _ oM).trans s.o;have b8:Hq (w3.heap[a]? =_):=(Q.block _ oM).trans q.o;have c4:Hq (w3.heap[a+1]? =_):=(Q.block _ l1).trans K.o;have e1:Hq (b<g/\∀j,j<n->w3.cell? ⟨b,j,Y⟩=Z (I J (dg (N:Int) j))):=⟨l.o.1,fun j z=>(Q.cell (by have:=l.o.1;show b<m.heap.size;omega)).trans (l.o.2 j z)⟩;have b6:Hq (O g w w3):=A.o.trans (Q.mono oM);clear Q l1 s q K l A e2;by_cases L:U<LL
     ·have l8:=decide_eq_true L
      have HE:Hq (U=N / 2^i % LL):=by
       show _=_;rw[c9.o,j1.o L]
      clear L;go_wp2_with fail
      refine⟨⟨i,oM,rfl,c7.o,b8.o,by rw[<-HE.o];exact c4.o,e1.o,b6.o⟩,?_⟩;show((i:Int)-1+1).toNat<((i:Int)+1).toNat;omega
     ·have l8:=decide_eq_false L
      have HE:Hq ((U:Int)-P=((N / 2^i % LL:Nat):Int)):=by
       show _=_;rw[c9.o,j2.o L,HO.o,Int.natCast_sub (Nat.not_lt.1 L)]
      have HU:Hq (0<=(U:Int)/\(U:Int)<65536^16):=⟨dp _,by have h:=fP.2 e3.o;rw[eM] at h;exact h⟩;have l3:Hq (0<=P/\P<65536^16):=by rw[HO.o];exact⟨dc,dc⟩
      clear L;generalize (U:Int)=V at*;go_wp2_with fail
      go_loopw [6,10] (fun x y p=>∃k:Nat,k<=16/\y=I J (k:Int)/\x=I J (cF 65536 0 (dd V P) k)/\p.heap[g]? =Z (Cl (num fun _=>0) 95 (0,0))/\p.heap[a]? =Z (Cl (num (dg P)) 95 (0,0))/\p.heap[a+1]? =Z (Cl (num (cE (dd V P) (dg V) k)) 95 (0,0))/\(b<g/\∀j,j<n->p.cell? ⟨b,j,Y⟩=Z (I J (dg (N:Int) j)))/\O g w p) (fun _ y _=>16-(intOf y).toNat)
      case atStart=>exact⟨0,oM,rfl,rfl,c7.o,b8.o,c4.o,e1.o,b6.o⟩
      case round=>
       clear c7 b8 c4 e1 b6;rename D=>m
       obtain⟨k,hk,rfl,rfl,F,C,E,G,B⟩:=hrel;have s:Hq _:=F;have q:Hq _:=C;have f:Hq _:=E;have l:Hq _:=G;have A:Hq _:=B;clear F C E G B;by_cases b3:k<16
       ·have W:=lx f.o k b3
        have e9:=oa f.o k;have l7:=lx q.o k b3;rw[cE,if_neg (eJ k)] at W;have o4:=kk V k;have n9:=kk P k;have l6:=xD (c0:=0) (Ep V P) oM k oM;have Hs:Hq (∀j,(if j=k then dg V k-dg P k+cF 65536 0 (dd V P) k-(dg V k-dg P k+cF 65536 0 (dd V P) k) / 65536*65536 else cE (dd V P) (dg V) k j)=cE (dd V P) (dg V) (k+1) j):=F2 (dd V P) (dg V) k;have e5:Hq ((dg V k-dg P k+cF 65536 0 (dd V P) k) / 65536=cF 65536 0 (dd V P) (k+1)):=rfl;generalize dg V k=u at*;generalize dg P k=v at*;generalize cF 65536 0 (dd V P) k=y at*;go_wp2_with fail
        refine wp_region_quiet_lit kr kr ?_;repeat (first|go_big_quiet_step (fail)|quiet_step (fail))
        refine wpQuiet_nil ?_;intro _ n0;obtain⟨nq,n5⟩:=n0;subst n5;have e9:(m.drewN nq).frozen? ⟨a+1,k,Y⟩=false:=e9;have W:(m.drewN nq).cell? ⟨a+1,k,Y⟩=Z (I J u):=W;have s:Hq ((m.drewN nq).heap[g]? =_):=s.o;have q:Hq ((m.drewN nq).heap[a]? =_):=q.o;have f:Hq ((m.drewN nq).heap[a+1]? =_):=f.o;have l:Hq (b<g/\∀j,j<n->(m.drewN nq).cell? ⟨b,j,Y⟩=Z (I J (dg (N:Int) j))):=l.o;have A:Hq (O g w (m.drewN nq)):=A.o.trans (Fw.below_drewN _ _ _);clear l7;generalize m.drewN nq=wb at*;go_wp2_with fail
        refine⟨⟨k+1,oM,by rw[bB];rfl,by rw[e5.o],?_,?_,?_,⟨l.o.1,fun j z=> ?_⟩,?_⟩,?_⟩
        ·exact(aC _ _ _ g (by show g≠a+1;omega)).trans s.o
        ·exact(aC _ _ _ a (by show a≠a+1;omega)).trans q.o
        ·refine(nV f.o k _).trans ?_
         rw[lJ];intro j _;exact Hs.o j
        ·exact((mS (ai g wb) (a+1) k oM _).cell l.o.1).trans (l.o.2 j z)
        ·exact mS A.o _ _ oM _
        ·show 16-((k:Int)+1).toNat<16-(k:Int).toNat
         omega
       ·obtain rfl:k=16:=by omega
        have l4:Hq (m.heap[a+1]? =Z (Cl (nm ((N / 2^i % LL:Nat):Int)) 95 (0,0))):=by
         rw[<-HE.o];exact f.o.trans (congrArg (fun r=>Z (cK r 95 (0,0))) (lJ (ET V P l3.o HU.o)))
        clear f;generalize cF 65536 0 (dd V P) 16=cy at*;go_wp2_with fail
        refine⟨⟨i,oM,rfl,s.o,q.o,l4.o,l.o,A.o⟩,?_⟩;show((i:Int)-1+1).toNat<((i:Int)+1).toNat;omega
end Dc
namespace Ap
theorem I0{w':D}{base:Nat}{size:Nat}{v:Vl}{n:Nat}{xs:List Vl}(h:w.ownsRow base e size v n xs)(i:O w.heap.size w w'):w'.ownsRow base e size v n xs:=by
 obtain⟨h1,h2⟩:=h;refine⟨h1,h2.imp (fun h=>h) ?_⟩;rintro⟨g,cap,b,c,d,a,f⟩;exact⟨g,cap,b,c,d,(i.block g (aL a)).trans a,f⟩
def qs(B:Nat)(e:TypeId)(cs:List Vl)(u:Vl)(w:D):Prop:=∃b,u= .slice (Z ⟨b,0,Y⟩) 1 1/\B<=b/\w.heap[b]? =Z (Cl cs.toArray e (0,0))
theorem qs.FQ{B:Nat}{cs:List Vl}(u:Vl)(w w':D)(h:qs B e cs u w)(a:O w.heap.size w w'):qs B e cs u w':=by
 obtain⟨b,h1,h2,h3⟩:=h;exact⟨b,h1,h2,(a.block b (aL h3)).trans h3⟩
theorem QA{P:Program}{ops:Array Oper}{rest:List Oper}{o:Oper}{a:Act}{w:D}{Q:Exit->Act->D->Prop}(r:o.guard=Y)(s x:Operand)(t:TypeId)(B:o.op= .call {callee:=.builtin .append,args:= #[s,x],argTypes:= #[t,t]})
  (e:TypeId) (z:Vl) (size bytes:Nat) (F:P.underlying t=Z (.slice e)) (h2:(P.info? e).map (fun i=>(i.zero,i.size,i.bytes))=Z (Z z,size,bytes)) (K:z.cells.size=size) (E:0<size) (m:bytes<=4096)
  (base:Nat) (v:Vl) (n:Nat) (xs:List Vl) (C:a.eval s=v) (f:w.ownsRow base e size v n xs)
  (u:Vl) (cs:List Vl) (G:a.eval x=u) (hu:qs base e cs u w) (M:cs.length=size) (h1:∀c∈cs,c.oneCell'=true) (N:n<=30000000000) (d:base<=w.heap.size)
  (h:∀v' w',w'.ownsRow base e size v' (n+1) (xs++cs)->O base w w'->v'≠ .slice none 0 0->wpList P ops Q rest (a.put o.dst v') w'):wpList P ops Q (o::rest) a w:=by
 obtain⟨i,hi,H,I,J⟩:=info_parts h2;obtain⟨b,rfl,L,p⟩:=hu;refine wpList_append_own w r s x t B base e i z size bytes F hi H I J K E v n xs C f ⟨b,0,Y⟩ 1 1 cs G oM (fun j u y=> ?_) h1 (by unfold maxLen;omega) ?_ d (fun v' w' h3 g l=> ?_)
 ·rw[Addr.add_mid,bC,cell_of_row w b j _ _ _ p]
  simpa using y
 ·have:(n+1)*bytes<=30000000001*4096:=Nat.mul_le_mul oM m
  omega
 ·refine h v' w' h3 ((ai base w).grown g d fun k A=>(f.lt k A).1) fun q=> ?_
  have:=(l.1 q).2;omega
