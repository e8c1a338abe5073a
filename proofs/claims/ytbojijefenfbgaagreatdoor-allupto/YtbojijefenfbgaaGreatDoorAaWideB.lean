/- Walks of the program's wide numbers: FromBytes, Bytes. Walks of the program's wide numbers: Bytes. Walk of the program's curve: Bytes. Walk of the program's curve: across. Walk of the program's curve: FromBytes. -/
import Derived.Test.YtbojijefenfbgaaGreatDoorAaCurveD
open Nat renaming pow_succ->bW,mul_comm->bJ,pow_mul->dV,mod_eq_of_lt->aP,shiftLeft_eq->dP,shiftLeft_add_eq_or_of_lt->ik,div_div_eq_div_mul->bZ,le_trans->ag,le_refl->bA
open BitVec renaming ofNat->aA,toNat_or->gT,toNat_ofNat->bH
open List renaming drop_append_of_le_length->gV,take_of_length_le->aT,drop_eq_nil_of_le->ec
open Go.RowKit.Below renaming refl->ai,heap_setCell->aC
open Go.IntKind renaming wrap_i64->eO
open Int renaming tmod_eq_emod_of_nonneg->cO
open UInt8 renaming ofNat->eU
open Option renaming some->Z,none->Y
open Go.Value renaming int->I,pointer->X,agg->H,bool->Bl,string->sT,tuple->Tp
open Go.IntKind renaming i64->J,u64->Uq
open Go.Obj renaming cells->Cl
open Go.Ending renaming returned->Re
open Go renaming World->D,Value->Vl
open Go.RowKit renaming Below->O
set_option maxHeartbeats 4000000
set_option maxRecDepth 100000
open Go Go.RowKit
open Go.Proofs.YtbojijefenfbgaaGreatDoor
open Own(dk jI nv mX lA mn nJ zL)
open Qt(kb gh xk ev)
open Cw(yf qw)
open UV(yN mZ mW)
open Ed(inv nf dD qd mq)
variable{a:Act}{b:Nat}{w:D}
namespace Go.Proofs.YtbojijefenfbgaaGreatDoor
open Tryz
def le:List UInt8->Nat
 |[]=>0
 |c::l=>c.toNat+256*le l
theorem CF(a b:List UInt8):le (a++b)=le a+256^a.length*le b:=by
 induction a with
 |nil=>simp[le]
 |cons c a ih=>
  show c.toNat+256*le (a++b)=c.toNat+256*le a+256^(a.length+1)*le b;rw[ih,bW,Nat.mul_add,bJ (256^a.length) 256,Nat.mul_assoc,Nat.add_assoc]
theorem uB(a:List UInt8):le a<256^a.length:=by
 induction a with
 |nil=>decide
 |cons c a ih=>
  show c.toNat+256*le a<256^(a.length+1);have h:=c.toNat_lt;rw[bW];omega
namespace Ww
open Fw Bt
def nB(l:List UInt8)(k:Nat):BitVec 64:=aA 64 (le ((l.drop (8*k)).take 8))
def qm(l:List UInt8)(k:Nat):Vl:=I Uq (un (nB l k))
theorem RW(x c s:Nat)(j:s<8)(d:x<256^s)(g:c<256):aA 64 x|||aA 64 c<<<(8*s)=aA 64 (x+256^s*c):=by
 apply BitVec.eq_of_toNat_eq;have e:(256:Nat)^s=2^(8*s):=by rw[dV]
 have i:(256:Nat)^s*256<=2^64:=by
  rcases s with _|_|_|_|_|_|_|_|s<;>first|decide|omega
 have a:x+256^s*c<2^64:=by
  have:256^s*c<=256^s*255:=Nat.mul_le_mul_left _ oM;omega
 have f:x<2^64:=oM
 have b:c*256^s<2^64:=by rw[bJ];omega
 rw[gT,BitVec.toNat_shiftLeft,bH,bH,bH,aP f,aP (by omega:c<2^64),aP a,dP,<-e,aP b];have h:=ik (show x<2^(8*s) by rw[<-e];exact d) c;rw[dP,<-e] at h;rw[Nat.or_comm,<-h,bJ,Nat.add_comm]
theorem Sk(l:List UInt8)(i k:Nat)(hi:i<l.length):(((l.take (i+1)).drop (8*k)).take 8)=if k=i / 8 then((l.take i).drop (8*k)).take 8++[l[i]] else((l.take i).drop (8*k)).take 8:=by
 have h1:l.take (i+1)=l.take i++[l[i]]:=by rw[List.take_succ_eq_append_getElem hi]
 have b:(l.take i).length=i:=by simp;omega
 rw[h1];by_cases a:k=i / 8
 ·rw[if_pos a,gV oM,List.take_append,aT (by simp;omega)]
  congr 1;rw[aT];simp;omega
 ·rw[if_neg a]
  by_cases c:8*k<=i
  ·rw[gV oM,List.take_append_of_le_length (by simp;omega)]
  ·rw[ec (by simp;omega),ec (by simp;omega)]
theorem JQ(l:List UInt8)(i k:Nat)(hi:i<l.length)(_hi32:i<32):qm (l.take (i+1)) k=if k=i / 8 then I Uq (un (nB (l.take i) (i / 8)|||aA 64 l[i].toNat<<<(8*(i % 8)))) else qm (l.take i) k:=by
 unfold qm nB;rw[Sk l i k hi];by_cases a:k=i / 8
 ·rw[if_pos a,if_pos a]
  subst a;have b:((l.take i).drop (8*(i / 8))).length=i % 8:=by simp;omega
  have d:((l.take i).drop (8*(i / 8))).take 8=(l.take i).drop (8*(i / 8)):=aT (by rw[b];omega);have c:=uB ((l.take i).drop (8*(i / 8)));rw[b] at c;rw[d,CF,b];congr 2;rw[RW _ _ _ oM c (UInt8.toNat_lt _)];simp[le]
 ·rw[if_neg a,if_neg a]
def bq(l:List UInt8):Q:=⟨nB l 0,nB l 1,nB l 2,nB l 3⟩
theorem RB(l:List UInt8)(k:Nat):(nB l k).toNat=le ((l.drop (8*k)).take 8):=by
 unfold nB;rw[bH];apply aP;have h:=uB ((l.drop (8*k)).take 8);have h2:((l.drop (8*k)).take 8).length<=8:=by simp;omega
 have h3:(256:Nat)^((l.drop (8*k)).take 8).length<=256^8:=Nat.pow_le_pow_right dc h2;have a:(256:Nat)^8=2^64:=dc
 omega
theorem y'(l:List UInt8):le l=le (l.take 8)+18446744073709551616*le (l.drop 8):=by
 by_cases h:8<=l.length
 ·have e:=CF (l.take 8) (l.drop 8)
  rw[List.take_append_drop,show(l.take 8).length=8 by simp;omega] at e;exact e
 ·rw[aT oM,ec oM];rfl
theorem tB(l:List UInt8)(h:l.length<=32):(bq l).num=le l:=by
 unfold bq Q.num;simp only[RB];have e0:=y' l;have a:=y' (l.drop 8);have b:=y' (l.drop 16);have c:=y' (l.drop 24);rw[List.drop_drop] at a b c;rw[show(l.drop (24+8))=[] from ec oM,show le []=0 from rfl] at c;simp only[Nat.mul_zero,Nat.mul_one,List.drop_zero] at*;rw[show 8+8=16 from rfl] at a;rw[show 16+8=24 from rfl] at b;rw[show 8*2=16 from rfl,show 8*3=24 from rfl];omega
theorem WD(l:List UInt8)(B:32<l.length)(w:D):Rt 105 #[sT ⟨l.toArray⟩] w (H (bq (l.take 32)).cells):=by
 have a:Hq (((w.alloc (Cl zQ.cells 184)).alloc (Cl zQ.cells 184)).heap[w.heap.size+1]? =Z (Cl (dk 4 (qm (l.take 0))) 184 (0,0))):=jv _ _ _ sP;have m:Hq (fY ((w.alloc (Cl zQ.cells 184)).alloc (Cl zQ.cells 184)) w.heap.size zQ):=fY.below (jv w _ _ rfl) ((ai (w.heap.size+1) _).alloc sP _) oM;have C:((32:Int)<(l.length:Int)):=oM
 go_enter func105,ntmps105
 go_wp2_with fail
 go_loopw [8] (fun i g=>∃k:Nat,k<=32/\i=I J (k:Int)/\g.heap[w.heap.size+1]? =Z (Cl (dk 4 (qm (l.take k))) 184 (0,0))/\fY g w.heap.size zQ/\O w.heap.size w g) (fun i _=>32-(intOf i).toNat)
 case atStart=>exact⟨0,oM,rfl,a.o,m.o,((ai _ _).alloc lR _).alloc sP _⟩
 case round=>
  clear a m;rename D=>f
  obtain⟨k,A,rfl,q,r,n⟩:=hrel;have b:Hq _:=q;have a:Hq (fY f w.heap.size zQ):=r;have h:Hq _:=n;clear q r n;by_cases x:k<32
  ·have s:Hq _:=jI b.o (k / 8) oM
   go_wp2_with fail
   refine Qt.im 14 kr kr ?_;refine yw (I J (k:Int)) ?_;refine kb rfl (I J ((k / 8:Nat):Int)) (fun w' _=>by go_simp;rw[eO];omega) ?_;simp only[zD];refine Qt.qc rfl 184 _ _ rfl 159 4 1 underlying184 kr kr (w.heap.size+1) 0 (k / 8) .i64 rfl rfl oM ?_;rw[show 0+k / 8*1=k / 8 by omega];refine yf rfl _ rfl (w.heap.size+1) (k / 8) (I Uq (un (nB (l.take k) (k / 8)))) rfl (aL b.o) s.o ?_;simp only[zD];refine yw (sT ⟨l.toArray⟩) ?_;refine yV (I J (k:Int)) ?_;refine kb rfl (I .u8 (l[k].toNat:Int)) (fun w' _=> ?_) ?_
   ·go_simp
    rw[dif_pos oM];rfl
   refine kb rfl (I Uq (un (aA 64 l[k].toNat))) (fun w' _=> ?_) ?_
   ·go_simp
    exact yN _
   refine yV (I J (k:Int)) ?_;refine kb rfl (I J ((k % 8:Nat):Int)) (fun w' _=>by go_simp;exact cO oM) ?_;refine kb rfl (I J ((8*(k % 8):Nat):Int)) (fun w' _=> ?_) ?_
   ·go_simp
    rw[eO];omega
   simp only[zD];refine kb rfl (I Uq (un (aA 64 l[k].toNat<<<(8*(k % 8))))) (fun w' _=> ?_) ?_
   ·go_simp
    rw[show(8*((k:Int) % 8)).toNat=8*(k % 8) by omega];exact mZ _ _
   refine kb rfl (I Uq (un (nB (l.take k) (k / 8)|||aA 64 l[k].toNat<<<(8*(k % 8))))) (fun w' _=> ?_) ?_
   ·go_simp
    exact mW _ _
   simp only[zD];refine Qt.qc rfl 184 _ _ rfl 159 4 1 underlying184 kr kr (w.heap.size+1) 0 (k / 8) .i64 rfl rfl oM ?_;rw[show 0+k / 8*1=k / 8 by omega];simp only[zD];refine gh ?_;intro w1 p;have d:Hq (O f.heap.size f w1):=p;clear p;have c:Hq _:=(d.o.block _ (aL b.o)).trans b.o;have y:=jI c.o (k / 8) oM;have z:=nv c.o (k / 8);have e:=mX c.o (k / 8) (I Uq (un (nB (l.take k) (k / 8)|||aA 64 l[k].toNat<<<(8*(k % 8)))));rw[show(fun j=>if j=k / 8 then Value.int .u64 (un (nB (l.take k) (k / 8)|||aA 64 l[k].toNat<<<(8*(k % 8)))) else qm (l.take k) j)=qm (l.take (k+1)) from funext fun j=>(JQ l k j oM x).symm] at e;have u:Hq _:=e;have v:Hq (fY (w1.setCell ⟨w.heap.size+1,k / 8,Y⟩ (I Uq (un (nB (l.take k) (k / 8)|||aA 64 l[k].toNat<<<(8*(k % 8)))))) w.heap.size zQ):=by
    show _=_;rw[aC _ _ _ _ (by show w.heap.size≠w.heap.size+1;omega)];exact a.o.below d.o a.o.lt
   clear e;go_wp2_with fail
   exact⟨⟨k+1,oM,by go_num,u.o,v.o,(tR h d).setCell (by show w.heap.size<=w.heap.size+1;omega) _⟩,by simp[intOf];omega⟩
  ·obtain rfl:k=32:=by omega
   have t:Hq _:=b.o;go_wp2_with (first|refine oz rfl _ rfl (w.heap.size+1) (bq (l.take 32)) rfl t.o ?_|refine pP rfl _ _ rfl w.heap.size (bq (l.take 32)) zQ rfl rfl a.o ?_)
   exact uG results105 rfl w.heap.size (bq (l.take 32)) rfl (a.o.setRow _) ⟨rfl,h.o.trans ((hJ _ _ _).mono lR)⟩
theorem WC(l:List UInt8)(B:l.length=32)(w:D):Rt 105 #[sT ⟨l.toArray⟩] w (H (bq (l.take 32)).cells):=by
 have a:Hq (((w.alloc (Cl zQ.cells 184)).alloc (Cl zQ.cells 184)).heap[w.heap.size+1]? =Z (Cl (dk 4 (qm (l.take 0))) 184 (0,0))):=jv _ _ _ sP;have m:Hq (fY ((w.alloc (Cl zQ.cells 184)).alloc (Cl zQ.cells 184)) w.heap.size zQ):=fY.below (jv w _ _ rfl) ((ai (w.heap.size+1) _).alloc sP _) oM;have C:((l.length:Int)=32):=oM
 go_enter func105,ntmps105
 go_wp2_with fail
 go_loopw [8] (fun i g=>∃k:Nat,k<=32/\i=I J (k:Int)/\g.heap[w.heap.size+1]? =Z (Cl (dk 4 (qm (l.take k))) 184 (0,0))/\fY g w.heap.size zQ/\O w.heap.size w g) (fun i _=>32-(intOf i).toNat)
 case atStart=>exact⟨0,oM,rfl,a.o,m.o,((ai _ _).alloc lR _).alloc sP _⟩
 case round=>
  clear a m;rename D=>f
  obtain⟨k,A,rfl,q,r,n⟩:=hrel;have b:Hq _:=q;have a:Hq (fY f w.heap.size zQ):=r;have h:Hq _:=n;clear q r n;by_cases x:k<32
  ·have s:Hq _:=jI b.o (k / 8) oM
   go_wp2_with fail
   refine Qt.im 14 kr kr ?_;refine yw (I J (k:Int)) ?_;refine kb rfl (I J ((k / 8:Nat):Int)) (fun w' _=>by go_simp;rw[eO];omega) ?_;simp only[zD];refine Qt.qc rfl 184 _ _ rfl 159 4 1 underlying184 kr kr (w.heap.size+1) 0 (k / 8) .i64 rfl rfl oM ?_;rw[show 0+k / 8*1=k / 8 by omega];refine yf rfl _ rfl (w.heap.size+1) (k / 8) (I Uq (un (nB (l.take k) (k / 8)))) rfl (aL b.o) s.o ?_;simp only[zD];refine yw (sT ⟨l.toArray⟩) ?_;refine yV (I J (k:Int)) ?_;refine kb rfl (I .u8 (l[k].toNat:Int)) (fun w' _=> ?_) ?_
   ·go_simp
    rfl
   refine kb rfl (I Uq (un (aA 64 l[k].toNat))) (fun w' _=> ?_) ?_
   ·go_simp
    exact yN _
   refine yV (I J (k:Int)) ?_;refine kb rfl (I J ((k % 8:Nat):Int)) (fun w' _=>by go_simp;exact cO oM) ?_;refine kb rfl (I J ((8*(k % 8):Nat):Int)) (fun w' _=> ?_) ?_
   ·go_simp
    rw[eO];omega
   simp only[zD];refine kb rfl (I Uq (un (aA 64 l[k].toNat<<<(8*(k % 8))))) (fun w' _=> ?_) ?_
   ·go_simp
    rw[show(8*((k:Int) % 8)).toNat=8*(k % 8) by omega];exact mZ _ _
   refine kb rfl (I Uq (un (nB (l.take k) (k / 8)|||aA 64 l[k].toNat<<<(8*(k % 8))))) (fun w' _=> ?_) ?_
   ·go_simp
    exact mW _ _
   simp only[zD];refine Qt.qc rfl 184 _ _ rfl 159 4 1 underlying184 kr kr (w.heap.size+1) 0 (k / 8) .i64 rfl rfl oM ?_;rw[show 0+k / 8*1=k / 8 by omega];simp only[zD];refine gh ?_;intro w1 p;have d:Hq (O f.heap.size f w1):=p;clear p;have c:Hq _:=(d.o.block _ (aL b.o)).trans b.o;have y:=jI c.o (k / 8) oM;have z:=nv c.o (k / 8);have e:=mX c.o (k / 8) (I Uq (un (nB (l.take k) (k / 8)|||aA 64 l[k].toNat<<<(8*(k % 8)))));rw[show(fun j=>if j=k / 8 then Value.int .u64 (un (nB (l.take k) (k / 8)|||aA 64 l[k].toNat<<<(8*(k % 8)))) else qm (l.take k) j)=qm (l.take (k+1)) from funext fun j=>(JQ l k j oM x).symm] at e;have u:Hq _:=e;have v:Hq (fY (w1.setCell ⟨w.heap.size+1,k / 8,Y⟩ (I Uq (un (nB (l.take k) (k / 8)|||aA 64 l[k].toNat<<<(8*(k % 8)))))) w.heap.size zQ):=by
    show _=_;rw[aC _ _ _ _ (by show w.heap.size≠w.heap.size+1;omega)];exact a.o.below d.o a.o.lt
   clear e;go_wp2_with fail
   exact⟨⟨k+1,oM,by go_num,u.o,v.o,(tR h d).setCell (by show w.heap.size<=w.heap.size+1;omega) _⟩,by simp[intOf];omega⟩
  ·obtain rfl:k=32:=by omega
   have t:Hq _:=b.o;go_wp2_with (first|refine oz rfl _ rfl (w.heap.size+1) (bq (l.take 32)) rfl t.o ?_|refine pP rfl _ _ rfl w.heap.size (bq (l.take 32)) zQ rfl rfl a.o ?_)
   exact uG results105 rfl w.heap.size (bq (l.take 32)) rfl (a.o.setRow _) ⟨rfl,h.o.trans ((hJ _ _ _).mono lR)⟩
theorem zM(l:List UInt8)(a:32<=l.length)(w:D):Rt 105 #[sT ⟨l.toArray⟩] w (H (bq (l.take 32)).cells):=by
 rcases Nat.lt_or_ge 32 l.length with h|h
 ·exact WD l h w
 ·exact WC l oM w
end Ww
def leB(n:Nat):Nat->List UInt8
 |0=>[]
 |k+1=>eU (n % 256)::leB (n / 256) k
theorem xw(k n:Nat):(leB n k).length=k:=by
 induction k generalizing n with
 |zero=>rfl
 |succ k ih=>simp[leB,ih]
theorem B5(k n i:Nat)(h:i<(leB n k).length):(leB n k)[i]=eU (n / 256^i % 256):=by
 induction k generalizing n i with
 |zero=>simp[leB] at h
 |succ k ih=>
  rcases i with _|i
  ·simp[leB]
  ·simp only[leB,List.getElem_cons_succ]
   rw[ih,bZ,bW,bJ]
theorem Nu(k n:Nat)(h:n<256^k):le (leB n k)=n:=by
 induction k generalizing n with
 |zero=>simp at h;subst h;rfl
 |succ k ih=>
  show(eU (n % 256)).toNat+256*le (leB (n / 256) k)=n;rw[ih _ (by rw[bW] at h;omega)];have:(eU (n % 256)).toNat=n % 256:=by simp
  rw[this];omega
theorem Br(l:List UInt8):leB (le l) l.length=l:=by
 induction l with
 |nil=>rfl
 |cons c l ih=>
  show eU ((c.toNat+256*le l) % 256)::leB ((c.toNat+256*le l) / 256) l.length=_;have h:=c.toNat_lt;rw[show(c.toNat+256*le l) / 256=le l by omega,ih,show(c.toNat+256*le l) % 256=c.toNat by omega];simp
namespace Ww
open Fw Bt
theorem Jh(q:Q)(a:Nat)(c:a<4):∃r,q.num / 18446744073709551616^a=(qw q a).toNat+18446744073709551616*r:=by
 have b:=q.a0.isLt;have h1:=q.a1.isLt;have h2:=q.a2.isLt;have h3:=q.a3.isLt;unfold Q.num;rcases a with _|_|_|_|a
 ·exact⟨q.a1.toNat+18446744073709551616*q.a2.toNat+340282366920938463463374607431768211456*q.a3.toNat,by show _=q.a0.toNat+_;omega⟩
 ·exact⟨q.a2.toNat+18446744073709551616*q.a3.toNat,by show _=q.a1.toNat+_;omega⟩
 ·exact⟨q.a3.toNat,by show _=q.a2.toNat+_;omega⟩
 ·exact⟨0,by show _=q.a3.toNat+_;omega⟩
 ·omega
theorem Us(x r b:Nat)(a:b<8):(x+18446744073709551616*r) / 256^b % 256=x / 256^b % 256:=by
 rcases b with _|_|_|_|_|_|_|_|b
 ·simp;omega
 ·simp;omega
 ·simp;omega
 ·simp;omega
 ·simp;omega
 ·simp;omega
 ·simp;omega
 ·simp;omega
 ·omega
theorem Mz(q:Q)(k:Nat)(b:k<32):q.num / 256^k % 256=(qw q (k / 8)).toNat / 256^(k % 8) % 256:=by
 obtain⟨r,a⟩:=Jh q (k / 8) oM;have e:(256:Nat)^k=18446744073709551616^(k / 8)*256^(k % 8):=by
  rw[show(18446744073709551616:Nat)=256^8 from by decide,<-dV,<-Nat.pow_add];congr 1;omega
 rw[e,<-bZ,a,Us _ _ _ oM]
def nS(q:Q)(k j:Nat):Vl:=if j<k then I .u8 ((q.num / 256^j % 256:Nat):Int) else I .u8 0
theorem CJ(q:Q)(k:Nat):(fun j=>if j=k then Value.int .u8 ((q.num / 256^k % 256:Nat):Int) else nS q k j)=nS q (k+1):=by
 funext j;unfold nS;by_cases h:j=k
 ·subst h;rw[if_pos rfl,if_pos oM]
 ·rw[if_neg h]
  by_cases h2:j<k
  ·rw[if_pos h2,if_pos oM]
  ·rw[if_neg h2,if_neg oM]
theorem Ut(q:Q)(k:Nat)(a:k<32):IntKind.u8.wrap (un (qw q (k / 8)>>>(8*(k % 8))))=((q.num / 256^k % 256:Nat):Int):=by
 rw[Mz q k a];unfold un;rw[BitVec.toNat_ushiftRight,Nat.shiftRight_eq_div_pow,show(256:Nat)^(k % 8)=2^(8*(k % 8)) by rw[dV]];rw[IntKind.wrap_u8];rfl
theorem wJ{q:Q}(h:fY w b q)(k:Nat)(a:k<4):w.cell? ⟨b,k,Y⟩=Z (I Uq (un (qw q k))):=by
 rw[cell_of_row w b k _ _ _ h];rcases k with _|_|_|_|k<;>first|rfl|omega
attribute [local go_sem] UV.ni UV.nX UV.ot UV.nM UV.nj UV.mW UV.mE UV.mZ UV.nY UV.om UV.nW
theorem Xq(W:D)(b:Nat):Sem.run prog (Instr.sliceAt 296 (X (Z ⟨b,0,Y⟩)) none none Y) W= .ok (.slice (Z ⟨b,0,Y⟩) 32 32) W:=by
 kernel_rfl
theorem F0(q:Q)(w:D):Rt 122 #[H q.cells] w (sT ⟨(leB q.num 32).toArray⟩):=by
 have g:Hq (((w.alloc (Cl q.cells 184)).alloc (Cl (lA 32 (I .u8 0)) 296)).heap[w.heap.size+1]? =Z (Cl (dk 32 (nS q 0)) 296 (0,0))):=by
  show _=_;rw[show dk 32 (nS q 0)=lA 32 (I .u8 0) from mn fun j _=>if_neg oM];exact jv _ _ _ sP
 have b:Hq (fY ((w.alloc (Cl q.cells 184)).alloc (Cl (lA 32 (I .u8 0)) 296)) w.heap.size q):=fY.below (jv w _ _ rfl) ((ai (w.heap.size+1) _).alloc sP _) oM;go_enter func122,ntmps122
 go_wp2_with (refine nJ _ rfl 296 rfl (lA 32 (I .u8 0)) kr ?_)
 go_loopw [5] (fun i e=>∃k:Nat,k<=32/\i=I J (k:Int)/\e.heap[w.heap.size+1]? =Z (Cl (dk 32 (nS q k)) 296 (0,0))/\fY e w.heap.size q/\O w.heap.size w e) (fun i _=>32-(intOf i).toNat)
 case atStart=>exact⟨0,oM,rfl,g.o,b.o,((ai _ _).alloc lR _).alloc sP _⟩
 case round=>
  clear g b;rename D=>a
  obtain⟨k,C,rfl,s,r,l⟩:=hrel;have c:Hq (a.heap[w.heap.size+1]? =Z (Cl (dk 32 (nS q k)) 296 (0,0))):=s;have b:Hq (fY a w.heap.size q):=r;have f:Hq (O w.heap.size w a):=l;clear s r l;by_cases p:k<32
  ·have z:a.cell? ⟨w.heap.size,k / 8,Y⟩=Z (I Uq (un (qw q (k / 8)))):=wJ b.o (k / 8) oM
   have A:a.cell? ⟨w.heap.size+1,k,Y⟩=Z (nS q k k):=jI c.o k p;have B:a.frozen? ⟨w.heap.size+1,k,Y⟩=false:=nv c.o k;have y:=Ut q k p;have d:=mX c.o k (I .u8 ((q.num / 256^k % 256:Nat):Int));rw[CJ] at d;have x:Hq _:=d;have u:Hq (fY (a.setCell ⟨w.heap.size+1,k,Y⟩ (I .u8 ((q.num / 256^k % 256:Nat):Int))) w.heap.size q):=by
    show _=_;rw[aC _ _ _ _ (by show w.heap.size≠w.heap.size+1;omega)];exact b.o
   clear d;go_wp2_with fail
   exact⟨⟨k+1,oM,by go_num,x.o,u.o,f.o.setCell (by show w.heap.size<=w.heap.size+1;omega) _⟩,by simp[intOf];omega⟩
  ·obtain rfl:k=32:=by omega
   have t:Hq (∀j (h:j<(leB q.num 32).length),a.cell? ⟨w.heap.size+1,0+j,Y⟩=Z (I .u8 ((leB q.num 32)[j].toNat:Int))):=fun j m=>by
    have n:j<32:=by rw[xw] at m;exact m
    rw[Nat.zero_add,jI c.o j n,B5];unfold nS;rw[if_pos n];simp
   have E:=fun W=>Xq W (w.heap.size+1);go_wp2_with (refine zL _ rfl _ 145 9 5 rfl underlying145 underlying5 underlying9 (w.heap.size+1) 0 32 (leB q.num 32) rfl t.o ?_)
   exact bodyPost_ret (v:=sT ⟨(leB q.num 32).toArray⟩) (by simp[results,results122,go_sem]) rfl ⟨rfl,f.o⟩
end Ww
namespace Ed
def enc(x y:F):Nat:=y.val+(if iq x then 57896044618658097711785492504343953926634992332820282019728792003956564819968 else 0)
theorem ML(x y:F):enc x y<115792089237316195423570985008687907853269984665640564039457584007913129639936:=by
 have h:y.val<57896044618658097711785492504343953926634992332820282019728792003956564819949:=y.isLt;unfold enc;split<;>omega
end Ed
namespace Cw
open Fw Ww Bt
def sc(q:Q):Q:=⟨q.a0,q.a1,q.a2,q.a3|||9223372036854775808#64⟩
theorem NK(x:BitVec 64)(h:x.toNat<9223372036854775808):(x|||9223372036854775808#64).toNat=x.toNat+9223372036854775808:=by
 rw[gT,show(9223372036854775808#64).toNat=1<<<63 from rfl,Nat.or_comm,<-ik (show x.toNat<2^63 from h)];omega
theorem P'(y:Ed.F):(sc (nq y.val)).num=y.val+57896044618658097711785492504343953926634992332820282019728792003956564819968:=by
 have a:=pa y;have b:y.val<57896044618658097711785492504343953926634992332820282019728792003956564819949:=y.isLt;generalize nq y.val=q at a⊢;unfold Q.num at a;have h3:q.a3.toNat<9223372036854775808:=oM
 unfold sc Q.num;simp only;rw[NK _ h3];omega
theorem Wo(x:BitVec 64):bits .or .u64 (un x) 9223372036854775808=un (x|||9223372036854775808#64):=mW x 9223372036854775808#64
noncomputable abbrev B1(w:D)(p:Ed.E):D:=w.alloc (Cl (pw p) 163)
theorem VG(w:D)(p:Ed.E):fb (B1 w p) w.heap.size p:=jv _ _ _ rfl
theorem Ic(w:D)(p:Ed.E):O w.heap.size w (B1 w p):=(ai _ _).alloc lR _
theorem fY.IC{q:Q}(h:fY w b q)(v:BitVec 64):fY (w.setCell ⟨b,3,Y⟩ (I Uq (un v))) b ⟨q.a0,q.a1,q.a2,v⟩:=by
 have h1:=heap_setCell_same w b 3 q.cells 184 (I Uq (un v)) h;exact h1
theorem fY.frozen{w:D}{b:Nat}{q:Q}(h:fY w b q)(k:Nat):w.frozen? ⟨b,k,Y⟩=false:=frozen_of_row w b k _ _ h
theorem Tv(p:Ed.E)(w:D):Rt 113 #[H (pw p)] w (sT ⟨(leB (Ed.enc (p.x*inv p.z) (p.y*inv p.z)) 32).toArray⟩):=by
 obtain⟨a,G⟩:=eX (inv p.z);have W:Hq (∀w,Rt 178 #[H (fw p.z)] w (H (fw a))):=by rw[G];exact SV p.z
 rw[<-G];clear G;have m:Hq (fb (B1 w p) w.heap.size p):=VG w p;go_enter func113,ntmps113
 go_wp2_with (refine xk 3 _ rfl 161 rfl lM kr rfl ?_)
 rename_i Kq a6;refine yw (X (Z ⟨w.heap.size,8,Y⟩)) ?_;refine mL rfl _ rfl w.heap.size 8 p.z rfl m.o.lt m.o.z ?_;refine ev rfl 178 #[H (fw p.z)] (H (fw a)) (fun _=>kr) (fun w' _=>W.o w') ?_;simp only[zD];refine gh ?_;intro d wa1 k j P;have k:O (B1 w p).heap.size (B1 w p) wa1:=by first|exact k|exact k.mono sP
 have j:(B1 w p).heap.size<=d:=by first|exact j|exact ag sP j
 refine mH rfl rfl d a rfl rfl k j P ?_;intro w1 N f;have b:Hq (O (B1 w p).heap.size (B1 w p) w1):=f;have l:Hq (b' w1 d a):=N;have h:Hq (fb w1 w.heap.size p):=m.o.below b.o m.o.lt;have t:Hq (O w.heap.size w w1):=(Ic w p).trans (b.o.mono (Ic w p).size);clear N f P j k b;simp only[zD];refine Qt.done (a6 _ _ ?_);refine wp_seq (Qt.rh 5 _ rfl 184 rfl zQ.cells kr rfl ?_);refine yw (X (Z ⟨w.heap.size,4,Y⟩)) ?_;refine mL rfl _ rfl w.heap.size 4 p.y rfl h.o.lt h.o.y ?_;simp only[zD];refine iv rfl _ rfl (d) (a) rfl l.o ?_;refine ev rfl 179 #[H (fw (p.y)),H (fw (a))] _ (fun _=>kr) (fun w' _=>mK (p.y) (a) w') ?_;refine ev rfl 180 #[H (fw (p.y*a))] (H (nq (p.y*a).val).cells) (fun _=>kr) (fun w' _=>Pq (p.y*a) w') ?_;simp only[zD];refine gh ?_;intro c wa2 R J f;refine pP rfl _ _ rfl c (nq (p.y*a).val) zQ rfl rfl f ?_;obtain⟨w2,s⟩:=eX (wa2.setRow c (nq (p.y*a).val).cells);rw[<-s];have b:Hq (O w1.heap.size w1 w2):=by rw[s];exact R.trans ((hJ _ _ _).mono J)
 have B:Hq (fY w2 c (nq (p.y*a).val)):=by rw[s];exact fY.setRow f _
 have M:Hq (b' w2 d a):=l.o.below b.o l.o.lt;have C:Hq (fb w2 w.heap.size p):=h.o.below b.o h.o.lt;have K:=tq t b;have S:Hq (w.heap.size<=c):=ag t.o.size J;clear s R J f b l h t;simp only[zD];refine Qt.done (wp_seq ?_);refine wp_seq (Qt.Dh 5 ?_);refine yw (X (Z ⟨w.heap.size,0,Y⟩)) ?_;refine mL rfl _ rfl w.heap.size 0 p.x rfl C.o.lt C.o.x ?_;simp only[zD];refine iv rfl _ rfl (d) (a) rfl M.o ?_;refine ev rfl 179 #[H (fw (p.x)),H (fw (a))] _ (fun _=>kr) (fun w' _=>mK (p.x) (a) w') ?_;refine ev rfl 181 #[H (fw (p.x*a))] (Bl (Ed.iq (p.x*a))) (fun _=>kr) (fun w' _=>wo (p.x*a) w') ?_;simp only[zD];refine gh ?_;intro w3 Q;have b:Hq (O w2.heap.size w2 w3):=Q;have g:Hq (fY w3 c (nq (p.y*a).val)):=B.o.below b.o B.o.lt;have u:=tq K b;clear Q b B M C K;refine Qt.done ?_;obtain⟨q,r⟩:=eX (nq (p.y*a).val);have V:Hq ((sc q).num=(p.y*a).val+57896044618658097711785492504343953926634992332820282019728792003956564819968):=by rw[r];exact P' _
 have U:Hq (q.num=(p.y*a).val):=by rw[r];exact pa _
 rw[<-r] at g⊢;clear r;cases n:Ed.iq (p.x*a) with
 |true=>
  have A:Hq (Ed.enc (p.x*a) (p.y*a)=(sc q).num):=by
   show _=_;rw[V.o];unfold Ed.enc;rw[n];rfl
  have a7:w3.cell? ⟨c,3,Y⟩=Z (I Uq (un q.a3)):=wJ g.o 3 oM;have a8:w3.frozen? ⟨c,3,Y⟩=false:=fY.frozen g.o 3;have T:Hq (fY (w3.setCell ⟨c,3,Y⟩ (I Uq (un (q.a3|||9223372036854775808#64)))) c (sc q)):=fY.IC g.o _;have L:Hq (O w.heap.size w (w3.setCell ⟨c,3,Y⟩ (I Uq (un (q.a3|||9223372036854775808#64))))):=u.o.setCell S.o _;have b0:=Wo q.a3;clear n;go_wp2_with (refine oz rfl _ rfl c (sc q) rfl T.o ?_)
  refine(F0 (sc q) _).mono ?_;rintro e w5 ⟨rfl,i⟩;have F:Hq _:=i;clear i;go_wp2_with fail
  exact bodyPost_ret (v:=sT ⟨(leB (sc q).num 32).toArray⟩) (by simp[results,results113,go_sem]) rfl ⟨by rw[A.o],L.o.trans (F.o.mono L.o.size)⟩
 |false=>
  have A:Hq (Ed.enc (p.x*a) (p.y*a)=q.num):=by
   show _=_;rw[U.o];unfold Ed.enc;rw[n];rfl
  clear n;go_wp2_with (refine oz rfl _ rfl c q rfl g.o ?_)
  refine(F0 q _).mono ?_;rintro e w5 ⟨rfl,i⟩;have F:Hq _:=i;clear i;go_wp2_with fail
  exact bodyPost_ret (v:=sT ⟨(leB q.num 32).toArray⟩) (by simp[results,results113,go_sem]) rfl ⟨by rw[A.o],u.o.trans (F.o.mono u.o.size)⟩
theorem Jk(a b:Bool):(a !=b)= !(a==b):=by cases a<;>cases b<;>rfl
theorem T8(y:Ed.F)(d:Bool)(w:D):Rt 155 #[H (fw y),Bl d] w (Tp #[H (fw (nf y d).1),Bl (nf y d).2]):=by
 obtain⟨r,K⟩:=eX (Ed.pZ (y*y-1) (dD*(y*y)+1));have a7:Hq (∀w,Rt 225 #[H (fw (y*y-1)),H (fw (dD*(y*y)+1))] w (Tp #[H (fw r.1),Bl r.2])):=by rw[K];exact N0 _ _
 have B:Hq (nf y d=qd r d):=by rw[K];rfl
 clear K;have M:Hq (b' (W2 w y) w.heap.size y):=rT w y;have C:Hq (b' (W2 w y) (w.heap.size+1) 0):=rl w y;have N:Hq (O w.heap.size w (W2 w y)):=t' w y;go_enter func155,ntmps155
 go_wp2_with (refine xk 2 _ rfl 161 rfl lM kr rfl ?_)
 rename_i Kq a8;refine iv rfl _ rfl (w.heap.size) (y) rfl M.o ?_;refine ev rfl 224 #[H (fw (y))] _ (fun _=>kr) (fun w' _=>ra (y) w') ?_;simp only[zD];refine gh ?_;intro n wa1 u s R;have u:O (W2 w y).heap.size (W2 w y) wa1:=by first|exact u|exact u.mono sP
 have s:(W2 w y).heap.size<=n:=by first|exact s|exact ag sP s
 refine mH rfl rfl n (y*y) rfl rfl u s R ?_;intro w1 p S;have a:Hq (O (W2 w y).heap.size (W2 w y) w1):=S;have G:Hq (b' w1 n (y*y)):=p;have z:Hq (b' w1 (w.heap.size+1) 0):=C.o.below a.o C.o.lt;have A:=tq N a;clear p S R s u a M C N;simp only[zD];refine Qt.done (a8 _ _ ?_);refine wp_seq ?_;refine Qt.uO 12 kr kr _ _ rfl rfl 161 rfl lM kr _ _ rfl (fw r.1) (by rw[lQ];kernel_rfl) (by rw[lQ];rfl) (wC _) ?_;refine iv rfl _ rfl (n) (y*y) rfl G.o ?_;refine ev rfl 227 #[] (H (fw 1)) (fun _=>kr) (fun w' _=>yb w') ?_;refine ev rfl 226 #[H (fw (y*y)),H (fw (1))] _ (fun _=>kr) (fun w' _=>qX (y*y) (1) w') ?_;simp only[zD];refine ev rfl 228 #[] (H (fw dD)) (fun _=>kr) (fun w' _=>UP w') ?_;refine iv rfl _ rfl (n) (y*y) rfl G.o ?_;refine ev rfl 179 #[H (fw (dD)),H (fw (y*y))] _ (fun _=>kr) (fun w' _=>mK (dD) (y*y) w') ?_;simp only[zD];refine ev rfl 227 #[] (H (fw 1)) (fun _=>kr) (fun w' _=>yb w') ?_;refine ev rfl 229 #[H (fw (dD*(y*y))),H (fw (1))] _ (fun _=>kr) (fun w' _=>rD (dD*(y*y)) (1) w') ?_;simp only[zD];refine ev rfl 225 #[H (fw (y*y-1)),H (fw (dD*(y*y)+1))] (Tp #[H (fw r.1),Bl r.2]) (fun _=>kr) (fun w' _=>a7.o w') ?_;simp only[zD];refine yw (Tp #[H (fw r.1),Bl r.2]) ?_;refine yw (H (fw r.1)) ?_;refine yV (Bl r.2) ?_;refine gh ?_;refine⟨fun _=>rfl,fun _=>rfl,?_⟩;intro c w2 I p f;have a:Hq (O w1.heap.size w1 w2):=f;have j:Hq (b' w2 c r.1):=p;have g:Hq (b' w2 (w.heap.size+1) 0):=z.o.below a.o z.o.lt;have v:=tq A a;have Y:Hq (w.heap.size+1≠c):=by have h1:=z.o.lt;have h2:=I;show _≠_;omega
 have X:Hq (w.heap.size<=c):=ag A.o.size I;clear p f I a G z A;simp only[List.setIfInBounds_toArray,List.set_cons_zero,List.set_cons_succ];cases l:r.2 with
 |false=>
  have m:Hq (qd r d=(0,false)):=if_pos l;clear l;go_wp2_with (refine Cg rfl _ _ rfl (w.heap.size+1) 0 rfl rfl g.o ?_)
  exact sF results155 rfl (w.heap.size+1) 0 false rfl rfl (g.o.setRow _) ⟨by rw[B.o,m.o],v.o.trans ((hJ _ _ _).mono oM)⟩
 |true=>
  cases t:(Ed.iq r.1==d) with
  |true=>
   have m:Hq (qd r d=(r.1,true)):=(if_neg (by rw[l];decide)).trans (if_pos (eq_of_beq t));have J:=Jk (Ed.iq r.1) d;rw[t] at J;clear l;go_wp2_with (refine k' rfl _ rfl c r.1 rfl j.o ?_)
   refine(wo r.1 _).mono ?_;rintro e w3 ⟨rfl,f⟩;have a:Hq (O w2.heap.size w2 w3):=f;have k:Hq (b' w3 c r.1):=j.o.below a.o j.o.lt;have i:Hq (b' w3 (w.heap.size+1) 0):=g.o.below a.o g.o.lt;have x:=tq v a;clear f a;go_wp2_with fail
   refine Qt.wS 5 3 kr kr dc dc _ rfl 161 _ _ rfl (w.heap.size+1) (fw 0) (fw r.1) i.o (by rw[lQ];kernel_rfl) (by rw[lQ,lQ]) (wC _) ?_;refine iv rfl _ rfl (c) (r.1) rfl k.o ?_;refine iv rfl _ rfl (c) (r.1) rfl k.o ?_;refine ev rfl 181 #[H (fw r.1)] (Bl (Ed.iq r.1)) (fun _=>kr) (fun w' _=>wo r.1 w') ?_;simp only[zD];refine gh ?_;refine Qt.sg dc rfl (Bl d) (fun _=>kr) ?_;refine Qt.sg dc rfl (Bl true) (fun w'=>by go_simp) ?_;simp only[zD];refine Qt.yc ?_;refine⟨rfl,rfl,?_⟩;intro w4 q;have a:Hq (O w3.heap.size w3 w4):=q;clear q;have Z:Hq (b' w4 (w.heap.size+1) 0):=i.o.below a.o i.o.lt;have U:=tq x a;go_wp2_with fail
   exact sF results155 rfl (w.heap.size+1) r.1 true rfl rfl (Z.o.setRow _) ⟨by rw[B.o,m.o],U.o.trans ((hJ _ _ _).mono oM)⟩
  |false=>
   obtain⟨L,b0⟩:∃b,(Ed.iq (0-r.1)==d)=b:=⟨_,rfl⟩;have m:Hq (qd r d=(0-r.1,L)):=by
    show _=_;rw[<-b0];exact(if_neg (by rw[l];decide)).trans (if_neg (fun h=>by rw[beq_iff_eq.2 h] at t;cases t))
   have J:=Jk (Ed.iq r.1) d;rw[t] at J;clear l;go_wp2_with (refine k' rfl _ rfl c r.1 rfl j.o ?_)
   refine(wo r.1 _).mono ?_;rintro e w3 ⟨rfl,f⟩;have a:Hq (O w2.heap.size w2 w3):=f;have k:Hq (b' w3 c r.1):=j.o.below a.o j.o.lt;have i:Hq (b' w3 (w.heap.size+1) 0):=g.o.below a.o g.o.lt;have x:=tq v a;clear f a j g v;go_wp2_with (refine k' rfl _ rfl c r.1 rfl k.o ?_)
   refine(uD r.1 _).mono ?_;rintro e w4 ⟨rfl,q⟩;have a:Hq (O w3.heap.size w3 w4):=q;have P:Hq (b' w4 c r.1):=k.o.below a.o k.o.lt;have Q:Hq (b' (w4.setRow c (fw (0-r.1))) c (0-r.1)):=P.o.setRow _;have E:Hq (b' (w4.setRow c (fw (0-r.1))) (w.heap.size+1) 0):=(i.o.below a.o i.o.lt).other Y.o _;have V:Hq (O w.heap.size w (w4.setRow c (fw (0-r.1)))):=(tR x a).trans ((hJ _ _ _).mono X.o);clear q a k i x;go_wp2_with (refine oy rfl _ _ rfl c (0-r.1) r.1 rfl rfl P.o ?_)
   refine Qt.wS 5 3 kr kr dc dc _ rfl 161 _ _ rfl (w.heap.size+1) (fw 0) (fw (0-r.1)) E.o (by rw[lQ];kernel_rfl) (by rw[lQ,lQ]) (wC _) ?_;refine iv rfl _ rfl (c) (0-r.1) rfl Q.o ?_;refine iv rfl _ rfl (c) (0-r.1) rfl Q.o ?_;refine ev rfl 181 #[H (fw (0-r.1))] (Bl (Ed.iq (0-r.1))) (fun _=>kr) (fun w' _=>wo (0-r.1) w') ?_;simp only[zD];refine gh ?_;refine Qt.sg dc rfl (Bl d) (fun _=>kr) ?_;refine Qt.sg dc rfl (Bl L) (fun w'=>by go_simp) ?_;simp only[zD];refine Qt.yc ?_;refine⟨rfl,rfl,?_⟩;intro w6 T;have a:Hq (O (w4.setRow c (fw (0-r.1))).heap.size (w4.setRow c (fw (0-r.1))) w6):=T;clear T;have a6:Hq (b' w6 (w.heap.size+1) 0):=E.o.below a.o E.o.lt;have W:=tq V a;go_wp2_with fail
   exact sF results155 rfl (w.heap.size+1) (0-r.1) L rfl rfl (a6.o.setRow _) ⟨by rw[B.o,m.o],W.o.trans ((hJ _ _ _).mono oM)⟩
def pK(q:Q):Q:=⟨q.a0,q.a1,q.a2,q.a3&&&9223372036854775807#64⟩
noncomputable def tj(q:Q):Ed.E×Bool:=
 if (oG (pK q)).2=false then(e0,false)
 else if (nf (oG (pK q)).1 (decide (un (q.a3>>>63)=1))).2=false then(e0,false)
 else(mq (nf (oG (pK q)).1 (decide (un (q.a3>>>63)=1))).1 (oG (pK q)).1,true)
noncomputable def lq(l:List UInt8):Ed.E×Bool:=if l.length=32 then tj (bq l) else(e0,false)
theorem yG{c:Func}{p q:Tmp}(h:c.results= #[.cell p 163,.tmp q]){post:Ending->D->Prop}(hd:a.defers=[])(g:Nat)(v:Ed.E)(b:Bool)(e:a.tmps.getD p undef=X (Z ⟨g,0,Y⟩))(i:a.tmps.getD q undef=Bl b)(d:fb w g v)(f:post (Re (Tp #[H (pw v),Bl b])) w):
  bodyPost prog c post .ret a w:=
 pB h hd g 163 (pw v) (0,0) _ (Bl b) e i d underlying163 rfl (by rw[nx];kernel_rfl) f
theorem Db{ops:Array Oper}{rest:List Oper}{o:Oper}{Q:Exit->Act->D->Prop}(d:o.guard=Y)(x y:Operand)(e:o.op= .store 163 x y)(b:Nat)(hQ:Ed.E)(f:a.eval x=X (Z ⟨b,0,Y⟩))(g:a.eval y=H oA)(c:fb w b hQ)
  (h:wpList prog ops Q rest (a.put o.dst undef) (w.setRow b (pw e0))):wpList prog ops Q (o::rest) a w:=pA d x y e b e0 hQ f (by rw[zG];exact g) c h
theorem wW{ops:Array Oper}{rest:List Oper}{c os:Oper}{a:Act}{w:D}{Q:Exit->Act->D->Prop}{x y:Operand}(f:c.guard=Y)(e:c.op= .alloc 184)(g:os.guard=Y)(i:os.op= .store 184 x y)(v:Fw.Q)
  (j:∀b,(a.put c.dst (X (Z ⟨b,0,Y⟩))).eval x=X (Z ⟨b,0,Y⟩)) (k:∀b,(a.put c.dst (X (Z ⟨b,0,Y⟩))).eval y=H v.cells)
  (h:∀w2 b,w.heap.size<=b->fY w2 b v->O w.heap.size w w2->wpList prog ops Q rest ((a.put c.dst (X (Z ⟨b,0,Y⟩))).put os.dst undef) w2):wpList prog ops Q (c::os::rest) a w:=by
 refine nJ _ f 184 e zQ.cells kr ?_;have d:=tN w;refine pP g x y i w.heap.size v zQ (j _) (k _) d ?_;exact h _ _ lR (d.setRow v) (((ai _ _).alloc lR _).trans (hJ _ _ _))
theorem C6(l:List UInt8)(w:D):Rt 85 #[sT ⟨l.toArray⟩] w (Tp #[H (pw (lq l).1),Bl (lq l).2]):=by
 have i:Hq (fb (Z1 w) w.heap.size e0):=vS w;by_cases m:l.length=32
 ·have e5:(l.length:Int)=32:=by omega
  have d:Hq (lq l=tj (bq l)):=if_pos m;have W:Hq (l.length=32):=m;clear m;go_enter func85,ntmps85
  go_wp2_with fail
  refine(zM l (by rw[W.o];exact bA _) _).mono ?_;rintro e w1 ⟨rfl,a8⟩;rw[aT (by rw[W.o];exact bA _)];obtain⟨q,hq⟩:=eX (bq l);rw[<-hq] at d⊢;clear hq;have F:Hq (O (Z1 w).heap.size (Z1 w) w1):=a8;have r:Hq (fb w1 w.heap.size e0):=i.o.below F.o i.o.lt;have z:Hq (O w.heap.size w w1):=(vR w).trans (F.o.mono (vR w).size);clear a8 F i;go_wp2_with (refine wW rfl rfl rfl rfl q (fun _=>rfl) (fun _=>rfl) ?_)
  intro w2 a c b b0;have G:Hq (O w1.heap.size w1 w2):=b0;have p:Hq (fY w2 a q):=b;have a6:Hq (fb w2 w.heap.size e0):=r.o.below G.o r.o.lt;have R:=tq z G;have c7:Hq (w.heap.size≠a):=by have h1:=r.o.lt;have h2:=c;show _≠_;omega
  have c6:Hq (w.heap.size<=a):=ag z.o.size c;clear b b0 c G r z;have e3:w2.cell? ⟨a,3,Y⟩=Z (I Uq (un q.a3)):=wJ p.o 3 oM;have e4:w2.frozen? ⟨a,3,Y⟩=false:=fY.frozen p.o 3;have e2:=zt q.a3;have e1:=EG q.a3;have X:Hq (fY (w2.setCell ⟨a,3,Y⟩ (I Uq (un (q.a3&&&9223372036854775807#64)))) a (pK q)):=fY.IC p.o _;have B:Hq (fb (w2.setCell ⟨a,3,Y⟩ (I Uq (un (q.a3&&&9223372036854775807#64)))) w.heap.size e0):=by
   show _=_;rw[aC _ _ _ _ (by exact c7.o)];exact a6.o
  have S:Hq (O w.heap.size w (w2.setCell ⟨a,3,Y⟩ (I Uq (un (q.a3&&&9223372036854775807#64))))):=R.o.setCell c6.o _;go_wp2_with (refine oz rfl _ rfl a (pK q) rfl X.o ?_)
  refine(WE (pK q) _).mono ?_;rintro e w4 ⟨rfl,b1⟩;have J:Hq (O (w2.setCell ⟨a,3,Y⟩ (I Uq (un (q.a3&&&9223372036854775807#64)))).heap.size (w2.setCell ⟨a,3,Y⟩ (I Uq (un (q.a3&&&9223372036854775807#64)))) w4):=b1;have C:Hq (fb w4 w.heap.size e0):=B.o.below J.o B.o.lt;have T:=tq S J;obtain⟨y,Q⟩:=eX ((oG (pK q)).1);obtain⟨ok,P⟩:=eX ((oG (pK q)).2);obtain⟨f,N⟩:=eX (decide (un (q.a3>>>(63:Nat))=1));have n:Hq (tj q=if ok=false then(e0,false) else if (nf y f).2=false then(e0,false) else(mq (nf y f).1 y,true)):=by rw[Q,P,N];rfl
  have b8:(un (q.a3>>>(63:Nat))==1)=f:=by rw[N];by_cases h:un (q.a3>>>(63:Nat))=1<;>simp[h]
  rw[<-Q,<-P];clear Q P N b1 J B S X e3 e4 e2 p a6 R;rw[b8];clear b8 e1;go_wp2_with (refine Bq rfl rfl rfl rfl y (fun _=>rfl) (fun _=>rfl) ?_)
  intro w5 k c b b2;have K:Hq (O w4.heap.size w4 w5):=b2;have v:Hq (b' w5 k y):=b;have j:Hq (fb w5 w.heap.size e0):=C.o.below K.o C.o.lt;have A:=tq T K;clear b b2 c K C T;cases ok with
  |false=>
   have g:Hq (tj q=(e0,false)):=n.o.trans (if_pos rfl);go_wp2_with (refine Db rfl _ _ rfl w.heap.size e0 rfl rfl j.o ?_)
   exact yG results85 rfl w.heap.size e0 false rfl rfl (j.o.setRow _) ⟨by rw[d.o,g.o],A.o.trans ((hJ _ _ _).mono lR)⟩
  |true=>
   go_wp2_with (refine k' rfl _ rfl k y rfl v.o ?_)
   refine(T8 y f _).mono ?_;rintro e w6 ⟨rfl,b3⟩;have t:Hq (O w5.heap.size w5 w6):=b3;have M:Hq (b' w6 k y):=v.o.below t.o v.o.lt;have E:Hq (fb w6 w.heap.size e0):=j.o.below t.o j.o.lt;have U:=tq A t;obtain⟨x,hx⟩:=eX ((nf y f).1);obtain⟨e6,c0⟩:=eX ((nf y f).2);rw[<-hx,<-c0] at n⊢;clear hx c0 b3 t v j A;go_wp2_with (refine Bq rfl rfl rfl rfl x (fun _=>rfl) (fun _=>rfl) ?_)
   intro w7 bx c b b6;have u:Hq (O w6.heap.size w6 w7):=b6;have c8:Hq (b' w7 bx x):=b;have c9:Hq (b' w7 k y):=M.o.below u.o M.o.lt;have s:Hq (fb w7 w.heap.size e0):=E.o.below u.o E.o.lt;have V:=tq U u;clear b b6 c u E U M;cases e6 with
   |false=>
    have g:Hq (tj q=(e0,false)):=n.o;go_wp2_with (refine Db rfl _ _ rfl w.heap.size e0 rfl rfl s.o ?_)
    exact yG results85 rfl w.heap.size e0 false rfl rfl (s.o.setRow _) ⟨by rw[d.o,g.o],V.o.trans ((hJ _ _ _).mono lR)⟩
   |true=>
    have g:Hq (tj q=(mq x y,true)):=n.o;go_wp2_with (first|refine k' rfl _ rfl bx x rfl c8.o ?_|refine k' rfl _ rfl k y rfl c9.o ?_)
    refine(CS x y _).mono ?_;rintro e w8 ⟨rfl,b7⟩;have L:Hq (O w7.heap.size w7 w8):=b7;have a7:Hq (fb w8 w.heap.size e0):=s.o.below L.o s.o.lt;have c4:=tq V L;clear b7 L;go_wp2_with (refine pA rfl _ _ rfl w.heap.size (mq x y) e0 rfl rfl a7.o ?_)
    exact yG results85 rfl w.heap.size (mq x y) true rfl rfl (a7.o.setRow _) ⟨by rw[d.o,g.o],c4.o.trans ((hJ _ _ _).mono lR)⟩
 ·have e5:(l.length:Int)≠32:=by omega
  have d:Hq (lq l=(e0,false)):=if_neg m;clear m;go_enter func85,ntmps85
  go_wp2_with (refine Db rfl _ _ rfl w.heap.size e0 rfl rfl i.o ?_)
  exact yG results85 rfl w.heap.size e0 false rfl rfl (i.o.setRow _) ⟨by rw[d.o],(vR w).trans ((hJ _ _ _).mono lR)⟩
