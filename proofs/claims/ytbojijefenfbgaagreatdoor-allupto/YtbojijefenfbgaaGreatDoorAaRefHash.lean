/-  -/
import Derived.Test.YtbojijefenfbgaaGreatDoorAaSignA
import Derived.Deep.CutRange
import Derived.Deep.DeepCutAuto
import Derived.Deep.RegionWith
import Derived.Deep.LoopGhost
import Derived.Deep.QuietTactic
open Go.IntKind renaming u64->bl,i64->cI
open List renaming getD_eq_getElem?_getD->aG,replicate->cY
open ByteArray renaming size->jy,ext->iy,data_append->iB,mk->jo
open Go.Calls renaming quiet_of->cS
open Go renaming below_drewN->eA
open Option renaming some->Z,none->Y
open Go.Value renaming int->I,string->sT
open Go.IntKind renaming i64->J,u64->Uq
open Go.Obj renaming cells->Cl
open Go renaming World->D,Value->Vl
open Go.RowKit renaming Below->O
set_option maxHeartbeats 4000000
open Go Go.RowKit
open Go.Proofs.YtbojijefenfbgaaGreatDoor
open UV(ni nM mE)
open Own(dk mn jI lA Yv Xm nJ qy rb nv mX)
open Sha(rB od Eh lV Bj se bytesOf rK out nO pd pn J2 X3 chain rounds)
variable{g k:Nat}{t:TypeId}{w:D}
namespace Go.Proofs.YtbojijefenfbgaaGreatDoor
open Tryz
attribute [local go_sem] UV.ni UV.nX UV.ot UV.nM UV.nj UV.mW UV.mE UV.mZ UV.nY UV.om UV.nW
theorem BR(x:BitVec 64):un x / (128:Int)=un (x>>>7):=mE x 7
theorem BQ(x:BitVec 64):un x / (64:Int)=un (x>>>6):=mE x 6
def lz(b:Nat->BitVec 64)(k j:Nat):Vl:=if j<k then I Uq (un (Sha.W b j)) else I Uq 0
theorem vj(b:Nat->BitVec 64)(k:Nat)(v:Vl)(hv:v=I Uq (un (Sha.W b k))):dk 80 (fun j=>if j=k then v else lz b k j)=dk 80 (lz b (k+1)):=by
 refine mn (fun j a=> ?_);by_cases e:j=k
 ·rw[if_pos e,hv,e];unfold lz;rw[if_pos oM]
 ·rw[if_neg e];unfold lz
  by_cases h:j<k
  ·rw[if_pos h,if_pos oM]
  ·rw[if_neg h,if_neg oM]
theorem TX(a:List UInt8)(n k:Nat)(b:k<16):Value.int .u64 (un (rB a (128*n+8*k)))=I Uq (un (Sha.W (od a n) k)):=by
 rw[Eh _ _ b];rfl
theorem Sm(b:Nat->BitVec 64)(k:Nat)(a:16<=k):Value.int .u64 (bl.wrap (bl.wrap (bl.wrap (bits .xor .u64 (un (lV (Sha.W b (k-2)) 19^^^lV (Sha.W b (k-2)) 61)) (un (Sha.W b (k-2)) / 64)+un (Sha.W b (k-7)))+bits .xor .u64 (un (lV (Sha.W b (k-15)) 1^^^lV (Sha.W b (k-15)) 8)) (un (Sha.W b (k-15)) / 128))+un (Sha.W b (k-16))))=I Uq (un (Sha.W b k)):=by
 rw[BQ,BR,nM,nM,ni,ni,ni,Bj b k a];rfl
theorem pO(b:Nat->BitVec 64)(k j:Nat)(h:j<k):lz b k j=I Uq (un (Sha.W b j)):=by unfold lz;rw[if_pos h]
theorem zr(b:Nat->BitVec 64)(k j:Nat)(h:k<=j):lz b k j=I Uq 0:=by unfold lz;rw[if_neg oM]
theorem Og{s:Sha.St}(h:w.heap[g]? =Z (Cl (dk 8 (la s)) t (0,0))):w.cell? ⟨g,0,Y⟩=Z (I Uq (un s.a)):=jI h 0 dc
theorem Oh{s:Sha.St}(h:w.heap[g]? =Z (Cl (dk 8 (la s)) t (0,0))):w.cell? ⟨g,1,Y⟩=Z (I Uq (un s.b)):=jI h 1 dc
theorem Oi{s:Sha.St}(h:w.heap[g]? =Z (Cl (dk 8 (la s)) t (0,0))):w.cell? ⟨g,2,Y⟩=Z (I Uq (un s.c)):=jI h 2 dc
theorem Oj{s:Sha.St}(h:w.heap[g]? =Z (Cl (dk 8 (la s)) t (0,0))):w.cell? ⟨g,4,Y⟩=Z (I Uq (un s.e)):=jI h 4 dc
theorem Ol{s:Sha.St}(h:w.heap[g]? =Z (Cl (dk 8 (la s)) t (0,0))):w.cell? ⟨g,5,Y⟩=Z (I Uq (un s.f)):=jI h 5 dc
theorem Om{s:Sha.St}(h:w.heap[g]? =Z (Cl (dk 8 (la s)) t (0,0))):w.cell? ⟨g,6,Y⟩=Z (I Uq (un s.g)):=jI h 6 dc
theorem Oo{s:Sha.St}(h:w.heap[g]? =Z (Cl (dk 8 (la s)) t (0,0))):w.cell? ⟨g,7,Y⟩=Z (I Uq (un s.h)):=jI h 7 dc
theorem Va(h:w.heap[g]? =Z (Cl (dk 80 qW) t (0,0)))(k:Nat)(a:k<80):w.cell? ⟨g,k,Y⟩=Z (I Uq (un (se k))):=jI h k a
theorem VF{b:Nat->BitVec 64}(h:w.heap[g]? =Z (Cl (dk 80 (lz b 80)) t (0,0)))(k:Nat)(a:k<80):w.cell? ⟨g,k,Y⟩=Z (I Uq (un (Sha.W b k))):=by
 rw[jI h k a,pO b 80 k a]
def sG(s:Sha.St)(j i:Nat):Vl:=I Uq (un (s.list.getD (if i<=j then i else i-1) 0#64))
theorem WT(s:Sha.St):dk 8 (la s)=dk 8 (sG s 7):=mn (fun j a=>by unfold sG la;rw[if_pos oM])
theorem Xp(s:Sha.St)(j:Nat)(a:0<j)(b:j<=7):dk 8 (fun i=>if i=j then I Uq (un (s.list[j-1]?.getD 0#64)) else sG s j i)=dk 8 (sG s (j-1)):=by
 refine mn (fun i hi=> ?_);unfold sG;by_cases e:i=j
 ·rw[if_pos e,if_neg oM,e,aG]
 ·rw[if_neg e]
  by_cases h:i<=j
  ·rw[if_pos h,if_pos oM]
  ·rw[if_neg h,if_neg oM]
theorem yI{s:Sha.St}{j:Nat}(h:w.heap[g]? =Z (Cl (dk 8 (sG s j)) t (0,0)))(i:Nat)(hi:i<8):w.cell? ⟨g,i,Y⟩=Z (I Uq (un (s.list.getD (if i<=j then i else i-1) 0#64))):=jI h i hi
def rp(n:Nat):ByteArray:=⟨(bytesOf (BitVec.ofNat 64 n)).toArray⟩
theorem Cx(n:Nat):(rp n).size<=8:=Nat.le_refl 8
theorem X6(x:BitVec 64)(w:D):
  Rt 99 #[I Uq (un x)] w (sT (rp x.toNat)):=by
 have h:=J' x w;have e:rp x.toNat=⟨(bytesOf x).toArray⟩:=by unfold rp;rw[BitVec.ofNat_toNat,BitVec.setWidth_eq]
 rw[e];exact h
theorem TG(k:Sha.St)(l m:BitVec 64):dk 8 (fun i=>if i=0 then I Uq (un (k.h+(lV k.e 14^^^lV k.e 18^^^lV k.e 41)+(k.e&&&k.f^^^ ~~~k.e&&&k.g)+l+m+((lV k.a 28^^^lV k.a 34^^^lV k.a 39)+(k.a&&&k.b^^^k.a&&&k.c^^^k.b&&&k.c)))) else(fun i=>if i=4 then I Uq (un (k.d+(k.h+(lV k.e 14^^^lV k.e 18^^^lV k.e 41)+(k.e&&&k.f^^^ ~~~k.e&&&k.g)+l+m))) else sG k 0 i) i)=dk 8 (la (Sha.round k l m)):=by
 refine mn (fun j n=> ?_);rcases j with _|_|_|_|_|_|_|_|j;all_goals first|rfl|omega
def nG(c s:Sha.St)(k j:Nat):Vl:=I Uq (un (if j<k then c.list.getD j 0#64+s.list.getD j 0#64 else c.list.getD j 0#64))
theorem Qq{c s:Sha.St}(h:w.heap[g]? =Z (Cl (dk 8 (nG c s k)) t (0,0)))(a:k<8):w.cell? ⟨g,k,Y⟩=Z (I Uq (un (c.list[k]?.getD 0#64))):=by
 rw[jI h k a];unfold nG;rw[if_neg oM,aG]
theorem mT{s:Sha.St}(h:w.heap[g]? =Z (Cl (dk 8 (la s)) t (0,0)))(a:k<8):w.cell? ⟨g,k,Y⟩=Z (I Uq (un (s.list[k]?.getD 0#64))):=by
 rw[jI h k a];unfold la;rw[aG]
theorem Sv(c s:Sha.St)(k:Nat)(_h:k<8):dk 8 (fun j=>if j=k then I Uq (un (c.list[k]?.getD 0#64+s.list[k]?.getD 0#64)) else nG c s k j)=dk 8 (nG c s (k+1)):=by
 refine mn (fun j a=> ?_);unfold nG;by_cases e:j=k
 ·rw[if_pos e,if_pos oM,e,aG,aG]
 ·rw[if_neg e]
  by_cases h:j<k
  ·rw[if_pos h,if_pos oM]
  ·rw[if_neg h,if_neg oM]
theorem Xx(c s:Sha.St):dk 8 (nG c s 8)=dk 8 (la (c.add s)):=by
 refine mn (fun j a=> ?_);unfold nG la;rw[if_pos a];rcases j with _|_|_|_|_|_|_|_|j;all_goals first|rfl|omega
def rk(s:Sha.St)(k:Nat):ByteArray:=⟨((s.list.take k).flatMap bytesOf).toArray⟩
theorem Tt(s:Sha.St)(k:Nat):(rk s k).size<=64:=by
 have h1:(rk s k).size=((s.list.take k).flatMap bytesOf).length:=by simp[rk,jy]
 have h2:∀l:List (BitVec 64),(l.flatMap bytesOf).length=8*l.length:=fun l=>by
  induction l with
  |nil=>rfl
  |cons x l ih=>simp[List.flatMap_cons,ih,rK];omega
 rw[h1,h2,List.length_take];have:s.list.length=8:=rfl;omega
theorem Tu(s:Sha.St)(k:Nat)(h:k<8):rk s k++rp (s.list[k]?.getD 0#64).toNat=rk s (k+1):=by
 apply iy;have a:k<s.list.length:=h;simp only[iB,rk,rp];rw[List.take_succ_eq_append_getElem a,List.getElem?_eq_getElem a,List.flatMap_append];simp
theorem X4(s:Sha.St):rk s 8=⟨(out s).toArray⟩:=by
 unfold rk out;simp[Sha.St.list]
theorem WJ(n:Int)(a:0<=n)(h1:n<=18446744073709551615)(w:D):
  Rt 99 #[I Uq n] w (sT (rp n.toNat)):=by
 have h:=J' (BitVec.ofNat 64 n.toNat) w;rw[UV.zq _ oM,Int.toNat_of_nonneg a] at h;exact h
theorem Dx(W:D)(b n:Nat)(h:W.heap[b]? =Z (Cl (lA n (I .u8 0)) 5 (0,0))):
  Sem.run prog (convert 145 9 (.slice (Z ⟨b,0,Y⟩) n n)) W= .ok (sT ⟨(cY n 0).toArray⟩) W:=
 Yv W _ _ 5 underlying145 underlying5 underlying9 b 0 n n (cY n 0) sP (fun j a=>by
  rw[Nat.zero_add,jI h j (by simpa using a)];simp)
def uf(n:Nat):ByteArray:=⟨(cY n 0).toArray⟩
theorem T5(n:Nat):(uf n).size<=n:=by show(cY n (0:UInt8)).toArray.size<=_;simp
theorem Tq(s:ByteArray)(q n:Nat)(c:q+8=nO s.size)(b:n=8*s.size):s++⟨#[128]⟩++uf (q+8)++rp n=⟨(pd s.data.toList).toArray⟩:=by
 apply iy;have a:s.data.toList.length=s.size:=by simp
 simp only[iB,uf,rp,pd,a,c,b];simp
set_option maxRecDepth 100000 in
theorem Xe(s:ByteArray)(hs:s.size<=1000000000000)(w:D):
  Rt 46 #[.string s] w (sT ⟨(pn s.data.toList).toArray⟩):=by
 go_enter func46,ntmps46
 go_upto_if 30 with fail
 go_cut [4] from 23 to 30 (fun r wc=>(∃q:Nat,q+8=nO s.size/\r=I J (q:Int))/\w=wc)
 case first=>
  by_cases h:(s.size+17) % 128=0
  ·have v:((128:Int)-(↑s.size+17) % 128==128)=true:=by rw[beq_iff_eq];omega
   go_wp2_with fail
   go_meet
   case rel=>exact⟨⟨0,by unfold nO;omega,rfl⟩,rfl⟩
  ·have v:((128:Int)-(↑s.size+17) % 128==128)=false:=by rw[beq_eq_false_iff_ne];omega
   go_wp2_with fail
   go_meet
   case rel=>exact⟨⟨128-(s.size+17) % 128,by unfold nO;omega,by congr 1;omega⟩,rfl⟩
 case rest=>
  obtain⟨⟨q,hq,rfl⟩,rfl⟩:=hcut;have j2:q<=127:=by unfold nO at hq;omega
  have HQ:Hq (q+8=nO s.size):=hq;clear hq;go_upto_region 5 with fail
  go_cut [5] from 31 to 42 (fun r wc=>r=sT ⟨(pd s.data.toList).toArray⟩/\O w.heap.size w wc)
  case first=>
   have o7:∀W:D,Sem.run prog (Instr.makeSlice 145 (I J ((q:Int)+8)) (I J ((q:Int)+8))) W= .ok (.slice (Z ⟨W.heap.size,0,Y⟩) (q+8) (q+8)) (W.alloc (Cl (lA (q+8) (I .u8 0)) 5)):=
    fun W=>Xm W _ _ _ 1 underlying145 tP rfl _ _ _ _ (q+8) oM oM oM oM
   have o0:∀W:D,Sem.run prog (convert 145 9 (.slice (Z ⟨W.heap.size,0,Y⟩) (q+8) (q+8))) (W.alloc (Cl (lA (q+8) (I .u8 0)) 5)).drew= .ok (sT (uf (q+8))) (W.alloc (Cl (lA (q+8) (I .u8 0)) 5)).drew:=
    fun W=>Dx _ _ _ (heap_alloc_new _ _)
   have o4:∀W:D,Sem.run prog (convert 145 9 (.slice (Z ⟨W.heap.size,0,Y⟩) (q+8) (q+8))) (W.alloc (Cl (lA (q+8) (I .u8 0)) 5))= .ok (sT (uf (q+8))) (W.alloc (Cl (lA (q+8) (I .u8 0)) 5)):=
    fun W=>Dx _ _ _ (heap_alloc_new _ _)
   have hz:=T5 (q+8);have p1:cI.wrap ((q:Int)+8)=(q:Int)+8:=IntWalk.i64_in _ oM;have p2:bl.wrap (s.size:Int)=(s.size:Int):=IntWalk.u64_in _ oM;have p3:bl.wrap (8*(s.size:Int))=8*(s.size:Int):=IntWalk.u64_in _ oM;go_region_with (first
    |(go_at_call 99;refine(WJ _ oM oM _).mono ?_;rintro e w' ⟨rfl,v⟩;have h7:=Cx (8*(s.size:Int)).toNat;have n0:=Cx (8*s.size);try have o5:Sem.run prog (convert 145 9 (.slice (Z ⟨w.heap.size,0,Y⟩) (q+8) (q+8))) w'= .ok (sT (uf (q+8))) w':=Dx w' w.heap.size (q+8) ((v.block w.heap.size sP).trans (heap_alloc_new _ _))))
   all_goals
    go_wp2_with fail
    go_meet
    case rel=>
     refine⟨congrArg Value.string (Tq s q _ HQ.o oM),?_⟩
     first
      |exact(((Below.refl _ _).alloc lR _).drew).trans (v.mono sP)
      |exact(((Below.refl _ _).drew).trans (v.mono sP)).alloc (by have:=v.size;simpa using this) _
  case rest=>
   obtain⟨rfl,b8⟩:=hcut;have S:Hq _:=b8;clear b8 HQ j2;have hl:(pd s.data.toList).length=s.size+9+nO s.size:=by rw[J2];simp
   have hg:nO s.size<=135:=by unfold nO;omega
   have hm:(pd s.data.toList).length % 128=0:=X3 _;generalize X:pd s.data.toList=b at*;have HP:Hq _:=X;clear X;have o9:b.length<=2000000000000:=oM
   obtain⟨M,o8⟩:∃M,b.length=128*M:=⟨b.length / 128,oM⟩;clear hm hl hg;have HS:Hq ((jo b.toArray).size=b.length):=by show(jo b.toArray).size=b.length;simp[jy]
   go_wp2_with (first
    |(go_at_call 100;refine(WM _).mono ?_;rintro e w6 ⟨rfl,c0⟩;have a7:Hq _:=c0;clear c0)
    |(go_at_call 101;refine(WK _).mono ?_;rintro e w8 ⟨rfl,c4⟩;have P:Hq _:=c4;clear c4)
    |refine nJ _ rfl 177 rfl (lA 8 (I Uq 0)) kr ?_
    |refine nJ _ rfl 179 rfl (lA 80 (I Uq 0)) kr ?_
    |refine qy rfl 177 _ _ rfl (lA 8 (I Uq 0)) (dk 8 (la Sha.start)) 177 rfl rfl kr kr (rb fun _ _=>rfl) ?_
    |refine qy rfl 179 _ _ rfl (lA 80 (I Uq 0)) (dk 80 qW) 179 rfl rfl kr kr (rb fun _ _=>rfl) ?_)
   have p0:w6.heap.size<w8.heap.size:=by have:=P.o.size;simp at this;omega
   go_loopw [8] (fun i wr=>∃n:Nat,n<=M/\i=I J ((128*n:Nat):Int)/\O w6.heap.size w6 wr/\w8.heap.size<wr.heap.size/\wr.heap[w6.heap.size]? =Z (Cl (dk 8 (la (chain b n))) 177 (0,0))/\wr.heap[w8.heap.size]? =Z (Cl (dk 80 qW) 179 (0,0))) (fun i _=>b.length-(intOf i).toNat)
   case atStart=>
    have j9:=P.o.size;simp at j9;refine⟨0,oM,rfl,((((Below.refl _ _).alloc lR _).trans (P.o.mono sP))).alloc oM _,sP,?_,heap_alloc_new _ _⟩;rw[Below.heap_alloc _ _ _ oM,P.o.block _ sP,heap_alloc_new];rfl
   case round=>
    rename D=>l
    obtain⟨n,hn,rfl,c9,l0,h5,h4⟩:=hrel;have b0:Hq _:=c9;have b7:Hq _:=h5;have h6:Hq _:=h4;clear c9 h5 h4;by_cases o6:n<M
    ·go_wp2_with (first
      |refine nJ _ rfl 179 rfl (lA 80 (I Uq 0)) kr ?_)
     have l1:w8.heap.size<l.heap.size:=l0;go_loopw [10] (fun i c=>∃k:Nat,k<=80/\i=I J (k:Int)/\O l.heap.size l c/\c.heap[l.heap.size]? =Z (Cl (dk 80 (lz (od b n) k)) 179 (0,0))) (fun i _=>80-(intOf i).toNat)
     case atStart=>
      exact⟨0,oM,rfl,(Below.refl _ _).alloc lR _,by rw[heap_alloc_new];rfl⟩
     case round=>
      obtain⟨k,V,rfl,c6,K⟩:=hrel;rename D=>wb
      have C:Hq _:=c6;have y:Hq _:=K;clear c6 K;by_cases H:k<80
      ·have e4:=nv y.o k
       have Q:=jI y.o k H;have e3:lz (od b n) k k=I Uq 0:=by unfold lz;rw[if_neg oM]
       rw[e3] at Q;clear e3;by_cases e5:k<16
       ·go_wp2_with (first
         |(go_at_call 102;refine(Xh _ _ oM (by rw[HS.o];omega) (by rw[HS.o];omega) _).mono ?_;rintro e w' ⟨rfl,rfl⟩))
        exact⟨⟨k+1,oM,by go_num,C.o.setCell sP _,by rw[mX y.o,vj _ k _ (TX b n k e5)]⟩,by simp[intOf];omega⟩
       ·have j0:16<=k:=by omega
        clear e5;have e7:=jI y.o (k-15) oM;rw[pO (od b n) k (k-15) oM] at e7;go_wp2_with fail
        refine wp_region_quiet_lit kr kr ?_;repeat (first|go_big_quiet_step ((go_at_call 103;exact cS (sL _ _ dc dc _)))|quiet_step ((go_at_call 103;exact cS (sL _ _ dc dc _))))
        refine wpQuiet_nil ?_;intro _ A;obtain⟨nq,B⟩:=A;subst B;clear e7 e4 Q;have m:Hq (O l.heap.size l (wb.drewN nq)):=eA C.o nq;have f:Hq ((wb.drewN nq).heap[l.heap.size]? =Z (Cl (dk 80 (lz (od b n) k)) 179 (0,0))):=y.o;clear C y;generalize wb.drewN nq=wc at*;have K:=jI f.o (k-2) oM;rw[pO (od b n) k (k-2) oM] at K;go_wp2_with fail
        refine wp_region_quiet_lit kr kr ?_;repeat (first|go_big_quiet_step ((go_at_call 103;exact cS (sL _ _ dc dc _)))|quiet_step ((go_at_call 103;exact cS (sL _ _ dc dc _))))
        refine wpQuiet_nil ?_;intro _ A;obtain⟨nq,B⟩:=A;subst B;clear K;have N:Hq (O l.heap.size l (wc.drewN nq)):=eA m.o nq;have p:Hq ((wc.drewN nq).heap[l.heap.size]? =Z (Cl (dk 80 (lz (od b n) k)) 179 (0,0))):=f.o;clear m f;generalize wc.drewN nq=wd at*;have z:=jI p.o (k-7) oM;rw[pO (od b n) k (k-7) oM] at z;have j5:=jI p.o (k-16) oM;rw[pO (od b n) k (k-16) oM] at j5;have e4:=nv p.o k;have Q:=jI p.o k H;rw[zr (od b n) k k oM] at Q;go_wp2_with fail
        go_region
        all_goals go_wp2_with fail
        exact⟨⟨k+1,oM,by go_num,(N.o.setCell lR _).drew,by rw[heap_drew,mX p.o,vj _ k _ (Sm _ k j0)]⟩,by simp[intOf];omega⟩
      ·obtain rfl:k=80:=by omega
       have e1:wb.heap[w6.heap.size]? =Z (Cl (dk 8 (la (chain b n))) 177 (0,0)):=(C.o.block _ oM).trans b7.o;have b1:Hq _:=e1;clear e1;go_wp2_with (first
        |refine wpList_load_row rfl 177 _ rfl w6.heap.size rfl 177 (dk 8 (la (chain b n))) (0,0) _ b1.o underlying177 rfl kr ?_
        |refine nJ _ rfl 177 rfl (lA 8 (I Uq 0)) kr ?_
        |refine qy rfl 177 _ _ rfl (lA 8 (I Uq 0)) (dk 8 (la (chain b n))) 177 rfl rfl kr kr (rb fun _ _=>rfl) ?_)
       have l8:l.heap.size<wb.heap.size:=(aL y.o);have b2:Hq (wb.heap[w8.heap.size]? =Z (Cl (dk 80 qW) 179 (0,0))):=(C.o.block _ l1).trans h6.o;go_loopw [14] (fun i c=>∃k:Nat,k<=80/\i=I J (k:Int)/\O wb.heap.size wb c/\c.heap[wb.heap.size]? =Z (Cl (dk 8 (la (rounds (od b n) (chain b n) k))) 177 (0,0))) (fun i _=>80-(intOf i).toNat)
       case atStart=>
        exact⟨0,oM,rfl,(Below.refl _ _).alloc lR _,by rw[heap_alloc_new];rfl⟩
       case round=>
        rename D=>wc
        obtain⟨k,V,rfl,c7,e9⟩:=hrel;have m:Hq _:=c7;have f:Hq _:=e9;clear c7 e9;by_cases H:k<80
        ·generalize L:rounds (od b n) (chain b n) k=g at*
         have T:Hq _:=L;clear L;have l2:=Og f.o;have l5:=Oj f.o;go_wp2_with fail
         have R:=Oo f.o;have l6:=Ol f.o;have l7:=Om f.o;have j1:=Va ((m.o.block _ oM).trans b2.o) k H;have l9:=VF ((m.o.block _ l8).trans y.o) k H;refine wp_region_quiet_lit kr kr ?_;repeat (first|go_big_quiet_step ((go_at_call 103;exact cS (sL _ _ dc dc _)))|quiet_step ((go_at_call 103;exact cS (sL _ _ dc dc _))))
         refine wpQuiet_nil ?_;intro _ A;obtain⟨nq,B⟩:=A;subst B;clear l2 l5 l6 l7 R j1 l9;have N:Hq (O wb.heap.size wb (wc.drewN nq)):=eA m.o nq;have p:Hq ((wc.drewN nq).heap[wb.heap.size]? =Z (Cl (dk 8 (la g)) 177 (0,0))):=f.o;clear m f;generalize wc.drewN nq=wd at*;have l3:=Oh p.o;have l4:=Oi p.o;go_wp2_with fail
         refine wp_region_quiet_lit kr kr ?_;repeat (first|go_big_quiet_step ((go_at_call 103;exact cS (sL _ _ dc dc _)))|quiet_step ((go_at_call 103;exact cS (sL _ _ dc dc _))))
         refine wpQuiet_nil ?_;intro _ A;obtain⟨nq,B⟩:=A;subst B;clear l3 l4;have a6:Hq (O wb.heap.size wb (wd.drewN nq)):=eA N.o nq;have b6:Hq ((wd.drewN nq).heap[wb.heap.size]? =Z (Cl (dk 8 (la g)) 177 (0,0))):=p.o;clear N p;generalize wd.drewN nq=we at*;go_wp2_with fail
         go_loopw [19] (fun i c=>∃j:Nat,j<=7/\i=I J (j:Int)/\O wb.heap.size wb c/\c.heap[wb.heap.size]? =Z (Cl (dk 8 (sG g j)) 177 (0,0))) (fun i _=>(intOf i).toNat)
         case atStart=>
          exact⟨7,oM,rfl,a6.o,by rw[b6.o,WT]⟩
         case round=>
          rename D=>wf
          obtain⟨j,hj,rfl,c8,h0⟩:=hrel;have a8:Hq _:=c8;have t:Hq _:=h0;clear c8 h0 a6 b6;by_cases h9:0<j
          ·have hz:=nv t.o j
           have h8:=yI t.o j oM;have e2:=yI t.o (j-1) oM;go_wp2_with fail
           exact⟨⟨j-1,oM,by congr 1;omega,a8.o.setCell lR _,by rw[mX t.o,Xp g j h9 hj]⟩,by simp[intOf];omega⟩
          ·obtain rfl:j=0:=by omega
           have p6:=nv t.o 4;have p5:=nv t.o 0;have n9:wf.cell? ⟨wb.heap.size,4,Y⟩=Z (I Uq (un g.d)):=yI t.o 4 dc;have n5:wf.cell? ⟨wb.heap.size,0,Y⟩=Z (I Uq (un g.a)):=yI t.o 0 dc;go_wp2_with fail
           exact⟨⟨k+1,oM,by go_num,(a8.o.setCell lR _).setCell lR _,by rw[mX (mX t.o 4 _),TG,show rounds (od b n) (chain b n) (k+1)=Sha.round g (se k) (Sha.W (od b n) k) from by rw[<-T.o];rfl]⟩,by simp[intOf];omega⟩
        ·obtain rfl:k=80:=by omega
         have p4:wb.heap.size<wc.heap.size:=(aL f.o);have H1:Hq (O w6.heap.size w6 wc):=b0.o.trans ((C.o.mono oM).trans (m.o.mono oM));have H2:Hq (wc.heap[w6.heap.size]? =Z (Cl (dk 8 (la (chain b n))) 177 (0,0))):=(m.o.block _ oM).trans b1.o;have H3:Hq (wc.heap[w8.heap.size]? =Z (Cl (dk 80 qW) 179 (0,0))):=(m.o.block _ oM).trans b2.o;generalize L:rounds (od b n) (chain b n) 80=g at*;have T:Hq _:=L;clear L;go_wp2_with fail
         go_loopw [20] (fun i c=>∃k:Nat,k<=8/\i=I J (k:Int)/\O w6.heap.size w6 c/\c.heap[w6.heap.size]? =Z (Cl (dk 8 (nG (chain b n) g k)) 177 (0,0))/\c.heap[w8.heap.size]? =Z (Cl (dk 80 qW) 179 (0,0))/\c.heap[wb.heap.size]? =Z (Cl (dk 8 (la g)) 177 (0,0))) (fun i _=>8-(intOf i).toNat)
         case atStart=>
          exact⟨0,oM,rfl,H1.o,by rw[H2.o];rfl,H3.o,f.o⟩
         case round=>
          rename D=>wg
          obtain⟨k,V,rfl,G,z,e6,R⟩:=hrel;have F:Hq _:=G;have u:Hq _:=z;have b3:Hq _:=e6;have U:Hq _:=R;clear G z e6 R H1 H2 H3;by_cases E:k<8
          ·have hz:=nv u.o k
           have h8:=Qq u.o E;have e2:=mT U.o E;go_wp2_with fail
           go_region
           all_goals go_wp2_with fail
           refine⟨⟨k+1,oM,by go_num,(F.o.setCell lR _).drew,?_,?_,?_⟩,by simp[intOf];omega⟩
           ·rw[heap_drew,mX u.o,Sv _ _ k E]
           ·rw[heap_drew,heap_setCell_other _ _ _ _ (by simp;omega)];exact b3.o
           ·rw[heap_drew,heap_setCell_other _ _ _ _ (by simp;omega)];exact U.o
          ·obtain rfl:k=8:=by omega
           go_wp2_with fail
           refine⟨⟨n+1,oM,by congr 1<;>omega,F.o,?_,?_,b3.o⟩,by simp[intOf];omega⟩
           ·have:=(aL U.o);omega
           ·rw[u.o,Xx,show chain b (n+1)=(chain b n).add g from by rw[<-T.o];rfl]
    ·obtain rfl:n=M:=by omega
     go_wp2_with fail
     go_loopw [21,22] (fun o i c=>∃k:Nat,k<=8/\i=I J (k:Int)/\o=sT (rk (chain b n) k)/\O w6.heap.size w6 c/\c.heap[w6.heap.size]? =Z (Cl (dk 8 (la (chain b n))) 177 (0,0))) (fun _ i _=>8-(intOf i).toNat)
     case atStart=>
      exact⟨0,oM,rfl,rfl,b0.o,b7.o⟩
     case round=>
      rename D=>wg
      obtain⟨k,V,rfl,rfl,G,z⟩:=hrel;have F:Hq _:=G;have u:Hq _:=z;clear G z;by_cases E:k<8
      ·have e2:=mT u.o E
       have X:=Tt (chain b n) k;go_wp2_with (first
        |(go_at_call 99;refine(X6 _ _).mono ?_;rintro e w' ⟨rfl,v⟩;have h7:=Cx ((chain b n).list[k]?.getD 0#64).toNat))
       go_roundw
       case rel=>(repeat apply Exists.intro);exact⟨⟨k+1,oM,by go_num,congrArg Value.string (Tu _ k E),F.o.trans (v.mono (by have:=(aL u.o);omega)),(v.block _ (aL u.o)).trans u.o⟩,rfl⟩
       case measure=>simp[intOf];omega
      ·obtain rfl:k=8:=by omega
       go_wp2_with fail
       go_ret
       refine⟨congrArg (fun x=>Ending.returned (.string x)) ?_,(S.o.trans (a7.o.mono (S.o.size))).trans (F.o.mono (Nat.le_trans S.o.size a7.o.size))⟩;rw[X4];simp only[pn,HP.o];rw[show b.length / 128=n by omega]
