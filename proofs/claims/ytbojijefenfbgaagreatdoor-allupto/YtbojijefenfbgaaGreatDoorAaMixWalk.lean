/- Walk of the program's hash: mix. -/
import Derived.Test.YtbojijefenfbgaaGreatDoorAaSignA
open List renaming getD_eq_getElem?_getD->aG
open Go renaming below_drewN->eA
open Option renaming some->Z,none->Y
open Go.Value renaming int->I,pointer->X,agg->H,tuple->Tp
open Go.IntKind renaming i64->J,u64->Uq
open Go.Obj renaming cells->Cl
open Go.Ending renaming returned->Re
open Go renaming World->D,Value->Vl
open Go.RowKit renaming Below->O
set_option maxHeartbeats 4000000
open Go Go.RowKit
open Go.Proofs.YtbojijefenfbgaaGreatDoor
open Own(dk ob mn jI nJ lA qy rb qz nv mX)
open Sha(se rounds)
variable{b:Nat}{w w':D}
namespace Go.Proofs.YtbojijefenfbgaaGreatDoor
open Tryz
namespace Hs
attribute [local go_sem] UV.ni UV.nX UV.ot UV.nM UV.nj UV.mW UV.mE UV.mZ UV.nY UV.om UV.nW
theorem J3(W:D)(f:Nat->Vl)(k:Nat)(a:k<8):
  Sem.run prog (Instr.index 177 (H (dk 8 f)) (I J (k:Int))) W= .ok (f k) W:=by
 have h1:(0:Int)<=(k:Int)/\(k:Int)<((8:Nat):Int):=oM
 obtain⟨i,hi,_,c,_⟩:=info_parts (show(prog.info? 159).map (fun i=>(i.zero,i.size,i.bytes))=Z (Z (I Uq 0),1,8) by kernel_rfl);have b:(dk 8 f)[k]? =Z (f k):=ob a;simp[Instr.index,asIntOf,run_underlying underlying177,h1,sizeOf,typeInfo,hi,c,part,isAgg,run_underlying underlying159,b,a]
theorem Od(x:BitVec 64):bits .xor .u64 (if IntKind.u64.signed=true then-1 else IntKind.u64.max) (un x)=un (~~~ x):=UV.om x
attribute [local go_sem] Od
def la(s:Sha.St)(j:Nat):Vl:=I Uq (un (s.list.getD j 0#64))
def nG(c s:Sha.St)(k j:Nat):BitVec 64:=if j<k then c.list.getD j 0#64+s.list.getD j 0#64 else c.list.getD j 0#64
def qU(g:Nat->BitVec 64)(bs:Nat->UInt8)(m:Nat)(j:Nat):Vl:=
 if j<8 then I Uq (un (g j)) else if j<136 then I .u8 ((bs (j-8)).toNat:Int) else I J (m:Int)
theorem TP(c s:Sha.St)(bs:Nat->UInt8)(m:Nat):dk 137 (l' c bs m)=dk 137 (qU (nG c s 0) bs m):=by
 refine mn (fun j a=> ?_);unfold l' qU nG;by_cases h:j<8
 ·rw[if_pos h,if_pos h,if_neg oM]
 ·rw[if_neg h,if_neg h]
theorem P2(c s:Sha.St)(bs:Nat->UInt8)(m k:Nat)(b:k<8):dk 137 (fun j=>if j=k then I Uq (un (c.list[k]?.getD 0#64+s.list[k]?.getD 0#64)) else qU (nG c s k) bs m j)=dk 137 (qU (nG c s (k+1)) bs m):=by
 refine mn (fun j a=> ?_);unfold qU nG;by_cases e:j=k
 ·rw[if_pos e,if_pos oM,if_pos oM,e,aG,aG]
 ·rw[if_neg e]
  by_cases h:j<8
  ·rw[if_pos h,if_pos h]
   by_cases h2:j<k
   ·rw[if_pos h2,if_pos oM]
   ·rw[if_neg h2,if_neg oM]
  ·rw[if_neg h,if_neg h]
theorem Mf(c s:Sha.St)(bs:Nat->UInt8)(m:Nat):dk 137 (qU (nG c s 8) bs m)=dk 137 (l' (c.add s) bs m):=by
 refine mn (fun j a=> ?_);unfold l' qU nG;by_cases h:j<8
 ·rw[if_pos h,if_pos h,if_pos h]
  rcases j with _|_|_|_|_|_|_|_|j;all_goals first|rfl|omega
 ·rw[if_neg h,if_neg h]
theorem P1{c s:Sha.St}{bs:Nat->UInt8}{m k:Nat}{t:TypeId}(h:w.heap[b]? =Z (Cl (dk 137 (qU (nG c s k) bs m)) t (0,0)))(a:k<8):w.cell? ⟨b,k,Y⟩=Z (I Uq (un (c.list[k]?.getD 0#64))):=by
 rw[jI h k oM];unfold qU nG;rw[if_pos a,if_neg oM,aG]
def kc(w:D):Prop:=∀k,k<80->w.cell? ⟨0,k,Y⟩=Z (I Uq (un (se k)))
theorem kc.lt(h:kc w):0<w.heap.size:=block_lt_of_cell (h 0 dc)
theorem kc.below{B:Nat}(h:kc w)(b:O B w w')(a:0<B):kc w':=fun k c=>(b.cell (p:=⟨0,k,Y⟩) a).trans (h k c)
theorem kc.only(h:kc w)(d:ly b w w')(a:b≠0):kc w':=fun k c=>(World.cell?_of_block (w:=w) (d.block 0 h.lt (Ne.symm a))).trans (h k c)
set_option maxRecDepth 100000 in
theorem Gz(w:D)(b:Nat)(s:Sha.St)(bs:Nat->UInt8)(m:Nat)(r:nw w b s bs m)(_hb0:b≠0)(E:kc w):
  Calls prog 236 #[X (Z ⟨b,0,Y⟩)] w fun e w'=>e=Re (Tp #[])/\ly b w w'/\nw w' b (Sha.compress s (lY bs)) bs m:=by
 have N:Hq _:=r;have HT:Hq _:=E;have b2:=AK r;have b1:=E.lt;clear r E;go_enter func236,ntmps236
 go_wp2_with (first
  |(go_at_call 271;refine(WR _ b s bs m N.o).mono ?_;rintro e w1 ⟨rfl,U⟩;have K:Hq _:=U;clear U)
  |refine nJ _ rfl 179 rfl (lA 80 (I Uq 0)) kr ?_
  |refine qy rfl 179 _ _ rfl (lA 80 (I Uq 0)) (dk 80 (lz (lY bs) 80)) 179 rfl rfl kr kr (rb fun j hj=>by rw[pO _ _ _ hj];rfl) ?_)
 have l:w.heap.size<=w1.heap.size:=K.o.size;have R:Hq ((w1.alloc (Cl (dk 80 (lz (lY bs) 80)) 179)).heap[w1.heap.size]? =Z (Cl (dk 80 (lz (lY bs) 80)) 179 (0,0))):=heap_alloc_new _ _;have z:Hq (O w.heap.size w (w1.alloc (Cl (dk 80 (lz (lY bs) 80)) 179))):=K.o.alloc l _;have p:Hq (nw (w1.alloc (Cl (dk 80 (lz (lY bs) 80)) 179)) b s bs m):=(z.o.block b b2).trans N.o;have a8:(w1.alloc (Cl (dk 80 (lz (lY bs) 80)) 179)).heap.size=w1.heap.size+1:=by simp
 generalize w1.alloc (Cl (dk 80 (lz (lY bs) 80)) 179)=w2 at*;have b3:w2.cell? ⟨b,0,Y⟩=Z (I Uq (un s.a)):=rO p.o 0 dc;have b6:w2.cell? ⟨b,1,Y⟩=Z (I Uq (un s.b)):=rO p.o 1 dc;have b7:w2.cell? ⟨b,2,Y⟩=Z (I Uq (un s.c)):=rO p.o 2 dc;have b8:w2.cell? ⟨b,3,Y⟩=Z (I Uq (un s.d)):=rO p.o 3 dc;refine wp_region_quiet_lit kr kr ?_;repeat (first|go_big_quiet_step (fail)|quiet_step (fail))
 refine wpQuiet_nil ?_;intro _ u;obtain⟨nq,v⟩:=u;subst v;clear b3 b6 b7 b8;have L:Hq (O w.heap.size w (w2.drewN nq)):=eA z.o nq;have q:Hq (nw (w2.drewN nq) b s bs m):=p.o;have S:Hq ((w2.drewN nq).heap[w1.heap.size]? =Z (Cl (dk 80 (lz (lY bs) 80)) 179 (0,0))):=R.o;have b0:(w2.drewN nq).heap.size=w1.heap.size+1:=a8;clear z p R a8;generalize w2.drewN nq=w3 at*;have c0:w3.cell? ⟨b,4,Y⟩=Z (I Uq (un s.e)):=rO q.o 4 dc;have c4:w3.cell? ⟨b,5,Y⟩=Z (I Uq (un s.f)):=rO q.o 5 dc;have c6:w3.cell? ⟨b,6,Y⟩=Z (I Uq (un s.g)):=rO q.o 6 dc;have c7:w3.cell? ⟨b,7,Y⟩=Z (I Uq (un s.h)):=rO q.o 7 dc;go_wp2_with fail
 refine wp_region_quiet_lit kr kr ?_;repeat (first|go_big_quiet_step (fail)|quiet_step (fail))
 refine wpQuiet_nil ?_;intro _ u;obtain⟨nq,v⟩:=u;subst v;clear c0 c4 c6 c7;have A:Hq (O w.heap.size w (w3.drewN nq)):=eA L.o nq;have P:Hq (nw (w3.drewN nq) b s bs m):=q.o;have T:Hq ((w3.drewN nq).heap[w1.heap.size]? =Z (Cl (dk 80 (lz (lY bs) 80)) 179 (0,0))):=S.o;have e2:(w3.drewN nq).heap.size=w1.heap.size+1:=b0;clear L q S b0;generalize w3.drewN nq=w4 at*;go_wp2_with fail
 go_loopw [3,4,5,6,7,8,9,10,58] (fun xa xb xc xd xe xf xg xh i y=>∃k:Nat,k<=80/\i=I J (k:Int)/\xa=I Uq (un (rounds (lY bs) s k).a)/\xb=I Uq (un (rounds (lY bs) s k).b)/\xc=I Uq (un (rounds (lY bs) s k).c)/\xd=I Uq (un (rounds (lY bs) s k).d)/\xe=I Uq (un (rounds (lY bs) s k).e)/\xf=I Uq (un (rounds (lY bs) s k).f)/\xg=I Uq (un (rounds (lY bs) s k).g)/\xh=I Uq (un (rounds (lY bs) s k).h)/\O w4.heap.size w4 y) (fun _ _ _ _ _ _ _ _ i _=>80-(intOf i).toNat)
 case atStart=>exact⟨0,oM,rfl,rfl,rfl,rfl,rfl,rfl,rfl,rfl,rfl,Below.refl _ _⟩
 case round=>
  rename D=>w5
  obtain⟨k,hk,rfl,rfl,rfl,rfl,rfl,rfl,rfl,rfl,rfl,V⟩:=hrel;have n:Hq _:=V;clear V;generalize r:rounds (lY bs) s k=t at*;have Q:Hq _:=r;clear r;by_cases C:k<80
  ·have c8:w5.cell? ⟨0,k,Y⟩=Z (I Uq (un (se k))):=(kc.below HT.o (A.o.trans (n.o.mono oM)) b1) k C
   have c9:w5.cell? ⟨w1.heap.size,k,Y⟩=Z (I Uq (un (Sha.W (lY bs) k))):=by
    rw[jI ((n.o.block _ oM).trans T.o) k C,pO _ _ _ C]
   go_wp2_with fail
   refine wp_region_quiet_lit kr kr ?_;repeat (first|go_big_quiet_step ((go_at_call 272;exact Calls.quiet_of_same (Dg _ _ _ _ dc dc dc dc dc dc _)))|quiet_step ((go_at_call 272;exact Calls.quiet_of_same (Dg _ _ _ _ dc dc dc dc dc dc _))))
   refine wpQuiet_nil ?_;intro _ u;obtain⟨nq,v⟩:=u;subst v;clear c8 c9;go_wp2_with (first
    |(go_at_call 272;refine(Dg _ _ _ _ dc dc dc dc dc dc _).mono ?_;rintro e w' ⟨rfl,rfl⟩))
   have l:rounds (lY bs) s (k+1)=Sha.round t (se k) (Sha.W (lY bs) k):=by rw[<-Q.o];rfl
   exact⟨⟨k+1,oM,by go_num,by rw[l];rfl,by rw[l];rfl,by rw[l];rfl,by rw[l];rfl,by rw[l];rfl,by rw[l];rfl,by rw[l];rfl,by rw[l];rfl,eA n.o nq⟩,by simp[intOf];omega⟩
  ·obtain rfl:k=80:=by omega
   have F:Hq (O w.heap.size w w5):=A.o.trans (n.o.mono oM);have G:Hq (nw w5 b s bs m):=(n.o.block _ oM).trans P.o;clear A P T n;go_wp2_with (first
    |refine qz rfl 177 _ rfl (dk 8 (la t)) kr ?_)
   go_loopw [118] (fun i y=>∃k:Nat,k<=8/\i=I J (k:Int)/\ly b w y/\y.heap[b]? =Z (Cl (dk 137 (qU (nG s t k) bs m)) 270 (0,0))) (fun i _=>8-(intOf i).toNat)
   case atStart=>exact⟨0,oM,rfl,ly.kq F.o,by rw[<-TP];exact G.o⟩
   case round=>
    rename D=>w6
    obtain⟨k,hk,rfl,a6,a7⟩:=hrel;have M:Hq _:=a6;have x:Hq _:=a7;clear a6 a7 F G;by_cases B:k<8
    ·have hz:=nv x.o k
     have hc:=P1 x.o B;have e1:∀W:D,Sem.run prog (Instr.index 177 (H (dk 8 (la t))) (I J (k:Int))) W= .ok (I Uq (un (t.list[k]?.getD 0#64))) W:=fun W=>by rw[J3 W _ k B];unfold la;rw[aG]
     go_wp2_with fail
     go_region
     all_goals go_wp2_with fail
     exact⟨⟨k+1,oM,by go_num,(M.o.trans (ly.setCell _ _ _ _)).drew,by rw[heap_drew,mX x.o,P2 _ _ _ _ k B]⟩,by simp[intOf];omega⟩
    ·obtain rfl:k=8:=by omega
     go_wp2_with fail
     go_end0
     refine⟨rfl,M.o,?_⟩;show w6.heap[b]? =_;rw[x.o,Mf];rw[show Sha.compress s (lY bs)=s.add t from by rw[<-Q.o];rfl]
