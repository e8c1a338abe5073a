/- Plain mathematics of taking a text block by block. Walk of the program's hash: take. Walks of the program's hash: finish, sum, start. Walks of the program's hash: sum, start. Walks of the program's hash: Of; and of the call Hash. Walks of the program's signing: halves. Walks of the program's signing: Key. -/
import Derived.Test.YtbojijefenfbgaaGreatDoorAaMixWalk
import Derived.Laws.CopyRow
import Derived.Deep.CutRange
import Derived.Deep.RegionWith
open List renaming getElem_take->gE,getElem_drop->jR,getD_eq_getElem?_getD->aG,getElem?_eq_getElem->ae,getElem?_append_left->fc,getElem?_append_right->dE,getElem_append->ju,take_of_length_le->aT,append_nil->il,append_assoc->dj,take_append_drop->cb,replicate->cY,length_append->ao,length_replicate->jd,length_cons->bE,length_nil->cH,flatMap_append->jw
open Nat renaming add_zero->eb,le_refl->bA,le_trans->ag,zero_add->bC
open Go.Value renaming int->bf
open ByteArray renaming size_extract->dJ,mk->jo
open BitVec renaming ofNat->aA,eq_of_toNat_eq->de,toNat_ofNat->bH
open Option renaming some->Z,none->Y
open Go.Value renaming int->I,pointer->X,agg->H,string->sT,tuple->Tp
open Go.IntKind renaming i64->J,u64->Uq
open Go.Obj renaming cells->Cl
open Go.Ending renaming returned->Re
open Go renaming World->D,Value->Vl
open Go.RowKit renaming Below->O
set_option maxHeartbeats 4000000
set_option maxRecDepth 100000
open Go Go.RowKit
open Go.Proofs.YtbojijefenfbgaaGreatDoor
open UV(ni nX ot nM nj mW mE mZ nY om nW zq)
open Own(dk oU ob zN mn mX lA nJ jI zL rb qz qy jM)
open Sha(bytesOf rK nO pd out Cp pn KG)
variable{b c:Nat->BitVec 64}{bs:Nat->UInt8}{m:Nat}{t:List UInt8}
namespace Go.Proofs.YtbojijefenfbgaaGreatDoor
open Tryz
namespace Hs
open Sha
theorem Qf(h:∀j,j<16->b j=c j)(n:Nat):wl b n=wl c n:=by
 induction n with
 |zero=>rfl
 |succ n ih=>
  simp only[wl,ih,uE];by_cases a:n<16
  ·rw[if_pos a,if_pos a,h n a]
  ·rw[if_neg a,if_neg a]
theorem Qo(h:∀j,j<16->b j=c j)(n:Nat):W b n=W c n:=by
 unfold W;rw[Qf h n];unfold uE;by_cases a:n<16
 ·rw[if_pos a,if_pos a,h n a]
 ·rw[if_neg a,if_neg a]
theorem K3(h:∀j,j<16->b j=c j)(s:St):compress s b=compress s c:=by
 have:∀n,rounds b s n=rounds c s n:=fun n=>by
  induction n with
  |zero=>rfl
  |succ n ih=>simp only[rounds,ih,Qo h n]
 unfold compress;rw[this]
theorem Yw(l r:List UInt8)(p:Nat)(h:p+8<=l.length):rB (l++r) p=rB l p:=by
 unfold rB;rw[List.drop_append_of_le_length oM,List.take_append_of_le_length (by simp;omega)]
theorem J6(l r:List UInt8)(n:Nat)(h:128*n<=l.length):chain (l++r) n=chain l n:=by
 induction n with
 |zero=>rfl
 |succ n ih=>
  simp only[chain];rw[ih oM];exact K3 (fun j a=>Yw l r _ oM) _
theorem WU(l:List UInt8)(p:Nat)(h:p+8<=l.length):rB l p=qi (eight (fun i=>l.getD i 0) p):=by
 unfold rB;congr 1;apply List.ext_getElem
 ·simp[eight];omega
 ·intro i h1 h2
  rw[KM,gE,jR,aG,ae (by simp at h1;omega)];rfl
def Tk(t:List UInt8)(s:St)(bs:Nat->UInt8)(m:Nat):Prop:=s=chain t (t.length / 128)/\m=t.length % 128/\∀i,i<m->bs i=t.getD (128*(t.length / 128)+i) 0
theorem Tk.lt{s:St}(h:Tk t s bs m):m<128:=by have:=h.2.1;omega
theorem Tk.start(bs:Nat->UInt8):Tk [] Sha.start bs 0:=⟨rfl,rfl,fun _ h=>absurd h oM⟩
def over(bs:Nat->UInt8)(m n:Nat)(r:List UInt8)(i:Nat):UInt8:=if m<=i/\i<m+n then r.getD (i-m) 0 else bs i
theorem JL{s:St}(h:Tk t s bs m)(r:List UInt8)(n:Nat)(_hn:n<=r.length)(i:Nat)(hi:i<m+n):
  over bs m n r i=(t++r.take n).getD (128*(t.length / 128)+i) 0:=by
 have b:=h.2.1;unfold over;by_cases a:i<m
 ·rw[if_neg oM,h.2.2 i a]
  simp only[aG];rw[fc oM]
 ·rw[if_pos oM]
  simp only[aG];rw[dE oM,List.getElem?_take,if_pos oM,show 128*(t.length / 128)+i-t.length=i-m by omega]
theorem Tk.more{s:St}(h:Tk t s bs m)(r:List UInt8)(n:Nat)(c:n<=r.length)(d:m+n<128):Tk (t++r.take n) s (over bs m n r) (m+n):=by
 have e:=h.2.1;have a:(t++r.take n).length=t.length+n:=by simp;omega
 have b:(t.length+n) / 128=t.length / 128:=oM
 refine⟨?_,by rw[a];omega,fun i hi=> ?_⟩
 ·rw[a,b,J6 _ _ _ oM];exact h.1
 ·rw[a,b];exact JL h r n c i hi
theorem Tk.full{s:St}(h:Tk t s bs m)(r:List UInt8)(n:Nat)(b:n<=r.length)(d:m+n=128):Tk (t++r.take n) (compress s (lY (over bs m n r))) (over bs m n r) 0:=by
 have g:=h.2.1;have a:(t++r.take n).length=t.length+n:=by simp;omega
 have c:(t.length+n) / 128=t.length / 128+1:=oM
 refine⟨?_,by rw[a];omega,fun i hi=>absurd hi oM⟩;rw[a,c];simp only[chain];rw[J6 _ _ _ oM,<-h.1];refine K3 (fun j f=> ?_) _;unfold lY od;rw[WU _ _ (by rw[a];omega)];congr 1;have e:∀i,i<8->over bs m n r (8*j+i)=(t++r.take n).getD (128*(t.length / 128)+8*j+i) 0:=fun i hi=>by
  rw[JL h r n b _ oM,Nat.add_assoc]
 have e0:=e 0 oM;simp only[eb] at e0;simp only[eight];rw[e0,e 1 oM,e 2 oM,e 3 oM,e 4 oM,e 5 oM,e 6 oM,e 7 oM]
end Hs
namespace Hs
attribute [local go_sem] UV.ni UV.nX UV.ot UV.nM UV.nj UV.mW UV.mE UV.mZ UV.nY UV.om UV.nW
def wk(f:Nat->Vl)(o n:Nat)(l:List UInt8)(j:Nat):Vl:=if o<=j/\j<o+n then I .u8 ((l.getD (j-o) 0).toNat:Int) else f j
theorem SF(N o n:Nat)(f:Nat->Vl)(l:List UInt8)(i:n<=l.length)(d:o+n<=N):
  ((dk N f).toList.take o++(l.take n).map (fun c=>bf .u8 (c.toNat:Int))++(dk N f).toList.drop (o+n)).toArray=dk N (wk f o n l):=by
 have k:(dk N f).toList.length=N:=by rw[Array.length_toList,oU]
 have a:∀j (h:j<(dk N f).toList.length),(dk N f).toList[j]=f j:=fun j h=>by
  have:=ob (f:=f) (show j<N by omega);rw[Array.getElem?_eq_some_iff] at this;obtain⟨_,e⟩:=this;simpa using e
 refine zN _ N (by simp[oU];omega) _ (fun j g=> ?_);unfold wk;rw[ju];by_cases h1:j<((dk N f).toList.take o++(l.take n).map (fun c=>bf .u8 (c.toNat:Int))).length
 ·rw[dif_pos h1,ju]
  by_cases h2:j<((dk N f).toList.take o).length
  ·rw[dif_pos h2,gE,a,if_neg (by simp[oU] at h2;omega)]
  ·rw[dif_neg h2]
   have h3:((dk N f).toList.take o).length=o:=by simp[oU];omega
   have b:j<o+n:=by simp[oU] at h1;omega
   rw[if_pos oM];simp only[List.getElem_map,gE,h3];rw[aG,ae oM];rfl
 ·rw[dif_neg h1,jR,a]
  have h3:((dk N f).toList.take o++(l.take n).map (fun c=>bf .u8 (c.toNat:Int))).length=o+n:=by simp[oU];omega
  rw[if_neg oM];congr 1;omega
theorem WO(w:D)(g o a d N:Nat)(s:ByteArray)(f:Nat->Vl)(t ty:TypeId)(e:w.heap[g]? =Z (Cl (dk N f) t (0,0)))(h:o+a<=N):
  Sem.run prog (Builtin.copy_ #[145,9] ty #[.slice (Z ⟨g,o,Y⟩) a d,.string s]) w=
   .ok (I J ((min s.size a:Nat):Int)) (w.setRow g (dk N (wk f o (min s.size a) s.data.toList))):=by
 have j:s.data.toList.length=s.size:=by simp
 obtain⟨i,hi,_,_,_⟩:=info_parts tP;have b:=run_storeCells_at prog g o t ((s.data.toList.take (min s.size a)).map (fun c=>bf .u8 (c.toNat:Int))) 0 (dk N f) w e (by simp[oU];omega) (fun v hv=>by obtain⟨c,_,rfl⟩:=List.mem_map.1 hv;rfl);simp only[eb] at b;rw[show((s.data.toList.take (min s.size a)).map (fun c=>bf .u8 (c.toNat:Int))).length=min s.size a by simp] at b;rw[SF N o _ f _ oM oM] at b;simp[Builtin.copy_,run_underlying underlying145,Builtin.lenOf,Builtin.firstCells,sizeOf,typeInfo,hi];rw[<-List.map_take,b];simp[Result.andThen,goInt]
def tt(w:D)(b:Nat)(t:List UInt8):Prop:=∃s bs m,nw w b s bs m/\Tk t s bs m
theorem XB(s:Sha.St)(bs:Nat->UInt8)(m n:Nat)(l:List UInt8)(h:m+n<=128):dk 137 (wk (l' s bs m) (8+m) n l)=dk 137 (l' s (over bs m n l) m):=by
 refine mn (fun j d=> ?_);unfold wk l' over;by_cases b:j<8
 ·rw[if_neg oM,if_pos b,if_pos b]
 ·rw[if_neg b,if_neg b]
  by_cases a:j<136
  ·rw[if_pos a,if_pos a]
   by_cases c:8+m<=j/\j<8+m+n
   ·rw[if_pos c,if_pos oM,show j-(8+m)=j-8-m by omega]
   ·rw[if_neg c,if_neg oM]
  ·rw[if_neg a,if_neg a,if_neg oM]
theorem Cm(s:Sha.St)(bs:Nat->UInt8)(m k:Nat)(K:Int)(b:K=(k:Int)):dk 137 (fun j=>if j=136 then I J K else l' s bs m j)=dk 137 (l' s bs k):=by
 subst b;refine mn (fun j c=> ?_);unfold l';by_cases e:j=136
 ·rw[if_pos e,if_neg oM,if_neg oM]
 ·rw[if_neg e]
  by_cases a:j<8
  ·rw[if_pos a,if_pos a]
  ·rw[if_neg a,if_neg a,if_pos oM,if_pos oM]
theorem I8(r:ByteArray)(n:Nat):(r.extract n r.size).data.toList=r.data.toList.drop n:=by
 rw[ByteArray.data_extract,Array.toList_extract,List.extract_eq_take_drop];exact aT sP
def N5:Vl->Nat
 | .string r=>r.size
 |_=>0
theorem ly.setRow(w:D)(b:Nat)(cs:Array Vl):ly b w (w.setRow b cs):=
 ⟨rfl,rfl,rfl,by simp[World.setRow],fun k _ a=>by show(Array.modify _ _ _)[k]? =_;rw[Array.getElem?_modify,if_neg (Ne.symm a)]⟩
theorem De(w:D)(b:Nat)(t:List UInt8)(text:ByteArray)(h:tt w b t)(z:b≠0)(G:kc w)(b6:text.size<=1000000000000):
  Calls prog 170 #[X (Z ⟨b,0,Y⟩),.string text] w fun e w'=>e=Re (Tp #[])/\ly b w w'/\tt w' b (t++text.data.toList):=by
 have L:Hq _:=h;have O:Hq _:=G;clear h G;go_enter func170,ntmps170
 go_wp2_with fail
 go_loopw [1] (fun x K=>∃(u:List UInt8)(r:ByteArray),x= .string r/\r.size<=text.size/\u++r.data.toList=text.data.toList/\ly b w K/\tt K b (t++u)) (fun x _=>N5 x)
 case atStart=>exact⟨[],text,rfl,bA _,rfl,ly.refl _ _,by rw[il];exact L.o⟩
 case round=>
  rename D=>c
  obtain⟨u,r,rfl,b3,H,C,s,bs,m,F,p⟩:=hrel;have j:Hq _:=H;have i:Hq _:=C;have a:Hq _:=F;have g:Hq _:=p;have R:=p.lt;clear H C F p;by_cases b2:0<r.size
  ·have A:=xB a.o
   have U:=fun W=>zo W b 8 m (m:Int) rfl R;have k:=WO c.drew b (8+m) (128-m) (128-m) 137 r (l' s bs m) 270 3 a.o oM;obtain⟨n,l⟩:=eX (min r.size (128-m));rw[<-l] at k;rw[XB s bs m n _ oM] at k;have b0:0<n:=oM
   have B:n<=r.size:=oM
   have b1:m+n<=128:=oM
   have V:Hq _:=l;clear l;go_wp2_with fail
   go_region
   clear k U A;have y:Hq (ly b w (c.drew.setRow b (dk 137 (l' s (over bs m n r.data.toList) m)))):=i.o.drew.trans (ly.setRow _ _ _);have d:Hq (nw (c.drew.setRow b (dk 137 (l' s (over bs m n r.data.toList) m))) b s (over bs m n r.data.toList) m):=setRow_heap _ _ _ _ _ _ (show c.drew.heap[b]? =_ from a.o);clear i a;generalize c.drew.setRow b (dk 137 (l' s (over bs m n r.data.toList) m))=w1 at*;have A:=xB d.o;have a7:=Jd d.o 136;have v:Hq (r.size<=r.data.toList.length):=bA _;by_cases Q:m+n=128
   ·have S:((m:Int)+(n:Int)==128)=true:=by rw[beq_iff_eq];omega
    have P:Hq (nw (w1.setCell ⟨b,136,Y⟩ (I J ((m:Int)+(n:Int)))) b s (over bs m n r.data.toList) 128):=by
     show _=_;rw[mX d.o,Cm _ _ _ 128 _ oM]
    have q:Hq (ly b w (w1.setCell ⟨b,136,Y⟩ (I J ((m:Int)+(n:Int))))):=y.o.trans (ly.setCell _ _ _ _);go_wp2_with (first
     |(go_at_call 236;refine(Gz _ b s (over bs m n r.data.toList) 128 P.o z (kc.only O.o q.o z)).mono ?_;rintro e w3 ⟨rfl,E,f⟩;have M:Hq _:=E;have N:Hq _:=f;have a6:=xB f;have a8:=Jd f 136;clear E f))
    refine⟨⟨u++r.data.toList.take n,r.extract n r.size,rfl,?_,?_,(q.o.trans M.o).trans (ly.setCell _ _ _ _),?_⟩,?_⟩
    ·rw[dJ];omega
    ·rw[I8,dj,cb];exact j.o
    ·refine⟨_,_,0,?_,by rw[<-dj];exact Tk.full g.o r.data.toList n (ag B v.o) Q⟩
     show _=_;rw[mX N.o,Cm _ _ _ 0 0 rfl]
    ·show(r.extract n r.size).size<r.size
     rw[dJ];omega
   ·have S:((m:Int)+(n:Int)==128)=false:=by rw[beq_eq_false_iff_ne];omega
    go_wp2_with fail
    refine⟨⟨u++r.data.toList.take n,r.extract n r.size,rfl,?_,?_,y.o.trans (ly.setCell _ _ _ _),?_⟩,?_⟩
    ·rw[dJ];omega
    ·rw[I8,dj,cb];exact j.o
    ·refine⟨s,_,m+n,?_,by rw[<-dj];exact Tk.more g.o r.data.toList n (ag B v.o) oM⟩
     show _=_;rw[mX d.o,Cm _ _ _ (m+n) _ oM]
    ·show(r.extract n r.size).size<r.size
     rw[dJ];omega
  ·have T:Hq (r.data.toList=[]):=List.eq_nil_of_length_eq_zero (show r.size=0 by omega)
   go_wp2_with fail
   go_end0
   refine⟨rfl,i.o,?_⟩;have e:u=text.data.toList:=by rw[<-j.o,T.o,il]
   rw[<-e];exact⟨s,bs,m,a.o,g.o⟩
end Hs
namespace Hs
attribute [local go_sem] UV.ni UV.nX UV.ot UV.nM UV.nj UV.mW UV.mE UV.mZ UV.nY UV.om UV.nW
theorem I5(s:Sha.St)(bs:Nat->UInt8)(m p:Nat)(x:BitVec 64)(h:p+8<=128):dk 137 (pL (l' s bs m) (8+p) x 8)=dk 137 (l' s (over bs p 8 (bytesOf x)) m):=by
 refine mn (fun j d=> ?_);unfold pL l' over;by_cases b:j<8
 ·rw[if_neg oM,if_pos b,if_pos b]
 ·rw[if_neg b,if_neg b]
  by_cases a:j<136
  ·rw[if_pos a,if_pos a]
   by_cases c:8+p<=j/\j<8+p+8
   ·rw[if_pos c,if_pos oM,aG,ae (show j-8-p<(bytesOf x).length by rw[rK];omega),Option.getD_some,Kf,show j-(8+p)=j-8-p by omega]
   ·rw[if_neg c,if_neg oM]
  ·rw[if_neg a,if_neg a,if_neg oM]
theorem Tn(bs:Nat->UInt8)(x y:BitVec 64):over (over bs 112 8 (bytesOf x)) 120 8 (bytesOf y)=over bs 112 16 (bytesOf x++bytesOf y):=by
 funext i;unfold over;by_cases h1:120<=i/\i<120+8
 ·rw[if_pos h1,if_pos oM]
  simp only[aG];rw[dE (by rw[rK];omega),rK,show i-112-8=i-120 by omega]
 ·rw[if_neg h1]
  by_cases h2:112<=i/\i<112+8
  ·rw[if_pos h2,if_pos oM]
   simp only[aG];rw[fc (by rw[rK];omega)]
  ·rw[if_neg h2,if_neg oM]
theorem To(t:List UInt8)(z:Nat)(b:z+8=nO t.length)(hi a:BitVec 64)(h1:hi=0#64)(h2:a=aA 64 (8*t.length)):
  t++[128]++cY z 0++(bytesOf hi++bytesOf a).take 16=pd t:=by
 subst h1 h2;have e:bytesOf 0#64=cY 8 0:=dc
 rw[aT (by simp[rK]),e];unfold pd;rw[<-b,<-List.replicate_append_replicate];simp only[dj]
def leftOf:Option Vl->Nat
 |some (.int _ v)=>((240-v) % 128).toNat
 |_=>0
theorem Rx(n:Nat)(h:n<=1000000000000):aA 64 n>>>61=0#64:=by
 apply de;rw[BitVec.toNat_ushiftRight,bH,Nat.shiftRight_eq_div_pow];simp;omega
theorem Rv(n:Nat)(_h:n<=1000000000000):aA 64 n<<<3=aA 64 (8*n):=by
 apply de;rw[BitVec.toNat_shiftLeft,bH,bH,Nat.shiftLeft_eq];omega
theorem P0(s:Sha.St)(bs:Nat->UInt8)(m j:Nat)(h1:8<=j)(h2:j<136):∃v:Int,l' s bs m j=I .u8 v:=⟨_,by unfold l';rw[if_neg oM,if_pos h2]⟩
theorem XG(w:D)(b:Nat)(t:List UInt8)(h:tt w b t)(a:b≠0)(Q:kc w)(N:t.length<=1000000000000):
  Calls prog 171 #[X (Z ⟨b,0,Y⟩),I Uq (un (aA 64 t.length))] w fun e w'=>e=Re (Tp #[])/\ly b w w'/\∃bs m,nw w' b (Sha.chain (pd t) ((pd t).length / 128)) bs m:=by
 have S:Hq _:=h;have k:Hq _:=Q;clear h Q;have hg:nO t.length<=135/\8<=nO t.length/\(t.length+1+(nO t.length-8)) % 128=112:=by unfold nO;omega
 obtain⟨b8,c0,b0⟩:=hg;generalize F:nO t.length=C at*;have R:Hq _:=F;clear F;go_enter func171,ntmps171
 go_wp2_with (first
  |(go_at_call 170;refine(De _ b t ⟨#[128]⟩ S.o a k.o dc).mono ?_;rintro e w1 ⟨rfl,H,O⟩;have x:Hq _:=H;have A:Hq _:=O;clear H O))
 go_loopw [6] (fun _ d=>∃z:Nat,z+8<=C/\ly b w d/\tt d b (t++[128]++cY z 0)) (fun _ d=>leftOf (d.cell? ⟨b,136,Y⟩))
 case atStart=>exact⟨0,oM,x.o,by rw[List.replicate_zero,il];exact A.o⟩
 case round=>
  clear x A;rename D=>wa
  obtain⟨z,hz,G,s,bs,m,M,p⟩:=hrel;have f:Hq _:=G;have i:Hq _:=M;have u:Hq _:=p;have hm:m=(t.length+1+z) % 128:=by have:=p.2.1;simp only[ao,jd,bE,cH] at this;omega
  clear G M p;have a8:=xB i.o;by_cases b2:m=112
  ·have b6:z+8=C:=by omega
   subst b2;clear hm b0;have c7:=fun W=>zo W b 8 112 112 rfl dc;have c8:=fun W=>zo W b 8 120 120 rfl dc;have c9:un (aA 64 t.length) / (2305843009213693952:Int)=un 0#64:=by rw[<-Rx t.length N];exact mE _ 61
   have e1:IntKind.u64.wrap (un (aA 64 t.length)*8)=un (aA 64 (8*t.length)):=by rw[<-Rv t.length N];exact mZ _ 3
   have q:∀(bs:Nat->UInt8)(o:Nat),8<=o->o+8<=136->∀j,o<=j->j<o+8->∃v:Int,l' s bs 112 j=I .u8 v:=fun bs o h1 h2 j h3 h4=>P0 s bs 112 j oM oM;have r:Hq _:=q;clear q;go_wp2_with (first
    |(go_at_call_of 237 (bf IntKind.u64 (un 0#64));refine(Du _ b 120 _ _ 137 (l' s bs 112) 270 0#64 dc dc dc dc (r.o bs 120 dc dc) i.o).mono ?_;rintro e w2 ⟨rfl,c,l⟩;rw[I5 s bs 112 112 _ dc] at l;have g:Hq _:=c;have V:Hq _:=l;clear c l))
   refine(Du _ b 128 _ _ 137 (l' s (over bs 112 8 (bytesOf 0#64)) 112) 270 (aA 64 (8*t.length)) dc dc dc dc (r.o _ 128 dc dc) V.o).mono ?_;rintro e w3 ⟨rfl,J,n⟩;rw[I5 s _ 112 120 _ dc,Tn] at n;have T:Hq _:=J;have a6:Hq _:=n;clear J n;have y:Hq (ly b w w3):=(f.o.trans g.o).trans T.o;go_wp2_with (first
    |(go_at_call 236;refine(Gz _ b s (over bs 112 16 (bytesOf 0#64++bytesOf (aA 64 (8*t.length)))) 112 a6.o a (kc.only k.o y.o a)).mono ?_;rintro e w5 ⟨rfl,K,L⟩;have U:Hq _:=K;have a7:Hq _:=L;clear K L))
   go_end0
   refine⟨rfl,y.o.trans U.o,over bs 112 16 (bytesOf 0#64++bytesOf (aA 64 (8*t.length))),112,?_⟩;have E:=Tk.full u.o (bytesOf 0#64++bytesOf (aA 64 (8*t.length))) 16 (by simp[rK]) oM;rw[To t z (by rw[R.o];exact b6) _ _ rfl rfl] at E;rw[<-E.1];exact a7.o
  ·have c6:((m:Int) !=112)=true:=by rw[bne_iff_ne];omega
   go_wp2_with (first
    |(go_at_call 170;refine(De _ b (t++[128]++cY z 0) ⟨#[0]⟩ ⟨s,bs,m,i.o,u.o⟩ a (kc.only k.o f.o a) dc).mono ?_;rintro e w2 ⟨rfl,c,P⟩;have g:Hq _:=c;have B:Hq _:=P;clear c P))
   refine⟨⟨z+1,oM,f.o.trans g.o,by rw[List.replicate_succ',<-dj];exact B.o⟩,?_⟩;obtain⟨s2,b7,m2,b3,b1⟩:=B.o;have c4:m2=(t.length+1+z+1) % 128:=by
    have:=b1.2.1;simp only[ao,jd,bE,cH,show(jo #[0]).data.toList.length=1 from rfl] at this;omega
   rw[a8,xB b3];show((240-(m2:Int)) % 128).toNat<((240-(m:Int)) % 128).toNat;omega
end Hs
namespace Hs
attribute [local go_sem] UV.ni UV.nX UV.ot UV.nM UV.nj UV.mW UV.mE UV.mZ UV.nY UV.om UV.nW
theorem Mc(W:D)(b l:Nat)(L:Int)(d:L=(l:Int))(f:l<64):
  Sem.run prog (Instr.sliceAt 322 (X (Z ⟨b,0,Y⟩)) (Z (I J L)) none Y) W= .ok (.slice (Z ⟨b,l,Y⟩) (64-l) (64-l)) W:=by
 subst d;have a:prog.arrayLen 322=64:=kr
 have c:prog.elem 322=5:=kr
 have h:=run_sliceAt_array_l (P:=prog) W 322 ⟨b,0,Y⟩ kr .i64 (l:Int) oM (by rw[a];omega);obtain⟨i,hi,_,e,_⟩:=info_parts tP;rw[h,a,c];simp[sizeOf,typeInfo,hi,e,slicedAt,Result.andThen,Addr.add_mid];omega
theorem Xr(W:D)(b:Nat):
  Sem.run prog (Instr.sliceAt 322 (X (Z ⟨b,0,Y⟩)) none none Y) W= .ok (.slice (Z ⟨b,0,Y⟩) 64 64) W:=by
 have a:prog.arrayLen 322=64:=kr
 have c:prog.elem 322=5:=kr
 have h:=run_sliceAt_array_all (P:=prog) W 322 ⟨b,0,Y⟩ kr;obtain⟨i,hi,_,d,_⟩:=info_parts tP;rw[h,a,c];simp[sizeOf,typeInfo,hi,d,slicedAt,Result.andThen,Addr.add_mid]
def xR(s:Sha.St)(j:Nat):UInt8:=Sha.byteOf (s.list.getD (j / 8) 0#64) (j % 8)
theorem RX(s:Sha.St)(j:Nat)(h:j<(out s).length):(out s)[j]=xR s j:=by
 have a:j<64:=by rw[Cp] at h;exact h
 have e:out s=(List.range 64).map (xR s):=rr
 simp[e]
def nS(s:Sha.St)(k j:Nat):Vl:=if j<8*k then I .u8 ((xR s j).toNat:Int) else I .u8 0
theorem CJ(s:Sha.St)(k:Nat)(_hk:k<8):dk 64 (pL (nS s k) (8*k) (s.list[k]?.getD 0#64) 8)=dk 64 (nS s (k+1)):=by
 refine mn (fun j a=> ?_);unfold pL nS;by_cases h1:8*k<=j/\j<8*k+8
 ·rw[if_pos h1,if_pos oM]
  unfold xR;rw[show j / 8=k by omega,show j % 8=j-8*k by omega,aG]
 ·rw[if_neg h1]
  by_cases h2:j<8*k
  ·rw[if_pos h2,if_pos oM]
  ·rw[if_neg h2,if_neg oM]
theorem Tm(s:Sha.St)(k j:Nat):∃v:Int,nS s k j=I .u8 v:=by
 unfold nS;by_cases h:j<8*k
 ·exact⟨_,by rw[if_pos h]⟩
 ·exact⟨_,by rw[if_neg h]⟩
theorem Xs{w:D}{b:Nat}{s:Sha.St}(h:nw w b s bs m):w.rangeAt b 0 (dk 8 (la s)).toList:=fun j v hv=>by
 have a:j<8:=by have:=(lL hv);simpa [oU] using this
 have h1:=ob (f:=la s) a;rw[Array.getElem?_toList,h1] at hv;rw[bC,rO h j a,<-Option.some.inj hv];unfold la;rw[aG]
theorem Mk(w:D)(b:Nat)(s:Sha.St)(bs:Nat->UInt8)(m:Nat)(d:nw w b s bs m):
  Rt 172 #[X (Z ⟨b,0,Y⟩)] w (sT ⟨(out s).toArray⟩):=by
 have y:Hq _:=d;have z:=AK d;clear d;have g:Hq (nw (w.alloc (Cl (lA 64 (I .u8 0)) 322)) b s bs m):=(Below.heap_alloc _ _ _ z).trans y.o;go_enter func172,ntmps172
 go_wp2_with (first
  |refine nJ _ rfl 322 rfl (lA 64 (I .u8 0)) kr ?_
  |refine wpList_load_mid rfl 177 _ rfl b 0 rfl (dk 8 (la s)).toList _ (Xs g.o) underlying177 rfl kr ?_)
 go_loopw [10] (fun i t=>∃k:Nat,k<=8/\i=I J (k:Int)/\O w.heap.size w t/\t.heap[w.heap.size]? =Z (Cl (dk 64 (nS s k)) 322 (0,0))) (fun i _=>8-(intOf i).toNat)
 case atStart=>exact⟨0,oM,rfl,(Below.refl _ _).alloc lR _,by rw[heap_alloc_new];rfl⟩
 case round=>
  clear g;rename D=>C
  obtain⟨k,F,rfl,l,r⟩:=hrel;have a:Hq _:=l;have f:Hq _:=r;clear l r;by_cases p:k<8
  ·have E:∀W:D,Sem.run prog (Instr.index 177 (H (dk 8 (la s))) (I J (k:Int))) W= .ok (I Uq (un (s.list[k]?.getD 0#64))) W:=fun W=>by rw[J3 W _ k p];unfold la;rw[aG]
   have B:=fun W=>Mc W w.heap.size (8*k) (8*(k:Int)) oM oM;go_wp2_with (first
    |(go_at_call 237;refine(Du _ w.heap.size (8*k) _ _ 64 (nS s k) 322 (s.list[k]?.getD 0#64) oM oM oM dc (fun j _ _=>Tm s k j) f.o).mono ?_;rintro e w2 ⟨rfl,q,c⟩;rw[CJ s k p] at c;have v:Hq _:=q;have x:Hq _:=c;clear q c))
   exact⟨⟨k+1,oM,by go_num,a.o.trans (v.o.below _ lR a.o.size),x.o⟩,by simp[intOf];omega⟩
  ·obtain rfl:k=8:=by omega
   have B:=fun W=>Xr W w.heap.size;have u:Hq (∀j (h:j<(out s).length),C.cell? ⟨w.heap.size,0+j,Y⟩=Z (I .u8 ((out s)[j].toNat:Int))):=fun j n=>by
    have A:j<64:=by rw[Cp] at n;exact n
    rw[bC,jI f.o j A,RX];unfold nS;rw[if_pos oM]
   go_wp2_with (refine zL _ rfl _ 145 9 5 rfl underlying145 underlying5 underlying9 w.heap.size 0 64 (out s) rfl u.o ?_)
   go_ret
   exact⟨rfl,a.o⟩
def wQ:Array Vl:=dk 137 (l' Sha.start (fun _=>0) 0)
def zJ:Array Vl:=dk 137 (l' ⟨0#64,0#64,0#64,0#64,0#64,0#64,0#64,0#64⟩ (fun _=>0) 0)
theorem Kb:wQ.all (·.oneCell')=true:=rb fun j _=>by
 unfold l';by_cases h:j<8
 ·rw[if_pos h];rfl
 ·rw[if_neg h]
  by_cases h2:j<136
  ·rw[if_pos h2];rfl
  ·rw[if_neg h2];rfl
theorem TQ(w:D):
  Rt 169 #[] w (H wQ):=by
 go_enter func169,ntmps169
 go_wp2_with (first
  |refine nJ _ rfl 270 rfl zJ kr ?_
  |refine qz rfl 177 _ rfl (dk 8 (la Sha.start)) kr ?_
  |refine qz rfl 270 _ rfl wQ kr ?_
  |refine qy rfl 270 _ _ rfl zJ wQ 270 rfl rfl kr kr Kb ?_)
 exact jM results169 rfl _ _ _ _ _ rfl (heap_alloc_new _ _) underlying270 rfl kr ⟨rfl,(Below.refl _ _).alloc lR _⟩
end Hs
namespace Hs
attribute [local go_sem] UV.ni UV.nX UV.ot UV.nM UV.nj UV.mW UV.mE UV.mZ UV.nY UV.om UV.nW
def oe(l:List ByteArray):List UInt8:=l.flatMap (fun s=>s.data.toList)
theorem W5(ss:List ByteArray)(k:Nat)(h:k<ss.length):oe (ss.take (k+1))=oe (ss.take k)++ss[k].data.toList:=by
 unfold oe;rw[List.take_succ_eq_append_getElem h,jw];simp
theorem SY(ss:List ByteArray)(k:Nat):(oe (ss.take k)).length<=(oe ss).length:=by
 unfold oe;conv=>rhs;rw[<-cb k ss,jw,ao]
 omega
theorem Rs(n m:Nat)(b:n<=1000000000000)(a:m<=1000000000000):IntKind.u64.wrap (un (aA 64 n)+(m:Int))=un (aA 64 (n+m)):=by
 rw[zq _ oM,zq _ oM,IntKind.wrap_u64];omega
def Oy(w:D)(a0:Option Addr)(ss:List ByteArray):Prop:=ss=[]\/∃a b,a0=Z ⟨a,b,Y⟩/\∀j (h:j<ss.length),w.cell? ⟨a,b+j,Y⟩=Z (.string ss[j])
theorem NG(w:D)(a0:Option Addr)(cap:Nat)(ss:List ByteArray)(C:Oy w a0 ss)(j:kc w)(a6:(oe ss).length<=1000000000)(hn:ss.length<=1000000000):
  Rt 109 #[.slice a0 ss.length cap] w (sT ⟨(pn (oe ss)).toArray⟩):=by
 have S:Hq _:=C;have r:Hq _:=j;have s:=j.lt;clear C j;go_enter func109,ntmps109
 go_wp2_with (first
  |(go_at_call 169;refine(TQ _).mono ?_;rintro e w1 ⟨rfl,v⟩;have m:Hq _:=v;clear v)
  |refine nJ _ rfl 270 rfl zJ kr ?_
  |refine qy rfl 270 _ _ rfl zJ wQ 270 rfl rfl kr kr Kb ?_)
 have E:w.heap.size<=w1.heap.size:=m.o.size;have u:w1.heap.size≠0:=oM
 go_loopw [4,10] (fun l i N=>∃k:Nat,k<=ss.length/\i=I J (k:Int)/\l=I Uq (un (aA 64 (oe (ss.take k)).length))/\O w.heap.size w N/\tt N w1.heap.size (oe (ss.take k))) (fun _ i _=>ss.length-(intOf i).toNat)
 case atStart=>exact⟨0,oM,rfl,rfl,m.o.alloc E _,Sha.start,fun _=>0,0,heap_alloc_new _ _,Tk.start _⟩
 case round=>
  rename D=>M
  obtain⟨k,hk,rfl,rfl,t,G⟩:=hrel;have a:Hq _:=t;have q:Hq _:=G;clear t G;by_cases c:k<ss.length
  ·have g:=W5 ss k c
   have A:=SY ss (k+1);rw[g,ao] at A;have h:ss[k].data.toList.length=ss[k].size:=by simp
   rw[h] at A;have n:Hq _:=g;have R:Hq _:=h;clear g h;rcases S.o with h2|⟨K,L,rfl,z⟩
   ·rw[h2] at c;exact absurd c sP
   ·have f:=z k c
    have B:=block_lt_of_cell f;have X:M.cell? ⟨K,L+k,Y⟩=Z (.string ss[k]):=(a.o.cell (p:=⟨K,L+k,Y⟩) B).trans f;clear f z B;have W:=Rs (oe (ss.take k)).length ss[k].size oM oM;generalize ss[k]=part at*;go_wp2_with (first
     |(go_at_call 170;refine(De _ w1.heap.size _ part q.o u (kc.below r.o a.o s) oM).mono ?_;rintro e w2 ⟨rfl,b,H⟩;have d:Hq _:=b;have U:Hq _:=H;clear b H))
    exact⟨⟨k+1,oM,by go_num,by rw[n.o,ao,R.o],a.o.trans (d.o.below _ oM a.o.size),by rw[n.o];exact U.o⟩,by simp[intOf];omega⟩
  ·obtain rfl:k=ss.length:=by omega
   have Q:Hq (tt M w1.heap.size (oe ss)):=by have:=q.o;rwa [List.take_length] at this
   go_wp2_with fail
   refine(XG _ w1.heap.size (oe ss) Q.o u (kc.below r.o a.o s) oM).mono ?_;rintro e w2 ⟨rfl,b,V,m2,F⟩;have d:Hq _:=b;have T:Hq _:=F;clear b F;go_wp2_with (first
    |(go_at_call 172;refine(Mk _ w1.heap.size _ V m2 T.o).mono ?_;rintro e w3 ⟨rfl,y⟩;have P:Hq _:=y;clear y))
   go_ret
   have x:=a.o.trans (d.o.below _ E a.o.size);exact⟨rfl,x.trans (P.o.mono x.size)⟩
end Hs
namespace Gw
open Fw Bt Ww Sw Cw Ed
def Wr(N:Nat):Nat:=(N-N % 8) % 28948022309329048855892746252171976963317496166410141009864396001978282409984+28948022309329048855892746252171976963317496166410141009864396001978282409984
theorem L7(l:List UInt8):(pn l).length=64:=KG l
def sec(l:List UInt8):Nat:=Wr (le ((pn l).take 32))
def Ir(l:List UInt8):List UInt8:=nR (lD bP (sec l))
