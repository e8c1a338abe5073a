/- Walks of the document's secret. Walks of the document's Key, Sign. Walk of the document's Sign. Walks of the package posternkeep: seed, pick. The known answers, reckoned by the kernel. Small walks of posternlaw, and what Key and Sign answer on both sides. Walks of bounds, of the document's in, of digits and High. Two numbers of the document's reckoning compared; root. The x of a point by its y, in the document's manner: a root of u / v. -/
import Derived.Test.YtbojijefenfbgaaGreatDoorAaDocQ
import Derived.Test.YtbojijefenfbgaaGreatDoorAaRefHash
open Nat renaming pow_mul->dV,le_trans->ag
open Int renaming pow_zero->eK,pow_succ->fg,natCast_nonneg->dp
open List renaming mem_range->cL
open Option renaming some->Z,none->Y
open Go.Value renaming int->I,pointer->X,agg->H,bool->Bl,string->sT,tuple->Tp
open Go.IntKind renaming i64->J
open Go.Obj renaming cells->Cl
open Go.Ending renaming returned->Re
open Go renaming World->D,Value->Vl
open Go.RowKit renaming Below->O
set_option maxHeartbeats 4000000
open Go Go.RowKit
variable{a:Act}{o:Oper}{h':Bool}{w:D}
namespace Go.Proofs.YtbojijefenfbgaaGreatDoor
open Tryz
namespace Dc
open Bt Ed Cw Sw Gw
theorem AN{W:D}{K:Act->Prop}{l:List Oper}(d:o.guard=Y)(x:Operand)(e:o.op= .load 95 x)(b:Nat)(f:Nat->Int)(g:a.eval x=X (Z ⟨b,0,Y⟩))(c:W.heap[b]? =Z (Cl (num f) 95 (0,0)))
  (h:Qt.Lex prog W K l (a.put o.dst (H (num f)))):Qt.Lex prog W K (o::l) a:=
 Qt.nn d 95 x e b g 95 (num f) (0,0) _ c underlying95 rfl (by rw[kP];kernel_rfl) h
theorem TA(l:List UInt8)(a:l.length<=1000000000)(w:D):Rt 46 #[sT ⟨l.toArray⟩] w (sT ⟨(Sha.pn l).toArray⟩):=Xe ⟨l.toArray⟩ (by show l.toArray.size<=_;simp;omega) w
theorem OE(N:Nat)(b:N<2^256):∃e:T3,(∀w,Calls prog 48 #[H (tp (mR bX bY)),H (nm (N:Int))] w fun a w'=>a=Re (H (tp e))/\O w.heap.size w w')/\oN e (lD bP N):=by
 have h:=JW vZ (Dd bX bY) N b 256 lR;rw[Nat.sub_self,Nat.pow_zero,Nat.div_one] at h;exact⟨tmul (mR bX bY) N 256,GS _ N,h⟩
theorem Rq(h:List UInt8)(a:h.length=64)(n:Nat)(b:n=32):le h<2^(16*n):=by
 have h1:=uB h;rw[a] at h1;have e:(2:Nat)^(16*n)=256^64:=by
  rw[dV,b,show(256:Nat)^64=(256^2)^32 by rw[<-dV]]
 rw[e];exact h1
theorem Ny(h:List UInt8)(b:h.length=64)(w:D):Calls prog 45 #[sT ⟨h.toArray⟩] w fun e w'=>∃v,e=Re v/\(∀a,O w'.heap.size w' a->Rt 44 #[v] a (H (nm ((le h % LL:Nat):Int))))/\O w.heap.size w w':=by
 refine(Nx ⟨h.toArray⟩ 32 (by show h.toArray.size=_;simp[b]) dc dc w).mono ?_;rintro e w' ⟨v,rfl,d,c⟩;exact⟨v,rfl,fun a f=>S0 dc d (Rq h b 32 rfl) dc f,c⟩
end Dc
namespace Gw
open Fw Bt Ww Sw Cw Ed
def AJ:List UInt8:=[157,97,177,157,239,253,90,96,186,132,74,244,146,236,44,196,68,73,197,105,123,50,105,25,112,59,172,3,28,174,127,96]
def qR:List UInt8:=[215,90,152,1,130,177,10,183,213,75,254,211,201,100,7,58,14,225,114,243,218,166,35,37,175,2,26,104,247,7,81,26]
theorem Wq:sec AJ=36144925721603087658594284515452164870581325872720374094707712194495455132720:=kr
theorem Vb:Ir AJ=qR:=by
 rw[Fa,Wq,NC vZ (zs bX bY) 36144925721603087658594284515452164870581325872720374094707712194495455132720 255 dc ⟨38815646466658113194383306759739515082307681141926459231621296960732224964046,dc⟩ ⟨11903303657706407974989296177215005343713679411332034699907763981919547054807,dc⟩ kr];kernel_rfl
theorem tv(n:Int)(w:D):Rt 22 #[I J n] w (I J n):=by
 go_enter func22,ntmps22
 go_wp2_with fail
 exact bodyPost_ret (v:=I J n) (by simp[results,results22,go_sem]) rfl ⟨rfl,Below.refl _ _⟩
theorem Fe(w:D):Rt 16 #[] w (sT ⟨qR.toArray⟩):=by
 go_enter func16,ntmps16
 go_wp2_with fail
 exact bodyPost_ret (v:=sT ⟨qR.toArray⟩) (by simp[results,results16,go_sem,qR]) rfl ⟨rfl,Below.refl _ _⟩
end Gw
namespace Tk
open Bt
def gx(a n hi:Int):Bool:=decide (a<=n)&&decide (n<=hi)
theorem xx(a n hi:Int)(w:D):Calls prog 123 #[I J a,I J n,I J hi] w fun e w'=>e=Re (Bl (gx a n hi))/\w'=w:=by
 go_enter func123,ntmps123
 by_cases h:a<=n
 ·go_wp2_with fail
  exact bodyPost_ret (v:=Bl (gx a n hi)) (by simp[results,results123,go_sem,gx,h]) rfl ⟨rfl,rfl⟩
 ·go_wp2_with fail
  exact bodyPost_ret (v:=Bl (gx a n hi)) (by simp[results,results123,go_sem,gx];omega) rfl ⟨rfl,rfl⟩
theorem qQ(a n hi:Int)(w:D):Calls prog 60 #[I J n,I J a,I J hi] w fun e w'=>e=Re (Bl (gx a n hi))/\w'=w:=by
 go_enter func60,ntmps60
 by_cases h:a<=n
 ·go_wp2_with fail
  exact bodyPost_ret (v:=Bl (gx a n hi)) (by simp[results,results60,go_sem,gx,h]) rfl ⟨rfl,rfl⟩
 ·go_wp2_with fail
  exact bodyPost_ret (v:=Bl (gx a n hi)) (by simp[results,results60,go_sem,gx];omega) rfl ⟨rfl,rfl⟩
theorem Gh(n:Int)(w:D):Calls prog 56 #[I J n] w fun e w'=>e=Re (Bl (gx 0 n 65535))/\w'=w:=by
 have a:Hq _:=xx 0 n 65535;go_enter func56,ntmps56
 go_wp2_with fail
 refine(a.o _).mono ?_;rintro _ w1 ⟨rfl,rfl⟩;go_wp2_with fail
 exact bodyPost_ret (v:=Bl (gx 0 n 65535)) (by simp[results,results56,go_sem]) rfl ⟨rfl,rfl⟩
theorem PX(n:Int)(w:D):Calls prog 57 #[I J n] w fun e w'=>e=Re (Bl (gx 0 n 4294967295))/\w'=w:=by
 have a:Hq _:=xx 0 n 4294967295;go_enter func57,ntmps57
 go_wp2_with fail
 refine(a.o _).mono ?_;rintro _ w1 ⟨rfl,rfl⟩;go_wp2_with fail
 exact bodyPost_ret (v:=Bl (gx 0 n 4294967295)) (by simp[results,results57,go_sem]) rfl ⟨rfl,rfl⟩
end Tk
namespace Dc
open Bt Ed
theorem Ge(a:Int):dg a 0=a % 65536:=by
 unfold dg;rw[eK,Int.ediv_one]
theorem Gd(a:Int)(j:Nat):dg a (j+1)=dg (a / 65536) j:=by
 unfold dg;rw[fg,Int.mul_comm,Int.ediv_ediv_of_nonneg dc]
theorem MG(k:Nat):∀a b:Int,0<=a->a<65536^k->0<=b->b<65536^k->(∀j,j<k->dg a j=dg b j)->a=b:=by
 induction k with
 |zero=>
  intro a b c h1 h2 h3 _;rw[eK] at h1 h3;omega
 |succ k ih=>
  intro a b c h1 h2 h3 h;rw[fg] at h1 h3;have e0:=h 0 oM;rw[Ge,Ge] at e0;have d:=ih (a / 65536) (b / 65536) oM oM oM oM fun j e=>by
   rw[<-Gd,<-Gd];exact h (j+1) oM
  omega
theorem QT(w:D)(xs k:Array Vl)(f g:Nat->Int)(l:List Nat)(c:∀i∈l,xs[i]? =Z (I J (f i)))(d:∀i∈l,k[i]? =Z (I J (g i))):
  (Op.eqItems 9999 3 1 xs k l).run prog w= .ok (l.all fun i=>decide (f i=g i)) w:=by
 induction l with
 |nil=>simp[Op.eqItems]
 |cons i l ih=>
  have ih:=ih (fun j b=>c j (by simp[b])) (fun j b=>d j (by simp[b]));have m:=run_part_plain (P:=prog) w (e:=3) kr (c i sP);have n:=run_part_plain (P:=prog) w (e:=3) kr (d i sP);have o:=run_equalIn_int (P:=prog) (w:=w) 9998 3 .i64 .i64 (f i) (g i) underlying3;simp only[Op.eqItems,Nat.mul_one,Sem.run_bind,m,n,o,Result.andThen_ok];by_cases h:f i=g i
  ·have a:(f i==g i)=true:=by rw[h];simp
   rw[a];simp only[Bool.not_true,Bool.false_eq_true,if_false,ih,List.all_cons,h,decide_true,Bool.true_and]
  ·have a:(f i==g i)=false:=by
    rw[beq_eq_false_iff_ne];exact h
   rw[a];simp[h]
theorem MM(f g:Nat->Int)(w:D):Sem.run prog (Op.equalIn 10000 95 (H (num f)) (H (num g))) w= .ok ((List.range 16).all fun i=>decide (f i=g i)) w:=by
 obtain⟨i,hi⟩:=Option.isSome_iff_exists.1 (show(prog.info? 3).isSome=true by kernel_rfl);have h1:=run_equalIn_array (P:=prog) w 9999 (t:=95) (e:=3) (n:=16) (num f) (num g) underlying95 hi;rw[h1,show prog.cellsOf 3=1 by kernel_rfl];exact QT w _ _ f g _ (fun i h=>Own.ob (cL.1 h)) (fun i h=>Own.ob (cL.1 h))
theorem Io(x y:F)(w:D):Sem.run prog (Op.equalIn 10000 95 (H (rn x)) (H (rn y))) w= .ok (decide (x=y)) w:=by
 rw[mJ,mJ];refine(MM _ _ w).trans ?_;congr 1;by_cases h:x=y
 ·subst h
  simp
 ·rw[decide_eq_false h,Bool.eq_false_iff]
  intro b;rw[List.all_eq_true] at b;have a:∀z:F,(z.val:Int)<65536^16:=fun z=>Int.lt_trans (Int.ofNat_lt.2 z.isLt) (of_decide_eq_true kr);have e:=MG 16 (x.val:Int) (y.val:Int) (dp _) (a x) (dp _) (a y) fun j c=>of_decide_eq_true (b j (cL.2 c));exact h (Fin.ext (Int.ofNat_inj.1 e))
theorem TH{b c:Nat}{a:Option Obj}(h:w.heap[b]? =a)(d:b≠c)(cs:Array Vl):(w.setRow c cs).heap[b]? =a:=by
 rw[<-h];show(Array.modify _ _ _)[b]? =_;rw[Array.getElem?_modify,if_neg (Ne.symm d)]
theorem Sg{S:D->Prop}{W:D}{K:Act->Prop}{l:List Oper}{p k:Nat}(e:¬k<p)(d:o.guard=Y)(x:Operand)(f:o.op= .load 95 x)(b:Nat)(v:F)(i:a.eval x=X (Z ⟨b,0,Y⟩))(c:∀w',S w'->ep w' b v)
  (h:Qu.ou prog S W p K (k+1) l (a.put o.dst (H (rn v)))):Qu.ou prog S W p K k (o::l) a:=by
 refine Qu.sg e d (H (rn v)) (fun w' g=> ?_) h;unfold execOp;simp only[f,i,Instr.loadAt,Instr.sureAddr,Sem.run_bind,Sem.run_pure,Result.andThen_ok,run_loadVar_row (P:=prog) w' b 95 95 (rn v) (0,0) _ (c w' g) underlying95 rfl (by rw[jD];kernel_rfl)]
theorem FD{c:Func}{p q:Tmp}(h:c.results= #[.cell p 95,.tmp q]){post:Ending->D->Prop}(hd:a.defers=[])(g:Nat)(v:F)(b:Bool)(f:a.tmps.getD p undef=X (Z ⟨g,0,Y⟩))(k:a.tmps.getD q undef=Bl b)(d:ep w g v)(j:post (Re (Tp #[H (rn v),Bl b])) w):
  bodyPost prog c post .ret a w:=by
 refine bodyPost_ret (v:=Tp #[H (rn v),Bl b]) ?_ hd j;have e:=run_loadVar_row (P:=prog) w g 95 95 (rn v) (0,0) _ d underlying95 rfl (by rw[jD];kernel_rfl);have i:a.tmps[p]?.getD undef=X (Z ⟨g,0,Y⟩):=by simpa using f
 have l:a.tmps[q]?.getD undef=Bl b:=by simpa using k
 simp[results,h,i,l,asAddr,e]
attribute [local go_sem] Io
set_option maxRecDepth 100000 in
theorem NZ(x:F)(w:D):Rt 95 #[H (rn x)] w (Tp #[H (rn (qa x).1),Bl (qa x).2]):=by
 have v:Hq (∀w,Rt 165 #[I J 3,I J 3] w (H (nm ((7237005577332262213973186563042994240829374041602535252466099000494570602494:Nat):Int)))):=CA 3 3 dc dc dc;have W:Hq (∀w,Rt 165 #[I J (-1),I J 2] w (H (nm ((14474011154664524427946373126085988481658748083205070504932198000989141204987:Nat):Int)))):=CA (-1) 2 dc dc dc;obtain⟨r,K⟩:=eX (rt x);obtain⟨i,hi⟩:=eX i2;have y:Hq (∀w,Rt 164 #[H (rn x),H (nm ((7237005577332262213973186563042994240829374041602535252466099000494570602494:Nat):Int))] w (H (rn r))):=by
  rw[K];exact Cb x 7237005577332262213973186563042994240829374041602535252466099000494570602494 dc
 have z:Hq (∀w,Rt 164 #[H (rn 2),H (nm ((14474011154664524427946373126085988481658748083205070504932198000989141204987:Nat):Int))] w (H (rn i))):=by
  rw[hi];exact Cb 2 14474011154664524427946373126085988481658748083205070504932198000989141204987 dc
 have X:Hq (∀w,Rt 43 #[I J 2] w (H (rn 2))):=pz 2 dc;have S:Hq (qa x=ri x r i):=by
  rw[K,hi];exact rfl
 clear K hi;obtain⟨L,Y⟩:=eX (nm ((7237005577332262213973186563042994240829374041602535252466099000494570602494:Nat):Int));rw[<-Y] at v y;obtain⟨E2,a6⟩:=eX (nm ((14474011154664524427946373126085988481658748083205070504932198000989141204987:Nat):Int));rw[<-a6] at W z;clear Y a6;obtain⟨two,ht⟩:=eX ((2:F));rw[<-ht] at z X;clear ht;go_enter func95,ntmps95
 go_wp2_with (refine mx _ rfl rfl ?_)
 generalize a8:World.alloc (World.alloc _ _) _=w0;have k:=tU a8;have g:Hq (ep w0 w.heap.size x):=k.1;have n:Hq _:=k.2.1;have P:Hq _:=k.2.2;clear a8 k;refine Qt.pC 3 kr kr _ rfl 95 rfl (num fun _=>0) kr ?_;refine kj rfl _ rfl w.heap.size x rfl g.o ?_;refine Qt.ev rfl 165 #[I J 3,I J 3] (H L) (fun _=>kr) (fun w' _=>v.o w') ?_;simp only[zD];refine Qt.ev rfl 164 #[H (rn x),H L] (H (rn r)) (fun _=>kr) (fun w' _=>y.o w') ?_;simp only[zD];refine Qt.gh ?_;intro a w1 b0 G hb;refine ny rfl rfl a r rfl rfl b0 G hb ?_;intro w1 hW b;have h:Hq (ep w1 w.heap.size x):=g.o.below b g.o.lt;have T:=ca b n;have c:Hq (ep w1 a r):=hW;have Q:=tq P b;have u:Hq (w.heap.size+1<a):=Nat.lt_of_lt_of_le (aL n.o) G;clear hW b b0 G hb g n P v y;simp only[zD];go_wp2_with fail
 refine Qt.qj kr kr ?_;refine kj rfl _ rfl a r rfl c.o ?_;refine kj rfl _ rfl a r rfl c.o ?_;refine Qt.ev rfl 93 #[H (rn r),H (rn r)] (H (rn (r*r))) (fun _=>kr) (fun w' _=>nh r r w') ?_;simp only[zD];refine kj rfl _ rfl w.heap.size x rfl h.o ?_;simp only[zD];refine Qt.kb rfl (Bl (decide (r*r=x))) (fun w' _=>by go_simp) ?_;simp only[zD];refine Qt.gh ?_;intro w2 b;have M:Hq (ep w2 w.heap.size x):=h.o.below b h.o.lt;have p:=ca b T;have q:Hq (ep w2 a r):=c.o.below b c.o.lt;have R:=tq Q b;clear b h T c Q;by_cases h1:r*r=x
 ·have A:Hq (ri x r i=(r,true)):=if_pos h1
  have d1:=decide_eq_true h1;have H1:Hq _:=h1;clear h1;go_wp2_with (first|refine qH rfl _ rfl a r rfl q.o ?_|refine rP rfl _ _ rfl (w.heap.size+1) r _ (kP _) rfl rfl p.o ?_)
  exact FD results95 rfl (w.heap.size+1) r true rfl rfl (ep.setRow p.o r) ⟨by rw[S.o,A.o],R.o.trans ((Fw.hJ _ _ _).mono oM)⟩
 ·have d1:=decide_eq_false h1
  have A:Hq (ri x r i=(r*i,decide (r*i*(r*i)=x))):=if_neg h1;have H1:Hq _:=h1;clear h1;go_wp2_with (first
   |(go_at_call 43;refine(X.o _).mono ?_;rintro e w3 ⟨rfl,l⟩)
   |(go_at_call 165;refine(W.o _).mono ?_;rintro e w4 ⟨rfl,m⟩)
   |(go_at_call 164;refine(z.o _).mono ?_;rintro e w5 ⟨rfl,C⟩)
   |refine mx _ rfl rfl ?_
   |(refine wG rfl _ _ rfl i rfl w5 _ rfl rfl ?_;generalize b1:w5.alloc (Cl (rn i) 95)=w6;have B:=nZ b1;have c0:Hq (ep w6 w5.heap.size i):=B.1;have a7:=B.2;have d:O w2.heap.size w2 w6:=((tR l m).trans (C.mono (ag l.size m.size))).trans (a7.mono (ag (ag l.size m.size) C.size));have N:Hq (ep w6 w.heap.size x):=M.o.below d M.o.lt;have c4:=ca d p;have s:Hq (ep w6 a r):=q.o.below d q.o.lt;have b3:=tq R d;clear b1 B a7 d l m C)
   |refine qH rfl _ rfl a r rfl s.o ?_
   |refine qH rfl _ rfl w5.heap.size i rfl c0.o ?_
   |(go_at_call 93;refine(nh r i _).mono ?_;rintro e w7 ⟨rfl,f⟩;have b2:Hq (ep w7 w.heap.size x):=N.o.below f N.o.lt;have c6:=ca f c4;have V:Hq (ep w7 a r):=s.o.below f s.o.lt;have b6:=tq b3 f;clear f)
   |refine rP rfl _ _ rfl a (r*i) _ (jD _) rfl rfl V.o ?_)
  have t:Hq (ep (w7.setRow a (rn (r*i))) a (r*i)):=ep.setRow V.o _;have j:Hq (ep (w7.setRow a (rn (r*i))) w.heap.size x):=b2.o.other (by have:=u.o;omega) _;have U:Hq ((w7.setRow a (rn (r*i))).heap[w.heap.size+1]? =Z (Cl (num fun _=>0) 95 (0,0))):=by
   exact TH c6.o (by have:=u.o;omega) _
  have b7:Hq (O w.heap.size w (w7.setRow a (rn (r*i)))):=b6.o.trans ((Fw.hJ _ _ _).mono (by have:=u.o;omega));generalize w7.setRow a (rn (r*i))=w8 at*;refine Qu.wS (fun w'=>ep w' w.heap.size x) 6 4 kr kr dc dc _ rfl 95 _ _ rfl (w.heap.size+1) _ (rn (r*i)) U.o (by rw[jD];kernel_rfl) (by rw[jD,kP]) (qK _) (fun w1 h1=>j.o.below h1 j.o.lt) (fun w1 h1=>(j.o.below h1 j.o.lt).other oM _) ?_;refine kj rfl _ rfl a (r*i) rfl t.o ?_;refine kj rfl _ rfl a (r*i) rfl t.o ?_;refine kj rfl _ rfl a (r*i) rfl t.o ?_;refine Qt.ev rfl 93 #[H (rn (r*i)),H (rn (r*i))] (H (rn (r*i*(r*i)))) (fun _=>kr) (fun w' _=>nh (r*i) (r*i) w') ?_;simp only[zD];refine Qt.gh ?_;refine Sg dc rfl _ rfl w.heap.size x rfl (fun w' hS=>hS) ?_;simp only[zD];refine Qu.sg dc rfl (Bl (decide (r*i*(r*i)=x))) (fun w' _=>by go_simp) ?_;simp only[zD];refine Qu.yc ?_;refine⟨rfl,rfl,?_⟩;intro w9 E;have c7:=ca E U;have b8:=tq b7 E;clear E;go_wp2_with fail
  exact FD results95 rfl (w.heap.size+1) (r*i) (decide (r*i*(r*i)=x)) rfl rfl (ep.setRow c7.o _) ⟨by rw[S.o,A.o],b8.o.trans ((Fw.hJ _ _ _).mono oM)⟩
end Dc
namespace Ed
def mC(r:F×Bool)(h':Bool):F×Bool:=if r.2=false then(0,false) else if h'=true/\r.1=0 then(0,false) else if iq r.1=h' then(r.1,true) else(0-r.1,true)
def oY(y:F)(h':Bool):F×Bool:=mC (qa (uy y*inv (vy y))) h'
theorem Ew:iq 0=false:=rfl
theorem Po{a b:Bool}(h:¬a=b):(!a)=b:=by
 cases a<;>cases b
 ·exact absurd rfl h
 ·rfl
 ·rfl
 ·exact absurd rfl h
theorem Qk:(0:F)-0=0:=rfl
theorem Ra(n:Nat)[NeZero n](u v i s:Fin n)(hv:v*i=1)(h:s=u*i):v*s=u:=by grind
theorem OO(n:Nat)[NeZero n](u v i s:Fin n)(hv:v*i=1)(h:v*s=u):s=u*i:=by grind
theorem Cd{u v s:F}(hv:v≠0):s=u*inv v↔v*s=u:=⟨Ra P u v (inv v) s (ng hv),OO P u v (inv v) s (ng hv)⟩
theorem Yo{r:F×Bool}(h:(mC r h').2=true):r.2=true/\((mC r h').1=r.1\/(mC r h').1=0-r.1)/\iq (mC r h').1=h':=by
 unfold mC at*;by_cases h1:r.2=false
 ·rw[if_pos h1] at h;cases h
 ·rw[if_neg h1] at*
  have b:r.2=true:=by simpa using h1
  by_cases h2:h'=true/\r.1=0
  ·rw[if_pos h2] at h;cases h
  ·rw[if_neg h2] at*
   by_cases h3:iq r.1=h'
   ·rw[if_pos h3]
    exact⟨b,.inl rfl,h3⟩
   ·rw[if_neg h3]
    refine⟨b,.inr rfl,?_⟩;by_cases a:r.1=0
    ·exfalso
     cases h' with
     |true=>exact h2 ⟨rfl,a⟩
     |false=>
      rw[a] at h3;exact h3 Ew
    ·exact(GA a).trans (Po h3)
theorem Yf{r:F×Bool}(h:(mC r h').2=false):r.2=false\/h'=true/\r.1=0:=by
 unfold mC at h;by_cases h1:r.2=false
 ·exact .inl h1
 ·rw[if_neg h1] at h
  by_cases h2:h'=true/\r.1=0
  ·exact .inr h2
  ·rw[if_neg h2] at h
   by_cases h3:iq r.1=h'
   ·rw[if_pos h3] at h;cases h
   ·rw[if_neg h3] at h;cases h
theorem Yz{y:F}(h:(oY y h').2=true):gF ((oY y h').1,y)/\iq (oY y h').1=h':=by
 obtain⟨h1,h2,h3⟩:=Yo (r:=qa (uy y*inv (vy y))) h;have a:=(Cd (wA y)).1 (KD h1);refine⟨(sD _ _).2 ?_,h3⟩;unfold oY;rcases h2 with h2|h2
 ·rw[h2];exact a
 ·rw[h2,IG P];exact a
theorem Yq{y:F}(h:(oY y h').2=false)(x:F)(c:gF (x,y)):iq x≠h':=by
 intro a;have d:=(Cd (wA y)).2 ((sD _ _).1 c);cases h1:(qa (uy y*inv (vy y))).2 with
 |false=>exact Xl h1 x d
 |true=>
  have b:=(sD _ _).2 ((Cd (wA y)).1 (KD h1));rcases Yf (r:=qa (uy y*inv (vy y))) h with h2|h2
  ·rw[h1] at h2;cases h2
  ·rw[h2.2] at b
   have e:x=0:=by
    rcases Dv c b with h|h
    ·exact h
    ·exact h.trans Qk
   rw[e,h2.1] at a;exact absurd (Ew.symm.trans a) Bool.false_ne_true
