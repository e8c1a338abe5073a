/- Walks of the program's signing: Sign. Walks of the program's signing: Right. A region that draws its order: its first n operations only read; the others stand in a row behind them. Numbers in parts to a base, with carries: what the document's own reckoning in parts of 16 bits comes to. Walks of the document's own reckoning: prime, small. Walks of the document's own reckoning: prime. -/
import Derived.Test.YtbojijefenfbgaaGreatDoorAaTakeMath
open Go.Value renaming string->iT,int->bf
open List renaming length_map->aS,take_of_length_le->aT,take_succ_cons->ak,take_zero->aE,setIfInBounds_toArray->bI,set_cons_zero->cw,set_cons_succ->cz
open Go.RowKit.Below renaming refl->ai,heap_setCell->aC
open Nat renaming lt_of_lt_of_le->aB,le_of_ble_eq_true->bT
open Int renaming add_mul->j6,mul_assoc->dy,mul_comm->eD,add_assoc->lg,pow_succ->fg,ediv_ediv_of_nonneg->ck,le_of_lt->dn,add_mul_ediv_right->fO,add_mul_emod_self_left->ff,emod_def->je,pow_zero->eK,ediv_one->dQ
open Option renaming some->Z,none->Y
open Go.Value renaming int->I,pointer->X,agg->H,bool->Bl,string->sT,tuple->Tp
open Go.IntKind renaming i64->J
open Go.Obj renaming cells->Cl
open Go.Ending renaming returned->Re
open Go renaming World->D,Value->Vl
open Go.RowKit renaming Below->O
set_option maxHeartbeats 4000000
set_option maxRecDepth 100000
open Go Go.RowKit
variable{B V:Int}{a:Act}{b k n:Nat}{f g:Nat->Int}{o:Oper}{t:TypeId}{w:D}
namespace Go.Proofs.YtbojijefenfbgaaGreatDoor
open Tryz
namespace Gw
open Fw Bt Ww Sw Cw Ed
theorem Ky(ss:List (List UInt8)):Hs.oe (ss.map fun l=>⟨l.toArray⟩)=ss.flatten:=by
 induction ss with
 |nil=>rfl
 |cons a ss ih=>
  have:Hs.oe (List.map (fun l:List UInt8=>(⟨l.toArray⟩:ByteArray)) (a::ss))=a++Hs.oe (ss.map fun l=>⟨l.toArray⟩):=by simp[Hs.oe]
  rw[this,ih];rfl
theorem Wn(ss:List (List UInt8))(b:Nat)(w:D)(c:w.heap[b]? =Z (Cl (ss.map fun l=>iT ⟨l.toArray⟩).toArray 9 (0,0)))(f:Hs.kc w)(d:ss.flatten.length<=1000000000)(e:ss.length<=1000000000):
  Rt 109 #[.slice (Z ⟨b,0,Y⟩) ss.length ss.length] w (sT ⟨(Sha.pn ss.flatten).toArray⟩):=by
 have h:=Hs.NG w (Z ⟨b,0,Y⟩) ss.length (ss.map fun l=>⟨l.toArray⟩) (.inr ⟨b,0,rfl,fun j a=>by
  rw[cell_of_row w b _ _ _ _ c];simp at a;simp[a]⟩) f (by rw[Ky];exact d) (by simpa using e)
 rw[Ky,aS] at h;exact h
theorem NH(ss:List (List UInt8))(w:D)(a:Hs.kc w)(d:ss.flatten.length<=1000000000)(f:ss.length<=1000000000):
  Calls prog 109 #[.slice (Z ⟨w.heap.size,0,Y⟩) ss.length ss.length] (w.alloc (Cl (ss.map fun l=>iT ⟨l.toArray⟩).toArray 9)) fun e w'=>e=Re (sT ⟨(Sha.pn ss.flatten).toArray⟩)/\O w.heap.size w w':=
 (Wn ss w.heap.size _ (heap_alloc_new _ _) (a.below ((ai w.heap.size w).alloc lR _) a.lt) d f).mono fun e w' ⟨c,b⟩=>⟨c,((ai w.heap.size w).alloc lR _).trans (b.mono sP)⟩
theorem QB(a b:List UInt8):(⟨a.toArray⟩:ByteArray)++⟨b.toArray⟩=⟨(a++b).toArray⟩:=by
 apply ByteArray.ext;simp
def kN(R A t:List UInt8):Nat:=le (Sha.pn (R++A++t)) % LL
theorem Ju(p:Pt):(nR p).length=32:=xw _ _
theorem RJ(n:Nat):n % LL<LL:=Nat.mod_lt _ dc
theorem yn(h:n<LL):n<115792089237316195423570985008687907853269984665640564039457584007913129639936:=Nat.lt_trans h dc
def TU(s k:Q)(B A:E)(j:Nat):Q×E:=if j=0 then(s,B) else(k,A)
def TT(s k:Q)(A:E):Nat->Q×E:=TU s k (mq bX bY) (rX A)
def vX(s k:Q)(A:E):E:=pr (TT s k A) 2 64
noncomputable def xZ(s k:Q)(A:E):List UInt8:=leB (enc ((vX s k A).x*inv (vX s k A).z) ((vX s k A).y*inv (vX s k A).z)) 32
noncomputable def ga(k t g:List UInt8):Bool:=
 if k.length=32/\g.length=64 then
  if le (g.drop 32)<LL then
   if (lq k).2=true then decide (xZ (bq (g.drop 32)) (nq (kN (g.take 32) k t)) (lq k).1=g.take 32) else false
  else false
 else false
theorem sZ{P:Program}{v0:Vl}(d:Tmp)(hd:o.dst=Z d)(n:d<a.tmps.size)(h:Qt.Lex P w (fun g=>g.eval (.tmp d)=v0) [o] a):Qt.oE P w (fun v _=>v=v0) ((execOp a.eval o).run P w):=by
 obtain⟨v,p,m⟩:=h;have c:(a.put o.dst v).eval (.tmp d)=v0:=m;have hv:v=v0:=by
  rw[hd] at c;simpa [Act.put,Act.eval,n] using c
 have h1:=p.2 w bR;subst hv;generalize (execOp a.eval o).run P w=r at h1;cases r with
 |halt x w'=>cases h1
 |ok x w'=>
  cases x with
  |value u=>
   obtain⟨b,i⟩:=h1;subst b i;exact⟨rfl,ai _ _⟩
  |enter f args=>
   obtain⟨b,k⟩:=h1;subst b;exact Calls.mono k fun e q ⟨l,j⟩=>⟨v,l,rfl,j⟩
  |_=>cases h1
theorem TB{P:Program}{w:D}{a:Act}{R:Vl->D->Prop}(t:TypeId)(c:o.op=Op.alloc t)(b:Array Vl)(h2:(P.info? t).map (fun i=>i.zero)=Z (Z (H b)))
  (h:R (X (Z ⟨w.heap.size,0,Y⟩)) (w.alloc (Cl b t))):Qt.oE P w R ((execOp a.eval o).run P w):=by
 obtain⟨i,hi,e⟩:=Option.map_eq_some_iff.1 h2;have f:i.zero=Z (H b):=e;have d:(execOp a.eval o).run P w= .ok (.value (X (Z ⟨w.heap.size,0,Y⟩))) (w.alloc (Cl b t)):=by
  simp[execOp,c,Instr.alloc,zeroValue,typeInfo,hi,f,newVar,newRow,Value.cells,Result.andThen]
 rw[d];exact⟨h,(ai _ _).alloc lR _⟩
theorem xA{P:Program}{w:D}{a:Act}{R:Vl->D->Prop}(t e:TypeId)(len:Nat)(b:Array (Nat×Operand))(f:o.op= .buildSlice t len b)(cells:Array Vl)(z:Vl)(sz c:Nat)
  (hu:P.underlying t=Z (.slice e)) (h2:(P.info? e).map (fun i=>(i.zero,i.size,i.bytes))=Z (Z z,sz,c)) (k:¬len*sz>2^24) (g:¬len*sz=0)
  (vs:List (Nat×Vl)) (hv:(b.map fun(i,x)=>(i,a.eval x)).toList=vs) (d:Instr.fill (fun i=>Z (i*sz,sz)) ((Array.range (len*sz)).map (z.cells[· % z.cells.size]!)) vs=Z cells)
  (h:R (.slice (Z ⟨w.heap.size,0,Y⟩) len len) (w.alloc (Cl cells e))):Qt.oE P w R ((execOp a.eval o).run P w):=by
 obtain⟨i,hi,l,m,n⟩:=info_parts h2;subst m;have j:=run_buildSlice (P:=P) w t e len (b.map fun(i,x)=>(i,a.eval x)) cells i z hu hi l k g (by rw[hv];exact d);unfold execOp;simp only[f,Sem.run_bind,Sem.run_pure,Result.andThen_ok,j];exact⟨h,(ai _ _).alloc lR _⟩
def RR(B:Nat)(q d:Q)(c A a e:E):Nat->Vl->D->Prop
 |0,v,_=>v=H q.cells
 |1,v,_=>v=H (pw c)
 |2,v,_=>v=H (tw (q,c))
 |3,v,_=>v=H d.cells
 |4,v,_=>v=H (pw A)
 |5,v,_=>v=H (pw a)
 |6,v,_=>v=H (tw (d,a))
 |7,v,w=>∃b,v= .slice (Z ⟨b,0,Y⟩) 2 2/\b<w.heap.size/\∀j,j<2->w.rangeAt b (j*20) (tw (TU q d c a j)).toList
 |8,v,_=>v=H (pw e)
 |9,v,w=>∃b,v=X (Z ⟨b,0,Y⟩)/\B<=b/\fb w b e0
 |_,_,_=>True
theorem T7(B:Nat)(q f:Q)(d A c e:E)(j:Nat)(u:Vl)(w w':D)(h:RR B q f d A c e j u w)(a:O w.heap.size w w'):RR B q f d A c e j u w':=by
 rcases j with _|_|_|_|_|_|_|_|_|_|j
 case succ.succ.succ.succ.succ.succ.succ.zero=>
  obtain⟨b,h1,h2,h3⟩:=h;exact⟨b,h1,aB h2 a.size,fun j g n v hv=>by rw[a.cell (by exact h2)];exact h3 j g n v hv⟩
 case succ.succ.succ.succ.succ.succ.succ.succ.succ.zero=>
  obtain⟨b,h1,h2,h3⟩:=h;exact⟨b,h1,h2,h3.below a h3.lt⟩
 all_goals exact h
theorem Ty{a c:Array Vl}{T:TypeId}(d:a.size=20)(_hY:c.size=20)(h:w.heap[b]? =Z (Cl (a++c) T (0,0))):w.rangeAt b 0 a.toList/\w.rangeAt b 20 c.toList:=by
 refine⟨fun n v hv=> ?_,fun n v hv=> ?_⟩
 ·rw[cell_of_row w b _ _ _ _ h]
  have e:n<a.size:=by simpa using (lL hv)
  rw[Array.getElem?_append_left oM];simpa using hv
 ·rw[cell_of_row w b _ _ _ _ h]
  rw[Array.getElem?_append_right oM,d,show 20+n-20=n by omega];simpa using hv
theorem Tz{q d:Q}{c a:E}(h:w.heap[b]? =Z (Cl (tw (q,c)++tw (d,a)) 192 (0,0))):∀j,j<2->w.rangeAt b (j*20) (tw (TU q d c a j)).toList:=fun j e=>by
 have h1:=Ty (xi _) (xi _) h;obtain rfl|rfl:j=0\/j=1:=oM
 ·exact h1.1
 ·exact h1.2
theorem LR(k t g:List UInt8)(r7:t.length<=900000000)(w:D)(ht:Hs.kc w):Rt 52 #[sT ⟨k.toArray⟩,sT ⟨t.toArray⟩,sT ⟨g.toArray⟩] w (Bl (ga k t g)):=by
 by_cases C:k.length=32/\g.length=64
 ·have hk:(k.length:Int)=32:=by omega
  have hg:(g.length:Int)=64:=oM
  have r5:g.length=64:=C.2;have Hk:Hq (k.length=32):=C.1;have m:Hq (ga k t g=if le (g.drop 32)<LL then if (lq k).2=true then decide (xZ (bq (g.drop 32)) (nq (kN (g.take 32) k t)) (lq k).1=g.take 32) else false else false):=if_pos C;have Ht:Hq (Hs.kc w):=ht;have o8:=uI g 0 32;have o9:=uI g 32 64;clear ht C;go_enter func52,ntmps52
  obtain⟨R,W⟩:=eX (g.take 32);obtain⟨B,a6⟩:=eX (g.drop 32);have r6:B.length=32:=by rw[a6];simp;omega
  have q9:R.length=32:=by rw[W];simp;omega
  have r8:(⟨g.toArray⟩:ByteArray).extract 0 32=⟨R.toArray⟩:=by rw[o8,W];rfl
  have r9:(⟨g.toArray⟩:ByteArray).extract 32 64=⟨B.toArray⟩:=by rw[o9,<-a6,aT oM]
  clear o8 o9;rw[<-W,<-a6] at m;clear W a6;obtain⟨q,hq⟩:=eX (bq B);have l4:Hq (q.num=le B):=by rw[hq];exact tB _ oM
  have p4:Hq (∀w,Rt 105 #[sT ⟨B.toArray⟩] w (H q.cells)):=by
   intro w;have h:=zM B oM w;rw[aT oM,<-hq] at h;exact h
  rw[<-hq] at m;clear hq;obtain⟨G,a8⟩:=eX (nq LL);obtain⟨lt,j0⟩:=eX (decide (le B<LL));have p8:Hq (∀w,Rt 107 #[] w (H G.cells)):=by rw[a8];exact GC
  have p2:Hq (∀w,Rt 106 #[H q.cells,H G.cells] w (Bl lt)):=by
   intro w;have h:=wT q G w;rw[l4.o,a8,qI dc,<-j0,<-a8] at h;exact h
  obtain⟨A,hA⟩:=eX ((lq k).1);obtain⟨ok,j1⟩:=eX ((lq k).2);have p9:Hq (∀w,Rt 85 #[sT ⟨k.toArray⟩] w (Tp #[H (pw A),Bl ok])):=by
   intro w;have h:=C6 k w;rw[<-hA,<-j1] at h;exact h
  obtain⟨h2,a7⟩:=eX (Sha.pn (R++(k++t)));have p7:Hq (∀w,Hs.kc w->Calls prog 109 #[.slice (Z ⟨w.heap.size,0,Y⟩) 3 3] (w.alloc (Cl #[sT ⟨R.toArray⟩,sT ⟨k.toArray⟩,sT ⟨t.toArray⟩] 9)) fun e w'=>e=Re (sT ⟨h2.toArray⟩)/\O w.heap.size w w'):=by
   intro w ht;have h:=NH [R,k,t] w ht (by have:=Hk.o;simp;omega) sP;rw[show [R,k,t].flatten=R++(k++t) by simp,<-a7] at h;exact h
  obtain⟨a,e7⟩:=eX (nq (kN R k t));have p5:Hq (∀w,Rt 108 #[sT ⟨h2.toArray⟩] w (H a.cells)):=by
   intro w;have h:=XJ h2 (by rw[a7];exact L7 _) w;rw[show le h2 % LL=kN R k t by rw[a7,<-List.append_assoc];rfl,<-e7] at h;exact h
  rw[<-e7,<-hA,<-j1] at m;obtain⟨e,he⟩:=eX (vX q a A);obtain⟨E,j2⟩:=eX (xZ q a A);have p3:Hq (∀w,Calls prog 113 #[H (pw e)] w fun p w'=>p=Re (sT ⟨E.toArray⟩)/\O w.heap.size w w'):=by
   intro w;have h:=Tv e w;rw[show leB (enc (e.x*inv e.z) (e.y*inv e.z)) 32=E by rw[j2,he];rfl] at h;exact h
  obtain⟨d,e6⟩:=eX (mq bX bY);obtain⟨c,e5⟩:=eX (rX A);have p1:Hq (∀w,Rt 111 #[] w (H (pw d))):=by rw[e6];exact My
  have p6:Hq (∀w,Rt 112 #[H (pw A)] w (H (pw c))):=by rw[e5];exact Vj A
  have q5:Hq (∀I w,I<w.heap.size->(∀j,j<2->w.rangeAt I (j*20) (tw (TU q a d c j)).toList)->Calls prog 110 #[.slice (Z ⟨I,0,Y⟩) 2 2] w fun p w'=>p=Re (H (pw e))/\O w.heap.size w w'):=by
   intro I w h1 h2;rw[he];rw[e6,e5] at h2;exact VB I 2 dc (TT q a A) w h1 h2
  rw[<-j2] at m;have l3:Hq (ga k t g=if lt=true then if ok=true then decide (E=R) else false else false):=by
   show _=_;rw[m.o,j0];simp only[decide_eq_true_eq]
  rw[l3.o];clear m l3 a8 j0 hA j1 a7 e7 he j2 l4 e6 e5;go_wp2_with fail
  refine(p4.o _).mono ?_;rintro p w1 ⟨rfl,l7⟩;have j5:Hq (O w.heap.size w w1):=l7;clear l7;go_wp2_with (refine wW rfl rfl rfl rfl q (fun _=>rfl) (fun _=>rfl) ?_)
  intro w2 f u r l8;have K:Hq (fY w2 f q):=r;have j9:=tq j5 l8;clear u r l8 j5;go_wp2_with fail
  refine Qt.qj kr kr ?_;refine xn rfl _ rfl f q rfl K.o ?_;refine Qt.ev rfl 107 #[] (H G.cells) (fun _=>kr) (fun w' _=>p8.o w') ?_;simp only[zD];refine Qt.ev rfl 106 #[H q.cells,H G.cells] (Bl lt) (fun _=>kr) (fun w' _=>p2.o w') ?_;simp only[zD];refine yV ((Bl (!lt))) ?_;refine Qt.gh ?_;intro w3 l9;have e2:Hq (O w2.heap.size w2 w3):=l9;have c4:Hq (fY w3 f q):=K.o.below e2.o K.o.lt;have b6:=tq j9 e2;clear l9 e2 K j9;cases lt with
  |false=>
   go_wp2_with fail
   exact bodyPost_ret (v:=Bl false) (by simp[results,results52,go_sem]) rfl ⟨rfl,b6.o⟩
  |true=>
   go_wp2_with fail
   refine(p9.o _).mono ?_;rintro p w4 ⟨rfl,n0⟩;have e3:Hq (O w3.heap.size w3 w4):=n0;have c6:Hq (fY w4 f q):=c4.o.below e3.o c4.o.lt;have l0:=tq b6 e3;clear n0 e3 c4 b6;go_wp2_with (refine Gr rfl rfl rfl rfl A (fun _=>rfl) (fun _=>rfl) ?_)
   intro w5 F u r n5;have e4:Hq (O w4.heap.size w4 w5):=n5;have b0:Hq (fb w5 F A):=r;have c7:Hq (fY w5 f q):=c6.o.below e4.o c6.o.lt;have J:=tq l0 e4;clear u r n5 e4 c6 l0;cases ok with
   |false=>
    go_wp2_with fail
    exact bodyPost_ret (v:=Bl false) (by simp[results,results52,go_sem]) rfl ⟨rfl,J.o⟩
   |true=>
    have l5:Hq (Hs.kc w5):=Ht.o.below J.o Ht.o.lt;go_wp2_with fail
    refine(p7.o w5 l5.o).mono ?_;rintro p w6 ⟨rfl,n9⟩;have L:Hq (O w5.heap.size w5 w6):=n9;have b1:Hq (fb w6 F A):=b0.o.below L.o b0.o.lt;have c8:Hq (fY w6 f q):=c7.o.below L.o c7.o.lt;have l1:=tq J L;clear n9 L c7 b0 J l5;go_wp2_with fail
    refine(p5.o _).mono ?_;rintro p w7 ⟨rfl,o0⟩;have M:Hq (O w6.heap.size w6 w7):=o0;have b2:Hq (fb w7 F A):=b1.o.below M.o b1.o.lt;have c9:Hq (fY w7 f q):=c8.o.below M.o c8.o.lt;have l2:=tq l1 M;clear o0 M c8 b1 l1;go_wp2_with (refine wW rfl rfl rfl rfl a (fun _=>rfl) (fun _=>rfl) ?_)
    intro w8 bk u r o4;have N:Hq (O w7.heap.size w7 w8):=o4;have c0:Hq (fY w8 bk a):=r;have b3:Hq (fb w8 F A):=b2.o.below N.o b2.o.lt;have e1:Hq (fY w8 f q):=c9.o.below N.o c9.o.lt;have b8:=tq l2 N;clear u r o4 N c9 b2 l2;go_wp2_with fail
    refine Qt.Ou 10 (RR w8.heap.size q a d A c e) kr kr (T7 _ _ _ _ _ _ _) ?_ ?_
    ·intro i o hi l U w' s hd
     have HQ:Hq (fY w' f q):=e1.o.below s e1.o.lt;have HA:Hq (fb w' F A):=b3.o.below s b3.o.lt;have HK:Hq (fY w' bk a):=c0.o.below s c0.o.lt;have HS:Hq (w8.heap.size<=w'.heap.size):=s.size;clear e1 b3 c0 b8 s;simp only[Qt.gu,ak,aE,Act.put,bI,cw,cz];rcases i with _|_|_|_|_|_|_|_|_|_|i
     ·obtain rfl:=Option.some.inj l
      refine sZ 43 rfl (bT kr) ?_;refine xn rfl _ rfl f q rfl HQ.o ?_;exact rfl
     ·obtain rfl:=Option.some.inj l
      refine sZ 44 rfl (bT kr) ?_;refine Qt.ev rfl 111 #[] (H (pw d)) (fun _=>kr) (fun w' _=>p1.o w') ?_;exact rfl
     ·obtain rfl:=Option.some.inj l
      have P:U 0=H q.cells:=hd 0 dc kr;have h1:U 1=H (pw d):=hd 1 dc kr;rw[P,h1];refine sZ 45 rfl (bT kr) ?_;refine ID rfl _ rfl q d kr ?_;exact rfl
     ·obtain rfl:=Option.some.inj l
      refine sZ 46 rfl (bT kr) ?_;refine xn rfl _ rfl bk a rfl HK.o ?_;exact rfl
     ·obtain rfl:=Option.some.inj l
      refine sZ 47 rfl (bT kr) ?_;refine ya rfl _ rfl F A rfl HA.o ?_;exact rfl
     ·obtain rfl:=Option.some.inj l
      have Q:U 4=H (pw A):=hd 4 dc kr;rw[Q];refine sZ 48 rfl (bT kr) ?_;refine Qt.ev rfl 112 #[H (pw A)] (H (pw c)) (fun _=>kr) (fun w' _=>p6.o w') ?_;exact rfl
     ·obtain rfl:=Option.some.inj l
      have h3:U 3=H a.cells:=hd 3 dc kr;have S:U 5=H (pw c):=hd 5 dc kr;rw[h3,S];refine sZ 49 rfl (bT kr) ?_;refine ID rfl _ rfl a c kr ?_;exact rfl
     ·obtain rfl:=Option.some.inj l
      have h2:U 2=H (tw (q,d)):=hd 2 dc kr;have T:U 6=H (tw (a,c)):=hd 6 dc kr;rw[h2,T];refine xA 274 192 2 _ rfl (tw (q,d)++tw (a,c)) (H oC) 20 160 underlying274 kr dc dc [(0,H (tw (q,d))),(1,H (tw (a,c)))] kr (UQ _ _) ?_;exact⟨w'.heap.size,rfl,sP,Tz (heap_alloc_new _ _)⟩
     ·obtain rfl:=Option.some.inj l
      obtain⟨b,V,l6,q6⟩:∃b,U 7= .slice (Z ⟨b,0,Y⟩) 2 2/\b<w'.heap.size/\∀j,j<2->w'.rangeAt b (j*20) (tw (TU q a d c j)).toList:=hd 7 dc kr;rw[V];refine sZ 51 rfl (bT kr) ?_;refine Qt.ev rfl 110 #[.slice (Z ⟨b,0,Y⟩) 2 2] (H (pw e)) (fun _=>kr) (fun q8 s=>q5.o b q8 (aB l6 s.size) (fun j hj n v hv=>by rw[s.cell (by exact l6)];exact q6 j hj n v hv)) ?_;exact rfl
     ·obtain rfl:=Option.some.inj l
      refine TB 163 rfl oA kr ?_;exact⟨w'.heap.size,rfl,HS.o,by rw[<-zG];exact heap_alloc_new _ _⟩
     ·omega
    ·intro U w9 o5 hd
     have P:U 0=H q.cells:=hd 0 dc;have h1:U 1=H (pw d):=hd 1 dc;have h2:U 2=H (tw (q,d)):=hd 2 dc;have h3:U 3=H a.cells:=hd 3 dc;have Q:U 4=H (pw A):=hd 4 dc;have S:U 5=H (pw c):=hd 5 dc;have T:U 6=H (tw (a,c)):=hd 6 dc;obtain⟨b7,V,-,-⟩:∃b,U 7= .slice (Z ⟨b,0,Y⟩) 2 2/\b<w9.heap.size/\∀j,j<2->w9.rangeAt b (j*20) (tw (TU q a d c j)).toList:=hd 7 dc;have h8:U 8=H (pw e):=hd 8 dc;obtain⟨b9,h9,u,hP⟩:∃b,U 9=X (Z ⟨b,0,Y⟩)/\w8.heap.size<=b/\fb w9 b e0:=hd 9 dc;simp only[Qt.gu,ak,aE,List.drop_succ_cons,List.drop_zero,Act.put,bI,cw,cz,P,h1,h2,h3,Q,S,T,V,h8,h9];clear P h1 h2 h3 Q S T V h8 h9 hd;refine pA rfl _ _ rfl b9 e e0 rfl rfl hP ?_;have HP:Hq (fb (w9.setRow b9 (pw e)) b9 e):=hP.setRow e;have HB:Hq (O w.heap.size w (w9.setRow b9 (pw e))):=(tR b8 o5).trans ((hJ _ _ _).mono (Nat.le_trans b8.o.size u));clear hP u o5;obtain⟨wx,o7⟩:=eX (w9.setRow b9 (pw e));rw[<-o7] at HP HB⊢;clear o7;refine Qt.done ?_;simp only[Act.put];go_wp2_with (refine Fg rfl _ rfl b9 e rfl HP.o ?_)
     refine(p3.o _).mono ?_;rintro p wy ⟨rfl,o6⟩;have p0:=tq HB o6;clear o6;go_wp2_with fail
     have q7:(E==R)=decide (E=R):=by by_cases h:E=R<;>simp[h]
     exact bodyPost_ret (v:=Bl (E==R)) (by simp[results,results52,go_sem]) rfl ⟨by rw[q7],p0.o⟩
 ·have e9:¬((k.length:Int)=32/\(g.length:Int)=64):=by omega
  have m:Hq (ga k t g=false):=if_neg C;rw[m.o];by_cases hk:(k.length:Int)=32
  ·have hg:¬(g.length:Int)=64:=fun h=>e9 ⟨hk,h⟩
   clear C e9;go_enter func52,ntmps52
   go_wp2_with fail
   exact bodyPost_ret (v:=Bl false) (by simp[results,results52,go_sem]) rfl ⟨rfl,ai _ _⟩
  ·clear C e9
   go_enter func52,ntmps52
   go_wp2_with fail
   exact bodyPost_ret (v:=Bl false) (by simp[results,results52,go_sem]) rfl ⟨rfl,ai _ _⟩
end Gw
open Go Go.RowKit Go.Sort Region
namespace Qt
theorem Dw{P:Program}{id:Nat}{Q:Exit->Act->D->Prop}{a:Act}{w:D}{l:List Oper}(n:Nat)(d:P.follows .mixedOrders=true)(c:Region.lexTailB .any l.toArray n=true)
  (h:wpQuiet P l.toArray (fun w'=>∃n,w'=w.drewN n) (fun b=>∀w',(∃n,w'=w.drewN n)->wpList P l.toArray Q (l.drop n) b w') (l.take n) a):(Code.region id l.toArray true).wp P Q a w:=
 zK (C:=fun w'=>∃n,w'=w.drewN n) n d c ⟨1,rfl⟩ h
end Qt
end Go.Proofs.YtbojijefenfbgaaGreatDoor
namespace Go.Proofs.YtbojijefenfbgaaGreatDoor
open Tryz
namespace Dc
def vi(B:Int)(f:Nat->Int):Nat->Int
 |0=>0
 |k+1=>vi B f k+f k*B^k
theorem wR(h:∀j,j<k->f j=g j):vi B f k=vi B g k:=by
 induction k with
 |zero=>rfl
 |succ k ih=>simp only[vi,ih fun j a=>h j oM,h k oM]
theorem Bu(B:Int)(f g:Nat->Int)(k:Nat):vi B (fun j=>f j+g j) k=vi B f k+vi B g k:=by
 induction k with
 |zero=>rfl
 |succ k ih=>
  simp only[vi,ih,j6];generalize f k*B^k=x;generalize g k*B^k=y;omega
theorem FM(B:Int)(f g:Nat->Int)(k:Nat):vi B (fun j=>f j-g j) k=vi B f k-vi B g k:=by
 induction k with
 |zero=>rfl
 |succ k ih=>
  simp only[vi,ih,Int.sub_mul];generalize f k*B^k=x;generalize g k*B^k=y;omega
theorem FK(B c:Int)(f:Nat->Int)(k:Nat):vi B (fun j=>c*f j) k=c*vi B f k:=by
 induction k with
 |zero=>simp[vi]
 |succ k ih=>simp only[vi,ih,Int.mul_add,dy]
theorem FL(B:Int)(f:Nat->Int)(i k:Nat)(v:Int)(hi:i<k):vi B (fun j=>if j=i then v else f j) k=vi B f k+(v-f i)*B^i:=by
 induction k with
 |zero=>omega
 |succ k ih=>
  by_cases e:i=k
  ·subst e
   simp only[vi,if_true];rw[wR (g:=f) fun j a=>if_neg oM,Int.sub_mul];generalize v*B^i=x;generalize f i*B^i=y;omega
  ·simp only[vi,ih oM]
   rw[if_neg (fun h=>e h.symm)];generalize (v-f i)*B^i=x;omega
theorem GZ(B:Int)(f:Nat->Int)(i k:Nat):vi B f (i+k)=vi B f i+B^i*vi B (fun j=>f (i+j)) k:=by
 induction k with
 |zero=>simp[vi]
 |succ k ih=>
  rw[<-Nat.add_assoc,vi,ih,vi,Int.mul_add,Int.pow_add,eD (f (i+k)),eD (f (i+k)),lg,dy]
def cF(B c0:Int)(f:Nat->Int):Nat->Int
 |0=>c0
 |i+1=>(f i+cF B c0 f i) / B
theorem rN(a:0<B)(i:Nat):0<B^i:=Int.pow_pos a
theorem Ek(a:0<B)(c0:Int)(f:Nat->Int)(i:Nat):cF B c0 f i=(c0+vi B f i) / B^i:=by
 induction i with
 |zero=>simp[cF,vi]
 |succ i ih=>
  have b:=rN a i;rw[cF,ih,vi,fg,<-ck (dn b),<-lg,fO _ _ oM,Int.add_comm]
theorem Bn(a:0<B)(c0:Int)(f:Nat->Int){i:Nat}(hi:i<k):(f i+cF B c0 f i) % B=(c0+vi B f k) / B^i % B:=by
 have b:=rN a i;obtain⟨m,rfl⟩:∃m,k=i+1+m:=⟨k-(i+1),oM⟩;rw[GZ,Ek a,vi,fg,dy];generalize vi B (fun j=>f (i+1+j)) m=t;rw[show c0+(vi B f i+f i*B^i+B^i*(B*t))=(c0+vi B f i)+(f i+B*t)*B^i by rw[j6,eD (B^i)];omega];rw[fO _ _ oM];generalize (c0+vi B f i) / B^i=x;rw[show x+(f i+B*t)=(f i+x)+B*t by omega,ff]
theorem KN(V a b:Int)(c:0<=a):V % (a*b)=V % a+a*(V / a % b):=by
 rw[je,je,je,Int.mul_sub,ck c,<-dy];generalize a*b*(V / (a*b))=x;generalize a*(V / a)=y;omega
theorem FJ(a:0<B)(V:Int)(k:Nat):vi B (fun j=>V / B^j % B) k=V % B^k:=by
 induction k with
 |zero=>simp[vi,Int.emod_one]
 |succ k ih=>
  rw[vi,ih,fg,eD _ (B^k),KN V (B^k) B (dn (rN a k))]
theorem xD{c0:Int}(h:∀j,j<n->-1125899906842624<=f j/\f j<=1125899906842624)(a: -34359738368<=c0/\c0<=34359738368)(i:Nat)(hi:i<=n): -34359738368<=cF 65536 c0 f i/\cF 65536 c0 f i<=34359738368:=by
 induction i with
 |zero=>exact a
 |succ i ih=>
  have h1:=h i oM;have h2:=ih oM;simp only[cF];generalize cF 65536 c0 f i=c at*;generalize f i=x at*;omega
def rd(V:Int):Int:=V % 57896044618658097711785492504343953926634992332820282019728792003956564819968+19*(V / 57896044618658097711785492504343953926634992332820282019728792003956564819968)
theorem FC(V:Int):rd V % 57896044618658097711785492504343953926634992332820282019728792003956564819949=V % 57896044618658097711785492504343953926634992332820282019728792003956564819949:=by
 unfold rd;have h:=Int.emod_add_mul_ediv V 57896044618658097711785492504343953926634992332820282019728792003956564819968;generalize V % 57896044618658097711785492504343953926634992332820282019728792003956564819968=r at*;generalize V / 57896044618658097711785492504343953926634992332820282019728792003956564819968=q at*;subst h;rw[show r+57896044618658097711785492504343953926634992332820282019728792003956564819968*q=(r+19*q)+57896044618658097711785492504343953926634992332820282019728792003956564819949*q by omega,ff]
theorem NT(h1: -2037035976334486086268445688409378161051468393665936250636140449354381299763336706183397376<=V)(h2:V<=2037035976334486086268445688409378161051468393665936250636140449354381299763336706183397376): -1125899906842624<=rd V/\rd V<=57896044618658097711785492504343953926634992332820282019728793129856471662592:=by
 unfold rd;omega
theorem NU(h1: -1125899906842624<=V)(h2:V<=57896044618658097711785492504343953926634992332820282019728793129856471662592):0<=rd V/\rd V<57896044618658097711785492504343953926634992332820282019728792003956564819968:=by
 unfold rd;omega
theorem PL(h1:0<=V)(h2:V<57896044618658097711785492504343953926634992332820282019728792003956564819968):rd V=V:=by
 unfold rd;omega
theorem NS(h1: -2037035976334486086268445688409378161051468393665936250636140449354381299763336706183397376<=V)(h2:V<=2037035976334486086268445688409378161051468393665936250636140449354381299763336706183397376):0<=rd (rd (rd V))/\rd (rd (rd V))<57896044618658097711785492504343953926634992332820282019728792003956564819968/\rd (rd (rd V)) % 57896044618658097711785492504343953926634992332820282019728792003956564819949=V % 57896044618658097711785492504343953926634992332820282019728792003956564819949:=by
 have a:=NT h1 h2;have b:=NU a.1 a.2;rw[PL b.1 b.2];exact⟨b.1,b.2,by rw[FC,FC]⟩
theorem Ob(V:Int):2*(V / 65536^16)+V / 65536^15 % 65536 / 32768=V / 57896044618658097711785492504343953926634992332820282019728792003956564819968:=by
 rw[show(65536:Int)^16=65536^15*65536 by decide,<-ck dc,show(57896044618658097711785492504343953926634992332820282019728792003956564819968:Int)=65536^15*32768 by decide,<-ck dc];generalize V / 65536^15=x;omega
theorem NA(V:Int):V % 65536^15+V / 65536^15 % 65536 % 32768*65536^15=V % 57896044618658097711785492504343953926634992332820282019728792003956564819968:=by
 rw[show(57896044618658097711785492504343953926634992332820282019728792003956564819968:Int)=65536^15*32768 by decide,KN V (65536^15) 32768 dc,show V / 65536^15 % 65536 % 32768=V / 65536^15 % 32768 by omega,eD]
def rF(V:Int)(j:Nat):Int:=if j=0 then V % 65536+19*(V / 57896044618658097711785492504343953926634992332820282019728792003956564819968) else if j=15 then V / 65536^15 % 65536 % 32768 else V / 65536^j % 65536
theorem Vr(V:Int):vi 65536 (rF V) 16=rd V:=by
 have e:vi 65536 (rF V) 15=V % 65536^15+19*(V / 57896044618658097711785492504343953926634992332820282019728792003956564819968):=by
  have h:=FL 65536 (fun j=>V / 65536^j % 65536) 0 15 (V % 65536+19*(V / 57896044618658097711785492504343953926634992332820282019728792003956564819968)) dc;rw[FJ dc] at h;rw[wR (g:=fun j=>if j=0 then V % 65536+19*(V / 57896044618658097711785492504343953926634992332820282019728792003956564819968) else V / 65536^j % 65536) fun j b=>by unfold rF;rw[if_neg (show¬j=15 by omega)],h,eK,dQ];omega
 have a:rF V 15=V / 65536^15 % 65536 % 32768:=by unfold rF;rw[if_neg dc,if_pos rfl]
 show vi 65536 (rF V) 15+rF V 15*65536^15=_;rw[e,a,rd,<-NA V];generalize V / 65536^15 % 65536 % 32768*65536^15=x;omega
open Bt
def num(f:Nat->Int):Array Vl:=Own.dk 16 fun j=>I J (f j)
theorem lx(h:w.heap[b]? =Z (Cl (num f) t (0,0)))(j:Nat)(a:j<16):w.cell? ⟨b,j,Y⟩=Z (I J (f j)):=Own.jI h j a
theorem oa(h:w.heap[b]? =Z (Cl (num f) t (0,0)))(j:Nat):w.frozen? ⟨b,j,Y⟩=false:=Own.nv h j
theorem lJ(h:∀j,j<16->f j=g j):num f=num g:=Own.mn fun j a=>by rw[h j a]
theorem nV(h:w.heap[b]? =Z (Cl (num f) t (0,0)))(i:Nat)(v:Int):(w.setCell ⟨b,i,Y⟩ (I J v)).heap[b]? =Z (Cl (num fun j=>if j=i then v else f j) t (0,0)):=by
 rw[Own.mX h i];congr 2;refine Own.mn fun j _=> ?_;by_cases e:j=i
 ·show _=bf .i64 (if j=i then v else f j)
  rw[if_pos e,if_pos e]
 ·show _=bf .i64 (if j=i then v else f j)
  rw[if_neg e,if_neg e]
theorem uL(f:Nat->Int):(num f).all (·.oneCell')=true:=Own.rb fun _ _=>rfl
theorem kP(f:Nat->Int):(num f).size=16:=Own.oU _ _
def dg(n:Int)(j:Nat):Int:=n / 65536^j % 65536
def nm(n:Int):Array Vl:=num (dg n)
def yg(l:List Int)(j:Nat):Int:=l.getD j 0
theorem RA(l:List Int)(h:l.length=16):(l.map (bf .i64)).toArray=num (yg l):=by
 refine Own.zN _ 16 (by rw[aS,h]) _ fun j a=> ?_;rw[aS] at a;rw[List.getElem_map,yg,List.getD_eq_getElem?_getD,List.getElem?_eq_getElem a];rfl
theorem uK(a0 a1 a2 a3 a4 a5 g h i a9 a b c d e f:Int): #[bf .i64 a0,bf .i64 a1,bf .i64 a2,bf .i64 a3,bf .i64 a4,bf .i64 a5,bf .i64 g,bf .i64 h,bf .i64 i,bf .i64 a9,bf .i64 a,bf .i64 b,bf .i64 c,bf .i64 d,bf .i64 e,bf .i64 f]=num (yg [a0,a1,a2,a3,a4,a5,g,h,i,a9,a,b,c,d,e,f]):=RA [a0,a1,a2,a3,a4,a5,g,h,i,a9,a,b,c,d,e,f] rfl
theorem Cj:num (fun _=>0)= #[I J 0,I J 0,I J 0,I J 0,I J 0,I J 0,I J 0,I J 0,I J 0,I J 0,I J 0,I J 0,I J 0,I J 0,I J 0,I J 0]:=by
 rw[uK];exact lJ dc
theorem UD(n:Int)(a:0<=n)(h1:n<65536)(j:Nat):dg n j=if j=0 then n else 0:=by
 unfold dg;by_cases e:j=0
 ·subst e
  rw[if_pos rfl,eK,dQ];omega
 ·rw[if_neg e]
  have h2:(65536:Int)<=65536^j:=by
   obtain⟨k,rfl⟩:∃k,j=k+1:=⟨j-1,oM⟩;have:=rN (show(0:Int)<65536 by decide) k;rw[fg];omega
  rw[Int.ediv_eq_zero_of_lt a oM];rfl
theorem mx(w:D){ops:Array Oper}{rest:List Oper}{a:Act}{Q:Exit->Act->D->Prop}(c:o.guard=Y)(d:o.op=Op.alloc 95)
  (b:wpList prog ops Q rest (a.put o.dst (X (Z ⟨w.heap.size,0,Y⟩))) (w.alloc (Cl (num fun _=>0) 95))):wpList prog ops Q (o::rest) a w:=
 Own.nJ w c 95 d _ (by rw[Cj];kernel_rfl) b
theorem pT{ops:Array Oper}{rest:List Oper}{Q:Exit->Act->D->Prop}(d:o.guard=Y)(x:Operand)(e:o.op= .load 95 x)(b:Nat)(f:Nat->Int)(g:a.eval x=X (Z ⟨b,0,Y⟩))(c:w.heap[b]? =Z (Cl (num f) 95 (0,0)))
  (h:wpList prog ops Q rest (a.put o.dst (H (num f))) w):wpList prog ops Q (o::rest) a w:=
 wpList_load_row d 95 x e b g 95 (num f) (0,0) _ c underlying95 rfl (by rw[kP];kernel_rfl) h
theorem mH{ops:Array Oper}{rest:List Oper}{Q:Exit->Act->D->Prop}(d:o.guard=Y)(x y:Operand)(e:o.op= .store 95 x y)(b:Nat)(f g:Nat->Int)(i:a.eval x=X (Z ⟨b,0,Y⟩))(j:a.eval y=H (num f))(c:w.heap[b]? =Z (Cl (num g) 95 (0,0)))
  (h:wpList prog ops Q rest (a.put o.dst undef) (w.setRow b (num f))):wpList prog ops Q (o::rest) a w:=
 wpList_store_row d 95 x y e b (num f) i j 95 (num g) c (by rw[kP];kernel_rfl) (by rw[kP,kP]) (uL f) h
theorem Me(n:Int)(a:0<=n)(h1:n<65536)(w:D):Rt 43 #[I J n] w (H (nm n)):=by
 have b:Hq (nm n=num fun j=>if j=0 then n else 0):=lJ fun j _=>UD n a h1 j;clear a h1;go_enter func43,ntmps43
 go_wp2_with fail
 rw[uK];refine Own.jM results43 rfl w.heap.size 95 (num (yg [n,0,0,0,0,0,0,0,0,0,0,0,0,0,0,0])) (0,0) _ rfl ((heap_alloc_old _ _ sP).trans (heap_alloc_new _ _)) underlying95 rfl (by rw[kP];kernel_rfl) ⟨?_,?_⟩
 ·rw[b.o,lJ]
  intro j c;rcases j with _|j
  ·rfl
  ·rw[if_neg oM]
   rcases j with _|_|_|_|_|_|_|_|_|_|_|_|_|_|_|j<;>first|rfl|omega
 ·exact((ai _ _).alloc lR _).alloc sP _
def pI:Int:=57896044618658097711785492504343953926634992332820282019728792003956564819949
theorem NM:nm pI=num fun j=>if j=15 then 32767 else if j=0 then 65517 else 65535:=lJ dc
theorem mS{B:Nat}{a:D}(h:O B a w)(b i:Nat)(c:B<=b)(v:Vl):O B a (w.setCell ⟨b,i,Y⟩ v):=h.setCell (p:=⟨b,i,Y⟩) c v
theorem uN(w:D):Rt 97 #[] w (H (nm pI)):=by
 go_enter func97,ntmps97
 go_wp2_with (refine mx _ rfl rfl ?_)
 obtain⟨g,b⟩:=eX w.heap.size;have p:Hq (((w.alloc (Cl (num fun _=>0) 95)).alloc (Cl (num fun _=>0) 95)).heap[g]? =Z (Cl (num fun _=>0) 95 (0,0))):=by
  rw[b];exact(heap_alloc_old _ _ sP).trans (heap_alloc_new _ _)
 have m:Hq (((w.alloc (Cl (num fun _=>0) 95)).alloc (Cl (num fun _=>0) 95)).heap[g+1]? =Z (Cl (num fun j=>if j<0 then 65535 else 0) 95 (0,0))):=by
  have:=heap_alloc_new (w.alloc (Cl (num fun _=>0) 95)) (Cl (num fun _=>0) 95);rw[World.size_alloc,<-b] at this;exact this
 have l:Hq (O g w ((w.alloc (Cl (num fun _=>0) 95)).alloc (Cl (num fun _=>0) 95))):=by
  rw[b];exact((ai _ _).alloc lR _).alloc sP _
 generalize (w.alloc (Cl (num fun _=>0) 95)).alloc (Cl (num fun _=>0) 95)=w0 at*;rw[<-b];have v:Hq (w.heap.size<=g):=Nat.le_of_eq b.symm;clear b;go_loopw [2] (fun i d=>∃k:Nat,k<=16/\i=I J (k:Int)/\d.heap[g]? =Z (Cl (num fun _=>0) 95 (0,0))/\d.heap[g+1]? =Z (Cl (num fun j=>if j<k then 65535 else 0) 95 (0,0))/\O g w d) (fun i _=>16-(intOf i).toNat)
 case atStart=>exact⟨0,oM,rfl,p.o,m.o,l.o⟩
 case round=>
  clear p m l;rename D=>B
  obtain⟨k,F,rfl,u,t,r⟩:=hrel;have n:Hq _:=u;have a:Hq _:=t;have f:Hq _:=r;clear u t r;by_cases A:k<16
  ·have s:=lx a.o k A
   have y:=oa a.o k;simp only[if_neg (Nat.lt_irrefl k)] at s;go_wp2_with fail
   refine⟨⟨k+1,oM,by rw[Int.natCast_add];rfl,?_,?_,?_⟩,?_⟩
   ·exact(aC _ _ _ g (by show g≠g+1;omega)).trans n.o
   ·rw[nV a.o k 65535,lJ]
    intro j _;by_cases e:j=k
    ·rw[if_pos e,if_pos oM]
    ·by_cases h:j<k
     ·rw[if_neg e,if_pos h,if_pos oM]
     ·rw[if_neg e,if_neg h,if_neg oM]
   ·exact mS f.o _ _ oM _
   ·show 16-((k:Int)+1).toNat<16-(k:Int).toNat
    omega
  ·obtain rfl:k=16:=by omega
   have c:Hq _:=nV a.o 0 65517;have x:Hq _:=nV c.o 15 32767;have q:Hq (((B.setCell ⟨g+1,0,Y⟩ (I J 65517)).setCell ⟨g+1,15,Y⟩ (I J 32767)).heap[g]? =Z (Cl (num fun _=>0) 95 (0,0))):=((aC _ _ _ g (by show g≠g+1;omega)).trans (aC _ _ _ g (by show g≠g+1;omega))).trans n.o;have s:=lx a.o 0 oM;have y:=oa a.o 0;have C:=lx c.o 15 oM;have E:=oa c.o 15;go_wp2_with (first|refine pT rfl _ rfl (g+1) _ rfl x.o ?_|refine mH rfl _ _ rfl g _ _ rfl rfl q.o ?_)
   refine Own.jM results97 rfl g 95 _ (0,0) _ rfl (setRow_heap _ _ _ _ _ _ q.o) underlying95 rfl (by rw[kP];kernel_rfl) ⟨?_,?_⟩
   ·rw[NM,lJ]
    intro j z;rw[if_pos z]
   ·exact((mS (mS f.o _ _ oM _) _ _ oM _).trans (Fw.hJ _ _ _)).mono v.o
