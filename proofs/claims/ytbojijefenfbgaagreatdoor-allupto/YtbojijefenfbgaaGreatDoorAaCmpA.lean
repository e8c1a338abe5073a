/- Walks of the orders: cmp.Compare, cmp.Or, byAdmission, byPass. maps.Keys over a map whose keys are structs of two numbers, and what slices.Collect makes of it. slices.Collect of an iterator over structs of two numbers. The library's sort of admissions and of entries: what lies in the row behind it. -/
import Derived.Test.YtbojijefenfbgaaGreatDoorAaOwnB
import Derived.RangeFuncGives
import Derived.RangeFuncNested
import Derived.RangeFuncBox
import Derived.RangeFuncSeq
import Derived.Sort.EveryDepth
import Derived.Shelf.AbstractIn
import Derived.Sort.MapsRangeIn
import Derived.OwnWalkIn
import Derived.TacticsInMore
import Derived.RegionIn
import Derived.LoopNIn
import Derived.LoopIn
open List renaming find?_eq_none->gJ,getElem?_eq_getElem->ae,mem_append->bV,take_of_length_le->aT,take_succ_cons->ak,take_zero->aE,drop_succ_cons->ax,drop_zero->aK,mem_map->aU,size_toArray->gK,length_cons->bE,length_nil->cH,push_toArray->gL,append_toArray->fV,nil_append->ir,cons_append->gU,length_append->ao,ext_getElem?->dw,getElem?_eq_none->bN,getElem?_take_of_lt->aO
open Nat renaming zero_le->aF,reduceAdd->gO,reduceSub->iR,le_refl->bA,zero_add->bC
open Go.RowKit.Below renaming heap_alloc->dx
open Go.World renaming size_alloc->cd,grownBy_alloc->js,cell?->lk,frozen?->kS
open Prod renaming fst->aj,ext->fC
open Array renaming replicate_succ->fJ,replicate_zero->fK,getElem?_eq_getElem->dA,getElem?_modify->cn,getElem?_append_left->bD
open Go.KeepsOthers renaming alloc->fL
open Go.Fence renaming list->dO
open Go.Sort renaming SWO->kT,flatK->bQ,putRow->fR,ahead->gw,putCells->ew
open Go.Proofs renaming ltOf->dK
open Option renaming some->Z,none->Y
open Go.Value renaming int->I,pointer->X,agg->H,bool->Bl,tuple->Tp
open Go.IntKind renaming i64->J
open Go.Obj renaming cells->Cl
open Go.Ending renaming returned->Re
open Go renaming World->D,Value->Vl
open Go.RowKit renaming Below->O
set_option maxHeartbeats 4000000
set_option maxRecDepth 100000
open Go Go.RowKit
variable{B b base kl k size:Nat}{T e t:TypeId}{W:D}{c:Int×Int}{cur:Array Vl}{left:Int×Int->Bool}{ss:List (Int×Int)}{xs:List Int}
namespace Go.Proofs.YtbojijefenfbgaaGreatDoor
open Tryz
namespace Gt
open Mp Bk Tk
def cmpI(x y:Int):Int:=if x<y then-1 else if y<x then 1 else 0
theorem Gn(x:Int)(w:D):Calls prog 267 #[I J x] w fun e w'=>e=Re (Bl false)/\w'=w:=by
 go_enter func267,ntmps267
 go_wp2_with fail
 exact bodyPost_ret (v:=Bl false) (by simp[results,results267,go_sem]) rfl ⟨rfl,rfl⟩
theorem zP(x y:Int)(w:D):Calls prog 222 #[I J x,I J y] w fun e w'=>e=Re (I J (cmpI x y))/\w'=w:=by
 have a:Hq _:=Gn;go_enter func222,ntmps222
 go_wp2_with (go_at_call 267;refine(a.o _ _).mono ?_;rintro _ w1 ⟨rfl,rfl⟩)
 ·exact bodyPost_ret (v:=I J (cmpI x y)) (by simp[results,results222,cmpI];omega) rfl ⟨rfl,rfl⟩
 ·exact bodyPost_ret (v:=I J (cmpI x y)) (by simp[results,results222,cmpI];omega) rfl ⟨rfl,rfl⟩
 ·exact bodyPost_ret (v:=I J (cmpI x y)) (by simp[results,results222,cmpI];omega) rfl ⟨rfl,rfl⟩
def qk(xs:List Int):Int:=(xs.find? fun x=>decide (x≠0)).getD 0
theorem NI{x:Int}(a:∀y∈xs.take k,y=0)(h:xs[k]? =Z x)(c:x≠0):qk xs=x:=by
 unfold qk;have e:xs=xs.take k++x::xs.drop (k+1):=by
  obtain⟨b,rfl⟩:=List.getElem?_eq_some_iff.1 h;conv=>lhs;rw[<-List.take_append_drop k xs,List.drop_eq_getElem_cons b]
 rw[e,List.find?_append,gJ.2 fun y d=>by simp[a y d]];simp[c]
theorem PA(h:∀y∈xs,y=0):qk xs=0:=by
 unfold qk;rw[gJ.2 fun y a=>by simp[h y a]];rfl
def yE(b n c k:Nat)(f:Nat->Vl):Act:={tmps:= #[.slice (Z ⟨b,0,Y⟩) n c,f 1,I J 0,I J 0,f 4,f 5,.slice (Z ⟨b,0,Y⟩) n c,I J (n:Int),I J (k:Int),f 9,f 10,f 11,f 12,f 13,f 14,f 15,f 16,f 17],defers:=[]}
theorem Iw(b c:Nat)(xs:List Int)(w:D)(s:xs.length<=1000)(q:∀(k:Nat)(x:Int),xs[k]? =Z x->w.cell? ⟨b,k,Y⟩=Z (I J x)):Calls prog 221 #[.slice (Z ⟨b,0,Y⟩) xs.length c] w fun e w'=>e=Re (I J (qk xs))/\w'=w:=by
 go_enter func221,ntmps221
 refine Ks.au ?_;refine Ks.loop (fun m a wr=>wr=w/\∃(k:Nat)(f:Nat->Vl),k<=xs.length/\m=xs.length-k/\(∀y∈xs.take k,y=0)/\a=yE b xs.length c k f) xs.length ⟨rfl,0,fun _=>undef,aF _,rfl,sP,rfl⟩ ?_;rintro m a wr ⟨rfl,k,f,r,rfl,n,rfl⟩;have fin:∀(l:Act)(i:Nat),k<i->i<=xs.length->(∀y∈xs.take i,y=0)->l=yE b xs.length c i (fun j=>l.tmps.getD j undef)->∃m,m<xs.length-k/\wr=wr/\∃(k:Nat)(f:Nat->Vl),k<=xs.length/\m=xs.length-k/\(∀y∈xs.take k,y=0)/\l=yE b xs.length c k f:=fun l i h1 h2 h3 p=>⟨xs.length-i,oM,rfl,i,_,h2,rfl,h3,p⟩;unfold yE;refine Ks.au ?_;refine wp_cond_split rfl ?_ ?_
 ·intro d
  have d:k<xs.length:=by have:=of_decide_eq_true d;omega
  refine wp_skip (km ?_);refine wp_seq (wp_block ?_);refine wp_seq (kX (Ks.idx kr _ _ _ rfl 3 1 underlying25 kr kr b xs.length c k rfl rfl d ?_));simp only[zD];refine Ks.cell rfl _ _ rfl underlying3 rfl b (k*1) (I J xs[k]) rfl (by rw[Nat.mul_one];exact q k _ (ae d)) ?_;simp only[zD];refine Ks.au ?_;refine wp_cond_split rfl ?_ ?_
  ·intro g
   have g:xs[k]≠0:=by simpa using g
   refine wp_seq (kX (kv (I J xs[k]) ?_));refine kv (I J xs[k]) ?_;refine kd ?_;rw[NI n (ae d) g];refine wp_ret ?_;repeat (refine kt ?_)
   refine Ks.mB ?_;repeat (refine kt ?_)
   refine Ks.mB ?_;repeat (refine kt ?_)
   refine bodyPost_ret (v:=I J xs[k]) kr rfl ⟨rfl,rfl⟩
  ·intro g
   have g:xs[k]=0:=by simpa using g
   refine wp_skip (Ks.mr (kX ?_));refine Ks.val rfl (I J ((k+1:Nat):Int)) (by
    simp[execOp,go_sem];rw[IntWalk.i64_in _ ⟨oM,oM⟩]) ?_
   simp only[zD];refine kv (I J ((k+1:Nat):Int)) ?_;refine kd ?_;refine fin _ (k+1) oM d ?_ rfl;intro y o;rw[List.take_succ_eq_append_getElem d] at o;rcases bV.1 o with h|h
   ·exact n y h
   ·obtain rfl:y=xs[k]:=by simpa using h
    exact g
 ·intro d
  obtain rfl:k=xs.length:=by have:=of_decide_eq_false d;omega
  refine wp_exit (Ks.oF ?_);refine km ?_;rw[PA (by rwa [aT lR] at n)];refine wp_seq (kX (kv (I J 0) ?_));refine kv (I J 0) ?_;refine kd (wp_ret ?_);repeat (refine kt ?_)
  refine bodyPost_ret (v:=I J 0) kr rfl ?_;exact⟨rfl,rfl⟩
def oO(x y:Int×Int):Int:=qk [cmpI x.1 y.1,cmpI x.2 y.2]
theorem FZ(a c y1 y2:Int)(W:D):Calls prog 161 #[H #[I J a,I J c],H #[I J y1,I J y2]] W fun e w'=>e=Re (I J (oO (a,c) (y1,y2)))/\Qd.GW W w':=by
 obtain⟨l,n⟩:=eX (cmpI a y1);obtain⟨m,p⟩:=eX (cmpI c y2);have w:Hq (∀W,Calls prog 222 #[I J a,I J y1] W fun e w'=>e=Re (I J l)/\Qd.GW W w'):=fun W=>by rw[n];exact(zP a y1 W).mono fun e w' h=>⟨h.1,by rw[h.2];exact Qd.GW.refl _⟩
 have y:Hq (∀W,Calls prog 222 #[I J c,I J y2] W fun e w'=>e=Re (I J m)/\Qd.GW W w'):=fun W=>by rw[p];exact(zP c y2 W).mono fun e w' h=>⟨h.1,by rw[h.2];exact Qd.GW.refl _⟩
 have A:Hq (∀(b:Nat)(W:D),W.cell? ⟨b,0,Y⟩=Z (I J l)->W.cell? ⟨b,1,Y⟩=Z (I J m)->Calls prog 221 #[.slice (Z ⟨b,0,Y⟩) 2 2] W fun e w'=>e=Re (I J (oO (a,c) (y1,y2)))/\w'=W):=by
  intro b W h1 h2;have:=Iw b 2 [l,m] W sP (fun k x d=>by
   match k,d with
   |0,d=>simp at d;subst d;exact h1
   |1,d=>simp at d;subst d;exact h2)
  unfold oO;rw[<-n,<-p];exact this
 clear n p;generalize oO (a,c) (y1,y2)=r at*;go_enter func161,ntmps161
 go_wp2_with fail
 obtain⟨w2,f⟩:∃w2,(W.alloc (Cl #[I J a,I J c] 154)).alloc (Cl #[I J y1,I J y2] 154)=w2:=⟨_,rfl⟩;have q:Hq (Qd.GW W w2):=by rw[<-f];exact((Qd.GW.refl W).alloc _).alloc _
 have i:Hq (w2.heap[W.heap.size]? =Z (Cl #[I J a,I J c] 154 (0,0))):=by
  rw[<-f];exact(dx _ _ _ sP).trans (heap_alloc_new _ _)
 have j:Hq (w2.heap[W.heap.size+1]? =Z (Cl #[I J y1,I J y2] 154 (0,0))):=by
  rw[<-f];have:=heap_alloc_new (W.alloc (Cl #[I J a,I J c] 154)) (Cl #[I J y1,I J y2] 154);rwa [cd] at this
 rw[f];clear f;have t:=(aL i.o);have u:=(aL j.o);generalize W.heap.size=g at*;generalize g+1=g1 at*;refine Qd.im 10 kr kr ?_;simp only[ak,aE,ax,aK];refine Qd.val kr (X (Z ⟨g,0,Y⟩)) (fun _ _=>kr) ?_;simp only[zD];refine Qd.cell kr _ _ rfl underlying3 rfl g 0 (I J a) rfl t (fy i.o 0 rfl) ?_;simp only[zD];refine Qd.val kr (X (Z ⟨g1,0,Y⟩)) (fun _ _=>kr) ?_;simp only[zD];refine Qd.cell kr _ _ rfl underlying3 rfl g1 0 (I J y1) rfl u (fy j.o 0 rfl) ?_;simp only[zD];refine Qd.call kr 222 #[I J a,I J y1] (I J l) (fun _=>kr) (fun w' _=>w.o w') ?_;simp only[zD];refine Qd.val kr (X (Z ⟨g,1,Y⟩)) (fun _ _=>kr) ?_;simp only[zD];refine Qd.cell kr _ _ rfl underlying3 rfl g 1 (I J c) rfl t (fy i.o 1 rfl) ?_;simp only[zD];refine Qd.val kr (X (Z ⟨g1,1,Y⟩)) (fun _ _=>kr) ?_;simp only[zD];refine Qd.cell kr _ _ rfl underlying3 rfl g1 1 (I J y2) rfl u (fy j.o 1 rfl) ?_;simp only[zD];refine Qd.call kr 222 #[I J c,I J y2] (I J m) (fun _=>kr) (fun w' _=>y.o w') ?_;simp only[zD];refine wpQuiet_nil ?_;intro w3 s;have z:Hq (Qd.GW W w3):=q.o.trans s;clear s q i j;go_wp2_with (go_at_call 221;refine(A.o _ _ (fy (heap_alloc_new _ _) 0 rfl) (fy (heap_alloc_new _ _) 1 rfl)).mono ?_;rintro _ w4 ⟨rfl,rfl⟩)
 exact bodyPost_ret (v:=I J r) kr rfl ⟨rfl,z.o.alloc _⟩
def eC(e:En):List Vl:=[I J e.1.1,I J e.1.2,I J e.2.1,I J e.2.2]
def qP(x y:En):Int:=qk [cmpI x.2.1 y.2.1,cmpI x.2.2 y.2.2,oO x.1 y.1]
theorem Ur(a c d f y1 y2 y3 y4:Int)(W:D):Calls prog 153 #[H #[I J a,I J c,I J d,I J f],H #[I J y1,I J y2,I J y3,I J y4]] W fun e w'=>e=Re (I J (qP ((a,c),(d,f)) ((y1,y2),(y3,y4))))/\Qd.GW W w':=by
 obtain⟨p,t⟩:=eX (cmpI d y3);obtain⟨q,u⟩:=eX (cmpI f y4);obtain⟨s,w⟩:=eX (oO (a,c) (y1,y2));have F:Hq (∀W,Calls prog 222 #[I J d,I J y3] W fun e w'=>e=Re (I J p)/\Qd.GW W w'):=fun W=>by rw[t];exact(zP d y3 W).mono fun e w' h=>⟨h.1,by rw[h.2];exact Qd.GW.refl _⟩
 have G:Hq (∀W,Calls prog 222 #[I J f,I J y4] W fun e w'=>e=Re (I J q)/\Qd.GW W w'):=fun W=>by rw[u];exact(zP f y4 W).mono fun e w' h=>⟨h.1,by rw[h.2];exact Qd.GW.refl _⟩
 have K:Hq (∀W,Calls prog 161 #[H #[I J a,I J c],H #[I J y1,I J y2]] W fun e w'=>e=Re (I J s)/\Qd.GW W w'):=fun W=>by rw[w];exact FZ a c y1 y2 W
 have M:Hq (∀(b:Nat)(W:D),W.cell? ⟨b,0,Y⟩=Z (I J p)->W.cell? ⟨b,1,Y⟩=Z (I J q)->W.cell? ⟨b,2,Y⟩=Z (I J s)->Calls prog 221 #[.slice (Z ⟨b,0,Y⟩) 3 3] W fun e w'=>e=Re (I J (qP ((a,c),(d,f)) ((y1,y2),(y3,y4))))/\w'=W):=by
  intro b W h1 h2 h3;have:=Iw b 3 [p,q,s] W sP (fun k x i=>by
   match k,i with
   |0,i=>simp at i;subst i;exact h1
   |1,i=>simp at i;subst i;exact h2
   |2,i=>simp at i;subst i;exact h3)
  unfold qP;rw[<-t,<-u,<-w];exact this
 clear t u w;generalize qP ((a,c),(d,f)) ((y1,y2),(y3,y4))=r at*;go_enter func153,ntmps153
 go_wp2_with fail
 obtain⟨w2,n⟩:∃w2,(W.alloc (Cl #[I J a,I J c,I J d,I J f] 245)).alloc (Cl #[I J y1,I J y2,I J y3,I J y4] 245)=w2:=⟨_,rfl⟩;have A:Hq (Qd.GW W w2):=by rw[<-n];exact((Qd.GW.refl W).alloc _).alloc _
 have l:Hq (w2.heap[W.heap.size]? =Z (Cl #[I J a,I J c,I J d,I J f] 245 (0,0))):=by
  rw[<-n];exact(dx _ _ _ sP).trans (heap_alloc_new _ _)
 have m:Hq (w2.heap[W.heap.size+1]? =Z (Cl #[I J y1,I J y2,I J y3,I J y4] 245 (0,0))):=by
  rw[<-n];have:=heap_alloc_new (W.alloc (Cl #[I J a,I J c,I J d,I J f] 245)) (Cl #[I J y1,I J y2,I J y3,I J y4] 245);rwa [cd] at this
 rw[n];clear n;have y:=(aL l.o);have z:=(aL m.o);generalize W.heap.size=g at*;generalize g+1=g1 at*;have C:w2.rangeAt g 0 [I J a,I J c]:=fun j v hv=>by
  match j,hv with
  |0,hv=>simp at hv;subst hv;exact fy l.o 0 rfl
  |1,hv=>simp at hv;subst hv;exact fy l.o 1 rfl
 have E:w2.rangeAt g1 0 [I J y1,I J y2]:=fun j v hv=>by
  match j,hv with
  |0,hv=>simp at hv;subst hv;exact fy m.o 0 rfl
  |1,hv=>simp at hv;subst hv;exact fy m.o 1 rfl
 refine Qd.im 19 kr kr ?_;simp only[ak,aE,ax,aK];refine Qd.val kr (X (Z ⟨g,2,Y⟩)) (fun _ _=>kr) ?_;simp only[zD];refine Qd.val kr (X (Z ⟨g,2,Y⟩)) (fun _ _=>kr) ?_;simp only[zD];refine Qd.cell kr _ _ rfl underlying3 rfl g 2 (I J d) rfl y (fy l.o 2 rfl) ?_;simp only[zD];refine Qd.val kr (X (Z ⟨g1,2,Y⟩)) (fun _ _=>kr) ?_;simp only[zD];refine Qd.val kr (X (Z ⟨g1,2,Y⟩)) (fun _ _=>kr) ?_;simp only[zD];refine Qd.cell kr _ _ rfl underlying3 rfl g1 2 (I J y3) rfl z (fy m.o 2 rfl) ?_;simp only[zD];refine Qd.call kr 222 #[I J d,I J y3] (I J p) (fun _=>kr) (fun w' _=>F.o w') ?_;simp only[zD];refine Qd.val kr (X (Z ⟨g,2,Y⟩)) (fun _ _=>kr) ?_;simp only[zD];refine Qd.val kr (X (Z ⟨g,3,Y⟩)) (fun _ _=>kr) ?_;simp only[zD];refine Qd.cell kr _ _ rfl underlying3 rfl g 3 (I J f) rfl y (fy l.o 3 rfl) ?_;simp only[zD];refine Qd.val kr (X (Z ⟨g1,2,Y⟩)) (fun _ _=>kr) ?_;simp only[zD];refine Qd.val kr (X (Z ⟨g1,3,Y⟩)) (fun _ _=>kr) ?_;simp only[zD];refine Qd.cell kr _ _ rfl underlying3 rfl g1 3 (I J y4) rfl z (fy m.o 3 rfl) ?_;simp only[zD];refine Qd.call kr 222 #[I J f,I J y4] (I J q) (fun _=>kr) (fun w' _=>G.o w') ?_;simp only[zD];refine Qd.val kr (X (Z ⟨g,0,Y⟩)) (fun _ _=>kr) ?_;simp only[zD];refine Qd.pj kr _ _ rfl g 0 rfl [I J a,I J c] y C underlying154 rfl kr ?_;simp only[zD];refine Qd.val kr (X (Z ⟨g1,0,Y⟩)) (fun _ _=>kr) ?_;simp only[zD];refine Qd.pj kr _ _ rfl g1 0 rfl [I J y1,I J y2] z E underlying154 rfl kr ?_;simp only[zD];refine Qd.call kr 161 #[H #[I J a,I J c],H #[I J y1,I J y2]] (I J s) (fun _=>kr) (fun w' _=>K.o w') ?_;simp only[zD];refine wpQuiet_nil ?_;intro w3 B;have L:Hq (Qd.GW W w3):=A.o.trans B;clear B A l m C E;go_wp2_with (go_at_call 221;refine(M.o _ _ (fy (heap_alloc_new _ _) 0 rfl) (fy (heap_alloc_new _ _) 1 rfl) (fy (heap_alloc_new _ _) 2 rfl)).mono ?_;rintro _ w4 ⟨rfl,rfl⟩)
 exact bodyPost_ret (v:=I J r) kr rfl ⟨rfl,L.o.alloc _⟩
end Gt
namespace Mp
section
variable {α β:Type} [DecidableEq α] {F:Fence} {n:Nat} {P:Program} (w:D) {ops:Array Oper} {rest:List Oper} {o:Oper} {a:Act} {Q:Exit->Act->D->Prop}
omit [DecidableEq α] in
theorem OT(j:o.guard=Y)(m:Operand)(t:TypeId)(d:o.op=Op.range t m){k:TypeId}{ke:α->Vl}{ve:β->Vl}(r:P.underlying t=Z (.map k e)){l:List (α×β)}(p:a.eval m= .map (Z b))(h:Is w b ke ve l)
  (f:∀w',iz w' b w.heap.size ke ve l (fun _=>true)->(∃o,w'=w.alloc o)->wpListIn F n P ops Q rest (a.put o.dst (X (Z ⟨w.heap.size,0,Y⟩))) w'):
  wpListIn F n P ops Q (o::rest) a w:=by
 refine wpListIn_plain j fun s g=> ?_;obtain⟨w',q,r1,r2⟩:=I7 (P:=P) r h;unfold Oper.wpIn;refine⟨by simp[Oper.about,d],?_⟩;rw[Oper.semAt_plain F _ _ (by rw[d];intro c i;cases i)];simp[execOp,d,p,q,Result.andThen];exact g _ _ (f w' r1 r2)
theorem Rl(t:o.guard=Y)(i:Operand)(d:o.op=Op.next i false){ke:α->Vl}{ve:β->Vl}(inj:∀a b,ke a=ke b->a=b){l:List (α×β)}{left:α->Bool}{r:Nat}(q:b≠r)(g:a.eval i=X (Z ⟨r,0,Y⟩))(h:iz w b r ke ve l left)
  (k:(∀p∈l,left p.1=false)->wpListIn F n P ops Q rest (a.put o.dst (Tp #[Bl false])) w)
  (m:∀c v w',(c,v)∈l->left c=true->iz w' b r ke ve l (fun x=>left x&&decide (x≠c))->w.grownBy w' (Z r)->w'.heap.size=w.heap.size->(Instr.entry (X (Z ⟨r,0,Y⟩))).run P w'= .ok (Tp #[ke c,ve v]) w'->
   wpListIn F n P ops Q rest (a.put o.dst (Tp #[Bl true,ke c,ve v])) w'):
  wpListIn F n P ops Q (o::rest) a w:=by
 refine wpListIn_plain t fun z f=> ?_;unfold Oper.wpIn;refine⟨by simp[Oper.about,d],?_⟩;rw[Oper.semAt_plain F _ _ (by rw[d];intro c s;cases s)];rcases JJ (P:=P) inj q h o.type with⟨j,e⟩|⟨c,v,y,u,w',e,r1,r2,r3,r4⟩
 ·simp[execOp,d,g,e,Result.andThen]
  exact f _ _ (k j)
 ·simp[execOp,d,g,e,Result.andThen]
  exact f _ _ (m c v w' y u r1 r2 r3 r4)
end
end Mp
namespace Ks
theorem Fj{F:Fence}{d:Nat}{P:Program}{Q:Exit->Act->D->Prop}{a:Act}{w:D}{c:Code}(b:Nat->Act->D->Prop)(n:Nat)(h:b n a w)(round:∀n a w,b n a w->c.wpIn F d P (Exit.then (fun g w'=>∃m,m<n/\b m g w') Q) a w):(Code.loop c).wpIn F d P Q a w:=by
 have k:∀a w,∃n:Nat,(∃n,b n a w)->b n a w/\∀m,b m a w->n<=m:=fun a w=>by
  by_cases h:∃n,b n a w
  ·obtain⟨n,h1,h2⟩:=least (fun n=>b n a w) h
   exact⟨n,fun _=>⟨h1,h2⟩⟩
  ·exact⟨0,fun o=>absurd o h⟩
 have r:∃f:Act->D->Nat,∀a w,(∃n,b n a w)->b (f a w) a w/\∀m,b m a w->f a w<=m:=⟨fun a w=>Classical.choose (k a w),fun a w=>Classical.choose_spec (k a w)⟩;obtain⟨f,l⟩:=r;refine wpIn_loop (fun a w=>∃n,b n a w) f ⟨n,h⟩ ?_;intro a w p;refine wpIn_mono (round _ _ _ (l a w p).1) ?_;intro e g w' j;cases e with
 |normal=>
  obtain⟨m,q,i⟩:=j;exact⟨⟨m,i⟩,Nat.lt_of_le_of_lt ((l g w' ⟨m,i⟩).2 m i) q⟩
 |_=>exact j
end Ks
namespace Mp
structure nP{β:Type}(lh:List ((Int×Int)×β))(left:Int×Int->Bool)(ss:List (Int×Int)):Prop where
 nodup:ss.Nodup
 sub:∀c∈ss,c∈lh.map aj
 left:∀c∈lh.map aj,left c=false↔c∈ss
theorem nP.start{β:Type}(lh:List ((Int×Int)×β)):nP lh (fun _=>true) []:=⟨List.nodup_nil,fun c a=>by simp at a,fun c _=>sP⟩
theorem nP.perm{β:Type}{lh:List ((Int×Int)×β)}(h:nP lh left ss)(d:(lh.map aj).Nodup)(b:∀p∈lh,left p.1=false):ss.Perm (lh.map aj):=by
 refine(List.perm_ext_iff_of_nodup h.nodup d).2 fun c=>⟨h.sub c,fun a=>(h.left c a).1 ?_⟩;obtain⟨p,e,rfl⟩:=aU.1 a;exact b p e
theorem nP.fresh{β:Type}{lh:List ((Int×Int)×β)}(h:nP lh left ss){v:β}(a:(c,v)∈lh)(b:left c=true):c∉ss:=fun d=>by
 have:=(h.left c (aU.2 ⟨_,a,rfl⟩)).2 d;rw[b] at this;cases this
theorem nP.step{β:Type}{lh:List ((Int×Int)×β)}(h:nP lh left ss){v:β}(f:(c,v)∈lh)(j:left c=true):nP lh (fun x=>left x&&decide (x≠c)) (ss++[c]):=by
 refine⟨?_,?_,?_⟩
 ·rw[List.nodup_append]
  refine⟨h.nodup,sP,fun a g b i=> ?_⟩;obtain rfl:b=c:=by simpa using i
  rintro rfl;exact h.fresh f j g
 ·intro d hd
  rcases bV.1 hd with hd|hd
  ·exact h.sub d hd
  ·obtain rfl:d=c:=by simpa using hd
   exact aU.2 ⟨_,f,rfl⟩
 ·intro d hd
  have:=h.left d hd;by_cases e:d=c
  ·simp[e]
  ·simp[e,this]
theorem nP.len{β:Type}{lh:List ((Int×Int)×β)}(h:nP lh left ss){v:β}(a:(c,v)∈lh)(b:left c=true):ss.length<lh.length:=by
 have h1:=(h.step a b).nodup.length_le_of_subset (l₂:=lh.map aj) fun x d=>(h.step a b).sub x d;simp at h1;omega
end Mp
namespace Gt
open Mp Bk
theorem O0(F:Fence)(n:Nat)(hF:F.fn 232)(b7:F.round=Y)(hn:1<=n)(l i b:Nat)(lh:List ((Int×Int)×Unit))(g y:List (Int×Int)->D->Prop)
  (S:∀pre x W,g pre W->pre.length<lh.length->YieldAt F (n-1) prog l #[two x] W fun e W'=>(e=Re (Bl true)/\g (pre++[x]) W'/\KeepsWalks W W')\/(e=Re (Bl false)/\y (pre++[x]) W'))
  (W:D) (q:AbidesFrom W.heap.size g) (hm:W.cell? ⟨i,0,Y⟩=Z (.map (Z b))) (t:Is W b two unit lh) (N:g [] W):
  CallsIn F n prog 232 #[.func (.yield l) #[] #[],X (Z ⟨i,0,Y⟩)] W fun e W'=>(∃v,e=Re v)/\((∃ss:List (Int×Int),ss.Perm (lh.map aj)/\g ss W')\/∃pre,True/\y pre W'):=by
 refine callsIn_of_wp func232 rfl hF ?_ b7;simp only[ntmps232,gK,bE,cH,gO,iR,fJ,fK,gL,fV,ir,gU];gi_wp2_with (first
  |(gi_at_range;refine OT _ rfl _ _ rfl qG rfl t ?_;intro w0 L a6)
  |gi_in)
 have U:b≠W.heap.size:=Nat.ne_of_lt t.lt;have a7:=t.keys;obtain⟨w,rfl⟩:=a6;have z:g [] (W.alloc w):=q [] W _ none N (js W w Y) (fun r e=>by cases e);generalize W.alloc w=w0 at L z⊢;refine Ks.Fj (fun m a wr=>∃(left:Int×Int->Bool)(ss:List (Int×Int))(f:Nat->Vl),iz wr b W.heap.size two unit lh left/\nP lh left ss/\g ss wr/\m=lh.length-ss.length/\a={tmps:= #[.func (.yield l) #[] #[],X (Z ⟨i,0,Y⟩),f 2,f 3,.map (Z b),X (Z ⟨W.heap.size,0,Y⟩),f 6,f 7,f 8,f 9,f 10,f 11,f 12,f 13],defers:=[]}) lh.length ⟨_,[],fun _=>undef,L,nP.start lh,z,rfl,rfl⟩ ?_;rintro m a wr ⟨left,ss,f,K,k,A,rfl,rfl⟩;gi_wp2_with (first
  |(gi_at_next;refine Rl _ rfl _ rfl xj U rfl K ?_ ?_)
  |gi_in)
 ·intro a8
  gi_wp2
  go_end0
  exact⟨⟨_,rfl⟩,oL ⟨ss,k.perm a7 (fun p hp=>a8 p.1.1 p.1.2 p.2 hp),A⟩⟩
 ·intro c d v w2 B G h C b8 V
  obtain⟨o1,b1,b2⟩:∃o:Obj,wr.heap[W.heap.size]? =Z o/\o.isWalk=true:=by
   obtain⟨es,clock,M,seen,c0,_,u,_⟩:=K;exact⟨_,u,rfl⟩
  have P:g ss w2:=q ss wr w2 (Z W.heap.size) A C (fun r e=>by cases e;exact⟨bA _,o1,b1,b2⟩);have Q:g ss (w2.alloc (Cl #[I J c,I J d] 154)):=q ss w2 _ none P (js w2 _ Y) (fun r e=>by cases e);have b0:=k.len B G;have O:=k.step B G;replace h:iz w2 b W.heap.size two unit lh (fun x=>left x&&decide (x≠(c,d))):=by simpa using h
  have b3:iz (w2.alloc (Cl #[I J c,I J d] 154)) b W.heap.size two unit lh (fun x=>left x&&decide (x≠(c,d))):=h.congr (dx _ _ _ h.is.lt) (dx _ _ _ (iz.lt h));obtain⟨fn,tmps,c4,c6,hy,R⟩:=S ss (c,d) _ Q b0;clear b8 C;unfold two at V hy;unfold two;gi_wp2
  refine R.mono ?_;rintro e W3 (⟨rfl,s,E⟩|⟨rfl,s⟩)
  ·gi_wp2
   have b6:iz W3 b W.heap.size two unit lh (fun x=>left x&&decide (x≠(c,d))):=by
    obtain⟨es,clock,M,seen,c0,T,u,rest⟩:=b3;exact⟨es,clock,M,seen,c0,E.same b _ T rfl,E.same _ _ u rfl,rest⟩
   refine⟨lh.length-(ss++[(c,d)]).length,by simp;omega,_,ss++[(c,d)],fun j=> #[undef,undef,f 2,X (Z ⟨w2.heap.size,0,Y⟩),undef,undef,Tp #[Bl true,H #[I J c,I J d],unit v],Bl true,Tp #[H #[I J c,I J d],unit v],H #[I J c,I J d],.func (.yield l) #[] #[],H #[I J c,I J d],Bl true,Bl false].getD j undef,b6,O,s,rfl,rfl⟩
  ·gi_wp2
   refine bodyPost_ret (v:=Tp #[]) kr rfl ?_;exact⟨⟨_,rfl⟩,oR ⟨_,trivial,s⟩⟩
theorem XQ(F:Fence)(n:Nat)(hF:F.fn 232)(q:F.round=Y)(p:1<=n)(a b:Nat)(lh:List ((Int×Int)×Unit))(w:D)(c:w.cell? ⟨a,0,Y⟩=Z (.map (Z b)))(f:Is w b two unit lh):
  SeqStopsK F n prog 232 #[X (Z ⟨a,0,Y⟩)] (fun x=> #[two x]) KeepsWalks (fun ss=>ss.Perm (lh.map aj)) (fun _=>True) lh.length w:=fun l g h W d k _ m i=>by
 have j:a<w.heap.size:=by
  simp only[lk] at c;cases e:w.heap[a]? with
  |none=>simp[e] at c
  |some o=>exact(aL e)
 exact O0 F n hF q p l a b lh g h m W k (by rw[d.cell (by exact j)];exact c) (f.congr (d.block b f.lt)) i
end Gt
attribute [local go_sem] Oper.semAt_some
namespace Gt
open Mp Bk
def kC(k:Int×Int):List Vl:=[I J k.1,I J k.2]
theorem wD(k:Int×Int):(kC k).length=2:=rfl
theorem Qr:(prog.info? 154).map (fun i=>(i.zero,i.size,i.bytes))=Z (Z (H #[I J 0,I J 0]),2,16):=kr
def Dy(w:D)(pre:List (Int×Int))(W:D):Prop:=(∃v,W.heap[w.heap.size]? =Z (Cl #[v] 167 (0,0))/\W.ownsRow w.heap.size 154 2 v pre.length (pre.flatMap kC))/\O w.heap.size w W
theorem I1{W':D}{row:Option Nat}{v:Vl}{xs:List Vl}(h:W.ownsRow base e size v k xs)(d:W.grownBy W' row)(i:∀r,row=Z r->∃o:Obj,W.heap[r]? =Z o/\o.isCells=false):W'.ownsRow base e size v k xs:=by
 refine h.kept d ?_;rcases h.2 with⟨rfl,_⟩|⟨g,cap,cur,rfl,_,f,_⟩
 ·exact .inl rfl
 ·refine .inr fun b=> ?_
  obtain⟨o,a,c⟩:=i g b.symm;rw[f] at a;cases a;cases c
theorem Qx(w:D)(f:w.heap.size<=B):OwnFrom B (Dy w):=by
 rintro pre W W' row ⟨⟨v,hv,g⟩,b⟩ a c;have d:∀r,row=Z r->∃o:Obj,W.heap[r]? =Z o/\o.isCells=false:=fun r e=>(c r e).2;exact⟨⟨v,(grownBy_keeps_cells a d hv rfl).trans hv,I1 g a d⟩,b.grown a b.size fun k e=>Nat.le_trans f (c k e).1⟩
def Dz(w:D)(sv:Vl)(x:Int×Int)(a:Act)(W:D):Prop:=∃Bx,w.heap.size<Bx/\W.heap[Bx]? =Z (Cl #[I J x.1,I J x.2] 154 (0,0))/\
 a={tmps:= #[.slice none 0 0,sv,X (Z ⟨w.heap.size,0,Y⟩),undef,.slice none 0 0,X (Z ⟨Bx,0,Y⟩),sv,two x,undef,undef,undef,undef,undef],defers:=[]}
theorem Qy(w:D)(sv:Vl)(x:Int×Int)(a:Act)(B:Nat):OwnFrom B (fun(_:Unit) W=>Dz w sv x a W):=by
 rintro _ W W' row ⟨Bx,h1,h2,h3⟩ b c;exact⟨Bx,h1,(grownBy_keeps_cells b (fun r e=>(c r e).2) h2 rfl).trans h2,h3⟩
theorem Cv(w:D)(cs:Array Vl)(t:TypeId):(w.alloc (Cl cs t)).heap[w.heap.size]? =Z (Cl cs t (0,0)):=heap_alloc_new _ _
theorem CU{v:Vl}(h:W.heap[B]? =Z (Cl #[v] t (0,0))):W.cell? ⟨B,0,Y⟩=Z v/\W.frozen? ⟨B,0,Y⟩=false:=by
 constructor<;>simp[lk,kS,h]
theorem Ya{v:Vl}(v':Vl)(h:W.heap[B]? =Z (Cl #[v] t (0,0))):(W.setCell ⟨B,0,Y⟩ v').heap[B]? =Z (Cl #[v'] t (0,0)):=by
 obtain⟨b,a⟩:=Array.getElem?_eq_some_iff.1 h;show(W.heap.modify B _)[B]? =_;rw[dA (by rw[Array.size_modify];exact b),Array.getElem_modify_self,a];rfl
theorem cell_two_new(w:D)(x y:Vl)(t:TypeId):∀j u,[x,y][j]? =Z u->(w.alloc (Cl #[x,y] t)).cell? ((⟨w.heap.size,0,Y⟩:Addr).add j)=Z u:=by
 intro j u a;rw[Addr.add_mid,bC];exact fy (Cv w #[x,y] t) j (by simpa using a)
theorem C3{w:D}{v:Vl}{n:Nat}{xs:List Vl}(h:w.ownsRow base e size v (n+1) xs):∃g cap cur,v= .slice (Z ⟨g,0,Y⟩) (n+1) cap/\base<=g/\w.heap[g]? =Z (Cl cur e (0,0))/\n+1<=cap/\cap<=maxLen/\cur.size=cap*size/\cur.toList.take ((n+1)*size)=xs:=by
 rcases h.2 with⟨_,b⟩|a
 ·exact absurd b oM
 ·exact a
theorem YA (F : Fence) (n : Nat) (hA : F.fn 269) (T : F.round = Y) (hn : 2 <= n) (g : Nat) (lb : Array Vl) (a6 : F.fn g) (eg : ∀ args w, (callFunc g args).run prog w = .ok (.enter g args) w)
    (S Sp:List (Int×Int)->Prop) (N:Nat) (hN:N<=1000000000) (w:D) (a7:SeqStopsK F (n-1) prog g lb (fun x=> #[two x]) KeepsWalks S Sp N w):
    CallsIn F n prog 269 #[.slice none 0 0,.func (.func g) #[] lb] w fun e w'=>∃(v:Vl)(ss:List (Int×Int)),e=Re v/\S ss/\w'.ownsRow w.heap.size 154 2 v ss.length (ss.flatMap kC)/\O w.heap.size w w':=by
  obtain⟨i0,hi,b1,b2,b3⟩:=info_parts Qr;refine callsIn_of_wp_marks func269 rfl hA ?_ T;simp only[ntmps269,gK,bE,cH,gO,iR,fJ,fK,gL,fV,ir,gU];gi_wp2
  obtain⟨W0,m⟩:∃W0,w.alloc (Cl #[.slice none 0 0] 167)=W0:=⟨_,rfl⟩;have e4:W0.heap.size=w.heap.size+1:=by rw[<-m];simp
  have a8:W0.heap[w.heap.size]? =Z (Cl #[.slice none 0 0] 167 (0,0)):=by rw[<-m];exact Cv _ _ _
  have E:O w.heap.size w W0:=by rw[<-m];exact(Below.refl _ w).alloc lR _
  rw[m];refine wpIn_rangeFunc_ownH T oM (gf:=g) (lb:=lb) rfl a6 eg a7 walksK_t walksK_b E (fun _=>rfl) (Dy w) (fun _ _ _=>False) (Qx w oM) (fun _ _ _ _ _ h _ _=>h) ⟨⟨_,a8,sP,oL ⟨rfl,rfl⟩⟩,E⟩ (Dz w (.func (.func g) #[] lb)) (fun x B=>Qy w _ x B _) ?assign ?body ?done ?stop
  case assign=>
    rintro l pre ⟨t,u⟩ W K hi i;have c6:=hi.2.size;obtain⟨⟨v,hv,b⟩,a⟩:=hi;have s:=(aL hv);have A:=i {tmps:= #[.slice none 0 0,.func (.func g) #[] lb,X (Z ⟨w.heap.size,0,Y⟩),undef,.slice none 0 0,X (Z ⟨W.heap.size,0,Y⟩),.func (.func g) #[] lb,two (t,u),undef,undef,undef,undef,undef],defers:=[]} (W.alloc (Cl #[I J t,I J u] 154)) ((fL _ _).from _) (fL _ _).walks ⟨⟨v,(dx _ _ _ s).trans hv,b.alloc _⟩,a.alloc a.size _⟩ ⟨W.heap.size,s,Cv _ _ _,rfl⟩;unfold two at A⊢;gi_wp2
    exact A
  case body=>
    rintro l pre ⟨t,u⟩ B W hl ⟨r,hr⟩ ⟨⟨v,hv,b⟩,a⟩ ⟨Bx,b7,U,rfl⟩ c7;obtain⟨hc,hf⟩:=CU hv;have e5:=fy U 0 rfl;have e6:=fy U 1 rfl;unfold two;have s:=(aL hv);have b0:v.ownBlock≠Z w.heap.size:=fun e=>by
      rcases b.2 with⟨rfl,_⟩|⟨f,cap,cur,rfl,_,p,_⟩
      · cases e
      · injection e with e
        have d:f=w.heap.size:=e;rw[d,hv] at p;cases p
    gi_wp2_with (first
      | (gi_at_builtin; refine wpListIn_append_own _ rfl _ _ 167 rfl w.heap.size 154 i0 (H #[I J 0, I J 0]) 2 16 underlying167 hi b1 b2 b3 rfl dc v pre.length (pre.flatMap kC) rfl (b.alloc _) ⟨W.heap.size, 0, Y⟩ 1 1 [I J t, I J u] rfl rfl (cell_two_new _ _ _ _) (by simp [Value.oneCell']) (by unfold maxLen; omega) oM (by have := a.size; simp; omega) ?_; intro v' w3 R y c8
         have z:w3.heap[w.heap.size]? =Z (Cl #[v] 167 (0,0)):=(y.block w.heap.size (by simp;omega) (fun e=>b0 e.symm)).trans ((dx _ _ _ s).trans hv);obtain⟨c0,c4⟩:=CU z;obtain⟨f,C,b6,rfl,b8,M,c9,e1,e2,e3⟩:=C3 R;go_frame)
      |(rw[Oper.semAt_eq _ _ _ (fun c h=>by cases h)];go_simp;try go_bits))
    have P:KeepsOthers W (w3.setCell ⟨w.heap.size,0,Y⟩ (.slice (Z ⟨f,0,Y⟩) (pre.length+1) C)):=((fL _ _).trans (KeepsOthers.of_grownBy y fun j o q Q=>(by
      rcases (b.alloc _).2 with⟨rfl,_⟩|⟨g2,cap,cur,rfl,_,p,_⟩
      · cases q
      · injection q with q
        have d:g2=j:=q;rw[<-d,p] at Q;cases Q;rfl))).trans (KeepsOthers.setCell _ _ _)
    have L:=grownBy_setCell' w3 w.heap.size (.slice (Z ⟨f,0,Y⟩) (pre.length+1) C);have G:O w.heap.size w w3:=(a.alloc a.size _).grown y (by have:=a.size;simp;omega) (fun k e=>(b.lt k e).1);refine⟨P.from _,P.walks,⟨⟨_,Ya _ z,?_⟩,G.grown L G.size fun k e=>by cases e;exact bA _⟩⟩;have:=R.kept L (oR fun e=>by
      have d:f=w.heap.size:=Option.some.inj e;rw[d,z] at M;cases M)
    rw[ao,List.flatMap_append];simpa [kC] using this
  case done=>
    intro V xs W hD hS hI i;obtain⟨⟨v,hv,b⟩,a⟩:=hI;obtain⟨hc,hf⟩:=CU hv;gi_wp2
    refine⟨sP,.inl ⟨_,_,rfl,run_takeDeferred i,?_⟩⟩;exact⟨_,results_tmp rfl _ _ _,v,xs,rfl,hS,I1 b (grownBy_putObj' _ _ _) (fun r e=>by cases e;exact⟨_,i,rfl⟩),a.grown (grownBy_putObj' _ _ _) a.size fun k e=>by cases e;omega⟩
  case stop=>
    intro V c pre W _ _ h;exact h.elim
theorem Kt(F:Fence)(n:Nat)(d:F.fn 230)(c:F.fn 269)(a:F.round=Y)(o:3<=n)(g:Nat)(lb:Array Vl)(f:F.fn g)(b:∀args w,(callFunc g args).run prog w= .ok (.enter g args) w)
  (S Sp:List (Int×Int)->Prop) (N:Nat) (h:N<=1000000000) (w:D) (l:SeqStopsK F (n-1-1) prog g lb (fun x=> #[two x]) KeepsWalks S Sp N w):
  CallsIn F n prog 230 #[.func (.func g) #[] lb] w fun e w'=>∃(v:Vl)(ss:List (Int×Int)),e=Re v/\S ss/\w'.ownsRow w.heap.size 154 2 v ss.length (ss.flatMap kC)/\O w.heap.size w w':=by
 have h1:1<=n:=oM
 have m:∀args w,(callFunc 269 args).run prog w= .ok (.enter 269 args) w:=enters_of func269 kr rfl;refine callsIn_of_wp func230 rfl d ?_ a;simp only[ntmps230,gK,bE,cH,gO,iR,fJ,fK,gL,fV,ir,gU];gi_wp2_with (gi_at_fn 269;refine(YA F (n-1) c a oM g lb f b S Sp N h _ l).mono ?_;rintro e w' ⟨v,ss,rfl,i,k,j⟩)
 go_ret
 exact⟨v,ss,rfl,i,k,j⟩
theorem SE(a b:Nat)(lh:List ((Int×Int)×Unit))(h:lh.length<=1000000000)(w:D)(i:w.cell? ⟨a,0,Y⟩=Z (.map (Z b)))(g:Is w b two unit lh):
  Calls prog 230 #[.func (.func 232) #[] #[X (Z ⟨a,0,Y⟩)]] w fun e w'=>∃v,e=Re v/\(∃ss:List (Int×Int),ss.Perm (lh.map aj)/\w'.ownsRow w.heap.size 154 2 v ss.length (ss.flatMap kC))/\O w.heap.size w w':=by
 refine Calls.mono (calls_of_every_depth (L:=[230,269,232]) (n:=3) fun c=>Kt (dO [230,269,232] (Z c)) 3 ?_ ?_ rfl lR 232 #[X (Z ⟨a,0,Y⟩)] ?_ ?_ _ _ lh.length h w (XQ _ _ ?_ rfl oM a b lh w i g)) ?_
 ·simp[dO]
 ·simp[dO]
 ·simp[dO]
 ·exact enters_of func232 kr rfl
 ·simp[dO]
 ·rintro e w' ⟨v,ss,rfl,d,j,f⟩
  exact⟨v,rfl,⟨ss,d,j⟩,f⟩
end Gt
namespace Gt
open Mp Bk Tk
theorem yU(x y:Int):cmpI x y<0↔x<y:=by
 unfold cmpI;split
 ·simp[*]
 ·split<;>simp<;>omega
theorem sM(x y:Int):cmpI x y=0↔x=y:=by
 unfold cmpI;split
 ·simp;omega
 ·split<;>simp<;>omega
theorem tM(x:Int)(r:List Int):qk (x::r)=if x=0 then qk r else x:=by
 unfold qk;rw[List.find?_cons];by_cases h:x=0<;>simp[h]
theorem Ca:qk []=0:=rfl
theorem Jn(x y:Int×Int):oO x y<0↔Lt2 x y:=by
 unfold oO Lt2;rw[tM,tM,Ca];have h1:=yU x.1 y.1;have h2:=sM x.1 y.1;have h3:=yU x.2 y.2;by_cases e:cmpI x.1 y.1=0
 ·rw[if_pos e]
  have:=h2.1 e;split
  ·rename_i a
   have:=(sM x.2 y.2).1 a;omega
  ·rw[h3];omega
 ·rw[if_neg e,h1]
  have:¬x.1=y.1:=fun h=>e (h2.2 h);omega
theorem SC(x y:Int×Int):oO x y=0↔x=y:=by
 unfold oO;rw[tM,tM,Ca];have h2:=sM x.1 y.1;have h3:=sM x.2 y.2;constructor
 ·intro h
  by_cases e:cmpI x.1 y.1=0
  ·rw[if_pos e] at h
   by_cases a:cmpI x.2 y.2=0
   ·exact fC (h2.1 e) (h3.1 a)
   ·rw[if_neg a] at h;exact absurd h a
  ·rw[if_neg e] at h;exact absurd h e
 ·rintro rfl
  simp[(sM x.1 x.1).2 rfl,(sM x.2 x.2).2 rfl]
theorem Uy(x y:En):qP x y<0↔LtE x y:=by
 unfold qP LtE;rw[tM,tM,tM,Ca];have h1:=yU x.2.1 y.2.1;have h2:=sM x.2.1 y.2.1;have h3:=yU x.2.2 y.2.2;have g:=sM x.2.2 y.2.2;have j:=Jn x.1 y.1;have k:=SC x.1 y.1;by_cases e:cmpI x.2.1 y.2.1=0
 ·rw[if_pos e]
  have a:=h2.1 e;by_cases d:cmpI x.2.2 y.2.2=0
  ·rw[if_pos d]
   have b:=g.1 d;have c:x.2=y.2:=fC a b;have i:¬Lt2 x.2 y.2:=by rw[c];exact Lt2.irrefl
   by_cases f:oO x.1 y.1=0
   ·rw[if_pos f]
    have:¬Lt2 x.1 y.1:=by rw[k.1 f];exact Lt2.irrefl
    simp[i,this]
   ·rw[if_neg f,j]
    constructor
    ·exact fun h=>oR ⟨c,h⟩
    ·rintro(h|h)
     ·exact absurd h i
     ·exact h.2
  ·rw[if_neg d,h3]
   have b:¬x.2.2=y.2.2:=fun h=>d (g.2 h);have c:¬x.2=y.2:=fun h=>b (by rw[h]);simp only[c,false_and,or_false];unfold Lt2;omega
 ·rw[if_neg e,h1]
  have b:¬x.2.1=y.2.1:=fun h=>e (h2.2 h);have c:¬x.2=y.2:=fun h=>b (by rw[h]);simp only[c,false_and,or_false];unfold Lt2;omega
theorem Lt2.total{x y:Int×Int}(h:¬Lt2 x y):x=y\/Lt2 y x:=by
 by_cases e:x=y
 ·exact oL e
 ·exact oR (Lt2.other e h)
theorem LtE.total{x y:En}(h:¬LtE x y):x=y\/LtE y x:=by
 unfold LtE at*;rcases Lt2.total (fun h1=>h (oL h1):¬Lt2 x.2 y.2) with e|h1
 ·rcases Lt2.total (fun h1=>h (oR ⟨e,h1⟩):¬Lt2 x.1 y.1) with a|h1
  ·exact oL (fC a e)
  ·exact oR (oR ⟨e.symm,h1⟩)
 ·exact oR (oL h1)
theorem FF{α:Type}{R:α->α->Prop}{lt:α->α->Bool}(a:∀x y,lt x y=true↔R x y)(d:∀x,¬R x x)(c:∀x y z,R x y->R y z->R x z)(e:∀x y,¬R x y->x=y\/R y x):kT lt where
 irrefl x:=by
  cases h:lt x x
  ·rfl
  ·exact absurd ((a x x).1 h) (d x)
 trans x y z h1 h2:=(a x z).2 (c x y z ((a x y).1 h1) ((a y z).1 h2))
 ntrans x y z h1 h2:=by
  cases h:lt x z
  ·rfl
  ·have h3:=(a x z).1 h
   have n1:¬R x y:=fun b=>by rw[(a x y).2 b] at h1;cases h1
   have n2:¬R y z:=fun b=>by rw[(a y z).2 b] at h2;cases h2
   rcases e x y n1 with rfl|f
   ·exact absurd h3 n2
   ·rcases e y z n2 with rfl|g
    ·exact absurd h3 n1
    ·exact absurd (c _ _ _ h3 (c _ _ _ g f)) (d x)
theorem Fk(x y:Int×Int):dK oO x y=true↔Lt2 x y:=by
 unfold dK;rw[decide_eq_true_eq];exact Jn x y
theorem Fp(x y:En):dK qP x y=true↔LtE x y:=by
 unfold dK;rw[decide_eq_true_eq];exact Uy x y
theorem Wx:kT (dK oO):=FF Fk (fun _=>Lt2.irrefl) (fun _ _ _ h k=>h.trans k) fun _ _ h=>Lt2.total h
theorem Wy:kT (dK qP):=FF Fp (fun _=>LtE.irrefl) (fun _ _ _ h k=>h.trans k) fun _ _ h=>LtE.total h
theorem KP{α:Type}[Inhabited α](enc:α->List Vl)(k:Nat)(b:0<k)(a:∀x,(enc x).length=k)(d:Array α):(bQ enc k d).toList=d.toList.flatMap enc:=by
 have g:(d.toList.flatMap enc).length=d.size*k:=by
  have:∀l:List α,(l.flatMap enc).length=l.length*k:=by
   intro l;induction l with
   |nil=>simp
   |cons x r ih=>rw[List.flatMap_cons,ao,ih,a,bE,Nat.add_mul];omega
  rw[this];simp
 apply dw;intro t;by_cases h:t<d.size*k
 ·have c:t / k<d.size:=by rw[Nat.div_lt_iff_lt_mul b];exact h
  have e:t % k<k:=Nat.mod_lt _ b;have h1:=Sort.get_flatK enc k d t h;have j:d.toList[t / k]? =Z d[t / k]! :=by
   rw[getElem!_pos d (t / k) c];simp[c]
  have h2:=flat_get enc k a d.toList (t / k) (t % k) _ j e;rw[show t / k*k+t % k=t by rw[Nat.mul_comm];exact Nat.div_add_mod t k] at h2;rw[h2];have i:t<(bQ enc k d).size:=by simpa using h
  have h3:(bQ enc k d)[t]? =Z (bQ enc k d)[t]! :=by rw[getElem!_pos _ t i];simp
  have f:(bQ enc k d).toList[t]? =(bQ enc k d)[t]? :=by simp
  rw[f,h3,h1,getElem!_pos _ _ (by rw[a];exact e)];simp
 ·rw[bN (by simp;omega),bN (by rw[g];omega)]
theorem IJ{α:Type}[Inhabited α](enc:α->List Vl)(k:Nat)(f:0<k)(e:∀x,(enc x).length=k){w:D}(b:w.heap[kl]? =Z (Cl cur T (0,0)))(d:Array α)(c:cur.toList.take (d.size*k)=d.toList.flatMap enc):Sort.HoldsK enc k w kl 0 d:=by
 intro j a;have a:j<d.size*k:=by simpa using a
 rw[<-KP enc k f e d] at c;have h1:(bQ enc k d).toList[j]? =Z (bQ enc k d)[j]! :=by
  have:j<(bQ enc k d).size:=by simpa using a
  rw[getElem!_pos _ j this];simp
 rw[<-c,aO a] at h1;rw[bC];constructor
 ·exact fy b j (by simpa using h1)
 ·simp[kS,b]
theorem Ka{α:Type}[Inhabited α](enc:α->List Vl)(k:Nat)(h:0<k)(g:∀x,(enc x).length=k){w:D}(f:w.heap[kl]? =Z (Cl cur T (0,0)))(a:Array α)(n:Nat)(os:Array Obj)(q:a.size*k<=cur.size):
  (∃d,(sortWorldK enc k w kl 0 n a os).heap[kl]? =Z (Cl d T (0,0))/\d.size=cur.size/\d.toList.take (a.size*k)=a.toList.flatMap enc)/\Fr (fun b=>b=kl) w.heap.size w (sortWorldK enc k w kl 0 n a os):=by
 have i:=(aL f);have l:(fR id (gw w n) kl 0 (bQ enc k a)).heap[kl]? =Z (Cl (ew id 0 (bQ enc k a) cur) T (0,0)):=by
  show(w.heap.modify kl _)[kl]? =_;rw[cn,if_pos rfl,f];rfl
 refine⟨⟨ew id 0 (bQ enc k a) cur,?_,by simp[ew],?_⟩,⟨rfl,rfl,rfl,?_,fun j c m=> ?_⟩⟩
 ·show((fR id (gw w n) kl 0 (bQ enc k a)).heap++os)[kl]? =_
  rw[bD (by rw[show(fR id (gw w n) kl 0 (bQ enc k a)).heap.size=w.heap.size from by show(w.heap.modify kl _).size=_;simp];exact i)];exact l
 ·rw[<-KP enc k h g a]
  apply dw;intro j;by_cases c:j<a.size*k
  ·have p:j<(bQ enc k a).size:=by simpa using c
   rw[aO c];have:(ew id 0 (bQ enc k a) cur).toList[j]? =(ew id 0 (bQ enc k a) cur)[j]? :=by simp
   rw[this,ew,Array.getElem?_mapIdx,dA oM];simp[c]
  ·rw[bN (by rw[List.length_take];omega),bN (by simp;omega)]
 ·show w.heap.size<=((w.heap.modify kl _)++os).size
  simp
 ·show((fR id (gw w n) kl 0 (bQ enc k a)).heap++os)[j]? =_
  have o:(fR id (gw w n) kl 0 (bQ enc k a)).heap.size=w.heap.size:=by show(w.heap.modify kl _).size=_;simp
  rw[bD (by rw[o];exact c)];show(w.heap.modify kl _)[j]? =_;rw[cn,if_neg (fun e=>m e.symm)]
theorem I3{α:Type}[Inhabited α]{d a:Array α}(h:Sort.PermIn 0 d.size d a):a.toList.Perm d.toList:=by
 obtain⟨h1,_,h3⟩:=h;simp at h3;rwa [aT (by simp[h1])] at h3
theorem I2{α:Type}[Inhabited α]{lt:α->α->Bool}{n:Nat}{d:Array α}(h:Sort.SortedIn lt 0 n d)(f:n=d.size):d.toList.Pairwise fun x y=>lt y x=false:=by
 rw[List.pairwise_iff_getElem];intro i j hi c b;have a:i<d.size:=by simpa using hi
 have e:j<d.size:=by simpa using c
 have:=h i j (aF _) b oM;rw[getElem!_pos d i a,getElem!_pos d j e] at this;simpa using this
theorem TM(ks:List (Int×Int))(w:D)(kl cap:Nat)(d:w.heap[kl]? =Z (Cl cur 154 (0,0)))(q:cur.toList.take (ks.length*2)=ks.flatMap kC)(s:ks.length*2<=cur.size)(u:ks.length<4611686018427387904):
  Calls prog 231 #[.slice (Z ⟨kl,0,Y⟩) ks.length cap,.func (.func 161) #[] #[]] w fun e w'=>∃v,e=Re v/\v=Tp #[]/\(∃ks':List (Int×Int),ks'.Perm ks/\(ks'.Pairwise fun x y=>¬Lt2 y x)/\∃a,w'.heap[kl]? =Z (Cl a 154 (0,0))/\a.size=cur.size/\a.toList.take (ks.length*2)=ks'.flatMap kC)/\Fr (fun b=>b=kl) w.heap.size w w':=by
 have p:=IJ kC 2 oM wD d ks.toArray (by simpa using q);have z:=(aL d);have o:∀args w,(callFunc 161 args).run prog w= .ok (.enter 161 args) w:=enters_of func161 kr rfl;have r:CmpLays prog 161 #[] kC 2 oO kl 0 ks.toArray.size w:=fun m os E _ x y=>FZ x.1 x.2 y.1 y.2 _;have h1:∀x:Int×Int,∀v∈kC x,v.oneCell'=true:=fun x v hv=>by
  simp[kC] at hv;rcases hv with rfl|rfl<;>rfl
 have g:=AnyQ.slices_SortFunc GN 2 Tryz.isAgg154 Tryz.sizeOf154 kC wD h1 oO Wx 161 #[] kl 0 cap ks.toArray w o r p z (by simpa using u);change Calls prog 231 _ _ _ at g;refine Calls.mono g ?_;rintro e w' ⟨rfl,c,n,os,i,C,rfl⟩;have B:=I3 i;have f:c.size=ks.length:=by simpa using i.1
 obtain⟨⟨a,j,k,l⟩,t⟩:=Ka kC 2 oM wD d c n os (by rw[f];exact s);refine⟨_,rfl,rfl,⟨c.toList,by simpa using B,?_,a,j,k,by rw[<-f];exact l⟩,t⟩;refine(I2 C (by simpa using f.symm)).imp fun{x y} h=> ?_;intro A;rw[(Fk y x).2 A] at h;cases h
theorem uS(e:En):(eC e).length=4:=rfl
theorem TN(es:List En)(w:D)(kl cap:Nat)(f:w.heap[kl]? =Z (Cl cur 245 (0,0)))(r:cur.toList.take (es.length*4)=es.flatMap eC)(t:es.length*4<=cur.size)(z:es.length<4611686018427387904):
  Calls prog 152 #[.slice (Z ⟨kl,0,Y⟩) es.length cap,.func (.func 153) #[] #[]] w fun e w'=>∃v,e=Re v/\v=Tp #[]/\(∃d:List En,d.Perm es/\(d.Pairwise fun x y=>¬LtE y x)/\∃a,w'.heap[kl]? =Z (Cl a 245 (0,0))/\a.size=cur.size/\a.toList.take (es.length*4)=d.flatMap eC)/\Fr (fun b=>b=kl) w.heap.size w w':=by
 have q:=IJ eC 4 oM uS f es.toArray (by simpa using r);have A:=(aL f);have p:∀args w,(callFunc 153 args).run prog w= .ok (.enter 153 args) w:=enters_of func153 kr rfl;have s:CmpLays prog 153 #[] eC 4 qP kl 0 es.toArray.size w:=fun m os F _ x y=>Ur x.1.1 x.1.2 x.2.1 x.2.2 y.1.1 y.1.2 y.2.1 y.2.2 _;have h1:∀x:En,∀v∈eC x,v.oneCell'=true:=fun x v hv=>by
  simp[eC] at hv;rcases hv with rfl|rfl|rfl|rfl<;>rfl
 have i:=AnyQ.slices_SortFunc GO 4 Tryz.isAgg245 Tryz.sizeOf245 eC uS h1 qP Wy 153 #[] kl 0 cap es.toArray w p s q A (by simpa using z);change Calls prog 152 _ _ _ at i;refine Calls.mono i ?_;rintro e w' ⟨rfl,c,n,os,j,E,rfl⟩;have C:=I3 j;have g:c.size=es.length:=by simpa using j.1
 obtain⟨⟨a,k,l,o⟩,u⟩:=Ka eC 4 oM uS f c n os (by rw[g];exact t);refine⟨_,rfl,rfl,⟨c.toList,by simpa using C,?_,a,k,l,by rw[<-g];exact o⟩,u⟩;refine(I2 E (by simpa using g.symm)).imp fun{x y} h=> ?_;intro B;rw[(Fp y x).2 B] at h;cases h
