/- Walks of the program's book: the admissions in order. Walks of the program's talk: digests. Walk of the program's talk: Digest. Walk of the program's talk: Digest, its loop. Walks of the program's talk and book: items, what was heard of. -/
import Derived.Test.YtbojijefenfbgaaGreatDoorAaCmpA
import Derived.Shelf.SlSortCmp.NoneTotal
open Go.Fence renaming list->dO
open List renaming length_take->aY,length_map->aS,mem_append_left->cQ,mem_append->bV,mem_singleton->cm,length_append->ao,length_singleton->fH,getElem?_take_of_lt->aO,getElem?_eq_none->bN,eq_nil_or_concat->jj,concat_eq_append->jk,take_succ_cons->ak,take_zero->aE
open Nat renaming zero_le->aF,le_trans->ag
open Go.IntWalk renaming i64_in->az
open Array renaming getElem?_setIfInBounds->db,getElem?_toList->dm,size_setIfInBounds->iJ
open Go.Value renaming oneCell'->av,int->bf
open Prod renaming fst->aj
open Option renaming some->Z,none->Y
open Go.Value renaming int->I,pointer->X,agg->H,bool->Bl,tuple->Tp
open Go.IntKind renaming i64->J
open Go.Obj renaming cells->Cl
open Go.Ending renaming returned->Re
open Go renaming World->D,Value->Vl
open Go.RowKit renaming Below->O
set_option maxHeartbeats 4000000
set_option maxRecDepth 100000
open Go Go.RowKit
variable{S:Nat->Prop}{g:Nat}{ks:List (Int×Int)}{w':D}
namespace Go.Proofs.YtbojijefenfbgaaGreatDoor
open Tryz
namespace Mp
section
variable {F:Fence} {n:Nat} {P:Program} (w:D) {ops:Array Oper} {rest:List Oper} {o:Oper} {a:Act} {Q:Exit->Act->D->Prop}
theorem WH(h:o.guard=Y)(m:Operand)(t:TypeId)(b:o.op=Op.range t m){k e:TypeId}(j:P.underlying t=Z (.map k e))(i:a.eval m= .map Y)
  (d:wpListIn F n P ops Q rest (a.put o.dst (X (Z ⟨w.heap.size,0,Y⟩))) (w.alloc (.mapIter none 0 #[] 0))):wpListIn F n P ops Q (o::rest) a w:=by
 refine wpListIn_plain h fun l f=> ?_;have h1:=run_range_nilMap (P:=P) w t k e j;unfold Oper.wpIn;refine⟨by simp[Oper.about,b],?_⟩;rw[Oper.semAt_plain F _ _ (by rw[b];intro c g;cases g)];simp[execOp,b,i,h1,Result.andThen];exact f _ _ d
theorem W4(h:o.guard=Y)(d:Operand)(b:o.op=Op.next d false)(r:Nat)(i:a.eval d=X (Z ⟨r,0,Y⟩)){x y:Nat}{s:Array Nat}(j:w.heap[r]? =Z (.mapIter none x s y))(e:wpListIn F n P ops Q rest (a.put o.dst (Tp #[Bl false])) w):wpListIn F n P ops Q (o::rest) a w:=by
 refine wpListIn_plain h fun k f=> ?_;have h1:(Instr.next (X (Z ⟨r,0,Y⟩)) false o.type).run P w= .ok (Tp #[Bl false]) w:=by
  simp only[Instr.next,getObj,Sem.run_bind,Sem.run,j,Result.andThen];rfl
 unfold Oper.wpIn;refine⟨by simp[Oper.about,b],?_⟩;rw[Oper.semAt_plain F _ _ (by rw[b];intro c g;cases g)];simp[execOp,b,i,h1,Result.andThen];exact f _ _ e
end
end Mp
namespace Gt
open Mp Bk Tk
theorem keys_nil(F:Fence)(n:Nat)(hF:F.fn 232)(q:F.round=Y)(b:Nat)(w:D)(c:w.cell? ⟨b,0,Y⟩=Z (.map Y)):
  SeqStopsK F n prog 232 #[X (Z ⟨b,0,Y⟩)] (fun x=> #[two x]) KeepsWalks (fun ss=>ss=[]) (fun _=>True) 0 w:=fun l f s W k i _ _ g=>by
 have h:b<w.heap.size:=by
  simp only[World.cell?] at c;cases d:w.heap[b]? with
  |none=>simp[d] at c
  |some o=>exact(aL d)
 have c:W.cell? ⟨b,0,Y⟩=Z (.map Y):=by rw[k.cell (by exact h)];exact c
 have j:f [] (W.alloc (.mapIter none 0 #[] 0)):=i [] W _ none g (World.grownBy_alloc W _ Y) (fun r e=>by cases e);have p:(W.alloc (.mapIter none 0 #[] 0)).heap[W.heap.size]? =Z (.mapIter none 0 #[] 0):=heap_alloc_new _ _;show CallsIn F n prog 232 #[.func (.yield l) #[] #[],X (Z ⟨b,0,Y⟩)] W _;refine callsIn_of_wp func232 rfl hF ?_ q;simp only[ntmps232,List.size_toArray,List.length_cons,List.length_nil,Nat.reduceAdd,Nat.reduceSub,Array.replicate_succ,Array.replicate_zero,List.push_toArray,List.append_toArray,List.nil_append,List.cons_append];gi_wp2_with (first
  |(gi_at_range;refine WH _ rfl _ _ rfl qG rfl ?_)
  |gi_in)
 generalize W.alloc (.mapIter none 0 #[] 0)=w1 at*;refine Ks.Fj (fun _ a wr=>wr=w1/\a={tmps:= #[.func (.yield l) #[] #[],X (Z ⟨b,0,Y⟩),undef,undef,.map Y,X (Z ⟨W.heap.size,0,Y⟩),undef,undef,undef,undef,undef,undef,undef,undef],defers:=[]}) 0 ⟨rfl,rfl⟩ ?_;rintro m a wr ⟨rfl,rfl⟩;gi_wp2_with (first
  |(gi_at_next;refine W4 _ rfl _ rfl _ rfl p ?_)
  |gi_in)
 gi_wp2
 go_end0
 exact⟨⟨_,rfl⟩,oL ⟨[],rfl,j⟩⟩
theorem WW(a:Nat)(w:D)(f:w.cell? ⟨a,0,Y⟩=Z (.map Y)):
  Calls prog 230 #[.func (.func 232) #[] #[X (Z ⟨a,0,Y⟩)]] w fun e w'=>∃v,e=Re v/\(∃ss:List (Int×Int),ss=[]/\w'.ownsRow w.heap.size 154 2 v ss.length (ss.flatMap kC))/\O w.heap.size w w':=by
 refine Calls.mono (calls_of_every_depth (L:=[230,269,232]) (n:=3) fun b=>Kt (dO [230,269,232] (Z b)) 3 ?_ ?_ rfl lR 232 #[X (Z ⟨a,0,Y⟩)] ?_ ?_ _ _ 0 oM w (keys_nil _ _ ?_ rfl a w f)) ?_
 ·simp[dO]
 ·simp[dO]
 ·simp[dO]
 ·exact enters_of func232 kr rfl
 ·simp[dO]
 ·rintro e w' ⟨v,ss,rfl,c,g,d⟩
  exact⟨v,rfl,⟨ss,c,g⟩,d⟩
theorem XU(m:Vl)(d:m.cells= #[m])(w:D):Calls prog 160 #[m] w fun e w'=>∃v,e=Re v/\(∃b,v= .func (.func 232) #[] #[X (Z ⟨b,0,Y⟩)]/\w'.heap[b]? =Z (Cl #[m] 137 (0,0)))/\O w.heap.size w w':=by
 go_enter func160,ntmps160
 refine Ks.au ?_;refine Ks.box rfl _ _ rfl #[m] (by exact d) ?_;intro w1 b1 g c a f;simp only[zD];refine kv (.nilFunc) ?_;refine kd (wp_seq ?_);refine kX (kv (.func (.func 232) #[] #[X (Z ⟨b1,0,Y⟩)]) ?_);refine kv (.func (.func 232) #[] #[X (Z ⟨b1,0,Y⟩)]) ?_;refine kd (wp_ret ?_);repeat (refine kt ?_)
 refine bodyPost_ret (v:=.func (.func 232) #[] #[X (Z ⟨b1,0,Y⟩)]) kr rfl ?_;exact⟨_,rfl,⟨b1,rfl,c.o⟩,a.o⟩
theorem PZ(sv:Vl)(i:List (Int×Int))(u:i.length<=1000000)(w:D)(r:Calls prog 230 #[sv] w fun e w'=>∃v,e=Re v/\(∃ss:List (Int×Int),ss.Perm i/\w'.ownsRow w.heap.size 154 2 v ss.length (ss.flatMap kC))/\O w.heap.size w w'):
  Calls prog 159 #[sv,.func (.func 161) #[] #[]] w fun e w'=>∃v,e=Re v/\(∃ks:List (Int×Int),ks.Perm i/\(ks.Pairwise fun x y=>¬Lt2 y x)/\Row (fun k=>w.heap.size<=k) w' 154 2 v ks.length (ks.flatMap kC))/\O w.heap.size w w':=by
 go_enter func159,ntmps159
 refine Ks.au ?_;refine Ks.call rfl 230 #[sv] kr r ?_;rintro v w1 ⟨⟨ss,f,A⟩,d⟩;simp only[zD];refine Ks.au ?_;have H:ss.length<=1000000:=by rw[f.length_eq];exact u
 refine Ks.au ?_;rcases A.2 with⟨rfl,p⟩|⟨g,cap,E,rfl,F,t,h1,h2,h3,q⟩
 ·obtain rfl:ss=[]:=List.length_eq_zero_iff.1 p
  have z:Calls prog 231 #[.slice none 0 0,.func (.func 161) #[] #[]] w1 fun e w'=>∃v,e=Re v/\v=Tp #[]/\w'=w1:=by
   have:=AnyF.slices_SortFunc_none GN none 0 (.func (.func 161) #[] #[]) w1;exact Calls.mono this fun e w' h=>⟨_,h.1,rfl,h.2⟩
  refine Ks.call rfl 231 #[.slice none 0 0,.func (.func 161) #[] #[]] kr z ?_;rintro _ _ ⟨rfl,rfl⟩;simp only[zD];refine kd (wp_seq ?_);refine kX (kv (.slice none 0 0) ?_);refine kv (.slice none 0 0) ?_;refine kd (wp_ret ?_);repeat (refine kt ?_)
  refine bodyPost_ret (v:=.slice none 0 0) kr rfl ?_;exact⟨_,rfl,⟨[],f,List.Pairwise.nil,Row.nil _ _ _ _⟩,d⟩
 ·have B:=TM ss w1 g cap t q (by rw[h3];omega) oM
  refine Ks.call rfl 231 #[.slice (Z ⟨g,0,Y⟩) ss.length cap,.func (.func 161) #[] #[]] kr B ?_;rintro _ w2 ⟨rfl,⟨ks,l,C,o,m,n,j⟩,s⟩;simp only[zD];refine kd (wp_seq ?_);refine kX (kv (.slice (Z ⟨g,0,Y⟩) ss.length cap) ?_);refine kv (.slice (Z ⟨g,0,Y⟩) ss.length cap) ?_;refine kd (wp_ret ?_);repeat (refine kt ?_)
  refine bodyPost_ret (v:=.slice (Z ⟨g,0,Y⟩) ss.length cap) kr rfl ?_;have a:ks.length=ss.length:=l.length_eq;refine⟨_,rfl,⟨ks,l.trans f,C,⟨?_,?_⟩,fun b c=> ?_⟩,d.trans (s.below d.size fun k G e=>oM)⟩
  ·rw[<-j,aY,a]
   simp only[Array.length_toList];omega
  ·exact oR ⟨g,cap,o,by rw[a],aF _,m,by rw[a];exact h1,h2,by rw[n,h3],by rw[a];exact j⟩
  ·injection c with c
   have e:g=b:=c;show w.heap.size<=b;omega
theorem W6{m:List (Int×Int)}(d:ks.Perm m)(c:m.Pairwise Lt2)(i:ks.Pairwise fun x y=>¬Lt2 y x):ks=m:=by
 have f:m.Nodup:=by
  refine List.Pairwise.imp (R:=Lt2) ?_ c;rintro a b h rfl;exact Lt2.irrefl h
 have g:ks.Nodup:=d.nodup_iff.2 f;have h2:ks.Pairwise Lt2:=by
  have:=List.Pairwise.and i g;refine this.imp fun{a b} h=> ?_;rcases Lt2.total h.1 with e|h3
  ·exact absurd e.symm h.2
  ·exact h3
 exact yR (R:=Lt2) (fun _=>Lt2.irrefl) (fun h k=>h.trans k) h2 c fun x=>d.mem_iff
theorem J4{w:D}{s:St}(h:gg S w g s)(q:Inv s):Calls prog 88 #[X (Z ⟨g,3,Y⟩)] w fun e w'=>∃v,e=Re v/\Row (fun k=>w.heap.size<=k) w' 154 2 v s.l.length ((s.l.map It.key).flatMap kC)/\O w.heap.size w w':=by
 obtain⟨_,vh,vd,vu,j,m⟩:=h;have E:=(aL j);have A:vh.cells= #[vh]:=by
  rcases m with⟨rfl,_⟩|⟨f,bd,bu,lh,ld,lu,rfl,_⟩<;>rfl
 have C:=q.kB;have t:Hq (∀(w1:D)(b:Nat),O w.heap.size w w1->w1.heap[b]? =Z (Cl #[vh] 137 (0,0))->Calls prog 230 #[.func (.func 232) #[] #[X (Z ⟨b,0,Y⟩)]] w1 fun e w'=>∃v,e=Re v/\(∃ss:List (Int×Int),ss.Perm (s.l.map It.key)/\w'.ownsRow w1.heap.size 154 2 v ss.length (ss.flatMap kC))/\O w1.heap.size w1 w'):=by
  intro w1 b a d;rcases m with⟨rfl,rfl,rfl,z⟩|⟨f,bd,bu,lh,ld,lu,rfl,rfl,rfl,s1,s2,s3,n1,n2,n3,r,i2,F,p⟩
  ·refine Calls.mono (WW b w1 (fy d 0 rfl)) ?_
   rintro e w' ⟨v,rfl,⟨ss,rfl,c⟩,i⟩;exact⟨v,rfl,⟨[],by rw[z];exact List.Perm.refl _,c⟩,i⟩
  ·have e:=p.len
   refine Calls.mono (SE b f lh oM w1 (fy d 0 rfl) (r.congr (a.block f r.lt))) ?_;rintro e w' ⟨v,rfl,⟨ss,n,c⟩,i⟩;exact⟨v,rfl,⟨ss,n.trans p.heard,c⟩,i⟩
 have u:Hq (w.cell? ⟨g,4,Y⟩=Z vh):=fy j 4 rfl;have y:=q.g';clear m j;go_enter func88,ntmps88
 refine wp_seq (kX (kv (.slice none 0 0) ?_));refine kd (wp_seq ?_);refine kX (kv (X (Z ⟨g,3,Y⟩)) ?_);refine kv (X (Z ⟨g,3,Y⟩)) ?_;refine kv (X (Z ⟨g,4,Y⟩)) ?_;refine Ks.cell rfl _ _ rfl qG rfl g 4 vh rfl u.o ?_;simp only[zD];refine Ks.call rfl 160 #[vh] kr (XU vh A w) ?_;rintro _ w1 ⟨⟨b,rfl,d⟩,a⟩;simp only[zD];refine Ks.call rfl 159 #[.func (.func 232) #[] #[X (Z ⟨b,0,Y⟩)],.func (.func 161) #[] #[]] kr (PZ _ (s.l.map It.key) (by rw[aS];omega) w1 (t.o w1 b a d)) ?_;rintro v w2 ⟨⟨ks,n,B,c⟩,x⟩;obtain rfl:=W6 n (List.pairwise_map.2 y) B;simp only[zD];refine kv (v) ?_;refine kd (wp_ret ?_);repeat (refine kt ?_)
 refine bodyPost_ret (v:=v) kr rfl ?_;refine⟨v,rfl,?_,a.trans (x.mono a.size)⟩;have:=c.mono (T:=fun k=>w.heap.size<=k) fun k h=>ag a.size h;rwa [aS] at this
theorem Vv(w:D)(bs o:Nat)(cs:Array Vl)(s:Sn)(m:Vl)(n:Int)(c:w.heap[bs]? =Z (Cl cs 213 (0,0)))(h1:cs[o+1]? =Z (I J s.upto))(h2:cs[o+2]? =Z m)(j:Row S w 3 1 m s.more.length (s.more.map hE))(hu:0<=s.upto/\s.upto<=100000)(B:s.more.length<=100000):
  Calls prog 158 #[X (Z ⟨bs,o,Y⟩),I J n] w fun e w'=>∃v,e=Re v/\v=Tp #[]/\(∃b,Row (fun k=>m.ownBlock=Z k\/w.heap.size<=k) w' 3 1 b (s.lC n).more.length ((s.lC n).more.map hE)/\w'.heap[bs]? =Z (Cl ((cs.setIfInBounds (o+1) (I J (s.lC n).upto)).setIfInBounds (o+2) b) 213 (0,0)))/\Fr (fun k=>k=bs\/m.ownBlock=Z k) w.heap.size w w':=by
 have x:=(aL c);have z:o+1<cs.size:=(aL h1);have A:o+2<cs.size:=(aL h2);have r:m.ownBlock≠Z bs:=kV j c dc;go_enter func158,ntmps158
 refine Ks.au ?_;refine Ks.cell rfl _ _ rfl underlying3 rfl bs (o+1) (I J s.upto) rfl (fy c (o+1) h1) ?_;simp only[zD];refine Ks.val rfl (I J (s.upto+1)) (by
  simp[execOp,go_sem];rw[az _ ⟨oM,oM⟩]) ?_
 simp only[zD];refine Ks.au ?_;refine wp_cond_split rfl ?_ ?_
 ·intro a
  have a:n=s.upto+1:=of_decide_eq_true a;have es:s.lC n={s with upto:=n}:=if_pos a;rw[es];refine Ks.au ?_;refine Ks.store rfl _ _ _ rfl bs (o+1) (I J n) rfl rfl c z kr rfl (cs.setIfInBounds (o+1) (I J n)) rfl ?_;intro w1 d f g t;simp only[Act.put];refine Ks.fin (bodyPost_end (v:=Tp #[]) kr rfl ?_);refine⟨_,rfl,rfl,⟨m,(Row.self (Row.other j r g.o)).mono fun _ h=>oL h,?_⟩,f.o _ _ (oL (oL rfl))⟩;rw[d.o];show Z (Obj.cells _ _ _)=Z (Obj.cells _ _ _);rw[JS (i:=o+2)];rw[db,if_neg oM];exact h2
 ·intro a
  have a:¬n=s.upto+1:=of_decide_eq_false a;have es:s.lC n={s with more:=s.more++[n]}:=if_neg a;rw[es];refine Ks.au ?_;refine Ks.cell rfl _ _ rfl underlying25 rfl bs (o+2) m rfl (fy c (o+2) h2) ?_;simp only[zD];refine kv (I J n) ?_;refine Ks.push rfl rfl 25 3 _ _ _ rfl rfl (I J n) (I J 0) rfl #[I J n] 1 8 underlying25 qC dc dc kr rfl dc (fun k=>m.ownBlock=Z k) m s.more.length (s.more.map hE) (fun _=>rfl) (fun _=>rfl) (Row.self j) rfl (by simp[av]) oM ?_;intro u b w1 l q;have p:w1.heap[bs]? =Z (Cl cs 213 (0,0)):=(q.block bs x (fun e=>r e)).trans c;have y:b.ownBlock≠Z bs:=kV l p dc;simp only[zD];refine Ks.au ?_;refine Ks.store rfl _ _ _ rfl bs (o+2) b rfl rfl p A kr (Row.one l) (cs.setIfInBounds (o+2) b) rfl ?_;intro w2 d f g t;simp only[Act.put];refine Ks.fin (bodyPost_end (v:=Tp #[]) kr rfl ?_);refine⟨_,rfl,rfl,⟨b,?_,?_⟩,(q.mono lR fun k _ h=>oR h).trans (f.o _ _ (oL (oL rfl)))⟩
  ·have:=Row.other l y g.o
   simpa [hE] using this
  ·rw[d.o]
   show Z (Obj.cells _ _ _)=Z (Obj.cells _ _ _);rw[JS (i:=o+1) h1]
theorem Cz(ks:List (Int×Int))(k:Int×Int):mj (ks++[k])=digStep (mj ks) k:=by simp[mj]
theorem Ku(h:∀k∈ks,1<=k.2/\k.2<=1000):∀s∈mj ks,(0<=s.upto/\s.upto<=1000)/\s.more.length<=ks.length:=by
 induction ks using C' with
 |b=>intro s hs;cases hs
 |h1 l x ih=>
  have ih:=ih fun k i=>h k (cQ _ i);have j:=h x sP;have f:∀s:Sn,(0<=s.upto/\s.upto<=1000)/\s.more.length<=l.length->(0<=(s.lC x.2).upto/\(s.lC x.2).upto<=1000)/\(s.lC x.2).more.length<=(l++[x]).length:=by
   intro s hs;unfold Sn.lC;split
   ·exact⟨⟨by show 0<=x.2;omega,j.2⟩,by show s.more.length<=_;simp;omega⟩
   ·exact⟨hs.1,by simp;omega⟩
  have g:∀s∈mj l,(0<=s.upto/\s.upto<=1000)/\s.more.length<=(l++[x]).length:=fun s hs=>⟨(ih s hs).1,by have:=(ih s hs).2;simp;omega⟩;rw[Cz];intro s hs;by_cases c:∀t,(mj l).getLast? =Z t->t.gate≠x.1
  ·rw[Ds c] at hs
   rcases bV.1 hs with hs|hs
   ·exact g s hs
   ·obtain rfl:s=_:=cm.1 hs
    exact f _ ⟨⟨sP,sP⟩,sP⟩
  ·have:∃t,(mj l).getLast? =Z t/\t.gate=x.1:=by
    cases d:(mj l).getLast? with
    |none=>exact absurd (fun t a=>by rw[d] at a;cases a) c
    |some t=>
     refine⟨t,rfl,?_⟩;cases Decidable.em (t.gate=x.1) with
     |inl e=>exact e
     |inr e=>exact absurd (fun n a=>by rw[d] at a;cases a;exact e) c
   obtain⟨t,a,e⟩:=this;obtain⟨m,b⟩:=List.getLast?_eq_some_iff.1 a;rw[b,Dn e] at hs;rcases bV.1 hs with hs|hs
   ·exact g s (by rw[b];exact cQ _ hs)
   ·obtain rfl:s=_:=cm.1 hs
    exact f t (ih t (by rw[b];simp))
theorem ia.push{w:D}{v v':Vl}{l:List (Sn×Vl)}(h:ia S w v l)(g:Int)(m:Row (fun k=>S k\/w.heap.size<=k) w' 213 3 v' (l.length+1) (oq l++[I J g,I J 0,.slice none 0 0]))(j:Fr (fun k=>v.ownBlock=Z k) w.heap.size w w'):ia (fun k=>S k\/w.heap.size<=k) w' v' (l++[(⟨g,0,[]⟩,.slice none 0 0)]):=by
 refine⟨?_,?_,?_⟩
 ·rw[ao]
  simpa [oq,jY] using m
 ·intro p c
  rcases bV.1 c with c|c
  ·have d:=h.more p c
   refine(d.congr fun b f=>j.block b (d.lt b f) fun e=> ?_).mono fun _ h=>oL h;obtain⟨n,i⟩:=Row.kl h.row e;exact kV d i dc f
  ·obtain rfl:p=_:=cm.1 c
   exact Row.nil _ _ _ _
 ·refine sK.2 ⟨h.apart,fun a _ k _ e=> ?_⟩
  cases e
theorem ia.seen{w w':D}{bs cap:Nat}{cs:Array Vl}{l:List (Sn×Vl)}{s:Sn}{m y:Vl}{n:Int}(h:ia S w (.slice (Z ⟨bs,0,Y⟩) (l.length+1) cap) (l++[(s,m)]))(B:w.heap[bs]? =Z (Cl cs 213 (0,0)))
  (E:Row (fun k=>m.ownBlock=Z k\/w.heap.size<=k) w' 3 1 y (s.lC n).more.length ((s.lC n).more.map hE)) (H:w'.heap[bs]? =Z (Cl ((cs.setIfInBounds (l.length*3+1) (I J (s.lC n).upto)).setIfInBounds (l.length*3+2) y) 213 (0,0))) (K:Fr (fun k=>k=bs\/m.ownBlock=Z k) w.heap.size w w'):
  ia (fun k=>S k\/w.heap.size<=k) w' (.slice (Z ⟨bs,0,Y⟩) (l.length+1) cap) (l++[(s.lC n,y)]):=by
 have u:=sK.1 h.apart;have M:=h.more (s,m) sP;have N:∀p∈l,Row S w' 3 1 p.2 p.1.more.length (p.1.more.map hE):=by
  intro p f;have v:=h.more p (cQ _ f);refine v.congr fun b o=>K.block b (v.lt b o) fun e=> ?_;rcases e with e|e
  ·exact kV v B dc (e▸o)
  ·exact u.2 p f b o e
 obtain⟨⟨r1,r2⟩,r3⟩:=h.row;rcases r2 with⟨e,_⟩|⟨g,z,F,e,_,C,q1,q2,q3,q4⟩
 ·cases e
 obtain⟨rfl,rfl⟩:g=bs/\z=cap:=by injection e with c t G;injection c with c;injection c with c;exact⟨c.symm,G.symm⟩
 obtain rfl:cs=F:=by rw[B] at C;cases C;rfl
 rw[ao,fH] at q1 q4;have P:l.length*3+3<=cs.size:=by rw[q3];omega
 refine⟨⟨⟨?_,oR ⟨g,z,_,sP,aF _,H,by simpa using q1,q2,by simpa using q3,?_⟩⟩,fun b o=>oL (r3 b o)⟩,?_,?_⟩
 ·rw[CO]
 ·apply List.ext_getElem?
  intro j;rw[ao,fH];by_cases q:j<(l.length+1)*3
  ·rw[aO q]
   have i:(oq (l++[(s,m)]))[j]? =cs[j]? :=by
    rw[<-q4,aO q];simp
   have c:∀(x:Sn×Vl),oq (l++[x])=oq l++jY x.1 x.2:=fun x=>by simp[oq]
   have L:=CO l;rw[c];rw[c] at i;by_cases O:j<l.length*3
   ·rw[List.getElem?_append_left oM] at i⊢
    rw[i];simp only[dm,db,iJ];rw[if_neg oM,if_neg oM]
   ·rw[List.getElem?_append_right oM,L] at i⊢
    simp only[dm,db,iJ];obtain⟨d,rfl⟩:∃d,j=l.length*3+d:=⟨j-l.length*3,oM⟩;rw[show l.length*3+d-l.length*3=d by omega] at i⊢;match d,q with
    |0,_=>
     rw[if_neg oM,if_neg oM,<-i];simp[jY,zm]
    |1,_=>
     rw[if_neg oM,if_pos rfl,if_pos oM];rfl
    |2,_=>
     rw[if_pos rfl,if_pos oM];rfl
    |d+3,q=>exact absurd q oM
  ·rw[bN (by rw[aY];omega),bN (by rw[CO,ao,fH];omega)]
 ·intro p f
  rcases bV.1 f with f|f
  ·exact(N p f).mono fun _ h=>oL h
  ·obtain rfl:p=_:=cm.1 f
   exact E.mono fun k r=>r.imp (fun e=>M.2 k e) id
 ·refine sK.2 ⟨u.1,fun a A k r e=> ?_⟩
  rcases E.2 k e with t|t
  ·exact u.2 a A k r t
  ·have:=(h.more a (cQ _ A)).lt k r
   omega
theorem Js(ks:List (Int×Int)):(mj ks).length<=ks.length:=by
 induction ks using C' with
 |b=>simp[mj]
 |h1 l x ih=>
  rw[Cz];unfold digStep;split
  ·split
   ·rename_i s a _
    have:(mj l)≠ []:=fun e=>by rw[e] at a;cases a
    have:=List.length_pos_iff.2 this;simp;omega
   ·simp
    omega
  ·simp
def rY(l:List (Sn×Vl))(x:Int):Bool:=match (l.map aj).getLast? with
 |some s=> !decide (s.gate=x)
 |none=>true
def qe(F:Int)(p:Option Addr)(n cap b4 b5 k:Nat)(f:Nat->Vl):Act:={tmps:= #[I J F,.slice p n cap,f 2,f 3,X (Z ⟨b4,0,Y⟩),X (Z ⟨b5,0,Y⟩),f 6,f 7,f 8,f 9,f 10,.slice p n cap,I J (n:Int),I J (k:Int),f 14,f 15,f 16,f 17,f 18,f 19,f 20,f 21,f 22,f 23,f 24,f 25,f 26,f 27,f 28,f 29,f 30,f 31,f 32,f 33,f 34,f 35,f 36,f 37,f 38,f 39,f 40,f 41,f 42,f 43,f 44,f 45,f 46,f 47,f 48,f 49,f 50,f 51,f 52],defers:=[]}
structure rS(w:D)(F:Int)(b4 b5:Nat)(ks:List (Int×Int))(sv:Vl)(l:List (Sn×Vl))(wr:D):Prop where
 x:wr.heap[b4]? =Z (Cl #[I J 0,.slice none 0 0] 71 (0,0))
 y:wr.heap[b5]? =Z (Cl #[I J F,sv] 71 (0,0))
 eq:l.map aj=mj ks
 seen:ia (fun k=>w.heap.size<=k) wr sv l
 below:O w.heap.size w wr
theorem rS.later{w:D}{F:Int}{b4 b5:Nat}{sv:Vl}{l:List (Sn×Vl)}{wr:D}(h:rS w F b4 b5 ks sv l wr)(a:O wr.heap.size wr w'):rS w F b4 b5 ks sv l w':=
 ⟨(a.block b4 (aL h.x)).trans h.x,(a.block b5 (aL h.y)).trans h.y,h.eq,h.seen.below a,h.below.trans (a.mono h.below.size)⟩
theorem UF(w:D)(v:Vl)(ks:List (Int×Int))(F:Int)(q9:Row S w 154 2 v ks.length (ks.flatMap kC))(hk:∀k∈ks,1<=k.2/\k.2<=1000)(hl:ks.length<=16000):
  Calls prog 87 #[I J F,v] w fun e w'=>∃u,e=Re u/\(∃sv l,u=H #[I J F,sv]/\l.map aj=mj ks/\ia (fun k=>w.heap.size<=k) w' sv l)/\O w.heap.size w w':=by
 obtain⟨p,cap,rfl,mT⟩:=Row.form q9;go_enter func87,ntmps87
 refine Ks.au ?_;refine Ks.alloc rfl _ rfl (H #[I J 0,.slice none 0 0]) BZ #[I J 0,.slice none 0 0] rfl ?_;intro w1 b4 j2 b6 b2 o6;simp only[zD];refine kd (wp_seq ?_);refine kX (kv (I J F) ?_);refine kv (H #[I J F,.slice none 0 0]) ?_;refine Ks.decl rfl _ rfl (H #[I J 0,.slice none 0 0]) BZ rfl _ _ rfl #[I J F,.slice none 0 0] (fun _=>rfl) (fun _=>rfl) kr rfl kr ?_;intro w2 b5 b8 j1 b3;have j0:=ca b3 b6;have HB:=tq b2 b3;have h4:w.heap.size<=b4:=Nat.le_of_eq j2.o.symm;have h5:w.heap.size<=b5:=ag b2.o.size b8.o;have p0:b4≠b5:=fun e=>by
  have:=(aL b6.o);have:=b8.o;omega
 clear b6 b2 b3 o6 j2 b8;simp only[zD];refine kd (wp_seq ?_);refine wp_seq (kX (kv (.slice p ks.length cap) ?_));refine kv (I J (ks.length:Int)) ?_;refine kv (I J 0) ?_;refine kd (wp_block (Ks.loop (fun m a wr=>∃(k:Nat)(f:Nat->Vl)(sv:Vl)(l:List (Sn×Vl)),k<=ks.length/\m=ks.length-k/\rS w F b4 b5 (ks.take k) sv l wr/\a=qe F p ks.length cap b4 b5 k f) ks.length ⟨0,fun j=>if j=9 then I J F else if j=10 then H #[I J F,.slice none 0 0] else undef,.slice none 0 0,[],aF _,rfl,⟨j0.o,j1.o,rfl,ia.nil _ _,HB.o⟩,rfl⟩ ?_));clear j0 j1 HB;rintro m a wr ⟨k,f,sv,l,s6,rfl,hD,rfl⟩;have fin:∀(r:Act)(w':D)(R:Nat)(sv:Vl)(l:List (Sn×Vl)),k<R->R<=ks.length->rS w F b4 b5 (ks.take R) sv l w'->r=qe F p ks.length cap b4 b5 R (fun j=>r.tmps.getD j undef)->∃m,m<ks.length-k/\∃(k:Nat)(f:Nat->Vl)(sv:Vl)(l:List (Sn×Vl)),k<=ks.length/\m=ks.length-k/\rS w F b4 b5 (ks.take k) sv l w'/\r=qe F p ks.length cap b4 b5 k f:=fun r w' R sv l h1 h2 h3 h4=>⟨ks.length-R,oM,R,_,sv,l,h2,rfl,h3,h4⟩;unfold qe;refine Ks.au ?_;refine wp_cond_split rfl ?_ ?_
 ·intro N
  have N:k<ks.length:=by have:=of_decide_eq_true N;omega
  obtain⟨C,s4,rfl,l8,r9⟩:=mT k N;obtain⟨b,g,hx⟩:∃b g,ks[k]=(b,g):=⟨_,_,rfl⟩;have h0:ks[k]? =Z (b,g):=by rw[List.getElem?_eq_getElem N,hx]
  have u0:=hk (b,g) (List.mem_of_getElem? h0);have r8:mj (ks.take (k+1))=digStep (mj (ks.take k)) (b,g):=by rw[nd h0,Cz]
  have p4:=Ku (ks:=ks.take k) fun q Q=>hk q (List.mem_of_mem_take Q);have p8:=(aL l8);have h9:Hq (wr.rangeAt C (k*2) (kC (b,g))):=mG (Row.range wD l8 r9 h0) hD.below p8;refine Ks.au ?_;refine Ks.idx kr _ _ _ rfl 154 2 underlying167 kr kr C ks.length cap k rfl rfl N ?_;simp only[zD];refine Ks.pj rfl _ _ rfl C (k*2) rfl (kC (b,g)) h9.o underlying154 rfl kr ?_;simp only[zD];refine Ks.decl rfl _ rfl (H #[I J 0,I J 0]) kr rfl _ _ rfl #[I J b,I J g] (fun _=>rfl) (fun _=>rfl) kr rfl kr ?_;intro wa A s0 HA h6;replace hD:=hD.later h6.o
  clear h9 h6;simp only[zD];refine kd ?_;obtain⟨q,G,rfl,Q⟩:=Row.form hD.seen.row;refine Ks.au ?_;refine Ks.cell rfl _ _ rfl underlying69 rfl b5 1 (.slice q l.length G) rfl (fy hD.y 1 rfl) ?_;simp only[zD];refine kv (I J (l.length:Int)) ?_;have s7:(l.length:Int)<=100000:=by
   have h1:=congrArg List.length hD.eq;have h2:=Js (ks.take k);rw[aS] at h1;rw[aY] at h2;omega
  refine Ks.val rfl (I J ((l.length:Int)-1)) (by
   simp[execOp,go_sem];rw[az _ ⟨oM,oM⟩]) ?_
  simp only[zD];refine kv (I J ((l.length:Int)-1)) ?_;refine kd ?_;refine Ks.cut (fun r w'=>∃(d:List (Sn×Vl))(s:Sn)(m:Vl)(bs cs:Nat)(f:Nat->Vl),s.gate=b/\digStep (mj (ks.take k)) (b,g)=d.map aj++[s.lC g]/\((0<=s.upto/\s.upto<=1000)/\s.more.length<=16000)/\w'.heap[b4]? =Z (Cl #[I J 0,.slice none 0 0] 71 (0,0))/\w'.heap[b5]? =Z (Cl #[I J F,.slice (Z ⟨bs,0,Y⟩) (d.length+1) cs] 71 (0,0))/\ia (fun k=>w.heap.size<=k) w' (.slice (Z ⟨bs,0,Y⟩) (d.length+1) cs) (d++[(s,m)])/\O w.heap.size w w'/\w'.heap[A]? =Z (Cl #[I J b,I J g] 154 (0,0))/\f 7=X (Z ⟨A,0,Y⟩)/\f 8=I J (d.length:Int)/\r=qe F (Z ⟨C,0,Y⟩) ks.length cap b4 b5 k f) ?_ ?_
  ·have l1:∀(r:Act)(w':D)(d:List (Sn×Vl))(s:Sn)(m:Vl)(bs cs:Nat),(s.gate=b/\digStep (mj (ks.take k)) (b,g)=d.map aj++[s.lC g]/\((0<=s.upto/\s.upto<=1000)/\s.more.length<=16000)/\w'.heap[b4]? =Z (Cl #[I J 0,.slice none 0 0] 71 (0,0))/\w'.heap[b5]? =Z (Cl #[I J F,.slice (Z ⟨bs,0,Y⟩) (d.length+1) cs] 71 (0,0))/\ia (fun k=>w.heap.size<=k) w' (.slice (Z ⟨bs,0,Y⟩) (d.length+1) cs) (d++[(s,m)])/\O w.heap.size w w'/\w'.heap[A]? =Z (Cl #[I J b,I J g] 154 (0,0)))->r.tmps.getD 7 undef=X (Z ⟨A,0,Y⟩)->r.tmps.getD 8 undef=I J (d.length:Int)->r=qe F (Z ⟨C,0,Y⟩) ks.length cap b4 b5 k (fun j=>r.tmps.getD j undef)->∃(d:List (Sn×Vl))(s:Sn)(m:Vl)(bs cs:Nat)(f:Nat->Vl),s.gate=b/\digStep (mj (ks.take k)) (b,g)=d.map aj++[s.lC g]/\((0<=s.upto/\s.upto<=1000)/\s.more.length<=16000)/\w'.heap[b4]? =Z (Cl #[I J 0,.slice none 0 0] 71 (0,0))/\w'.heap[b5]? =Z (Cl #[I J F,.slice (Z ⟨bs,0,Y⟩) (d.length+1) cs] 71 (0,0))/\ia (fun k=>w.heap.size<=k) w' (.slice (Z ⟨bs,0,Y⟩) (d.length+1) cs) (d++[(s,m)])/\O w.heap.size w w'/\w'.heap[A]? =Z (Cl #[I J b,I J g] 154 (0,0))/\f 7=X (Z ⟨A,0,Y⟩)/\f 8=I J (d.length:Int)/\r=qe F (Z ⟨C,0,Y⟩) ks.length cap b4 b5 k f:=fun r w' d s m bs cs ⟨c1,c2,c3,c4,c5,c6,c7,c8⟩ h7 h8 ha=>⟨d,s,m,bs,cs,_,c1,c2,c3,c4,c5,c6,c7,c8,h7,h8,ha⟩
   have p7:rY l b=true->digStep (mj (ks.take k)) (b,g)=l.map aj++[(⟨b,0,[]⟩:Sn).lC g]:=by
    intro P;rw[<-hD.eq];refine Ds (k:=(b,g)) fun s hs=> ?_;unfold rY at P;rw[hs] at P;simpa using P
   refine Ks.cut (fun r w'=>∃f:Nat->Vl,rS w F b4 b5 (ks.take k) (.slice q l.length G) l w'/\w'.heap[A]? =Z (Cl #[I J b,I J g] 154 (0,0))/\f 7=X (Z ⟨A,0,Y⟩)/\f 8=I J ((l.length:Int)-1)/\f 33=Bl (rY l b)/\r=qe F (Z ⟨C,0,Y⟩) ks.length cap b4 b5 k f) ?_ ?_
   ·have j9:∀(r:Act)(w':D),O wa.heap.size wa w'->r.tmps.getD 7 undef=X (Z ⟨A,0,Y⟩)->r.tmps.getD 8 undef=I J ((l.length:Int)-1)->r.tmps.getD 33 undef=Bl (rY l b)->r=qe F (Z ⟨C,0,Y⟩) ks.length cap b4 b5 k (fun j=>r.tmps.getD j undef)->∃f:Nat->Vl,rS w F b4 b5 (ks.take k) (.slice q l.length G) l w'/\w'.heap[A]? =Z (Cl #[I J b,I J g] 154 (0,0))/\f 7=X (Z ⟨A,0,Y⟩)/\f 8=I J ((l.length:Int)-1)/\f 33=Bl (rY l b)/\r=qe F (Z ⟨C,0,Y⟩) ks.length cap b4 b5 k f:=fun r w' U h7 h8 o9 ha=>⟨_,hD.later U,(U.block A (aL HA.o)).trans HA.o,h7,h8,o9,ha⟩
    have V:=(aL hD.y);have e5:=(aL HA.o);refine Qt.lW kr kr ?_;refine qv (I J ((l.length:Int)-1)) ?_;rcases jj l with rfl|⟨L,⟨s,m⟩,a7⟩
    ·skip
     refine qv (Bl true) ?_;refine qv (Bl true) ?_;(with_reducible refine qn ?_;refine qn ?_;refine qn ?_;refine qn ?_;refine qn ?_;refine qn ?_;refine qn ?_;refine qn ?_;refine qn ?_);refine qv (Bl true) ?_;refine wpQuiet_nil ?_;intro w' U;refine km ?_;exact j9 _ w' U rfl rfl rfl rfl
    ·rw[jk] at a7
     subst a7;have b1:(L++[(s,m)]).length=L.length+1:=by simp
     obtain⟨gs,j5,rfl,e9,o4⟩:=Q L.length oM;have p9:=(aL e9);refine Qg.val kr (Bl false) (fun _ _=>by
      simp[execOp,go_sem]) ?_
     simp only[zD];refine qv (Bl false) ?_;refine qv (X (Z ⟨b5,1,Y⟩)) ?_;refine Qg.cell kr _ _ rfl underlying69 rfl b5 1 _ rfl V (fy hD.y 1 rfl) ?_;simp only[zD];refine qv (I J (((L++[(s,m)]).length:Int)-1)) ?_;refine Qg.idx kr _ _ _ rfl 213 3 underlying69 kr kr gs _ G L.length rfl (by
      show bf .i64 (((L++[(s,m)]).length:Int)-1)=_;rw[b1];congr 1;omega) oM ?_
     simp only[zD];refine qv (X (Z ⟨gs,L.length*3,Y⟩)) ?_;refine Qg.cell kr _ _ rfl underlying3 rfl gs (L.length*3) (I J s.gate) rfl p9 (Row.cell e9 o4 (seen_cells (p:=(s,m)) sP 0 oM)) ?_;simp only[zD];refine qv (X (Z ⟨A,0,Y⟩)) ?_;refine Qg.cell kr _ _ rfl underlying3 rfl A 0 (I J b) rfl e5 (fy HA.o 0 rfl) ?_;simp only[zD];refine qv (Bl (!decide (s.gate=b))) ?_;refine qv (Bl (!decide (s.gate=b))) ?_;refine wpQuiet_nil ?_;intro w' U;refine km ?_;exact j9 _ w' U rfl rfl (by simp[rY]) rfl
   ·rintro r wc ⟨f',t,W,e7,e8,o8,rfl⟩
    have V:=(aL t.y);unfold qe;rw[e7,e8,o8];cases P:rY l b with
    |true=>
     refine wp_cond_true rfl (Ks.au ?_);refine Ks.cell rfl _ _ rfl underlying69 rfl b5 1 (.slice q l.length G) rfl (fy t.y 1 rfl) ?_;simp only[zD];refine kv (X (Z ⟨A,0,Y⟩)) ?_;refine Ks.cell rfl _ _ rfl underlying3 rfl A 0 (I J b) rfl (fy W 0 rfl) ?_;simp only[zD];refine kv (H #[I J b,I J 0,.slice none 0 0]) ?_;refine Ks.push rfl rfl 69 213 _ _ _ rfl rfl (H #[I J b,I J 0,.slice none 0 0]) (H #[I J 0,I J 0,.slice none 0 0]) rfl #[I J b,I J 0,.slice none 0 0] 3 40 underlying69 wL dc dc kr rfl dc _ _ l.length (oq l) (fun _=>rfl) (fun _=>rfl) t.seen.row rfl (by simp[av]) oM ?_;intro u u4 wd hr E;have hS:=t.seen.push b hr E;obtain⟨bs,a8,j5,rfl,-,l6,-⟩:=C3 hr.1;have q8:∀j,(Value.slice q l.length G).ownBlock=Z j->w.heap.size<=j:=fun j B=>t.seen.row.2 j B;have hX:wd.heap[b4]? =Z (Cl #[I J 0,.slice none 0 0] 71 (0,0)):=(E.block b4 (aL t.x) (kV t.seen.row t.x dc)).trans t.x;have K:wd.heap[b5]? =Z (Cl #[I J F,.slice q l.length G] 71 (0,0)):=(E.block b5 V (kV t.seen.row t.y dc)).trans t.y;have c0:wd.heap[A]? =Z (Cl #[I J b,I J g] 154 (0,0)):=(E.block A (aL W) (kV t.seen.row W dc)).trans W;have c9:O w.heap.size w wd:=t.below.trans (E.below t.below.size fun j B e=>by have:=q8 j e;omega);simp only[zD];refine kv (X (Z ⟨b5,1,Y⟩)) ?_;refine Ks.store rfl _ _ _ rfl b5 1 (.slice (Z ⟨bs,0,Y⟩) (l.length+1) a8) rfl rfl K sP kr rfl #[I J F,.slice (Z ⟨bs,0,Y⟩) (l.length+1) a8] rfl ?_;intro we HC HF HO HS;simp only[Act.put];refine kd (kX (kv (I J ((l.length:Int)-1)) ?_));refine Ks.val rfl (I J (l.length:Int)) (by
      simp[execOp,go_sem];rw[az _ ⟨oM,oM⟩]) ?_
     simp only[zD];refine kv (I J (l.length:Int)) ?_;refine kd ?_;have e4:ia (fun k=>w.heap.size<=k) we (.slice (Z ⟨bs,0,Y⟩) (l.length+1) a8) (l++[(⟨b,0,[]⟩,.slice none 0 0)]):=by
      have a6:=hS.mono (T:=fun k=>w.heap.size<=k) fun j B=>B.elim id fun h=>ag t.below.size h;exact⟨Row.other a6.row (kV a6.row K dc) HO.o,fun z hz=>Row.other (a6.more z hz) (kV (a6.more z hz) K dc) HO.o,a6.apart⟩
     exact l1 _ we l ⟨b,0,[]⟩ (.slice none 0 0) bs a8 ⟨rfl,p7 P,⟨⟨sP,sP⟩,sP⟩,(HO.o b4 p0).trans hX,HC.o,e4,c9.trans ((HF.o (fun _=>False) w.heap.size (oR h5)).below lR fun _ _ h=>h),(HO.o A (fun e=>by rw[e,K] at c0;cases c0)).trans c0⟩ rfl rfl rfl
    |false=>
     refine wp_cond_false rfl (Ks.au ?_);rcases jj l with rfl|⟨L,⟨s,m⟩,a7⟩
     ·cases P
     ·rw[jk] at a7
      subst a7;have b1:(L++[(s,m)]).length=L.length+1:=by simp
      obtain⟨gs,j5,rfl,e9,o4⟩:=Q L.length oM;have o0:s.gate=b:=by
       unfold rY at P;simpa using P
      have q5:s∈mj (ks.take k):=by rw[<-t.eq];simp
      have n9:=p4 s q5;have q7:((L++[(s,m)]).map aj)=L.map aj++[s]:=by simp
      have l5:=t.y;have l3:=t.seen;rw[b1] at l5 l3;exact l1 _ wc L s m gs G ⟨o0,by rw[<-t.eq,q7,Dn (k:=(b,g)) o0],⟨n9.1,by have:=n9.2;rw[aY] at this;omega⟩,t.x,l5,l3,t.below,W⟩ rfl (by
       show bf .i64 (((L++[(s,m)]).length:Int)-1)=_;rw[b1];congr 1;omega) rfl
  ·rintro r wb ⟨d,s,m,bs,cs,f',s8,r5,s9,hX,K,hS,hB,hA,p5,p6,rfl⟩
   have V:=(aL K);have e5:=(aL hA);have l6:=hS.row;obtain⟨g0,o7,b0,e0,-,l7,q1,q2,q3,q4⟩:=C3 (n:=d.length) (by have:=l6.1;rwa [ao] at this);obtain⟨rfl,rfl⟩:bs=g0/\cs=o7:=by injection e0 with e1 e2 e3;injection e1 with e1;injection e1 with e1;exact⟨e1,e3⟩
   have s5:d.length*3+3<=b0.size:=by rw[q3];omega
   have hc:∀j,j<3->b0[d.length*3+j]? =(jY s m)[j]? :=fun j B=>by
    have h1:=seen_cells (l:=d++[(s,m)]) (i:=d.length) (p:=(s,m)) sP j B;rw[<-q4,aO oM] at h1;simpa using h1
   unfold qe;rw[p5,p6];refine Qg.im 6 kr kr ?_;simp only[ak,aE,List.drop_succ_cons,List.drop_zero];refine qv (X (Z ⟨b5,1,Y⟩)) ?_;refine Qg.cell kr _ _ rfl underlying69 rfl b5 1 _ rfl V (fy K 1 rfl) ?_;simp only[zD];refine qv (I J (d.length:Int)) ?_;refine Qg.idx kr _ _ _ rfl 213 3 underlying69 kr kr bs (d.length+1) cs d.length rfl rfl oM ?_;simp only[zD];refine qv (X (Z ⟨A,1,Y⟩)) ?_;refine Qg.cell kr _ _ rfl underlying3 rfl A 1 (I J g) rfl e5 (fy hA 1 rfl) ?_;simp only[zD];refine wpQuiet_nil ?_;intro wc M;have n5:=hS.more (s,m) sP;have e6:wc.heap[bs]? =Z (Cl b0 213 (0,0)):=(Below.block M bs (aL l7)).trans l7;have r6:=Vv wc bs (d.length*3) b0 s m g e6 (hc 1 oM) (hc 2 oM) (n5.below M lR) ⟨oM,oM⟩ oM;refine Ks.call rfl 158 #[X (Z ⟨bs,d.length*3,Y⟩),I J g] kr r6 ?_;rintro _ wd ⟨rfl,⟨m',q6,p3⟩,E⟩;simp only[zD];have l4:ia (fun k=>w.heap.size<=k) wc (.slice (Z ⟨bs,0,Y⟩) (d.length+1) cs) (d++[(s,m)]):=hS.below M;have e4:=(l4.seen e6 q6 p3 E).mono (T:=fun k=>w.heap.size<=k) fun j B=>B.elim id fun h=>ag (ag hB.size (Below.size M)) h;have p1:=(Below.block M b4 (aL hX)).trans hX;have p2:=(Below.block M b5 V).trans K;have n0:Row (fun k=>w.heap.size<=k) wc 3 1 m s.more.length (s.more.map hE):=n5.below M lR;have l9:∀(j:Nat)(c:Array Vl),wc.heap[j]? =Z (Cl c 71 (0,0))->wd.heap[j]? =Z (Cl c 71 (0,0)):=fun j c B=>(E.block j (aL B) fun e=>by
    rcases e with e|e
    ·rw[e,e6] at B;cases B
    ·exact kV n0 B dc e).trans B
   have l2:O w.heap.size w wc:=hB.trans (Below.mono M hB.size);have c9:O w.heap.size w wd:=l2.trans (E.below l2.size fun j B e=>by
    rcases e with e|e
    ·have:=l4.row.2 bs rfl
     omega
    ·have:=n0.2 j e
     omega)
   refine Ks.fin (Ks.mr (kX ?_));refine Ks.val rfl (I J ((k+1:Nat):Int)) (by
    simp[execOp,go_sem];rw[az _ ⟨oM,oM⟩]) ?_
   simp only[zD];refine kv (I J ((k+1:Nat):Int)) ?_;refine kd ?_;refine fin _ wd (k+1) (.slice (Z ⟨bs,0,Y⟩) (d.length+1) cs) (d++[(s.lC g,m')]) oM N ⟨l9 b4 _ p1,l9 b5 _ p2,?_,e4,c9⟩ rfl;rw[r8,r5];simp
 ·intro N
  obtain rfl:k=ks.length:=by have:=of_decide_eq_false N;omega
  rw[List.take_of_length_le lR] at hD;refine Ks.au ?_;refine Ks.row rfl _ _ rfl b5 rfl hD.y underlying71 rfl kr ?_;simp only[zD];refine Ks.whole rfl _ _ _ rfl b4 #[I J F,sv] rfl rfl hD.x kr rfl (by
   have:=Row.one hD.seen.row;simp[av] at this⊢;exact this) ?_
  intro w3 o5 H2 H3 H4;simp only[Act.put];refine kd (wp_ret ?_);have r7:ia (fun k=>w.heap.size<=k) w3 sv l:=⟨Row.other hD.seen.row (kV hD.seen.row hD.x dc) H3.o,fun q Q=>Row.other (hD.seen.more q Q) (kV (hD.seen.more q Q) hD.x dc) H3.o,hD.seen.apart⟩;exact Own.jM results87 rfl b4 _ #[I J F,sv] _ _ rfl o5.o underlying71 rfl kr ⟨_,rfl,⟨sv,l,rfl,hD.eq,r7⟩,hD.below.trans ((H2.o (fun _=>False) w.heap.size (oR h4)).below lR (fun _ _ h=>h))⟩
theorem E1(n:Int)(w:D):Calls prog 84 #[I J n] w fun e w'=>e=Re (Bl (gx 0 n 15))/\w'=w:=by
 have a:Hq _:=xx 0 n 15;go_enter func84,ntmps84
 go_wp2_with fail
 refine(a.o _).mono ?_;rintro _ w1 ⟨rfl,rfl⟩;go_wp2_with fail
 exact bodyPost_ret (v:=Bl (gx 0 n 15)) (by simp[results,results84,go_sem]) rfl ⟨rfl,rfl⟩
theorem Ke(n:Int)(w:D):Calls prog 217 #[I J n] w fun e w'=>e=Re (Bl (gx 1 n 1000))/\w'=w:=by
 have a:Hq _:=xx 1 n 1000;go_enter func217,ntmps217
 go_wp2_with fail
 refine(a.o _).mono ?_;rintro _ w1 ⟨rfl,rfl⟩;go_wp2_with fail
 exact bodyPost_ret (v:=Bl (gx 1 n 1000)) (by simp[results,results217,go_sem]) rfl ⟨rfl,rfl⟩
def pE(x:It):Vl:=H #[I J x.gate,I J x.fi,I J x.br,I J x.ba,Bl x.gone]
theorem LU(x y:It)(w:D):Rt 234 #[pE x,pE y] w (Bl (decide (z2e x y))):=by
 unfold pE;have a:∀o1 o2,Hq (O w.heap.size w ((w.alloc o1).alloc o2)):=fun o1 o2=>((Below.refl _ _).alloc lR _).alloc sP _;have b:x.gate<y.gate->decide (z2e x y)=true:=fun h=>decide_eq_true (oL h);have c:¬x.gate<y.gate->x.gate=y.gate->decide (z2e x y)=decide (x.fi<y.fi):=fun h1 h2=>by
  rw[decide_eq_decide];unfold z2e;omega
 have d:¬x.gate<y.gate->¬x.gate=y.gate->decide (z2e x y)=false:=fun h1 h2=>by
  rw[decide_eq_false_iff_not];unfold z2e;omega
 go_enter func234,ntmps234
 go_wp2_with fail
 all_goals go_ret
 all_goals refine⟨?_,(a _ _).o⟩
 all_goals first|rfl|(simp;omega)
theorem U8{w:D}{s:St}(h:gg S w g s)(p:Int×Int):Rt 163 #[X (Z ⟨g,3,Y⟩),two p] w (Bl (decide (p∈s.l.map It.key))):=by
 obtain⟨_,vh,vd,vu,c,j⟩:=h;have x:w.cell? ⟨g,4,Y⟩=Z vh:=fy c 4 rfl;have i:=(aL c);clear c;obtain⟨lh,ld,lu,t,V2,V3,d⟩:=j.ask;have e:Hq ((na p lh).isSome=decide (p∈s.l.map It.key)):=d.has p;clear d V2 V3 j;generalize decide (p∈s.l.map It.key)=r at e⊢;have a:Hq (O w.heap.size w (w.alloc (Cl #[I J p.1,I J p.2] 154))):=(Below.refl _ _).alloc lR _;have n:Hq ((w.alloc (Cl #[I J p.1,I J p.2] 154)).heap[w.heap.size]? =Z (Cl #[I J p.1,I J p.2] 154 (0,0))):=heap_alloc_new _ _;have q:Hq (V (w.alloc (Cl #[I J p.1,I J p.2] 154)) vh two unit lh):=by
  rcases t with h1|⟨b,u,h1⟩
  ·exact oL h1
  ·exact oR ⟨b,u,h1.congr (a.o.block b h1.lt)⟩
 have m:Hq ((w.alloc (Cl #[I J p.1,I J p.2] 154)).cell? ⟨g,4,Y⟩=Z vh):=by
  show _=_;rw[a.o.cell (by exact i)];exact x
 have v:Hq (g<(w.alloc (Cl #[I J p.1,I J p.2] 154)).heap.size):=Nat.lt_of_lt_of_le i a.o.size;unfold two;go_enter func163,ntmps163
 go_wp2
 generalize World.alloc _ _=w1 at*;refine Qt.uO 9 kr kr _ _ rfl rfl 194 rfl #[] kr _ _ rfl #[] kr rfl sP ?_;simp only[ak,aE];refine yw (X (Z ⟨g,3,Y⟩)) ?_;refine yw (X (Z ⟨g,3,Y⟩)) ?_;refine yV (X (Z ⟨g,4,Y⟩)) ?_;refine mz rfl _ _ rfl qG rfl g 4 vh rfl v.o m.o ?_;simp only[zD];refine Qt.nn rfl _ _ rfl _ rfl _ _ _ _ n.o underlying154 rfl kr ?_;simp only[zD];refine Bv rfl _ _ _ rfl ua qG Jj rfl q.o p rfl ?_;rw[e.o,JZ];simp only[zD];refine yw (Tp #[H #[],Bl r]) ?_;refine yw (H #[]) ?_;refine yV (Bl r) ?_;refine Qt.gh ⟨fun _=>rfl,fun _=>rfl,?_⟩;intro b w2 _ _ f;have k:=tq a f;clear f;simp only[List.setIfInBounds_toArray,List.set_cons_zero,List.set_cons_succ];go_wp2
 go_ret
 exact⟨rfl,k.o⟩
