/- Several elements put behind a slice; and behind one that is full of one mark. Digests by what a gate has heard of: how they are made, when they are digests, what they have. A digest's list in memory. The book of a script: the lists that came out, each full of its mark. A list that is being written full, element by element. The book: what lies where while lists are put into it. -/
import Derived.Test.YtbojijefenfbgaaGreatDoorAaRefF
open Nat renaming zero_le->aF,zero_add->bC,pos_of_ne_zero->eZ,mul_zero->jJ,lt_of_lt_of_le->aB,mul_le_mul_right->gk,succ_mul->jO,mul_comm->bJ
open List renaming pairwise_cons->bM,mem_cons->cr,foldl_cons->fx,map_cons->eP,map_map->gQ,filter_cons_of_pos->dR,filter_cons_of_neg->cV,filter_eq_nil_iff->iY,range->eE,range_succ->iE,filterMap_append->fQ,mem_append->bV,any_cons->kZ,length_append->ao,length_map->aS,map_append->ef,getElem?_eq_none->bN,getElem?_take_of_lt->aO
open List.Pairwise renaming nil->cX
open Prod renaming fst->aj
open Option renaming some->Z,none->Y
open Go.Value renaming int->I,agg->H,bool->Bl
open Go.IntKind renaming i64->J
open Go.Obj renaming cells->Cl
open Go renaming World->D,Value->Vl
open Go.RowKit renaming Below->O
set_option maxHeartbeats 4000000
open Go Go.RowKit
variable{N xs:List Vl}{Xa:Array Vl}{b:Int×Int}{e:TypeId}{o:Oper}{sz:Nat}
namespace Go.Proofs.YtbojijefenfbgaaGreatDoor
open Tryz
theorem Qz{P:Program}{ops:Array Oper}{rest:List Oper}{a:Act}{w:D}{Q:Exit->Act->D->Prop}(y:o.guard=Y)(s x:Operand)(t:TypeId)(C:o.op= .call {callee:=.builtin .append,args:= #[s,x],argTypes:= #[t,t]})
  (e:TypeId) (z:Vl) (size bytes:Nat) (G:P.underlying t=Z (.slice e)) (h2:(P.info? e).map (fun i=>(i.zero,i.size,i.bytes))=Z (Z z,size,bytes)) (L:z.cells.size=size) (F:0<size)
  (S:Nat->Prop) (v:Vl) (n:Nat) (xs:List Vl) (E:a.eval s=v) (l:Row S w e size v n xs)
  (m:Nat) (b g:Nat) (cs:List Vl) (H:a.eval x= .slice (Z ⟨b,0,Y⟩) m g) (hu:∀j c,cs[j]? =Z c->w.cell? ⟨b,j,Y⟩=Z c) (B:cs.length=m*size) (h1:∀c∈cs,c.oneCell'=true) (q:n+m<=maxLen) (r:(n+m)*bytes<=140737488355328)
  (h:∀v' w',Row (fun k=>S k\/k=w.heap.size) w' e size v' (n+m) (xs++cs)->w.grownBy w' v.ownBlock->wpList P ops Q rest (a.put o.dst v') w'):wpList P ops Q (o::rest) a w:=by
 obtain⟨i,hi,I,J,K⟩:=info_parts h2;refine wpList_append_own_at w y s x t C 0 e i z size bytes G hi I J K L F v n xs E l.1 ⟨b,0,Y⟩ m g cs H B (fun j u A=> ?_) h1 q r (aF _) (fun v' w' h3 p M d=> ?_)
 ·rw[Addr.add_mid,bC]
  exact hu j u A
 ·refine h v' w' ⟨h3,fun k f=> ?_⟩ p
  rcases d with d|d
  ·exact oL (l.2 k (by rw[<-d];exact f))
  ·rw[d] at f
   injection f with f
   exact oR f.symm
namespace Ks
section
variable {P:Program} {ops:Array Oper} {rest:List Oper} {o1 o2:Oper} {a:Act} {w:D} {Q:Exit->Act->D->Prop}
theorem many(f:o.guard=Y)(t e:TypeId)(k:Nat)(ps:Array (Nat×Operand))(g:o.op= .buildSlice t k ps)(z:Vl)(cs:Array Vl)(sz c:Nat)(hu:P.underlying t=Z (.slice e))(h2:(P.info? e).map (fun i=>(i.zero,i.size,i.bytes))=Z (Z z,sz,c))(l:¬k*sz>2^24)(j:¬k*sz=0)
  (d:Instr.fill (fun i=>Z (i*sz,sz)) ((Array.range (k*sz)).map (z.cells[· % z.cells.size]!)) (ps.map fun(i,x)=>(i,a.eval x)).toList=Z cs)
  (h:∀w' b,Hq (b=w.heap.size)->Hq (w'.heap[b]? =Z (Cl cs e (0,0)))->Hq (O w.heap.size w w')->wpList P ops Q rest (a.put o.dst (.slice (Z ⟨b,0,Y⟩) k k)) w'):wpList P ops Q (o::rest) a w:=by
 obtain⟨i,hi,m,n,p⟩:=info_parts h2;subst n;exact wpList_buildSlice f t e k ps g cs i z hu hi m l j d (h _ _ rfl (heap_alloc_new _ _) ((Below.refl _ _).alloc lR _))
theorem uF(B:o1.guard=Y)(C:o2.guard=Y)(t e:TypeId)(k:Nat)(ps:Array (Nat×Operand))(s y:Operand)(F:o1.op= .buildSlice t k ps)(G:o2.op= .call {callee:=.builtin .append,args:= #[s,y],argTypes:= #[t,t]})(z:Vl)(cs:Array Vl)(sz f:Nat)(hu:P.underlying t=Z (.slice e))(h2:(P.info? e).map (fun i=>(i.zero,i.size,i.bytes))=Z (Z z,sz,f))(L:¬k*sz>2^24)(m:¬k*sz=0)
  (A:Instr.fill (fun i=>Z (i*sz,sz)) ((Array.range (k*sz)).map (z.cells[· % z.cells.size]!)) (ps.map fun(i,x)=>(i,a.eval x)).toList=Z cs) (N:z.cells.size=sz) (S:Nat->Prop) (sv:Vl) (n:Nat) (xs:List Vl) (K:∀u,(a.put o1.dst u).eval s=sv) (M:∀b,(a.put o1.dst (.slice (Z ⟨b,0,Y⟩) k k)).eval y= .slice (Z ⟨b,0,Y⟩) k k) (I:Row S w e sz sv n xs) (E:cs.size=k*sz) (h1:∀c∈cs.toList,c.oneCell'=true) (q:n+k<=maxLen) (r:(n+k)*f<=140737488355328)
  (h:∀u g w',Row (fun j=>S j\/w.heap.size<=j) w' e sz g (n+k) (xs++cs.toList)->Fr (fun j=>sv.ownBlock=Z j) w.heap.size w w'->wpList P ops Q rest ((a.put o1.dst u).put o2.dst g) w'):wpList P ops Q (o1::o2::rest) a w:=by
 refine many B t e k ps F z cs sz f hu h2 L m A ?_;intro w1 b O p d;have H:Row S w1 e sz sv n xs:=I.below d.o lR;refine Qz C s y t G e z sz f hu h2 N (eZ fun e=>m (by rw[e,jJ])) S sv n xs (K _) H k b k cs.toList (M b) (fun j c v=>(cell_of_row w1 b j _ _ _ p.o).trans (by simpa using v)) (by simpa using E) h1 q r ?_;intro g w2 J D;exact h _ g w2 (J.mono fun k l=>l.elim oL fun e=>oR (by rw[e];exact d.o.size)) ((Fr.kq d.o lR).trans ((Fr.refl _ _ _).grown D d.o.size fun k l=>oL l))
theorem rI(D:o1.guard=Y)(E:o2.guard=Y)(t e:TypeId)(k:Nat)(ps:Array (Nat×Operand))(s y:Operand)(G:o1.op= .buildSlice t k ps)(H:o2.op= .call {callee:=.builtin .append,args:= #[s,y],argTypes:= #[t,t]})(z:Vl)(f:Nat->Vl)(sz g:Nat)(hu:P.underlying t=Z (.slice e))(h2:(P.info? e).map (fun i=>(i.zero,i.size,i.bytes))=Z (Z z,sz,g))(N:¬k*sz>2^24)(q:¬k*sz=0)
  (B:Instr.fill (fun i=>Z (i*sz,sz)) ((Array.range (k*sz)).map (z.cells[· % z.cells.size]!)) (ps.map fun(i,x)=>(i,a.eval x)).toList=Z (Fu.full f sz k).toArray) (R:z.cells.size=sz) (S:Nat->Prop) (sv:Vl) (n:Nat) (M:∀u,(a.put o1.dst u).eval s=sv) (O:∀b,(a.put o1.dst (.slice (Z ⟨b,0,Y⟩) k k)).eval y= .slice (Z ⟨b,0,Y⟩) k k) (J:Row S w e sz sv n (Fu.full f sz n)) (h1:∀j,(f j).oneCell'=true) (v:n+k<=maxLen) (m:(n+k)*g<=140737488355328)
  (h:∀u l w',Row (fun j=>S j\/w.heap.size<=j) w' e sz l (n+k) (Fu.full f sz (n+k))->Row S w' e sz sv n (Fu.full f sz n)->(∀u,Fu.Fl w e sz f u->Fu.Fl w' e sz f u)->Fr (fun j=>sv.ownBlock=Z j) w.heap.size w w'->wpList P ops Q rest ((a.put o1.dst u).put o2.dst l) w'):wpList P ops Q (o1::o2::rest) a w:=by
 refine many D t e k ps G z _ sz g hu h2 N q B ?_;intro w1 b T r d;have I:=J.below d.o lR;refine Fu.Uh E s y t H e z sz g hu h2 R (eZ fun e=>q (by rw[e,jJ])) S sv n f (M _) I k b k (O b) (fun j c A=>by
  rw[bC];exact(cell_of_row w1 b j _ _ _ r.o).trans (by simpa using A)) h1 v m ?_
 intro l w2 K L C F;exact h _ l w2 (K.mono fun k p=>p.elim oL fun e=>oR (by rw[e];exact d.o.size)) L (fun u hu=>C u (hu.congr fun b m=>d.o.block b (hu.lt b m))) ((Fr.kq d.o lR).trans ((Fr.refl _ _ _).grown F d.o.size fun k p=>oL p))
end
end Ks
namespace Bk
def Lt2(a b:Int×Int):Prop:=a.1<b.1\/(a.1=b.1/\a.2<b.2)
instance (a b:Int×Int):Decidable (Lt2 a b):=by unfold Lt2;infer_instance
theorem Lt2.trans{a c:Int×Int}(h:Lt2 a b)(k:Lt2 b c):Lt2 a c:=by unfold Lt2 at*;omega
theorem Lt2.irrefl{a:Int×Int}:¬Lt2 a a:=by unfold Lt2;omega
theorem Lt2.other{a:Int×Int}(h:a≠b)(k:¬Lt2 a b):Lt2 b a:=by
 unfold Lt2 at*;by_cases c:a.1=b.1
 ·by_cases d:a.2=b.2
  ·exact absurd (Prod.ext c d) h
  ·omega
 ·omega
theorem yR{i:Type}{R:i->i->Prop}(f:∀a,¬R a a)(k:∀{a b c},R a b->R b c->R a c):∀{l m:List i},l.Pairwise R->m.Pairwise R->(∀x,x∈l↔x∈m)->l=m
 |[],[],_,_,_=>rfl
 |[],y::m,_,_,h=>by have:=(h y).2 sP;simp at this
 |x::l,[],_,_,h=>by have:=(h x).1 sP;simp at this
 |x::l,y::m,n,o,h=>by
  obtain⟨j,r⟩:=bM.1 n;obtain⟨m1,m2⟩:=bM.1 o;have e:x=y:=by
   rcases cr.1 ((h x).1 sP) with e|p
   ·exact e
   ·rcases cr.1 ((h y).2 sP) with e|q
    ·exact e.symm
    ·exact absurd (k (j y q) (m1 x p)) (f x)
  subst e;refine congrArg (x:: ·) (yR f k r m2 fun z=> ?_);constructor
  ·intro d
   rcases cr.1 ((h z).1 (by simp[d])) with e|g
   ·subst e;exact absurd (j z d) (f z)
   ·exact g
  ·intro d
   rcases cr.1 ((h z).2 (by simp[d])) with e|g
   ·subst e;exact absurd (m1 z d) (f z)
   ·exact g
structure Sn where
 gate:Int
 upto:Int
 more:List Int
deriving DecidableEq
def Sn.lC(s:Sn)(n:Int):Sn:=if n=s.upto+1 then{s with upto:=n} else{s with more:=s.more++[n]}
def n'(g:Int)(ns:List Int):Sn:=ns.foldl Sn.lC ⟨g,0,[]⟩
def digStep(l:List Sn)(k:Int×Int):List Sn:=
 match l.getLast? with
 |some s=>if s.gate=k.1 then l.dropLast++[s.lC k.2] else l++[(⟨k.1,0,[]⟩:Sn).lC k.2]
 |none=>[(⟨k.1,0,[]⟩:Sn).lC k.2]
def mj(ks:List (Int×Int)):List Sn:=ks.foldl digStep []
theorem Ds{l:List Sn}{k:Int×Int}(h:∀s,l.getLast? =Z s->s.gate≠k.1):digStep l k=l++[(⟨k.1,0,[]⟩:Sn).lC k.2]:=by
 unfold digStep;split
 ·rename_i s a
  rw[if_neg (h s a)]
 ·rename_i a
  rw[List.getLast?_eq_none_iff.1 a];rfl
theorem Dn{l:List Sn}{s:Sn}{k:Int×Int}(h:s.gate=k.1):digStep (l++[s]) k=l++[s.lC k.2]:=by
 unfold digStep;simp[h]
theorem zm(s:Sn)(n:Int):(s.lC n).gate=s.gate:=by unfold Sn.lC;split<;>rfl
theorem Yh(ns:List Int)(s:Sn):(ns.foldl Sn.lC s).gate=s.gate:=by
 induction ns generalizing s with
 |nil=>rfl
 |cons n r ih=>rw[fx,ih,zm]
theorem KQ(g:Int):∀(ns:List Int)(l:List Sn)(s:Sn),s.gate=g->(ns.map fun n=>(g,n)).foldl digStep (l++[s])=l++[ns.foldl Sn.lC s]
 |[],_,_,_=>rfl
 |n::r,l,s,h=>by
  rw[eP,fx,Dn (by exact h),fx];exact KQ g r l _ (by rw[zm];exact h)
theorem XH(g:Int)(ns:List Int)(l:List Sn)(h:∀s,l.getLast? =Z s->s.gate≠g):(ns.map fun n=>(g,n)).foldl digStep l=if ns=[] then l else l++[n' g ns]:=by
 cases ns with
 |nil=>simp
 |cons n r=>
  rw[if_neg sP,eP,fx,Ds (by exact h),KQ g r l _ (zm _ _)];rfl
def ma(g:Int)(ks:List (Int×Int)):List Int:=(ks.filter fun k=>decide (k.1=g)).map Prod.snd
def rE(ks:List (Int×Int))(g:Nat):Option Sn:=if ma g ks=[] then none else Z (n' g (ma g ks))
theorem Tc(g:Int)(ks:List (Int×Int)):(ma g ks).map (fun n=>(g,n))=ks.filter fun k=>decide (k.1=g):=by
 unfold ma;rw[gQ];refine(List.map_congr_left fun k a=> ?_).trans (List.map_id _);have:=(List.mem_filter.1 a).2;simp at this;simp[Function.comp,<-this]
theorem Kg(m:Int):∀{ks:List (Int×Int)},ks.Pairwise Lt2->ks.filter (fun k=>decide (k.1<m+1))=ks.filter (fun k=>decide (k.1<m))++ks.filter fun k=>decide (k.1=m)
 |[],_=>rfl
 |k::r,h=>by
  obtain⟨h1,h2⟩:=bM.1 h;have ih:=Kg m h2;by_cases d:k.1<m
  ·rw[dR (by simp;omega),dR (by simp;omega),cV (by simp;omega),ih]
   rfl
  ·have a:r.filter (fun k=>decide (k.1<m))=[]:=iY.2 fun x b=>by
    have:=h1 x b;unfold Lt2 at this;simp;omega
   by_cases c:k.1=m
   ·rw[dR (by simp;omega),cV (by simp;omega),dR (by simp;omega),ih,a]
    rfl
   ·rw[cV (by simp;omega),cV (by simp;omega),cV (by simp;omega),ih]
theorem KL{ks:List (Int×Int)}(f:ks.Pairwise Lt2)(c:∀k∈ks,0<=k.1):∀m:Nat,mj (ks.filter fun k=>decide (k.1<(m:Int)))=(eE m).filterMap (rE ks)/\∀s∈(eE m).filterMap (rE ks),s.gate<m
 |0=>by
  have:ks.filter (fun k=>decide (k.1<((0:Nat):Int)))=[]:=iY.2 fun x b=>by
   have:=c x b;simp;omega
  rw[this];exact⟨rfl,sP⟩
 |m+1=>by
  obtain⟨i,i2⟩:=KL f c m;have e:ks.filter (fun k=>decide (k.1<((m+1:Nat):Int)))=ks.filter (fun k=>decide (k.1<(m:Int)))++ks.filter fun k=>decide (k.1=(m:Int)):=by
   rw[<-Kg (m:Int) f];rfl
  have g:∀s,rE ks m=Z s->s.gate=m:=by
   intro s a;unfold rE at a;split at a
   ·cases a
   ·obtain rfl:=Option.some.inj a
    exact Yh _ _
  refine⟨?_,?_⟩
  ·rw[e,mj,List.foldl_append,<-Tc,<-mj,i,XH,iE,fQ]
   ·unfold rE
    by_cases d:ma (↑m) ks=[]
    ·simp[d]
    ·simp[d]
   ·intro s a j
    have:=i2 s (List.mem_of_getLast? a);omega
  ·intro s a
   rw[iE,fQ] at a;rcases bV.1 a with h|h
   ·have:=i2 s h
    omega
   ·obtain⟨x,b,hd⟩:=List.mem_filterMap.1 h
    simp at b;subst b;have:=g s hd;omega
theorem QQ{ks:List (Int×Int)}(c:ks.Pairwise Lt2)(b:∀k∈ks,0<=k.1/\k.1<=15):mj ks=(eE 16).filterMap (rE ks):=by
 have:=(KL c (fun k a=>(b k a).1) 16).1;rwa [List.filter_eq_self.2] at this
 intro k a;have:=b k a;simp;omega
def Sn.has(s:Sn)(n:Int):Bool:=decide (n∈s.more)||decide (n<=s.upto)
structure YM(ns:List Int)(s:Sn):Prop where
 mem:∀n,1<=n->(s.has n=true↔n∈ns)
 upto:0<=s.upto
 Bz:s.upto=0\/s.upto∈ns
 g':s.more.Pairwise (· < ·)
 more:∀m∈s.more,s.upto+2<=m/\m∈ns
 some:ns≠ []->s.upto≠0\/s.more≠ []
theorem sK{b:Type}{R:b->b->Prop}{l:List b}{x:b}:(l++[x]).Pairwise R↔l.Pairwise R/\∀a∈l,R a x:=by
 rw[List.pairwise_append];simp
theorem C'{a:Type}{p:List a->Prop}(b:p [])(h1:∀l x,p l->p (l++[x]))(l:List a):p l:=by
 have:∀l:List a,p l.reverse:=by
  intro l;induction l with
  |nil=>exact b
  |cons x r ih=>rw[List.reverse_cons];exact h1 _ _ ih
 have:=this l.reverse;rwa [List.reverse_reverse] at this
def okMore(least:Int):List Int->Bool
 |[]=>true
 |n::r=>decide (least<=n)&&decide (n<=1000)&&okMore (n+1) r
def px(s:Sn):Bool:=decide (s.upto≠0\/s.more≠ [])&&decide (0<=s.upto/\s.upto<=1000)&&okMore (s.upto+2) s.more
def okSeen(least:Int):List Sn->Bool
 |[]=>true
 |s::r=>decide (least<=s.gate/\s.gate<=15)&&px s&&okSeen (s.gate+1) r
def mY(floor:Int)(l:List Sn):Bool:=decide (0<=floor/\floor<=65535)&&okSeen 0 l
theorem J8:∀{l:List Int}{least:Int},okMore least l=true->l.Pairwise (· < ·)/\∀n∈l,least<=n/\n<=1000
 |[],_,_=>⟨cX,fun n a=>by cases a⟩
 |n::r,least,h=>by
  unfold okMore at h;simp only[Bool.and_eq_true,decide_eq_true_eq] at h;obtain⟨⟨h1,h2⟩,h3⟩:=h;obtain⟨b,i2⟩:=J8 h3;refine⟨bM.2 ⟨fun m hm=>by have:=(i2 m hm).1;omega,b⟩,fun m hm=> ?_⟩;rcases cr.1 hm with rfl|hm
  ·exact⟨h1,h2⟩
  ·have:=i2 m hm
   exact⟨oM,this.2⟩
theorem Dp:∀{l:List Sn}{least:Int},okSeen least l=true->l.Pairwise (fun a b=>a.gate<b.gate)/\∀s∈l,least<=s.gate/\s.gate<=15/\px s=true
 |[],_,_=>⟨cX,fun n c=>by cases c⟩
 |n::r,least,h=>by
  unfold okSeen at h;simp only[Bool.and_eq_true,decide_eq_true_eq] at h;obtain⟨⟨h1,h2⟩,h3⟩:=h;obtain⟨d,i2⟩:=Dp h3;refine⟨bM.2 ⟨fun m hm=>by have:=(i2 m hm).1;omega,d⟩,fun m hm=> ?_⟩;rcases cr.1 hm with rfl|hm
  ·exact⟨h1.1,h1.2,h2⟩
  ·have:=i2 m hm
   exact⟨oM,this.2⟩
def has(l:List Sn)(k:Int×Int):Bool:=
 match l.find? fun s=>decide (s.gate=k.1) with
 |some s=>s.has k.2
 |none=>false
def uU(l:List Sn)(k:Int×Int):Bool:=l.any fun s=>decide (s.gate=k.1)&&s.has k.2
theorem Gl:∀{l:List Sn}(k:Int×Int),l.Pairwise (fun a b=>a.gate<b.gate)->has l k=uU l k
 |[],_,_=>rfl
 |s::r,k,h=>by
  obtain⟨h1,h2⟩:=bM.1 h;have ih:=Gl k h2;unfold has uU at*;by_cases e:s.gate=k.1
  ·have:r.any (fun s=>decide (s.gate=k.1)&&s.has k.2)=false:=by
    rw[List.any_eq_false];intro x c;have:=h1 x c;simp;omega
   simp[e,kZ,this]
  ·simp[e,kZ]
   simpa using ih
end Bk
namespace Gt
open Mp Bk
def hE(n:Int):Vl:=I J n
def jY(s:Sn)(m:Vl):List Vl:=[I J s.gate,I J s.upto,m]
theorem qE(p:Sn×Vl):(jY p.1 p.2).length=3:=rfl
def oq(l:List (Sn×Vl)):List Vl:=l.flatMap fun p=>jY p.1 p.2
theorem qC:(prog.info? 3).map (fun i=>(i.zero,i.size,i.bytes))=Z (Z (I J 0),1,8):=kr
theorem wL:(prog.info? 213).map (fun i=>(i.zero,i.size,i.bytes))=Z (Z (H #[I J 0,I J 0,.slice none 0 0]),3,40):=kr
structure ia(S:Nat->Prop)(w:D)(v:Vl)(l:List (Sn×Vl)):Prop where
 row:Row S w 213 3 v l.length (oq l)
 more:∀p∈l,Row S w 3 1 p.2 p.1.more.length (p.1.more.map hE)
 apart:l.Pairwise fun a b=>∀k,a.2.ownBlock=Z k->b.2.ownBlock≠Z k
theorem ia.nil(S:Nat->Prop)(w:D):ia S w (.slice none 0 0) []:=⟨Row.nil _ _ _ _,fun _ a=>(List.not_mem_nil a).elim,cX⟩
theorem ia.below{S:Nat->Prop}{w w':D}{v:Vl}{l:List (Sn×Vl)}(h:ia S w v l)(a:O w.heap.size w w'):ia S w' v l:=⟨h.row.below a lR,fun p b=>(h.more p b).below a lR,h.apart⟩
theorem ia.mono{S T:Nat->Prop}{w:D}{v:Vl}{l:List (Sn×Vl)}(h:ia S w v l)(a:∀k,S k->T k):ia T w v l:=⟨h.row.mono a,fun p b=>(h.more p b).mono a,h.apart⟩
theorem CO(l:List (Sn×Vl)):(oq l).length=l.length*3:=by
 induction l with
 |nil=>rfl
 |cons x r ih=>
  unfold oq at*;rw[List.flatMap_cons,ao,ih,List.length_cons,qE];omega
theorem seen_cells{l:List (Sn×Vl)}{i:Nat}{p:Sn×Vl}(h:l[i]? =Z p)(j:Nat)(a:j<3):(oq l)[i*3+j]? =(jY p.1 p.2)[j]? :=flat_get (fun p:Sn×Vl=>jY p.1 p.2) 3 qE l i j p h a
theorem ia.other{S:Nat->Prop}{w w':D}{v:Vl}{l:List (Sn×Vl)}(h:ia S w v l){b:Nat}{cs:Array Vl}{t:TypeId}{fr:Nat×Nat}(a:w.heap[b]? =Z (Cl cs t fr))(h1:213≠t)(h2:3≠t)(d:∀k,k≠b->w'.heap[k]? =w.heap[k]?):ia S w' v l:=
 ⟨Row.other h.row (kV h.row a h1) d,fun p c=>Row.other (h.more p c) (kV (h.more p c) a h2) d,h.apart⟩
theorem Row.form{S:Nat->Prop}{w:D}{v:Vl}{n:Nat}(h:Row S w e sz v n xs):∃p cap,v= .slice p n cap/\∀k,k<n->∃g a,p=Z ⟨g,0,Y⟩/\w.heap[g]? =Z (Cl a e (0,0))/\a.toList.take (n*sz)=xs:=by
 rcases h.1.2 with⟨rfl,rfl⟩|⟨g,cap,a,rfl,_,c,_,_,_,b⟩
 ·exact⟨Y,0,rfl,fun k d=>absurd d oM⟩
 ·exact⟨Z ⟨g,0,Y⟩,cap,rfl,fun _ _=>⟨g,a,rfl,c,b⟩⟩
theorem BZ:(prog.info? 71).map (fun i=>i.zero)=Z (Z (H #[I J 0,.slice none 0 0])):=kr
end Gt
namespace Gt
open Mp Bk Fu
def yu:Nat->TypeId|0=>25|1=>69|2=>64|_=>83
def eT:Nat->TypeId|0=>3|1=>213|2=>73|_=>86
def rq:Nat->Nat|0=>1|1=>3|2=>5|_=>3
def fT:Nat->Int->Nat->Vl
 |0,m,_=>I J m
 |1,m,j=>match j with|0=>I J m|1=>I J m|_=>.slice none 0 0
 |2,m,j=>match j with|0=>I J m|1=>I J 0|2=>I J 0|3=>I J m|_=>Bl true
 |_,m,j=>match j with|0=>I J m|1=>I J 0|_=>.slice none 0 0
structure Bd where
 v:Nat->Vl
 m:Nat->Vl
 L:Nat->List (Vl×Int)
 next:Int
def Bd.set(d:Bd)(k:Nat)(vs ms:Vl)(m:Int)(N:List Vl):Bd:=⟨fun j=>if j=k then vs else d.v j,fun j=>if j=k then ms else d.m j,fun j=>if j=k then d.L k++N.map (·,m) else d.L j,m⟩
def kh(d:Bd):Array Vl:= #[d.v 0,d.m 0,.slice none 0 0,.slice none 0 0,d.v 1,d.m 1,d.v 2,d.m 2,d.v 3,d.m 3,I J d.next]
structure uz(C:Nat->Nat->Prop)(w:D)(k:Nat)(vs ms:Vl)(L:List (Vl×Int)):Prop where
 row:Row (fun b=>C b (10+2*k)) w (yu k) 1 vs L.length (L.map aj)
 marks:Row (fun b=>C b (11+2*k)) w 3 1 ms L.length (L.map fun p=>hE p.2)
 all:∀p∈L,Fl w (eT k) (rq k) (fT k p.2) p.1/\∀b,p.1.ownBlock=Z b->C b 18
theorem uz.congr{C f:Nat->Nat->Prop}{w w':D}{k:Nat}{vs ms:Vl}{L:List (Vl×Int)}(h:uz C w k vs ms L)(c:∀b j,C b j->f b j)(e:∀b j,C b j->j=10+2*k\/j=11+2*k\/j=18->w'.heap[b]? =w.heap[b]?):uz f w' k vs ms L:=
 ⟨(h.row.congr fun b a=>e b _ (h.row.2 b a) (oL rfl)).mono fun b=>c b _,(h.marks.congr fun b a=>e b _ (h.marks.2 b a) (oR (oL rfl))).mono fun b=>c b _,fun p d=>⟨(h.all p d).1.congr fun b a=>e b _ ((h.all p d).2 b a) (oR (oR rfl)),fun b a=>c b _ ((h.all p d).2 b a)⟩⟩
structure lH(C:Nat->Nat->Prop)(w:D)(B c:Nat)(d:Bd):Prop where
 one:∀b i j,C b i->C b j->i=j
 lt:∀b i,C b i->b<w.heap.size
 oB:C B 2
 book:w.heap[B]? =Z (Cl (kh d) 32 (0,0))
 pU:∀k,k<4->uz C w k (d.v k) (d.m k) (d.L k)
 next: -(c:Int)<=d.next/\d.next<=0
 kB:∀k,k<4->(d.L k).length<=c
namespace lH
variable {C:Nat->Nat->Prop} {w w':D} {B c:Nat} {d:Bd}
theorem congr(h:lH C w B c d)(g:w.heap.size<=w'.heap.size)(e:∀b j,C b j->w'.heap[b]? =w.heap[b]?):lH C w' B c d:=
 ⟨h.one,fun b i a=>aB (h.lt b i a) g,h.oB,(e B 2 h.oB).trans h.book,fun k f=>(h.pU k f).congr (fun _ _ h=>h) fun b j a _=>e b j a,h.next,h.kB⟩
theorem below(h:lH C w B c d)(a:O w.heap.size w w'):lH C w' B c d:=h.congr a.size fun b j e=>a.block b (h.lt b j e)
theorem more(h:lH C w B c d){c':Nat}(a:c<=c'):lH C w B c' d:=⟨h.one,h.lt,h.oB,h.book,h.pU,⟨by have:=h.next;omega,h.next.2⟩,fun k b=>Nat.le_trans (h.kB k b) a⟩
end lH
def kU(C:Nat->Nat->Prop)(S:Nat->Prop)(w w':D)(B c:Nat):Prop:=∃a d,lH a w' B c d/\(∀b i,C b i->a b i)/\(∀b i,a b i->C b i\/w.heap.size<=b\/S b)/\Fr (fun b=>(∃i,C b i)\/S b) w.heap.size w w'
theorem kU.step{C d:Nat->Nat->Prop}{S T:Nat->Prop}{u v w:D}{B c:Nat}(h2:∀b i,C b i->d b i)(h3:∀b i,d b i->C b i\/u.heap.size<=b\/S b)(e:Fr (fun b=>(∃i,C b i)\/S b) u.heap.size u v)(k:kU d T v w B c):kU C (fun b=>S b\/T b) u w B c:=by
 obtain⟨f,d2,k1,k2,k3,k4⟩:=k;have g:=e.size;refine⟨f,d2,k1,fun b i a=>k2 b i (h2 b i a),fun b i a=> ?_,?_⟩
 ·rcases k3 b i a with x|x|x
  ·exact(h3 b i x).elim oL fun x=>oR (x.elim oL fun x=>oR (oL x))
  ·exact oR (oL oM)
  ·exact oR (oR (oR x))
 ·refine(e.mono lR fun b _ a=>a.elim oL fun x=>oR (oL x)).trans (k4.mono g fun b h a=> ?_)
  rcases a with⟨i,x⟩|x
  ·rcases h3 b i x with x|x|x
   ·exact oL ⟨i,x⟩
   ·omega
   ·exact oR (oL x)
  ·exact oR (oR x)
theorem lH.push{C:Nat->Nat->Prop}{w w':D}{B c:Nat}{d:Bd}(h:lH C w B c d){k:Nat}(M:k<4){S:Nat->Prop}(A:∀b j,S b->¬C b j){vs ms:Vl}(K:N.length<=4)
  (s:Fr (fun b=>b=B\/C b (10+2*k)\/C b (11+2*k)\/S b) w.heap.size w w')
  (H:w'.heap[B]? =Z (Cl (kh (d.set k vs ms (d.next-1) N)) 32 (0,0)))
  (hv:Row (fun b=>C b (10+2*k)\/w.heap.size<=b) w' (yu k) 1 vs ((d.L k).length+N.length) ((d.L k).map aj++N))
  (t:Row (fun b=>C b (11+2*k)\/w.heap.size<=b) w' 3 1 ms ((d.L k).length+N.length) ((d.L k).map (fun p=>hE p.2)++N.map fun _=>hE (d.next-1)))
  (n:∀u∈N,Fl w' (eT k) (rq k) (fT k (d.next-1)) u/\∀b,u.ownBlock=Z b->(S b\/w.heap.size<=b)/\vs.ownBlock≠Z b/\ms.ownBlock≠Z b)
  (G:∀b,vs.ownBlock=Z b->ms.ownBlock≠Z b):kU C S w w' B (c+4):=by
 have J:=s.size;have E:∀b j,C b j->b≠B->j≠10+2*k->j≠11+2*k->w'.heap[b]? =w.heap[b]? :=fun b j f h1 h2 h3=>s.block b (h.lt b j f) fun x=>by
  rcases x with x|x|x|x
  ·exact h1 x
  ·exact h2 (h.one b _ _ f x)
  ·exact h3 (h.one b _ _ f x)
  ·exact A b j x f
 have F:∀b j,C b j->j≠2->b≠B:=fun b j f m e=>m (h.one b _ _ f (e▸h.oB));have z:∀u∈N,∀b,u.ownBlock=Z b->∀j,¬C b j:=fun u hu b f j m=>((n u hu).2 b f).1.elim (fun x=>A b j x m) fun x=>absurd (h.lt b j m) oM;refine⟨fun b j=>C b j\/(j=18/\∃u∈N,u.ownBlock=Z b)\/(j=10+2*k/\vs.ownBlock=Z b/\w.heap.size<=b)\/(j=11+2*k/\ms.ownBlock=Z b/\w.heap.size<=b),_,⟨?_,?_,oL h.oB,H,?_,?_,?_⟩,fun _ _=>Or.inl,?_,?_⟩
 ·rintro b i j (a|⟨a,u,hu,g⟩|⟨a,g,q⟩|⟨a,g,q⟩) (e|⟨e,v,y,l⟩|⟨e,l,I⟩|⟨e,l,I⟩)
  ·exact h.one b i j a e
  ·exact absurd a (z v y b l i)
  ·exact absurd (h.lt b i a) oM
  ·exact absurd (h.lt b i a) oM
  ·exact absurd e (z u hu b g j)
  ·omega
  ·exact absurd l ((n u hu).2 b g).2.1
  ·exact absurd l ((n u hu).2 b g).2.2
  ·exact absurd (h.lt b j e) oM
  ·exact absurd g ((n v y).2 b l).2.1
  ·omega
  ·exact absurd l (G b g)
  ·exact absurd (h.lt b j e) oM
  ·exact absurd g ((n v y).2 b l).2.2
  ·exact absurd g (G b l)
  ·omega
 ·rintro b i (a|⟨a,u,hu,g⟩|⟨a,g,q⟩|⟨a,g,q⟩)
  ·exact aB (h.lt b i a) J
  ·exact(n u hu).1.lt b g
  ·exact hv.lt b g
  ·exact t.lt b g
 ·intro j m
  by_cases e:j=k
  ·subst e
   simp only[Bd.set,if_pos];have r:=h.pU j m;refine⟨?_,?_,fun p o=> ?_⟩
   ·rw[ao,aS,ef,gQ,show N.map (aj∘fun x=>(x,d.next-1))=N from List.map_id N]
    exact⟨hv.1,fun b f=>(hv.2 b f).elim oL fun x=>oR (oR (oL ⟨rfl,f,x⟩))⟩
   ·rw[ao,aS,ef,gQ]
    exact⟨t.1,fun b f=>(t.2 b f).elim oL fun x=>oR (oR (oR ⟨rfl,f,x⟩))⟩
   ·rcases bV.1 o with o|o
    ·exact⟨(r.all p o).1.congr fun b f=>E b 18 ((r.all p o).2 b f) (F b 18 ((r.all p o).2 b f) oM) oM oM,fun b f=>oL ((r.all p o).2 b f)⟩
    ·obtain⟨u,hu,rfl⟩:=List.mem_map.1 o
     exact⟨(n u hu).1,fun b f=>oR (oL ⟨rfl,u,hu,f⟩)⟩
  ·simp only[Bd.set,if_neg e]
   exact(h.pU j m).congr (fun _ _=>Or.inl) fun b i f hi=>E b i f (F b i f oM) oM oM
 ·have:=h.next
  simp only[Bd.set];omega
 ·intro j m
  have:=h.kB j m;simp only[Bd.set];split
  ·rename_i e
   subst e;rw[ao,aS];omega
  ·omega
 ·rintro b i (a|⟨a,u,hu,g⟩|⟨a,g,q⟩|⟨a,g,q⟩)
  ·exact oL a
  ·exact oR (((n u hu).2 b g).1.symm)
  ·exact oR (oL q)
  ·exact oR (oL q)
 ·exact s.mono lR fun b _ f=>by
   rcases f with x|x|x|x
   ·exact oL ⟨2,x▸h.oB⟩
   ·exact oL ⟨_,x⟩
   ·exact oL ⟨_,x⟩
   ·exact oR x
def nA(S:Nat->Prop)(w:D)(e:TypeId)(sz:Nat)(v:Vl)(n:Nat)(f:Nat->Vl)(i:Nat):Prop:=∃xs,Row S w e sz v n xs/\∀j,j<i*sz->xs[j]? =Z (f (j % sz))
theorem nA.done{S:Nat->Prop}{w:D}{v:Vl}{n:Nat}{f:Nat->Vl}(h:nA S w e sz v n f n):Row S w e sz v n (full f sz n):=by
 obtain⟨xs,h,b⟩:=h;have e:xs=full f sz n:=by
  apply List.ext_getElem?;intro j;by_cases a:j<n*sz
  ·rw[b j a,tO a]
  ·rw[bN (by rw[h.length];omega),bN (by rw[oX];omega)]
 rw[<-e];exact h
theorem nA.start{S:Nat->Prop}{w:D}{v:Vl}{n:Nat}(h:Row S w e sz v n xs)(f:Nat->Vl):nA S w e sz v n f 0:=⟨xs,h,fun j a=>oM⟩
theorem nA.at{S:Nat->Prop}{w:D}{e:TypeId}{sz:Nat}{v:Vl}{n:Nat}{f:Nat->Vl}{i:Nat}(h:nA S w e sz v n f i)(y:0<n):∃g cap a,v= .slice (Z ⟨g,0,Y⟩) n cap/\S g/\w.heap[g]? =Z (Cl a e (0,0))/\n*sz<=a.size/\∀w' vs,w'.heap[g]? =Z (Cl (Ks.setL a (i*sz) vs) e (0,0))->vs.length=sz->(∀j,j<sz->vs[j]? =Z (f j))->i<n->nA S w' e sz v n f (i+1):=by
 obtain⟨xs,h,s⟩:=h;rcases h.cases with⟨_,t,_⟩|⟨g,cap,a,rfl,d,l,b,k,c,q⟩
 ·omega
 have p:n*sz<=a.size:=by rw[c];exact gk _ b
 refine⟨g,cap,a,rfl,d,l,p,fun w' vs r o hv hi=> ?_⟩;have x:i*sz+sz<=n*sz:=by
  have:=gk sz hi;rwa [jO] at this
 refine⟨(Ks.setL a (i*sz) vs).toList.take (n*sz),⟨⟨?_,oR ⟨g,cap,_,rfl,aF _,r,b,k,by rw[Ks.yS];exact c,rfl⟩⟩,h.2⟩,fun j m=> ?_⟩
 ·rw[List.length_take,Array.length_toList,Ks.yS]
  omega
 ·rw[jO] at m
  rw[aO oM,Array.getElem?_toList,Ks.zn _ _ _ _ oM,o];split
  ·rename_i u
   rw[hv _ oM,show j % sz=j-i*sz from ?_];rw[show j=i*sz+(j-i*sz) from by omega,Nat.add_comm,bJ,Nat.add_mul_mod_self_left,Nat.mod_eq_of_lt (by rw[bJ];omega)];rw[bJ];omega
  ·have:=s j oM
   rw[<-q,aO oM] at this;simpa using this
namespace lH
variable {C:Nat->Nat->Prop} {S:Nat->Prop} {w w3 w4 w5 w6 w7:D} {B c:Nat} {d:Bd} {k:Nat}
theorem ne(h:lH C w B c d){b j:Nat}(a:C b j)(f:j≠2):b≠B:=fun e=>f (h.one b _ _ a (e▸h.oB))
theorem vx(h:lH C w B c d)(l:k<4)(g:∀b j,S b->¬C b j)(h3:Fr (fun b=>b=B\/S b) w.heap.size w w3):Row (fun b=>C b (10+2*k)) w3 (yu k) 1 (d.v k) (d.L k).length ((d.L k).map aj)/\Row (fun b=>C b (11+2*k)) w3 3 1 (d.m k) (d.L k).length ((d.L k).map fun p=>hE p.2):=by
 have e:=h.pU k l;have f:∀b j,C b j->j≠2->w3.heap[b]? =w.heap[b]? :=fun b j a i=>h3.block b (h.lt b j a) fun x=>x.elim (h.ne a i) fun x=>g b j x a;exact⟨e.row.congr fun b a=>f b _ (e.row.2 b a) oM,e.marks.congr fun b a=>f b _ (e.marks.2 b a) oM⟩
theorem xI(h:lH C w B c d)(l:k<4)(i:∀b j,S b->¬C b j)(h3:Fr (fun b=>b=B\/S b) w.heap.size w w3)(f:Fr (fun b=>(d.v k).ownBlock=Z b) w3.heap.size w3 w4)(g:Fr (fun b=>b=B) w4.heap.size w4 w5):Row (fun b=>C b (11+2*k)) w5 3 1 (d.m k) (d.L k).length ((d.L k).map fun p=>hE p.2):=by
 have a:=h.vx l i h3;exact a.2.congr fun b e=>(g.block b (aB (a.2.lt b e) f.size) (h.ne (a.2.2 b e) oM)).trans (f.block b (a.2.lt b e) fun x=>absurd (h.one b _ _ (a.2.2 b e) (a.1.2 b x)) oM)
theorem xH(h:lH C w B c d)(e:k<4)(h3:w3.heap[B]? =Z (Cl Xa 32 (0,0)))(a:Fr (fun b=>(d.v k).ownBlock=Z b) w3.heap.size w3 w4):w4.heap[B]? =Z (Cl Xa 32 (0,0)):=
 (a.block B (aL h3) fun x=>h.ne ((h.pU k e).row.2 B x) oM rfl).trans h3
theorem xJ(h:lH C w B c d)(f:k<4)(a:w5.heap[B]? =Z (Cl Xa 32 (0,0)))(e:Fr (fun b=>(d.m k).ownBlock=Z b) w5.heap.size w5 w6):w6.heap[B]? =Z (Cl Xa 32 (0,0)):=
 (e.block B (aL a) fun x=>h.ne ((h.pU k f).marks.2 B x) oM rfl).trans a
theorem fin(h:lH C w B c d)(D:k<4)(t:∀b j,S b->¬C b j){vs ms:Vl}(I:N.length<=4)(h3:Fr (fun b=>b=B\/S b) w.heap.size w w3)
  (q:∀u∈N,Fl w3 (eT k) (rq k) (fT k (d.next-1)) u/\∀b,u.ownBlock=Z b->S b\/w.heap.size<=b)
  (hv:Row (fun b=>C b (10+2*k)\/w3.heap.size<=b) w4 (yu k) 1 vs ((d.L k).length+N.length) ((d.L k).map aj++N)) (r:Fr (fun b=>(d.v k).ownBlock=Z b) w3.heap.size w3 w4)
  (l:Fr (fun b=>b=B) w4.heap.size w4 w5)
  (i:Row (fun b=>C b (11+2*k)\/w5.heap.size<=b) w6 3 1 ms ((d.L k).length+N.length) ((d.L k).map (fun p=>hE p.2)++N.map fun _=>hE (d.next-1))) (n:Fr (fun b=>(d.m k).ownBlock=Z b) w5.heap.size w5 w6)
  (o:Fr (fun b=>b=B) w6.heap.size w6 w7)
  (H:w7.heap[B]? =Z (Cl (kh (d.set k vs ms (d.next-1) N)) 32 (0,0))):kU C S w w7 B (c+4):=by
 have g:=h.pU k D;have s3:=h3.size;have K:=r.size;have M:=l.size;have O:=n.size;have E:∀b,vs.ownBlock=Z b->b≠B/\(d.m k).ownBlock≠Z b/\b<w4.heap.size:=fun b a=>by
  refine⟨fun e=> ?_,fun e=> ?_,hv.lt b a⟩
  ·rcases hv.2 b a with x|x
   ·exact h.ne x oM e
   ·have:=h.lt B 2 h.oB
    omega
  ·rcases hv.2 b a with x|x
   ·exact absurd (h.one b _ _ x (g.marks.2 b e)) oM
   ·have:=g.marks.lt b e
    omega
 have J:∀b,ms.ownBlock=Z b->b≠B:=fun b a e=>by
  rcases i.2 b a with x|x
  ·exact h.ne x oM e
  ·have:=h.lt B 2 h.oB
   omega
 have s:∀u∈N,∀b,u.ownBlock=Z b->b<w3.heap.size/\∀j,¬C b j:=fun u hu b a=>⟨(q u hu).1.lt b a,fun j A=>((q u hu).2 b a).elim (fun x=>t b j x A) fun x=>absurd (h.lt b j A) oM⟩;refine h.push D t (vs:=vs) (ms:=ms) I ?_ H ?_ ?_ ?_ ?_
 ·have F:Fr (fun b=>b=B\/C b (10+2*k)\/C b (11+2*k)\/S b) w.heap.size w w3:=h3.mono lR fun b _ x=>x.elim oL fun x=>oR (oR (oR x))
  have G:=F.trans (r.mono s3 fun b _ x=>oR (oL (g.row.2 b x)));have f6:=(G.trans (l.mono oM fun b _ x=>oL x)).trans (n.mono oM fun b _ x=>oR (oR (oL (g.marks.2 b x))));exact f6.trans (o.mono oM fun b _ x=>oL x)
 ·refine(hv.congr fun b a=> ?_).mono fun b a=>a.elim oL fun x=>oR oM
  have:=E b a;exact(o.block b oM this.1).trans ((n.block b oM this.2.1).trans (l.block b this.2.2 this.1))
 ·exact(i.congr fun b a=>o.block b (i.lt b a) (J b a)).mono fun b a=>a.elim oL fun x=>oR oM
 ·intro u hu
  refine⟨(q u hu).1.congr fun b a=> ?_,fun b a=>⟨(q u hu).2 b a,fun e=> ?_,fun e=> ?_⟩⟩
  ·have f:=s u hu b a
   have z:b≠B:=fun e=>f.2 2 (e▸h.oB);exact(o.block b oM z).trans ((n.block b oM fun x=>f.2 _ (g.marks.2 b x)).trans ((l.block b oM z).trans (r.block b f.1 fun x=>f.2 _ (g.row.2 b x))))
  ·have f:=s u hu b a
   exact(hv.2 b e).elim (f.2 _) fun x=>oM
  ·have f:=s u hu b a
   exact(i.2 b e).elim (f.2 _) fun x=>oM
 ·intro b a e
  have:=E b a;rcases i.2 b e with x|x
  ·rcases hv.2 b a with y|y
   ·exact absurd (h.one b _ _ x y) oM
   ·have:=h.lt b _ x
    omega
  ·omega
