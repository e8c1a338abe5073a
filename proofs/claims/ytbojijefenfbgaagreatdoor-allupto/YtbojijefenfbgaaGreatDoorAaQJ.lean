/- Regions that draw their order: whatever may be said of the operations that have come up, their values and the world, if each that comes up keeps it (wp_relJ); and what follows of it. -/
import Derived.Test.YtbojijefenfbgaaGreatDoorAaShort
import Derived.Test.YtbojijefenfbgaaGreatDoorAaOwn
open Go.Instr renaming loadAt->cJ,sureAddr->bG,storeAt->kH
open Go.Sem renaming run_bind->aH,run_pure->aR
open Go.Result renaming andThen_ok->ar
open Go.Region renaming wanted->ah,waitsFor->aI,binds->iM,waitsFor_spec->eh,noSelect_spec->iS
open Go.Code renaming region->bS
open List renaming take_append_drop->cb,mem_cons_of_mem->fM,mem_cons_self->jF,mem_iff_getElem?->bj,take_zero->aE,take_succ_cons->ak,range->eE,getElem?_drop->gC,all_eq_true->cU,mem_range->cL,contains_iff_mem->jb,getElem?_take_of_lt->aO,mem_append_left->cQ,mem_filterMap->jG,take_take->fN,take_add_one->ee
open Nat renaming lt_or_ge->ja,add_zero->eb,zero_add->bC,le_of_not_lt->kp,min_eq_left->eI,le_refl->bA
open Array renaming getD_eq_getD_getElem?->aV,getElem?_eq_none->dY,getElem?_setIfInBounds->db,getElem?_eq_getElem->dA,all_eq_true_iff_forall_mem->dZ,replicate->fu
open Go.Act renaming put->aD,eval_put->gM
open Option renaming bind_some->eW
open Bool renaming and_eq_true->aX,or_eq_true->ib,not_eq_true'->gS,noConfusion->aW
open Option renaming some->Z,none->Y
open Go.Value renaming pointer->X,agg->H
open Go.Obj renaming cells->Cl
open Go.Ending renaming returned->Re
open Go renaming World->D,Value->Vl
open Go.RowKit renaming Below->O
set_option maxHeartbeats 4000000
open Go Go.RowKit
variable{G:Bool->D->Prop}{R:Vl->D->Prop}{T:Nat->D->D->Prop}{U:Nat->Vl}{b:Nat->Bool}{i j m:Nat}{ops:Array Oper}{r:Result Next}{u:Vl}
namespace Go.Proofs.YtbojijefenfbgaaGreatDoor
namespace Qt
def AU(P:Program)(w:D)(v:Vl):Result Next->Prop
 | .ok (.value u) w1=>w1=w/\u=v
 | .ok (.enter f args) w1=>w1=w/\Calls P f args w (fun e a=>e=Re v/\O w.heap.size w a)
 |_=>False
def Yb(P:Program)(W:D)(o:Oper)(v:Vl)(a:Act):Prop:=o.guard=Y/\∀w,O W.heap.size W w->AU P w v ((execOp a.eval o).run P w)
theorem Yb.wp{P:Program}{W w:D}{o:Oper}{v:Vl}{a:Act}{Q:Exit->Act->D->Prop}{K:Act->D->Prop}(h:Yb P W o v a)(k:O W.heap.size W w)(c:∀w',O w.heap.size w w'->K (a.put o.dst v) w'):o.wp P a w K Q:=by
 have h1:=h.2 w k;unfold Oper.wp;generalize (execOp a.eval o).run P w=r at h1;cases r with
 |halt x w'=>cases h1
 |ok x w'=>
  cases x with
  |value u=>
   obtain⟨b,d⟩:=h1;subst b d;exact c _ bR
  |enter f args=>
   obtain⟨b,i⟩:=h1;subst b;exact i.mono fun e l ⟨j,g⟩=>by subst j;exact c _ g
  |_=>cases h1
def Lex(P:Program)(W:D)(K:Act->Prop):List Oper->Act->Prop
 |[],a=>K a
 |o::l,a=>∃v,Yb P W o v a/\Lex P W K l (a.put o.dst v)
section
variable {P:Program} {W:D} {K:Act->Prop} {l:List Oper} {o:Oper} {a:Act}
theorem gh(h:K a):Lex P W K [] a:=h
theorem kb(b:o.guard=Y)(v:Vl)(hv:∀w',O W.heap.size W w'->(execOp a.eval o).run P w'= .ok (.value v) w')(h:Lex P W K l (a.put o.dst v)):Lex P W K (o::l) a:=
 ⟨v,⟨b,fun w' c=>by rw[hv w' c];exact⟨rfl,rfl⟩⟩,h⟩
theorem ev(c:o.guard=Y)(f:FuncId)(args:Array Vl)(v:Vl)(hv:∀w',(execOp a.eval o).run P w'= .ok (.enter f args) w')(b:∀w',O W.heap.size W w'->Calls P f args w' fun e g=>e=Re v/\O w'.heap.size w' g)
  (h:Lex P W K l (a.put o.dst v)):Lex P W K (o::l) a:=
 ⟨v,⟨c,fun w' d=>by rw[hv w'];exact⟨rfl,b w' d⟩⟩,h⟩
theorem nn(c:o.guard=Y)(ty:TypeId)(x:Operand)(f:o.op= .load ty x)(g:Nat)(j:a.eval x=X (Z ⟨g,0,Y⟩))(t:TypeId)(cs:Array Vl)(fr:Nat×Nat)(d:TypeDesc)(b:W.heap[g]? =Z (Cl cs t fr))
  (hu:P.underlying ty=Z d) (hd:(match d with| .struct _| .array _ _=>true|_=>false)=true) (hi:(P.info? ty).map (·.size)=Z cs.size)
  (h:Lex P W K l (a.put o.dst (H cs))):Lex P W K (o::l) a:=by
 refine kb c (H cs) (fun w' i=> ?_) h;have e:g<W.heap.size:=(aL b);unfold execOp;simp only[f,j,cJ,bG,aH,aR,ar,run_loadVar_row w' g t ty cs fr d ((i.block g e).trans b) hu hd hi]
theorem um(f:o.guard=Y)(ty:TypeId)(x:Operand)(i:o.op= .load ty x)(b off:Nat)(m:a.eval x=X (Z ⟨b,off,Y⟩))(cs:List Vl)(d:TypeDesc)(c:b<W.heap.size)(e:W.rangeAt b off cs)
  (hu:P.underlying ty=Z d) (hd:d.isRow=true) (hi:(P.info? ty).map (·.size)=Z cs.length)
  (h:Lex P W K l (a.put o.dst (H cs.toArray))):Lex P W K (o::l) a:=by
 refine kb f (H cs.toArray) (fun w' k=> ?_) h;unfold execOp;simp only[i,m,cJ,bG,aH,aR,ar,run_loadVar_mid w' b off ty cs d (fun j v g=>by rw[k.cell (by exact c)];exact e j v g) hu hd hi]
theorem Lex.quiet(h:Lex P W K l a):wpQuiet P ops (BW W) K l a:=by
 induction l generalizing a with
 |nil=>exact h
 |cons o l ih=>
  obtain⟨v,c,i⟩:=h;unfold wpQuiet;rw[if_pos (by simp[ah,c.1])];refine⟨v,fun w' j=> ?_,ih i⟩;have b:O W.heap.size W w':=j;have h1:=c.2 w' b;unfold Oper.quietAt;generalize (execOp a.eval o).run P w'=r at h1⊢;cases r with
  |halt x w1=>cases h1
  |ok x w1=>
   cases x with
   |value u=>exact h1
   |enter f args=>exact⟨h1.1,h1.2.mono fun e k ⟨g,d⟩=>⟨g,b.trans (d.mono b.size)⟩⟩
   |_=>cases h1
end
theorem im{P:Program}{id:Nat}{Q:Exit->Act->D->Prop}{a:Act}{w:D}{l:List Oper}(n:Nat)(d:P.follows .mixedOrders=true)(c:Region.lexTailB .any l.toArray n=true)
  (h:Lex P w (fun b=>∀w',O w.heap.size w w'->wpList P l.toArray Q (l.drop n) b w') (l.take n) a):(bS id l.toArray true).wp P Q a w:=Di n d c h.quiet
theorem qj{P:Program}{id:Nat}{Q:Exit->Act->D->Prop}{a:Act}{w:D}{l:List Oper}(d:P.follows .mixedOrders=true)(c:Region.lexB .any l.toArray=true)
  (h:Lex P w (fun b=>∀w',O w.heap.size w w'->Q .normal b w') l a):(bS id l.toArray true).wp P Q a w:=lW d c h.quiet
theorem G0{P:Program}{Q:Exit->Act->D->Prop}{r:List Oper}(l:List Oper):∀(a:Act)(w w0:D),O w0.heap.size w0 w->Lex P w0 (fun d=>∀w',O w0.heap.size w0 w'->wpList P ops Q r d w') l a->wpList P ops Q (l++r) a w:=by
 induction l with
 |nil=>intro a w w0 b h;exact h w b
 |cons o l ih=>
  intro a w w0 b h;obtain⟨v,c,g⟩:=h;refine wpList_plain c.1 fun i e=> ?_;refine c.wp b fun w' f=>e _ _ ?_;exact ih _ w' w0 (tR b f) g
theorem Dh{P:Program}{id:Nat}{Q:Exit->Act->D->Prop}{a:Act}{w:D}{l:List Oper}(n:Nat)(h:Lex P w (fun b=>∀w',O w.heap.size w w'->wpList P l.toArray Q (l.drop n) b w') (l.take n) a):(bS id l.toArray false).wp P Q a w:=by
 refine wp_region_list ?_;have:=G0 (ops:=l.toArray) (Q:=Q) (r:=l.drop n) (l.take n) a w w bR h;rwa [cb] at this
theorem Ji{P:Program}{Q:Exit->Act->D->Prop}{a:Act}{w:D}{l:List Oper}(n:Nat)(h:Lex P w (fun b=>∀w',O w.heap.size w w'->wpList P l.toArray Q (l.drop n) b w') (l.take n) a):wpList P l.toArray Q l a w:=by
 have:=G0 (ops:=l.toArray) (Q:=Q) (r:=l.drop n) (l.take n) a w w bR h;rwa [cb] at this
theorem done{P:Program}{K:Act->D->Prop}{Q:Exit->Act->D->Prop}{a:Act}{w:D}(h:K a w):wpList P ops (Exit.then K Q) [] a w:=h
theorem xk{P:Program}{Q:Exit->Act->D->Prop}{a:Act}{w:D}{l:List Oper}(n:Nat)(on:Oper)(k:l[n]? =Z on)(T:TypeId)(t:on.op= .alloc T)(g:Array Vl)(x:(P.info? T).map (fun i=>i.zero)=Z (Z (H g)))(p:on.guard=Y)
  (h:Lex P w (fun j=>∀b w',O w.heap.size w w'->w.heap.size<=b->w'.heap[b]? =Z (Cl g T (0,0))->wpList P l.toArray Q (l.drop (n+1)) (j.put on.dst (X (Z ⟨b,0,Y⟩))) w') (l.take n) a):wpList P l.toArray Q l a w:=by
 refine Ji n ?_;have hd:l.drop n=on::l.drop (n+1):=by
  have r:n<l.length:=(lL k);rw[List.drop_eq_getElem_cons r];congr 1;exact(List.getElem?_eq_some_iff.1 k).2
 have s:∀(d:List Oper)(a:Act)(K c:Act->Prop),(∀a,K a->c a)->Lex P w K d a->Lex P w c d a:=by
  intro d;induction d with
  |nil=>intro a K c e h;exact e _ h
  |cons o d ih=>intro a K c e ⟨v,u,q⟩;exact⟨v,u,ih _ K c e q⟩
 refine s _ _ _ _ (fun j m w' f=> ?_) h;rw[hd];refine Own.nJ _ p T t g x ?_;exact m w'.heap.size _ (f.alloc f.size _) f.size (heap_alloc_new _ _)
theorem rh{P:Program}{id:Nat}{Q:Exit->Act->D->Prop}{a:Act}{w:D}{l:List Oper}(n:Nat)(on:Oper)(f:l[n]? =Z on)(T:TypeId)(g:on.op= .alloc T)(c:Array Vl)(j:(P.info? T).map (fun i=>i.zero)=Z (Z (H c)))(e:on.guard=Y)
  (h:Lex P w (fun d=>∀b w',O w.heap.size w w'->w.heap.size<=b->w'.heap[b]? =Z (Cl c T (0,0))->wpList P l.toArray Q (l.drop (n+1)) (d.put on.dst (X (Z ⟨b,0,Y⟩))) w') (l.take n) a):(bS id l.toArray false).wp P Q a w:=
 wp_region_list (xk n on f T g c j e h)
def oE(P:Program)(w:D)(R:Vl->D->Prop):Result Next->Prop
 | .ok (.value u) w1=>R u w1/\O w.heap.size w w1
 | .ok (.enter f args) w1=>Calls P f args w1 (fun e a=>∃u,e=Re u/\R u a/\O w.heap.size w a)
 |_=>False
theorem oE.wp{P:Program}{w:D}{o:Oper}{R:Vl->D->Prop}{a:Act}{Q:Exit->Act->D->Prop}{K:Act->D->Prop}(h:oE P w R ((execOp a.eval o).run P w))(b:∀u w',R u w'->O w.heap.size w w'->K (a.put o.dst u) w'):o.wp P a w K Q:=by
 unfold Oper.wp;generalize (execOp a.eval o).run P w=r at h;cases r with
 |halt x w'=>cases h
 |ok x w'=>
  cases x with
  |value u=>exact b _ _ h.1 h.2
  |enter f args=>exact Calls.mono h fun e i ⟨u,d,g,c⟩=>by subst d;exact b _ _ g c
  |_=>cases h
def laid(U:Nat->Vl)(listed:Array Bool):List Oper->Nat->Act->Act
 |[],_,a=>a
 |o::l,k,a=>laid U listed l (k+1) (if listed.getD k false=true then a.put o.dst (U k) else a)
def gu(U:Nat->Vl):List Oper->Nat->Act->Act
 |[],_,a=>a
 |o::l,k,a=>gu U l (k+1) (a.put o.dst (U k))
theorem Pa(U:Nat->Vl)(listed:Array Bool)(x:Option Tmp)(v:Vl)(l:List Oper):∀k a,(∀o∈l,∀d,x=Z d->o.dst≠Z d)->laid U listed l k (a.put x v)=(laid U listed l k a).put x v:=by
 induction l with
 |nil=>intros;rfl
 |cons o l ih=>
  intro k a h;unfold laid;by_cases b:listed.getD k false=true
  ·rw[if_pos b,if_pos b,<-ih _ _ fun e c=>h e (fM _ c),Act.put_comm a v (U k) (h o (jF ..))]
  ·rw[if_neg b,if_neg b]
   exact ih _ _ fun e c=>h e (fM _ c)
theorem XR(U V:Nat->Vl)(b c:Array Bool)(l:List Oper):∀k a,(∀j,k<=j->b.getD j false=c.getD j false/\U j=V j)->laid U b l k a=laid V c l k a:=by
 induction l with
 |nil=>intros;rfl
 |cons o l ih=>
  intro k a h;unfold laid;rw[(h k lR).1,(h k lR).2];exact ih _ _ fun j d=>h j oM
theorem Pb(U:Nat->Vl)(listed:Array Bool)(i:Nat)(u:Vl)(oi:Oper)(hi:listed.getD i true=false)(l:List Oper):∀k a,k<=i->l[i-k]? =Z oi->(∀j o,l[j]? =Z o->k+j≠i->∀d,oi.dst=Z d->o.dst≠Z d)->
  laid (fun j=>if j=i then u else U j) (listed.setIfInBounds i true) l k a=(laid U listed l k a).put oi.dst u:=by
 have m:i<listed.size:=by
  rcases ja i listed.size with h|h
  ·exact h
  ·simp[aV,dY h] at hi
 induction l with
 |nil=>intro k a _ h;simp at h
 |cons o l ih=>
  intro k a n c hd;unfold laid;by_cases e:k=i
  ·subst e
   have h1:(listed.setIfInBounds k true).getD k false=true:=by simp[aV,m]
   have h2:¬listed.getD k false=true:=by rw[getD_both hi];decide
   rw[if_pos h1,if_neg h2,if_pos rfl];have f:o=oi:=by simpa using c
   subst f;rw[<-Pa _ _ _ _ _ _ _ (fun g f=>by
    obtain⟨j,b⟩:=bj.1 f;exact hd (j+1) g (by simpa using b) oM)]
   exact XR _ _ _ _ _ _ _ fun j b=>⟨getD_set_ne false oM,if_neg oM⟩
  ·have h1:(listed.setIfInBounds i true).getD k false=listed.getD k false:=getD_set_ne false (Ne.symm e)
   rw[h1,if_neg e];exact ih _ _ oM (by rw[show i-k=(i-(k+1))+1 by omega] at c;simpa using c) fun j g b p=>hd (j+1) g (by simpa using b) oM
theorem O7(U:Nat->Vl)(listed:Array Bool)(l:List Oper):∀k a,(∀j,k<=j->j<k+l.length->listed.getD j false=true)->laid U listed l k a=gu U l k a:=by
 induction l with
 |nil=>intros;rfl
 |cons o l ih=>
  intro k a h;unfold laid gu;rw[if_pos (h k lR sP)];exact ih _ _ fun j h1 h2=>h j oM (by simp at h2⊢;omega)
theorem IM(U:Nat->Vl)(listed:Array Bool)(x:Operand)(l:List Oper):∀k (a c:Act),a.tmps.size=c.tmps.size->a.eval x=c.eval x->(∀j o,l[j]? =Z o->∀d,o.dst=Z d->x= .tmp d->listed.getD (k+j) false=true)->(laid U listed l k a).eval x=(gu U l k c).eval x:=by
 induction l with
 |nil=>intro k a c _ h _;exact h
 |cons o l ih=>
  intro k a c i e h;unfold laid gu;have n:∀(b:Act) d v,(b.put d v).tmps.size=b.tmps.size:=fun b d v=>by cases d<;>simp[aD]
  refine ih _ _ _ ?_ ?_ fun j p m d hd g=>by
   have:=h (j+1) p (by simpa using m) d hd g;rwa [show k+(j+1)=k+1+j by omega] at this
  ·split<;>simp[n,i]
  ·by_cases f:listed.getD k false=true
   ·rw[if_pos f]
    cases hd:o.dst with
    |none=>exact e
    |some d=>
     cases x with
     |tmp t=>
      simp only[Act.eval,aD,aV,db,i] at e⊢;split
      ·rfl
      ·exact e
     |_=>exact e
   ·rw[if_neg f,gM (fun d hd g=>f (h 0 o rfl d hd g))]
    exact e
def left(listed:Array Bool):Nat->Nat
 |0=>0
 |n+1=>left listed n+(if listed.getD n true=true then 0 else 1)
theorem IQ(listed:Array Bool)(n:Nat)(h:left listed n=0):∀j,j<n->listed.getD j true=true:=by
 induction n with
 |zero=>intro j b;omega
 |succ n ih=>
  intro j b;unfold left at h;by_cases e:j=n
  ·subst e
   by_cases a:listed.getD j true=true
   ·exact a
   ·rw[if_neg a] at h;omega
  ·exact ih oM j oM
theorem Pd(listed:Array Bool)(i n:Nat)(hi:listed.getD i true=false):left (listed.setIfInBounds i true) n+(if i<n then 1 else 0)=left listed n:=by
 have a:i<listed.size:=by
  rcases ja i listed.size with h|h
  ·exact h
  ·simp[aV,dY h] at hi
 induction n with
 |zero=>simp[left]
 |succ n ih=>
  unfold left;by_cases e:i=n
  ·subst e
   have h1:(listed.setIfInBounds i true).getD i true=true:=by simp[aV,a]
   rw[h1,hi];simp at ih⊢;exact ih
  ·rw[getD_set_ne true e]
   by_cases h:i<n
   ·rw[if_pos h] at ih;rw[if_pos (show i<n+1 by omega)];omega
   ·rw[if_neg h] at ih;rw[if_neg (show¬i<n+1 by omega)];omega
theorem Pc(listed:Array Bool)(n:Nat)(h:0<left listed n):∃j,j<n/\listed.getD j true=false/\∀k,k<j->listed.getD k true=true:=by
 induction n with
 |zero=>simp[left] at h
 |succ n ih=>
  by_cases b:0<left listed n
  ·obtain⟨j,h1,h2⟩:=ih b
   exact⟨j,oM,h2⟩
  ·refine⟨n,oM,?_,IQ _ _ oM⟩
   unfold left at h;by_cases a:listed.getD n true=true
   ·rw[if_pos a] at h;omega
   ·simpa using a
theorem IH{listed:Array Bool}(a:j<listed.size)(h:listed.getD j true=true):listed.getD j false=true:=by
 simp[aV,a] at h⊢;exact h
theorem vc(U V:Nat->Vl)(l:List Oper):∀k a,(∀j,k<=j->j<k+l.length->U j=V j)->gu U l k a=gu V l k a:=by
 induction l with
 |nil=>intros;rfl
 |cons o l ih=>
  intro k a h;unfold gu;rw[h k lR sP];exact ih _ _ fun j h1 h2=>h j oM (by simp at h2⊢;omega)
theorem xq(U:Nat->Vl)(b c:List Oper):∀k a,gu U (b++c) k a=gu U c (k+b.length) (gu U b k a):=by
 induction b with
 |nil=>intro k a;simp[gu]
 |cons o l ih=>
  intro k a;simp only[List.cons_append,gu,ih,List.length_cons];rw[show k+1+l.length=k+(l.length+1) by omega]
theorem zl(b:Act)(d:Option Tmp)(v:Vl):(b.put d v).tmps.size=b.tmps.size:=by cases d<;>simp[aD]
theorem Yc(U V:Nat->Vl)(x:Operand)(l:List Oper):∀k (a b:Act),a.tmps.size=b.tmps.size->a.eval x=b.eval x->(∀j o,l[j]? =Z o->∀d,o.dst=Z d->x= .tmp d->U (k+j)=V (k+j))->(gu U l k a).eval x=(gu V l k b).eval x:=by
 induction l with
 |nil=>intro k a b _ h _;exact h
 |cons o l ih=>
  intro k a b i c h;unfold gu;refine ih _ _ _ (by rw[zl,zl];exact i) ?_ fun j p n d hd f=>by
   have:=h (j+1) p (by simpa using n) d hd f;rwa [show k+(j+1)=k+1+j by omega] at this
  cases hd:o.dst with
  |none=>exact c
  |some d=>
   cases x with
   |tmp t=>
    by_cases e:d=t
    ·subst e
     have hv:=h 0 o rfl d hd rfl;rw[eb] at hv;simp only[Act.eval,aD,aV,db,i,hv] at c⊢;split
     ·rfl
     ·exact c
    ·rw[gM (fun m g f=>e (by cases g;cases f;rfl)),gM (fun m g f=>e (by cases g;cases f;rfl))]
     exact c
   |_=>exact c
theorem Yr(U:Nat->Vl)(x:Operand)(l:List Oper):∀k (a:Act),(∀o∈l,∀d,o.dst=Z d->x≠ .tmp d)->(gu U l k a).eval x=a.eval x:=by
 induction l with
 |nil=>intros;rfl
 |cons o l ih=>
  intro k a h;unfold gu;rw[ih _ _ fun e b=>h e (fM _ b),gM (fun d hd c=>h o (jF ..) d hd c)]
theorem JD{P:Program}{W:D}{K:Act->Prop}(l:List Oper):∀(k:Nat)(a:Act),Lex P W K l a->∃V:Nat->Vl,(∀i o,l[i]? =Z o->Yb P W o (V (k+i)) (gu V (l.take i) k a))/\K (gu V l k a):=by
 induction l with
 |nil=>intro k a h;exact⟨fun _=>undef,fun i o h=>by simp at h,h⟩
 |cons o l ih=>
  intro k a ⟨v,m,g⟩;obtain⟨c,h1,h2⟩:=ih (k+1) _ g;have d:∀(L:List Oper) b,gu (fun j=>if j=k then v else c j) L (k+1) b=gu c L (k+1) b:=fun L b=>vc _ _ _ _ _ fun j n _=>if_neg oM;refine⟨fun j=>if j=k then v else c j,fun i f hi=> ?_,?_⟩
  ·rcases i with _|i
   ·have e:f=o:=by simpa using hi.symm
    subst e;simp only[aE,gu,eb,if_pos];exact m
   ·simp only[ak,gu,if_pos,d]
    have:=h1 i f (by simpa using hi);rw[if_neg oM,show k+(i+1)=k+1+i by omega];exact this
  ·simp only[gu,if_pos,d]
   exact h2
def relGB(ops:Array Oper)(n:Nat):Bool:=
 Region.noSelect ops&&decide (n<=ops.size)&&(eE n).all (fun i=>match (ops[i]?).bind (·.guard) with
  |some g=>aI .any ops i g.1
  |none=>true)&&Region.sinkB .any ops n&&Region.chainB .any ops n&&
 (eE n).all (fun i=>match ops[i]? with
  |some oi=>oi.after.all (fun e=> !iM .any e||decide (e.on<i))&&(eE n).all (fun j=>match ops[j]? with
   |some oj=>(match oj.dst with
    |some d=>(aI .any ops i j|| !(oi.looksAt ops).contains d)&&(i==j||oi.dst !=Z d)
    |none=>true)
   |none=>true)
  |none=>false)&&
 Region.seqB .any ops (ops.size-n) n (Array.ofFn (n:=ops.size) fun i=>decide (i.val<n))
theorem IP(U:Nat->Vl)(listed:Array Bool)(l:List Oper):∀k a,(laid U listed l k a).tmps.size=a.tmps.size:=by
 induction l with
 |nil=>intros;rfl
 |cons o l ih=>
  intro k a;unfold laid;rw[ih];split<;>simp[zl]
theorem IE(U:Nat->Vl)(l:List Oper):∀k a,(gu U l k a).tmps.size=a.tmps.size:=by
 induction l with
 |nil=>intros;rfl
 |cons o l ih=>
  intro k a;unfold gu;rw[ih,zl]
theorem Sr(U:Nat->Vl)(listed:Array Bool)(l:List Oper)(a:Act)(g:Nat)(h:∀j o,l[j]? =Z o->∀d,(ops[g]?).bind (·.dst)=Z d->o.dst=Z d->listed.getD j false=true):yielded ops (laid U listed l 0 a).tmps g=yielded ops (gu U l 0 a).tmps g:=by
 unfold yielded;cases hd:(ops[g]?).bind (·.dst) with
 |none=>rfl
 |some d=>
  have h1:=IM U listed (.tmp d) l 0 a a rfl rfl fun j o e i c f=>by
   cases f;rw[bC];exact h j o e d hd c
  have h2:(laid U listed l 0 a).tmps.getD d undef=(gu U l 0 a).tmps.getD d undef:=h1;have h3:(laid U listed l 0 a).tmps[d]? =(gu U l 0 a).tmps[d]? :=by
   by_cases b:d<a.tmps.size
   ·rw[aV,aV] at h2
    rw[dA (by rw[IP];exact b),dA (by rw[IE];exact b)] at h2⊢;exact congrArg Z h2
   ·rw[dY (kp (by rw[IP];exact b)),dY (kp (by rw[IE];exact b))]
  simp only[eW,h3]
def nD(b:Nat->Bool)(i:Nat):Nat->Bool:=fun j=>if j=i then true else b j
def nE(U:Nat->Vl)(i:Nat)(u:Vl):Nat->Vl:=fun j=>if j=i then u else U j
theorem iK(h:j≠i):nD b i j=b j:=if_neg h
theorem wM:nD b i i=true:=if_pos rfl
theorem lG(h:j≠i):nE U i u j=U j:=if_neg h
theorem qL:nE U i u i=u:=if_pos rfl
def yo(P:Program)(K:Vl->D->Prop):Result Next->Prop
 | .ok (.value u) w1=>K u w1
 | .ok .skip w1=>K undef w1
 | .ok (.enter f args) w1=>Calls P f args w1 (fun e a=>∃u,e=Re u/\K u a)
 |_=>False
theorem yo.wp{P:Program}{w:D}{o:Oper}{R:Vl->D->Prop}{a:Act}{Q:Exit->Act->D->Prop}{K:Act->D->Prop}(h:yo P R ((execOp a.eval o).run P w))(b:∀u w',R u w'->K (a.put o.dst u) w'):o.wp P a w K Q:=by
 unfold Oper.wp;generalize (execOp a.eval o).run P w=r at h;cases r with
 |halt x w'=>cases h
 |ok x w'=>
  cases x with
  |value u=>exact b _ _ h
  |skip=>exact b _ _ h
  |enter f args=>exact Calls.mono h fun e g ⟨u,c,d⟩=>by subst c;exact b _ _ d
  |_=>cases h
section
variable {P:Program} {l:List Oper} {n:Nat} {Ja:(Nat->Bool)->(Nat->Vl)->D->Prop} {a0:Act} {Q:Exit->Act->D->Prop}
theorem PN(K:relGB l.toArray n=true)
  (c9:∀i o,i<n->l[i]? =Z o->∀B U w,Ja B U w->B i=false->(∀j,aI .any l.toArray i j=true->B j=true)->(∀i j,B i=true->aI .any l.toArray i j=true->B j=true)->ah o (yielded l.toArray (gu U (l.take n) 0 a0).tmps)=true/\yo P (fun u w'=>Ja (nD B i) (nE U i u) w') ((execOp (gu U (l.take n) 0 a0).eval o).run P w))
  (a8:∀B U w,(∀j,j<n->B j=true)->Ja B U w->wpList P l.toArray Q (l.drop n) (gu U (l.take n) 0 a0) w) (f:Nat):
  ∀listed U w,left listed n=f->HeadInv .any l.toArray n listed->Ja (fun j=>listed.getD j false) U w->wpAny P .any l.toArray Q (l.toArray.size-n+f) listed (laid U listed (l.take n) 0 a0) w:=by
 simp only[relGB,aX,decide_eq_true_eq] at K;obtain⟨⟨⟨⟨⟨⟨c6,hn⟩,b1⟩,hs⟩,hc⟩,a6⟩,c7⟩:=K;have e4:n<=l.length:=by simpa using hn
 have e1:(l.take n).length=n:=by simp;omega
 have L:(l.drop n).length=l.toArray.size-n:=by simp
 induction f with
 |zero=>
  intro listed U w M inv y;have r:∀j,j<n->listed.getD j false=true:=fun j a=>IH (by rw[inv.size];omega) (IQ _ _ M j a);have hl:listed=Array.ofFn (n:=l.toArray.size) fun i=>decide (i.val<n):=by
   apply Array.ext
   ·simp[inv.size]
   ·intro i h1 h2
    simp only[Array.getElem_ofFn];by_cases k:i<n
    ·have:=r i k
     simp[aV,h1] at this;rw[this];simp[k]
    ·have:=inv.tail i oM (by rw[<-inv.size];exact h1)
     simp[aV,h1] at this;rw[this];simp[k]
  rw[O7 _ _ _ _ _ (fun j _ a=>r j (by rw[e1] at a;omega))];have:=wpAny_of_seq (md:=.any) (Q':=Q) (l.drop n) n listed (gu U (l.take n) 0 a0) w (fun j=>by simp[gC]) (by rw[L,hl];exact c7) (a8 _ U w r y);rw[L] at this;exact this
 |succ f ih=>
  intro listed U w M inv y;have D:∀i,i<n->∃oi,l[i]? =Z oi/\l.toArray[i]? =Z oi/\(∀e∈oi.after,iM .any e=true->e.on<i)/\∀j oj,j<n->l.toArray[j]? =Z oj->∀d,oj.dst=Z d->(aI .any l.toArray i j=true\/d∉oi.looksAt l.toArray)/\(i=j\/oi.dst≠Z d):=by
   intro i hi;have h1:=cU.1 a6 i (cL.2 hi);obtain⟨oi,t⟩:∃oi,l[i]? =Z oi:=⟨l[i],by simp[show i<l.length by omega]⟩;have c:l.toArray[i]? =Z oi:=by simpa using t
   rw[c] at h1;simp only[aX] at h1;refine⟨oi,t,c,fun e q p=> ?_,fun j oj a v d hd=> ?_⟩
   ·have:=dZ.1 h1.1 e q
    simpa [p] using this
   ·have h2:=cU.1 h1.2 j (cL.2 a)
    rw[v] at h2;simp only[hd,aX,ib,beq_iff_eq,bne_iff_ne,gS] at h2;refine⟨h2.1.imp id fun h=> ?_,h2.2⟩;intro hm;rw[jb.2 hm] at h;cases h
  obtain⟨J,N,S,Y⟩:=Pc listed n oM;have R:J∈Region.ready .any l.toArray listed:=by
   obtain⟨o0,_,b8,z,_⟩:=D J N;refine mem_ready.2 ⟨S,o0,b8,fun e q p=> ?_⟩;have:=z e q p;exact IH (by rw[inv.size];omega) (Y _ this)
  refine⟨fun W=>(by rw[W] at R;cases R),fun i hi=> ?_⟩;have k:i<n:=by
   rcases ja i n with h|h
   ·exact h
   ·obtain⟨_,e7,c,_⟩:=mem_ready.1 hi
    have:=(aL c);exact absurd hi (tail_waits hs hc oM inv _ J rfl N S i h)
  obtain⟨H,oi0,c4,r⟩:=mem_ready.1 hi;obtain⟨oi,t,c,z,O⟩:=D i k;obtain rfl:oi0=oi:=Option.some.inj (c4.symm.trans c);have I:∀j,aI .any l.toArray i j=true->listed.getD j false=true:=fun j a=>by
   obtain⟨oj,v,e,q,p,F⟩:=eh a;obtain rfl:oj=oi0:=Option.some.inj (v.symm.trans c);rw[<-F];exact r e q p
  have b0:execOp (laid U listed (l.take n) 0 a0).eval oi0=execOp (gu U (l.take n) 0 a0).eval oi0:=execOp_congr oi0 (fun cs b=>iS c6 i oi0 cs b c) fun x hx=>IM U listed x (l.take n) 0 a0 a0 rfl rfl fun j oj a d hd e3=>by
   have m:j<n:=by
    have:=(lL a);omega
   have s:l.toArray[j]? =Z oj:=by
    rw[aO m] at a;simpa using a
   rcases (O j oj m s d hd).1 with h|h
   ·rw[bC];exact I j h
   ·exact absurd (by
     subst e3;exact cQ _ (jG.2 ⟨.tmp d,by simpa using hx,rfl⟩)) h
  have G:=c9 i oi0 k t _ U w y (getD_both H) I fun i' j' b3 e2=>by
   obtain⟨oj,v,e,q,p,F⟩:=eh e2;have:=inv.closed i' oj v b3 e q p;rwa [F] at this
  rw[<-b0] at G;have b2:ah oi0 (yielded l.toArray (laid U listed (l.take n) 0 a0).tmps)=true:=by
   cases C:oi0.guard with
   |none=>simp[ah,C]
   |some g=>
    have h1:=G.1;have T:aI .any l.toArray i g.1=true:=by
     have h2:=cU.1 b1 i (cL.2 k);rw[c,eW,C] at h2;exact h2
    unfold ah at h1⊢;rw[C] at h1⊢;simp only at h1⊢;rw[Sr U listed (l.take n) a0 g.1 fun j oj a d hd A=> ?_]
    ·exact h1
    ·have m:j<n:=by
      have:=(lL a);omega
     have s:l.toArray[j]? =Z oj:=by
      rw[aO m] at a;simpa using a
     by_cases e:g.1=j
     ·rw[<-e]
      exact I _ T
     ·have E:g.1<n:=by
       obtain⟨o',b7,V,a7,X,e6⟩:=eh T;obtain rfl:o'=oi0:=Option.some.inj (b7.symm.trans c);have:=z V a7 X;omega
      obtain⟨og,_,c0,_,b6⟩:=D g.1 E;rw[c0,eW] at hd;rcases (b6 j oj m s d A).2 with h3|h3
      ·exact absurd h3 e
      ·exact absurd hd h3
  unfold wpOp;simp only[c];rw[if_pos b2];refine .inl (G.2.wp fun u w' hu=> ?_);have c8:=Pb U listed i u oi0 H (l.take n) 0 a0 oM (by rw[Nat.sub_zero,aO k];exact t) (fun j o a e5 d hd A=>by
   have m:j<n:=by
    have:=(lL a);omega
   have s:l.toArray[j]? =Z o:=by
    rw[aO m] at a;simpa using a
   rcases (O j o m s d A).2 with h|h
   ·omega
   ·exact h hd)
  rw[<-c8];refine ih _ _ _ ?_ (inv.set hi k) ?_
  ·have:=Pd listed i n H
   rw[if_pos k] at this;omega
  ·have e:(fun j=>(listed.setIfInBounds i true).getD j false)=fun j=>if j=i then true else listed.getD j false:=funext fun j=>by
    by_cases e:j=i
    ·subst e
     have E:j<listed.size:=by rw[inv.size];omega
     simp[aV,E]
    ·rw[if_neg e]
     exact getD_set_ne false (Ne.symm e)
   rw[e];exact hu
end
def Up(P:Program)(K:Vl->D->Prop)(r:Result Next):Prop:=(∃u w',r= .ok (.value u) w'/\K u w')\/(∃w',r= .ok .skip w'/\K undef w')\/∃f args w',r= .ok (.enter f args) w'/\Calls P f args w' fun e a=>∃u,e=Re u/\K u a
theorem Up.U1{P:Program}{K:Vl->D->Prop}(h:Up P K r):yo P K r:=by
 rcases h with⟨u,w',rfl,h⟩|⟨w',rfl,h⟩|⟨f,args,w',rfl,h⟩<;>exact h
theorem pD{B:Nat->Bool}{R:Nat->Nat->Bool}(a:∀i j,B i=true->R i j=true->B j=true){k:Nat}(h:B i=false)(c:R k i=true):B k=false:=by
 cases b:B k with
 |false=>rfl
 |true=>
  have:=a k i b c;rw[h] at this;cases this
theorem vl{P:Program}{id:Nat}{Q:Exit->Act->D->Prop}{a:Act}{w:D}{l:List Oper}(n:Nat)(Ja:(Nat->Bool)->(Nat->Vl)->D->Prop)(v:P.follows .mixedOrders=true)(c:relGB l.toArray n=true)(p:Ja (fun _=>false) (fun _=>undef) {w with drawn:=w.drawn+1})
  (g:∀i o,i<n->l[i]? =Z o->∀B U w,Ja B U w->B i=false->(∀j,aI .any l.toArray i j=true->B j=true)->(∀i j,B i=true->aI .any l.toArray i j=true->B j=true)->ah o (yielded l.toArray (gu U (l.take n) 0 a).tmps)=true/\Up P (fun u w'=>Ja (nD B i) (nE U i u) w') ((execOp (gu U (l.take n) 0 a).eval o).run P w))
  (q:∀B U w,(∀j,j<n->B j=true)->Ja B U w->wpList P l.toArray Q (l.drop n) (gu U (l.take n) 0 a) w):(bS id l.toArray true).wp P Q a w:=by
 refine wp_region_any v ?_;have z:n<=l.toArray.size:=by
  simp only[relGB,aX,decide_eq_true_eq] at c;exact c.1.1.1.1.1.2
 have y:HeadInv .any l.toArray n (fu l.toArray.size false):=
  ⟨sP,fun j oj _ e=>(by rw[getD_replicate_false] at e;cases e),fun t _ x=>getD_in (by simpa using x) (getD_replicate_false _ _)⟩
 have s:∀m,m<=l.toArray.size->left (fu l.toArray.size false) m=m:=by
  intro m;induction m with
  |zero=>intro _;rfl
  |succ m ih=>
   intro h;unfold left;rw[ih oM,getD_in (by simp at h⊢;omega) (getD_replicate_false _ _)];rfl
 have r:∀(b:List Oper) k,laid (fun _=>undef) (fu l.toArray.size false) b k a=a:=by
  intro b;induction b with
  |nil=>intro k;rfl
  |cons o b ih=>
   intro k;unfold laid;rw[if_neg (by rw[getD_replicate_false];decide)];exact ih _
 have:=PN (P:=P) (Q:=Q) (a0:=a) c (fun i o hi f B U w d h1 h2 h3=>⟨(g i o hi f B U w d h1 h2 h3).1,(g i o hi f B U w d h1 h2 h3).2.U1⟩) q n (fu l.toArray.size false) (fun _=>undef) {w with drawn:=w.drawn+1} (s n oM) y (by simp only[getD_replicate_false];exact p);rw[r,show l.toArray.size-n+n=l.toArray.size by omega] at this;exact this
theorem Up.mono{P:Program}{K d:Vl->D->Prop}{r:Result Next}(h:Up P K r)(c:∀u w,K u w->d u w):Up P d r:=by
 rcases h with⟨u,w',e,h⟩|⟨w',e,h⟩|⟨f,args,w',e,h⟩
 ·exact oL ⟨u,w',e,c _ _ h⟩
 ·exact oR (oL ⟨w',e,c _ _ h⟩)
 ·exact oR (oR ⟨f,args,w',e,h.mono fun e g ⟨u,a,b⟩=>⟨u,a,c _ _ b⟩⟩)
theorem oE.up{P:Program}{w:D}(h:oE P w R r):Up P (fun u w'=>R u w'/\O w.heap.size w w') r:=by
 cases r with
 |halt x w'=>cases h
 |ok x w'=>
  cases x with
  |value u=>exact oL ⟨u,w',rfl,h⟩
  |enter f args=>exact oR (oR ⟨f,args,w',rfl,h⟩)
  |_=>cases h
theorem AU.up{P:Program}{w:D}{v:Vl}(h:AU P w v r):Up P (fun u w'=>u=v/\O w.heap.size w w') r:=by
 cases r with
 |halt x w'=>cases h
 |ok x w'=>
  cases x with
  |value u=>exact oL ⟨u,w',rfl,h.2,h.1▸Below.refl _ _⟩
  |enter f args=>
   obtain⟨rfl,c⟩:=h;exact oR (oR ⟨f,args,_,rfl,c.mono fun e d ⟨a,b⟩=>⟨v,a,rfl,b⟩⟩)
  |_=>cases h
section
variable {P:Program} {id:Nat} {Q:Exit->Act->D->Prop} {a:Act} {w:D} {l:List Oper} {n:Nat}
theorem back(a:relGB l.toArray n=true)(hi:i<n)(d:aI .any l.toArray i j=true):j<i:=by
 obtain⟨oi,e,g,c,b,f⟩:=eh d;simp only[relGB,aX,decide_eq_true_eq] at a;have h1:=cU.1 a.1.2 i (cL.2 hi);rw[e] at h1;simp only[aX] at h1;have:=dZ.1 h1.1 g c;rw[f,b] at this;simpa using this
theorem zS(f:relGB l.toArray n=true)(a:Act){V:Nat->Vl}{oi:Oper}(hi:i<n)(m:l[i]? =Z oi)(hU:∀j,aI .any l.toArray i j=true->U j=V j):execOp (gu U (l.take n) 0 a).eval oi=execOp (gu V (l.take i) 0 a).eval oi:=by
 have p:=fun j=>back f (j:=j) hi;simp only[relGB,aX,decide_eq_true_eq] at f;obtain⟨⟨⟨⟨⟨⟨u,y⟩,_⟩,_⟩,_⟩,q⟩,_⟩:=f;refine execOp_congr oi (fun cs b=>iS u i oi cs b (by simpa using m)) fun x w=> ?_;have k:∀j oj,j<n->l[j]? =Z oj->∀d,oj.dst=Z d->x= .tmp d->aI .any l.toArray i j=true:=by
  intro j oj c t d hd e;have h1:=cU.1 q i (cL.2 hi);rw[show l.toArray[i]? =Z oi by simpa using m] at h1;simp only[aX] at h1;have h2:=cU.1 h1.2 j (cL.2 c);rw[show l.toArray[j]? =Z oj by simpa using t] at h2;simp only[hd,aX,ib,gS] at h2;refine h2.1.resolve_right fun h=> ?_;rw[jb.2 (by
   subst e;exact cQ _ (jG.2 ⟨.tmp d,by simpa using w,rfl⟩))] at h
  cases h
 have v:l.take n=l.take i++(l.take n).drop i:=by
  have h1:=(cb i (l.take n)).symm;rw[fN,eI oM] at h1;exact h1
 rw[v,xq,Yr _ _ _ _ _ (fun o s d hd e=>by
  obtain⟨j,c⟩:=bj.1 s;rw[gC] at c;have g:i+j<n:=by
   have:=(lL c);simp at this;omega
  rw[aO g] at c;have:=p _ (k (i+j) o g c d hd e);omega)]
 refine Yc U V x (l.take i) 0 a a rfl rfl fun j o c d hd e=> ?_;have r:j<i:=by
  have:=(lL c);simp at this;omega
 rw[aO r] at c;rw[bC];exact hU j (k j o oM c d hd e)
theorem tT(m:Nat)(R:Vl->D->Prop)(H:P.follows .mixedOrders=true)(n:relGB l.toArray (m+1)=true)(C:∀u w w',R u w->O w.heap.size w w'->R u w')(g:Oper)(q:l[m]? =Z g)
  (h:Lex P w (fun t=>(∀w',O w.heap.size w w'->oE P w' R ((execOp t.eval g).run P w'))/\∀u w',O w.heap.size w w'->R u w'->wpList P l.toArray Q (l.drop (m+1)) (t.put g.dst u) w') (l.take m) a) (F:g.guard=Y:=by rfl):(bS id l.toArray true).wp P Q a w:=by
 obtain⟨V,E,z,A⟩:=JD (l.take m) 0 a h;have I:m<l.length:=(lL q);refine vl (m+1) (fun B U v=>O w.heap.size w v/\(∀j,j<m->B j=true->U j=V j)/\(B m=true->R (U m) v)) H n ⟨⟨rfl,rfl,rfl,bA _,fun _ _=>rfl⟩,fun _ _ h=>aW h,fun h=>aW h⟩ ?_ ?_
 ·intro i o hi p B U v ⟨c,k,r⟩ L K _
  rw[zS n a (V:=V) hi p fun j y=>k j (by have:=back n hi y;omega) (K j y)];by_cases e:i=m
  ·subst e
   obtain rfl:g=o:=Option.some.inj (q.symm.trans p);refine⟨by simp[ah,F],(z v c).up.mono fun u w' ⟨h1,h2⟩=>⟨c.trans (h2.mono c.size),fun j f b=> ?_,fun _=>by rw[qL];exact h1⟩⟩;rw[iK oM] at b;rw[lG oM];exact k j f b
  ·have G:i<m:=by omega
   have s:=E i o (by rw[aO G];exact p);rw[bC,fN,eI oM] at s;refine⟨by simp[ah,s.1],(s.2 v c).up.mono fun u w' ⟨h1,h2⟩=>⟨c.trans (h2.mono c.size),fun j f b=> ?_,fun b=> ?_⟩⟩
   ·by_cases d:j=i
    ·rw[d,qL,h1]
    ·rw[iK d] at b
     rw[lG d];exact k j f b
   ·rw[iK (fun d=>e d.symm)] at b
    rw[lG (fun d=>e d.symm)];exact C _ _ _ (r b) h2
 ·intro B U v x ⟨c,k,r⟩
  have J:l.take (m+1)=l.take m++[g]:=by
   rw[ee,q];rfl
  rw[J,xq,vc U V (l.take m) 0 a (fun j _ f=>k j (by simp at f;omega) (x j (by simp at f;omega)))];simp only[gu,List.length_take,eI (Nat.le_of_lt I),bC];exact A _ v c (r (x m oM))
theorem Kp{o:Oper}{T:TypeId}(c:o.op= .alloc T){b:Array Vl}(d:(P.info? T).map (fun i=>i.zero)=Z (Z (H b)))(a:Act)(v:D):(execOp a.eval o).run P v= .ok (.value (X (Z ⟨v.heap.size,0,Y⟩))) (v.alloc (Cl b T (0,0))):=by
 obtain⟨i,hi,e⟩:=Option.map_eq_some_iff.1 d;simp[execOp,c,Instr.alloc,zeroValue,typeInfo,hi,e,newVar,newRow,Value.cells]
theorem Lex.mono{K c:Act->Prop}(d:∀a,K a->c a):∀(b:List Oper)(a:Act),Lex P w K b a->Lex P w c b a
 |[],_,h=>d _ h
 |_::b,_,⟨v,f,e⟩=>⟨v,f,Lex.mono d b _ e⟩
theorem pC(n:Nat)(p:P.follows .mixedOrders=true)(k:relGB l.toArray (n+1)=true)(on:Oper)(q:l[n]? =Z on)(T:TypeId)(r:on.op= .alloc T)(g:Array Vl)(t:(P.info? T).map (fun i=>i.zero)=Z (Z (H g)))
  (h:Lex P w (fun d=>∀b w',O w.heap.size w w'->w.heap.size<=b->w'.heap[b]? =Z (Cl g T (0,0))->wpList P l.toArray Q (l.drop (n+1)) (d.put on.dst (X (Z ⟨b,0,Y⟩))) w') (l.take n) a) (o:on.guard=Y:=by rfl):(bS id l.toArray true).wp P Q a w:=by
 refine tT n (fun u w'=>∃b,u=X (Z ⟨b,0,Y⟩)/\w.heap.size<=b/\w'.heap[b]? =Z (Cl g T (0,0))) p k (fun u w1 w2 ⟨b,e,f,c⟩ j=>⟨b,e,f,(j.block b (aL c)).trans c⟩) on q (Lex.mono (fun d m=>⟨fun v hv=> ?_,fun u w' s ⟨b,e,f,c⟩=> ?_⟩) _ _ h) o
 ·rw[Kp r t d v]
  exact⟨⟨_,rfl,hv.size,heap_alloc_new _ _⟩,(Below.refl _ _).alloc lR _⟩
 ·rw[e]
  exact m b w' s f c
theorem uO(n:Nat)(hm:P.follows .mixedOrders=true)(p:(relGB l.toArray (n+2)&&aI .any l.toArray (n+1) n)=true)(on os:Oper)(L:l[n]? =Z on)(F:l[n+1]? =Z os)(T:TypeId)(b2:on.op= .alloc T)(A:Array Vl)(hz:(P.info? T).map (fun i=>i.zero)=Z (Z (H A)))
  (x y:Operand) (hs:os.op= .store T x y) (cs:Array Vl) (hi:(P.info? T).map (·.size)=Z cs.size) (b1:A.size=cs.size) (h1:cs.all (·.oneCell')=true)
  (h:Lex P w (fun C=>(∀b,(C.put on.dst (X (Z ⟨b,0,Y⟩))).eval x=X (Z ⟨b,0,Y⟩))/\(∀b,(C.put on.dst (X (Z ⟨b,0,Y⟩))).eval y=H cs)/\
   ∀b w2,w.heap.size<=b->w2.heap[b]? =Z (Cl cs T (0,0))->O w.heap.size w w2->wpList P l.toArray Q (l.drop (n+2)) (C.put on.dst (X (Z ⟨b,0,Y⟩))) w2) (l.take n) a) (hg:on.guard=Y:=by rfl) (a7:os.guard=Y:=by rfl) (b0:os.dst=Y:=by rfl):(bS id l.toArray true).wp P Q a w:=by
 obtain⟨V,hV,hx,hy,hK⟩:=JD (l.take n) 0 a h;simp only[aX] at p;obtain⟨p,N⟩:=p;have b7:n+1<l.length:=(lL F);have M:l.take (n+1)=l.take n++[on]:=by
  rw[ee,L];rfl
 have K:(l.take n).length=n:=by simp;omega
 refine vl (n+2) (fun B U v=>O w.heap.size w v/\(∀j,j<n->B j=true->U j=V j)/\(B n=true->∃b,U n=X (Z ⟨b,0,Y⟩)/\w.heap.size<=b/\v.heap[b]? =Z (Cl (if B (n+1) then cs else A) T (0,0)))) hm p ⟨⟨rfl,rfl,rfl,bA _,fun _ _=>rfl⟩,fun _ _ h=>aW h,fun h=>aW h⟩ ?_ ?_
 ·intro i o E s B U v ⟨f,q,t⟩ J G a6
  by_cases e:i=n+1
  ·subst e
   obtain rfl:os=o:=Option.some.inj (F.symm.trans s);obtain⟨b,r,g,m⟩:=t (G n N);rw[J] at m;rw[zS p a (V:=fun j=>if j<n then V j else U j) E s fun j z=>by
    by_cases d:j<n
    ·rw[if_pos d]
     exact q j d (G j z)
    ·rw[if_neg d]]
   rw[M,xq,vc _ V (l.take n) 0 a (fun j _ d=>if_pos oM)];simp only[gu,K,bC,Nat.lt_irrefl,if_false,r];have b6:=run_storeVar_row (P:=P) v b T T A cs m hi b1 h1;refine⟨by simp[ah,a7],oR (oL ⟨v.setRow b cs,?_,f.trans ⟨rfl,rfl,rfl,by simp[World.setRow],fun k hk=>setRow_other _ _ _ _ (by have:=f.size;omega)⟩,fun j d c=> ?_,fun _=>⟨b,?_,g,?_⟩⟩)⟩
   ·unfold execOp
    simp only[hs,hx b,hy b,kH,bG,aH,aR,ar,b6]
   ·rw[iK oM] at c
    rw[lG oM];exact q j d c
   ·rw[lG oM]
    exact r
   ·rw[wM]
    exact setRow_heap v b _ _ _ _ m
  ·by_cases S:i=n
   ·subst S
    obtain rfl:on=o:=Option.some.inj (L.symm.trans s);have W:=pD a6 J N;refine⟨by simp[ah,hg],oL ⟨_,_,Kp b2 hz _ v,f.alloc f.size _,fun j d c=> ?_,fun _=>⟨v.heap.size,qL,f.size,?_⟩⟩⟩
    ·rw[iK oM] at c
     rw[lG oM];exact q j d c
    ·rw[iK oM,W]
     exact heap_alloc_new _ _
   ·have a8:i<n:=by omega
    rw[zS p a (V:=V) E s fun j z=>q j (by have:=back p E z;omega) (G j z)];have I:=hV i o (by rw[aO a8];exact s);rw[bC,fN,eI oM] at I;refine⟨by simp[ah,I.1],(I.2 v f).up.mono fun u w' ⟨h1,h2⟩=>⟨f.trans (h2.mono f.size),fun j d c=> ?_,fun c=> ?_⟩⟩
    ·by_cases g:j=i
     ·rw[g,qL,h1]
     ·rw[iK g] at c
      rw[lG g];exact q j d c
    ·rw[iK oM] at c
     obtain⟨b,r,g,m⟩:=t c;rw[lG oM,iK oM];exact⟨b,r,g,(h2.block b (aL m)).trans m⟩
 ·intro B U v D ⟨f,q,t⟩
  obtain⟨b,r,g,m⟩:=t (D n oM);rw[D (n+1) oM] at m;have b3:l.take (n+2)=l.take n++[on,os]:=by
   rw[ee,F,M];simp
  rw[b3,xq,vc U V (l.take n) 0 a (fun j _ d=>q j oM (D j oM))];simp only[gu,K,bC,r,b0];exact hK b v g m f
end
end Qt
theorem yV{P:Program}{W:D}{K:Act->Prop}{l:List Oper}{o:Oper}{a b:Act}(x:Vl)(h:Qt.Lex P W K l b)(d:o.guard=Y:=by rfl)(hv:∀w',O W.heap.size W w'->(execOp a.eval o).run P w'= .ok (.value x) w':=by intro _ _;kernel_rfl)(c:a.put o.dst x=b:=by simp only[zD];first|done|rfl|fail):Qt.Lex P W K (o::l) a:=by subst c;exact Qt.kb d x hv h
theorem yw{P:Program}{W:D}{K:Act->Prop}{l:List Oper}{o:Oper}{a:Act}(x:Vl)(h:Qt.Lex P W K l (a.put o.dst x))(b:o.guard=Y:=by rfl)(hv:∀w',O W.heap.size W w'->(execOp a.eval o).run P w'= .ok (.value x) w':=by intro _ _;kernel_rfl):Qt.Lex P W K (o::l) a:=Qt.kb b x hv h
namespace Qu
open Qt
def Yp(P:Program)(S:D->Prop)(W:D)(p i:Nat)(o:Oper)(v:Vl)(a:Act):Prop:=if i<p then Yb P W o v a else o.guard=Y/\∀w,S w->(execOp a.eval o).run P w= .ok (.value v) w
def ou(P:Program)(S:D->Prop)(W:D)(p:Nat)(K:Act->Prop):Nat->List Oper->Act->Prop
 |_,[],a=>K a
 |k,o::l,a=>∃v,Yp P S W p k o v a/\ou P S W p K (k+1) l (a.put o.dst v)
section
variable {P:Program} {S:D->Prop} {W:D} {K:Act->Prop} {l:List Oper} {o:Oper} {a:Act} {p k:Nat}
theorem yc(h:K a):ou P S W p K k [] a:=h
theorem sg(c:¬k<p)(b:o.guard=Y)(v:Vl)(hv:∀w',S w'->(execOp a.eval o).run P w'= .ok (.value v) w')(h:ou P S W p K (k+1) l (a.put o.dst v)):ou P S W p K k (o::l) a:=⟨v,by unfold Yp;rw[if_neg c];exact⟨b,hv⟩,h⟩
theorem Ex(r:List Oper):∀(l:List Oper)(k:Nat)(a:Act),k+l.length=p->Lex P W (fun c=>ou P S W p K p r c) l a->ou P S W p K k (l++r) a
 |[],k,a,b,h=>by
  obtain rfl:k=p:=by simpa using b
  exact h
 |o::l,k,a,b,⟨v,e,d⟩=>⟨v,by unfold Yp;rw[if_pos (by simp at b;omega)];exact e,Ex r l (k+1) _ (by simp at b;omega) d⟩
theorem IU:∀(l:List Oper)(k:Nat)(a:Act),ou P S W p K k l a->∃V:Nat->Vl,(∀i o,l[i]? =Z o->Yp P S W p (k+i) o (V (k+i)) (gu V (l.take i) k a))/\K (gu V l k a)
 |[],k,a,h=>⟨fun _=>undef,fun i o h=>by simp at h,h⟩
 |o::l,k,a,⟨v,m,g⟩=>by
  obtain⟨c,h1,h2⟩:=IU l (k+1) _ g;have d:∀(L:List Oper) b,gu (fun j=>if j=k then v else c j) L (k+1) b=gu c L (k+1) b:=fun L b=>vc _ _ _ _ _ fun j n _=>if_neg oM;refine⟨fun j=>if j=k then v else c j,fun i f hi=> ?_,?_⟩
  ·rcases i with _|i
   ·have e:f=o:=by simpa using hi.symm
    subst e;simp only[aE,gu,eb,if_pos];exact m
   ·simp only[ak,gu,if_pos,d]
    have:=h1 i f (by simpa using hi);rw[if_neg oM,show k+(i+1)=k+1+i by omega];exact this
  ·simp only[gu,if_pos,d]
   exact h2
end
def Cf(ops:Array Oper)(n p:Nat):Bool:=relGB ops (n+1)&&(eE p).all fun j=>aI .any ops n j||(eE n).any fun k=>aI .any ops n k&&aI .any ops k j
theorem wS{P:Program}(S:D->Prop){id:Nat}{Q:Exit->Act->D->Prop}{a:Act}{w:D}{l:List Oper}(n p:Nat)(hm:P.follows .mixedOrders=true)(d:Cf l.toArray n p=true)(hp:p<=n)(c4:n<=l.length)(os:Oper)(L:l[n]? =Z os)(T:TypeId)(x y:Operand)(hs:os.op= .store T x y)(r:Nat)(hQ cs:Array Vl)(N:w.heap[r]? =Z (Cl hQ T (0,0)))
  (hi:(P.info? T).map (·.size)=Z cs.size) (b2:hQ.size=cs.size) (h1:cs.all (·.oneCell')=true) (a6:∀w1,O w.heap.size w w1->S w1) (a7:∀w1,O w.heap.size w w1->S (w1.setRow r cs))
  (h:Lex P w (fun W=>ou P S w p (fun A=>A.eval x=X (Z ⟨r,0,Y⟩)/\A.eval y=H cs/\∀w',O w.heap.size w w'->wpList P l.toArray Q (l.drop (n+1)) A (w'.setRow r cs)) p ((l.take n).drop p) W) ((l.take n).take p) a) (hg:os.guard=Y:=by rfl) (b1:os.dst=Y:=by rfl):(bS id l.toArray true).wp P Q a w:=by
 have h2:=Ex ((l.take n).drop p) ((l.take n).take p) 0 a (by simp;omega) h;rw[cb] at h2;obtain⟨V,hV,hx,hy,hK⟩:=IU (l.take n) 0 a h2;simp only[Cf,aX] at d;obtain⟨d,b3⟩:=d;have c0:(l.take n).length=n:=by simp;omega
 refine vl (n+1) (fun B U v=>(∀j,j<n->B j=true->U j=V j)/\(B n=false->O w.heap.size w v)/\(B n=true->∃v0,O w.heap.size w v0/\v=v0.setRow r cs)) hm d ⟨fun _ _ h=>aW h,fun _=>⟨rfl,rfl,rfl,bA _,fun _ _=>rfl⟩,fun h=>aW h⟩ ?_ ?_
 ·intro i o K I B U v ⟨s,q,z⟩ E b8 F
  rw[zS d a (V:=V) K I fun j R=>s j (by have:=back d K R;omega) (b8 j R)];by_cases e:i=n
  ·subst e
   obtain rfl:os=o:=Option.some.inj (L.symm.trans I);have f:=q E;have b7:=run_storeVar_row (P:=P) v r T T hQ cs ((f.block r (aL N)).trans N) hi b2 h1;refine⟨by simp[ah,hg],oR (oL ⟨v.setRow r cs,?_,fun j t g=> ?_,fun h=>aW (wM.symm.trans h),fun _=>⟨v,f,rfl⟩⟩)⟩
   ·unfold execOp
    simp only[hs,hx,hy,kH,bG,aH,aR,ar,b7]
   ·rw[iK oM] at g
    rw[lG oM];exact s j t g
  ·have b0:i<n:=by omega
   have c:=hV i o (by rw[aO b0];exact I);rw[bC,fN,eI oM] at c;have M:∀u,u=V i->∀j,j<n->nD B i j=true->nE U i u j=V j:=fun u hu j t g=>by
    by_cases b:j=i
    ·rw[b,qL,hu]
    ·rw[iK b] at g
     rw[lG b];exact s j t g
   unfold Yp at c;by_cases G:i<p
   ·rw[if_pos G] at c
    have m:B n=false:=by
     have h3:=cU.1 b3 i (cL.2 G);simp only[ib,List.any_eq_true,aX] at h3;rcases h3 with h3|⟨k,_,h3,C⟩
     ·exact pD F E h3
     ·exact pD F (pD F E C) h3
    have f:=q m;refine⟨by simp[ah,c.1],(c.2 v f).up.mono fun u w' ⟨h3,C⟩=>⟨M u h3,fun _=>f.trans (C.mono f.size),fun h=> ?_⟩⟩;rw[iK (fun b=>e b.symm),m] at h;cases h
   ·rw[if_neg G] at c
    have a8:S v:=by
     cases m:B n with
     |false=>exact a6 v (q m)
     |true=>
      obtain⟨v0,h3,rfl⟩:=z m;exact a7 v0 h3
    refine⟨by simp[ah,c.1],oL ⟨V i,v,c.2 v a8,M _ rfl,?_,?_⟩⟩
    ·rw[iK (fun b=>e b.symm)]
     exact q
    ·rw[iK (fun b=>e b.symm)]
     exact z
 ·intro B U v J ⟨s,q,z⟩
  obtain⟨v0,h3,rfl⟩:=z (J n oM);have b6:l.take (n+1)=l.take n++[os]:=by
   rw[ee,L];rfl
  rw[b6,xq,vc U V (l.take n) 0 a (fun j _ t=>s j oM (J j oM))];simp only[gu,b1];exact hK v0 h3
end Qu
namespace Qt
abbrev ou(P:Program)(W:D)(p:Nat)(K:Act->Prop):=Qu.ou P (fun _=>True) W p K
theorem yc{P:Program}{W:D}{K:Act->Prop}{a:Act}{p k:Nat}(h:K a):ou P W p K k [] a:=h
theorem sg{P:Program}{W:D}{K:Act->Prop}{l:List Oper}{o:Oper}{a:Act}{p k:Nat}(c:¬k<p)(b:o.guard=Y)(v:Vl)(hv:∀w',(execOp a.eval o).run P w'= .ok (.value v) w')(h:ou P W p K (k+1) l (a.put o.dst v)):ou P W p K k (o::l) a:=Qu.sg c b v (fun w' _=>hv w') h
theorem wS{P:Program}{id:Nat}{Q:Exit->Act->D->Prop}{a:Act}{w:D}{l:List Oper}(n p:Nat)(f:P.follows .mixedOrders=true)(d:Qu.Cf l.toArray n p=true)(m:p<=n)(g:n<=l.length)(os:Oper)(k:l[n]? =Z os)(T:TypeId)(x y:Operand)(q:os.op= .store T x y)(r:Nat)(hQ cs:Array Vl)(o:w.heap[r]? =Z (Cl hQ T (0,0)))
  (hi:(P.info? T).map (·.size)=Z cs.size) (j:hQ.size=cs.size) (h1:cs.all (·.oneCell')=true)
  (h:Lex P w (fun c=>ou P w p (fun b=>b.eval x=X (Z ⟨r,0,Y⟩)/\b.eval y=H cs/\∀w',O w.heap.size w w'->wpList P l.toArray Q (l.drop (n+1)) b (w'.setRow r cs)) p ((l.take n).drop p) c) ((l.take n).take p) a) (e:os.guard=Y:=by rfl) (i:os.dst=Y:=by rfl):(bS id l.toArray true).wp P Q a w:=
 Qu.wS (fun _=>True) n p f d m g os k T x y q r hQ cs o hi j h1 (fun _ _=>trivial) (fun _ _=>trivial) h e i
def sa(ops:Array Oper)(n:Nat):Bool:=relGB ops n&&ops.all fun o=>o.guard.isNone
theorem JK{l:List Oper}{n:Nat}(a:sa l.toArray n=true){o:Oper}(b:l[i]? =Z o)(y:Nat->Option Bool):ah o y=true:=by
 simp only[sa,aX] at a;have:=dZ.1 a.2 o (Array.mem_of_getElem? (by simpa using b));simp only[Option.isNone_iff_eq_none] at this;simp[ah,this]
theorem Ce{n:Nat}(h:sa ops n=true):relGB ops n=true:=by
 simp only[sa,aX] at h;exact h.1
def sI(P:Program)(T:D->D->Prop)(w:D)(R:Vl->D->Prop):Result Next->Prop
 | .ok (.value u) w1=>R u w1/\T w w1
 | .ok .skip w1=>R undef w1/\T w w1
 | .ok (.enter f args) w1=>Calls P f args w1 (fun e a=>∃u,e=Re u/\R u a/\T w a)
 |_=>False
theorem oE.Ib{P:Program}{T:D->D->Prop}{w:D}(h:oE P w R r)(a:∀w',O w.heap.size w w'->T w w'):sI P T w R r:=by
 cases r with
 |halt x w'=>cases h
 |ok x w'=>
  cases x with
  |value u=>exact⟨h.1,a _ h.2⟩
  |enter f args=>exact Calls.mono h fun e g ⟨u,c,d,b⟩=>⟨u,c,d,a _ b⟩
  |_=>cases h
theorem sI.up{P:Program}{T:D->D->Prop}{w:D}(h:sI P T w R r):Up P (fun u w'=>R u w'/\T w w') r:=by
 cases r with
 |halt x w'=>cases h
 |ok x w'=>
  cases x with
  |value u=>exact oL ⟨u,w',rfl,h⟩
  |skip=>exact oR (oL ⟨w',rfl,h⟩)
  |enter f args=>exact oR (oR ⟨f,args,w',rfl,h⟩)
  |_=>cases h
theorem G1{P:Program}{id:Nat}{Q:Exit->Act->D->Prop}{a:Act}{w:D}{l:List Oper}(n:Nat)(R:Nat->Vl->D->Prop)(y:G false {w with drawn:=w.drawn+1})(F:P.follows .mixedOrders=true)(x:∀i b w w',i≠m->G b w->T i w w'->G b w')(z:∀w w',G false w->T m w w'->G true w')(t:relGB l.toArray n=true)(A:∀i j u w w',i<n->j<n->j≠i->aI .any l.toArray j i=false->∀b,(i=m->b=false)->G b w->R j u w->T i w w'->R j u w')
  (J:∀i o,i<n->l[i]? =Z o->∀U w' b,(i=m->b=false)->G b w'->(∀j,j<n->aI .any l.toArray i j=true->R j (U j) w')->ah o (yielded l.toArray (gu U (l.take n) 0 a).tmps)=true/\sI P (T i) w' (R i) ((execOp (gu U (l.take n) 0 a).eval o).run P w'))
  (H:m<n) (E:∀U w',G true w'->(∀j,j<n->R j (U j) w')->wpList P l.toArray Q (l.drop n) (gu U (l.take n) 0 a) w'):(bS id l.toArray true).wp P Q a w:=by
 refine vl n (fun B U v=>G (B m) v/\∀j,j<n->B j=true->R j (U j) v) F t ⟨y,fun _ _ h=>aW h⟩ ?_ ?_
 ·intro i o hi I B U v ⟨c,g⟩ f K C
  have r:=J i o hi I U v (B m) (fun e=>e▸f) c fun j d p=>g j d (K j p);refine⟨r.1,r.2.up.mono fun u w' ⟨h1,h2⟩=>⟨?_,fun j d k=> ?_⟩⟩
  ·by_cases e:i=m
   ·subst e
    rw[wM];rw[f] at c;exact z _ _ c h2
   ·rw[iK (fun s=>e s.symm)]
    exact x i _ _ _ e c h2
  ·by_cases e:j=i
   ·subst e
    rw[qL];exact h1
   ·rw[iK e] at k
    rw[lG e];refine A i j _ _ _ hi d e ?_ (B m) (fun e=>e▸f) c (g j d k) h2;cases p:aI .any l.toArray j i with
    |false=>rfl
    |true=>
     have:=C j i k p;rw[f] at this;cases this
 ·intro B U v q ⟨c,g⟩
  exact E U v (by rw[<-q m H];exact c) fun j d=>g j d (q j d)
theorem G5{P:Program}{id:Nat}{Q:Exit->Act->D->Prop}{a:Act}{w:D}{l:List Oper}(n:Nat)(R:Nat->Vl->D->Prop)(f:G false {w with drawn:=w.drawn+1})(p:P.follows .mixedOrders=true)(e:∀i b w w',i≠m->G b w->T i w w'->G b w')(g:∀w w',G false w->T m w w'->G true w')(c:sa l.toArray n=true)(h:∀i j u w w',i<n->j<n->j≠i->aI .any l.toArray j i=false->∀b,(i=m->b=false)->G b w->R j u w->T i w w'->R j u w')
  (r:∀i o,i<n->l[i]? =Z o->∀U w' b,(i=m->b=false)->G b w'->(∀j,j<n->aI .any l.toArray i j=true->R j (U j) w')->sI P (T i) w' (R i) ((execOp (gu U (l.take n) 0 a).eval o).run P w'))
  (q:m<n) (k:∀U w',G true w'->(∀j,j<n->R j (U j) w')->wpList P l.toArray Q (l.drop n) (gu U (l.take n) 0 a) w'):(bS id l.toArray true).wp P Q a w:=
 G1 n R f p e g (Ce c) h (fun i o hi d U w' b h1 h2 h3=>⟨JK c d _,r i o hi d U w' b h1 h2 h3⟩) q k
theorem Ou{P:Program}{id:Nat}{Q:Exit->Act->D->Prop}{a:Act}{w:D}{l:List Oper}(n:Nat)(R:Nat->Vl->D->Prop)(r:P.follows .mixedOrders=true)(f:sa l.toArray n=true)(m:∀j u w w',R j u w->O w.heap.size w w'->R j u w')
  (s:∀i o,i<n->l[i]? =Z o->∀U w',O w.heap.size w w'->(∀j,j<n->aI .any l.toArray i j=true->R j (U j) w')->oE P w' (R i) ((execOp (gu U (l.take n) 0 a).eval o).run P w'))
  (q:∀U w',O w.heap.size w w'->(∀j,j<n->R j (U j) w')->wpList P l.toArray Q (l.drop n) (gu U (l.take n) 0 a) w'):(bS id l.toArray true).wp P Q a w:=by
 refine vl n (fun B U v=>O w.heap.size w v/\∀j,j<n->B j=true->R j (U j) v) r (Ce f) ⟨⟨rfl,rfl,rfl,bA _,fun _ _=>rfl⟩,fun _ _ h=>aW h⟩ ?_ fun B U v p ⟨c,d⟩=>q U v c fun j b=>d j b (p j b);intro i o hi k B U v ⟨c,d⟩ y x _;refine⟨JK f k _,(s i o hi k U v c fun j b t=>d j b (x j t)).up.mono fun u w' ⟨h1,h2⟩=>⟨c.trans (h2.mono c.size),fun j b g=> ?_⟩⟩;by_cases e:j=i
 ·subst e
  rw[qL];exact h1
 ·rw[iK e] at g
  rw[lG e];exact m _ _ _ _ (d j b g) h2
