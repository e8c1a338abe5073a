/- Maps told as lists of pairs: look-up, store, deletion, length and ranging, for keys whose equality is known. What a call may change: blocks of a set, and those that are new. Slices that lie in blocks of a set. One operation, one law: the world behind it a new name, with what is known of it. -/
import Derived.Test.YtbojijefenfbgaaGreatDoorAaShort
import Derived.Maps.RangeWalk
import Derived.Maps.OwnSet
import Derived.Laws.AppendOwn
import Derived.OwnWalk
import Derived.Below
import Derived.Laws.Tables
import Derived.Maps.AppendAt
import Derived.Test.YtbojijefenfbgaaGreatDoorAaOwn
import Derived.Great.Ranges
open Prod renaming fst->aj
open Go.Instr renaming findAsking->gN,findKey->kL,findNow->kM,lookup->fq,mapUpdate->ka,next->gm,entry->jg,loadAt->cJ,sureAddr->bG
open List renaming map_cons->eP,mem_of_getElem?->aJ,getElem?_eq_some_iff->aQ,mem_iff_getElem?->bj,length->dH,ext_getElem?->dw,getElem?_set_self->dh,getElem?_map->ct,getElem?_set_ne->eF,map_append->ef,nodup_append->jT,mem_map->aU,filter_sublist->jz,filter_eq_self->jA,filter_cons->eB,eraseIdx_sublist->fE
open Go.Sem renaming run_bind->aH,run_pure->aR
open Go.Result renaming andThen->aM,andThen_ok->ar
open Option renaming map_eq_none_iff->iP,map_eq_some_iff->cj,map_none->cZ,map_some->da
open Go.MapKept renaming run_getObj_map->cf,run_setObj_map->cB
open Go.Builtin renaming len_->fZ,delete_->dG,delete->jU
open Array renaming getElem?_toList->dm,getElem?_modify->cn,mem_of_getElem?->iU,eraseIdxIfInBounds->iH,getElem?_eq_getElem->dA,getElem?_setIfInBounds_ne->gG
open Nat renaming le_refl->bA,zero_le->aF,le_of_eq->bO
open Go.Oper renaming wp->cT
open Go.World renaming setCell->kO,setRow->gA
open Go.Region renaming wanted->ah
open Option renaming some->Z,none->Y
open Go.Value renaming int->I,pointer->X,agg->H,bool->Bl,tuple->Tp
open Go.IntKind renaming i64->J
open Go.Obj renaming cells->Cl
open Go.Ending renaming returned->Re
open Go renaming World->D,Value->Vl
open Go.RowKit renaming Below->O
set_option maxHeartbeats 4000000
open Go Go.RowKit
variable{C b i id r:Nat}{K:Act->D->Prop}{R:Vl->D->Prop}{d:TypeDesc}{k t:TypeId}{l:List Oper}{m:Vl}
namespace Go.Proofs.YtbojijefenfbgaaGreatDoor
open Go.RowKit Go.ChangeMaps
namespace Mp
variable {α β:Type} [DecidableEq α]
structure pq(P:Program)(k:TypeId)(ke:α->Vl):Prop where
 und:∃d,P.underlying k=Z d/\∀a b,Instr.sameNow d (ke a) (ke b)=none
 eq:∀(w:D)(a b:α),(Op.equal k (ke a) (ke b)).run P w= .ok (decide (a=b)) w
 inj:∀a b,ke a=ke b->a=b
 check:∀(w:D)(em:Bool)(a:α),(Instr.checkKey em 10000 k (ke a)).run P w= .ok () w
 stays:∀(w:D)(a:α),(Instr.keyThatStays (ke a) (ke a)).run P w= .ok (ke a) w
structure xL(ke:α->Vl)(ve:β->Vl)(es:Array MapEntry)(clock:Nat)(l:List (α×β)):Prop where
 read:es.toList.map (fun e=>(e.key,e.val))=l.map (fun p=>(ke p.1,ve p.2))
 keys:(l.map aj).Nodup
 born:(es.toList.map (·.born)).Nodup
 hQ:∀e∈es.toList,e.born<clock
def Is(w:D)(b:Nat)(ke:α->Vl)(ve:β->Vl)(l:List (α×β)):Prop:=
 ∃es clock,w.heap[b]? =Z (.map es clock)/\xL ke ve es clock l
def get(a:α):List (α×β)->Option (Nat×β)
 |[]=>none
 |p::r=>if a=p.1 then Z (0,p.2) else(get a r).map fun x=>(x.1+1,x.2)
theorem Jy{P:Program}{k:TypeId}{ke:α->Vl}{ve:β->Vl}(K:pq P k ke)(w:D)(a:α):∀(es:List MapEntry)(l:List (α×β))(i:Nat),
  es.map (fun e=>(e.key,e.val))=l.map (fun p=>(ke p.1,ve p.2))->
  (gN k (ke a) es i).run P w= .ok ((get a l).map fun x=>(x.1+i,ve x.2)) w
 |[],[],i,_=>by simp[gN,get]
 |[],p::r,i,h=>by simp at h
 |e::es,[],i,h=>by simp at h
 |e::es,p::r,i,h=>by
  simp only[eP,List.cons.injEq,Prod.mk.injEq] at h;obtain⟨⟨h1,h2⟩,h3⟩:=h;simp only[gN,aH,h1,K.eq,aM,decide_eq_true_eq,get];by_cases b:a=p.1
  ·simp[b,h2]
  ·simp only[b,if_false]
   rw[Jy K w a es r (i+1) h3];cases get a r<;>simp;omega
theorem tK{P:Program}{ke:α->Vl}{ve:β->Vl}(K:pq P k ke)(w:D)(a:α)(es:List MapEntry)(l:List (α×β))
  (h:es.map (fun e=>(e.key,e.val))=l.map (fun p=>(ke p.1,ve p.2))):
  (kL k (ke a) es).run P w= .ok ((get a l).map fun x=>(x.1,ve x.2)) w:=by
 obtain⟨d,hd,b⟩:=K.und;unfold kL;simp only[aH,run_underlying hd,aM];cases es with
 |nil=>
  cases l with
  |nil=>simp[kM,get]
  |cons p r=>simp at h
 |cons e es=>
  cases l with
  |nil=>simp at h
  |cons p r=>
   have h1:e.key=ke p.1:=by simp at h;exact h.1.1
   simp only[kM,h1,b];rw[Jy K w a (e::es) (p::r) 0 h];simp
theorem get_none{a:α}:∀{l:List (α×β)},get a l=none↔∀p∈l,p.1≠a
 |[]=>by simp[get]
 |p::r=>by
  unfold get;by_cases h:a=p.1
  ·simp[h]
  ·simp only[h,if_false,iP,get_none (l:=r),List.mem_cons]
   constructor
   ·rintro h1 q (rfl|b)
    ·exact fun e=>h e.symm
    ·exact h1 q b
   ·exact fun h1 q b=>h1 q (oR b)
theorem get_some{a:α}{i:Nat}{v:β}:∀{l:List (α×β)},get a l=Z (i,v)->l[i]? =Z (a,v)
 |[],h=>by simp[get] at h
 |p::r,h=>by
  unfold get at h;by_cases b:a=p.1
  ·simp[b] at h
   obtain⟨rfl,rfl⟩:=h;simp[b]
  ·simp only[b,if_false,cj] at h
   obtain⟨⟨j,u⟩,h1,h2⟩:=h;simp at h2;obtain⟨rfl,rfl⟩:=h2;simpa using get_some h1
def na(a:α)(l:List (α×β)):Option β:=(get a l).map Prod.snd
theorem CT{a:α}{l:List (α×β)}:na a l=none↔∀p∈l,p.1≠a:=by unfold na;rw[iP,get_none]
theorem FV{a:α}{v:β}{l:List (α×β)}(h:na a l=Z v):(a,v)∈l:=by
 unfold na at h;rw[cj] at h;obtain⟨⟨i,u⟩,h1,rfl⟩:=h;exact aJ (get_some h1)
theorem sR{b m:Type}{f:b->m}{l:List b}(k:(l.map f).Nodup){j:Nat}{x y:b}(hi:l[i]? =Z x)(a:l[j]? =Z y)(e:f x=f y):i=j:=by
 obtain⟨c,hi⟩:=aQ.1 hi;obtain⟨d,a⟩:=aQ.1 a;have g:=List.pairwise_iff_getElem.1 (List.pairwise_map.1 k);rcases Nat.lt_trichotomy i j with h|h|h
 ·exact absurd (by rw[hi,a];exact e) (g i j c d h)
 ·exact h
 ·exact absurd (by rw[hi,a];exact e.symm) (g j i d c h)
theorem XA{a:α}{v:β}{l:List (α×β)}(d:(l.map aj).Nodup)(h:(a,v)∈l):na a l=Z v:=by
 cases c:na a l with
 |none=>exact absurd rfl (CT.1 c _ h)
 |some u=>
  obtain⟨i,hi⟩:=bj.1 (FV c);obtain⟨j,b⟩:=bj.1 h;obtain rfl:=sR d hi b rfl;rw[hi] at b;injection b with b
  injection b with _ b
  rw[b]
theorem Pe{P:Program}{e:TypeId}{ke:α->Vl}{ve:β->Vl}(K:pq P k ke)(d:P.underlying t=Z (.map k e)){w:D}{l:List (α×β)}(h:Is w b ke ve l)(a:α)
  {z:Vl} (f:(zeroValue e).run P w= .ok z w):
  (fq t (.map (Z b)) (ke a) true).run P w= .ok (Tp #[((na a l).map ve).getD z,Bl (na a l).isSome]) w:=by
 obtain⟨es,clock,c,E⟩:=h;unfold fq;simp only[aH,run_underlying d,aM,cf c,aR,K.check,tK K w a es.toList l E.read];unfold na;cases get a l with
 |none=>simp[f]
 |some x=>simp
theorem look_nil{P:Program}{e:TypeId}{ke:α->Vl}(K:pq P k ke)(b:P.underlying t=Z (.map k e))(w:D)(a:α)
  {z:Vl} (c:(zeroValue e).run P w= .ok z w):
  (fq t (.map Y) (ke a) true).run P w= .ok (Tp #[z,Bl false]) w:=by
 unfold fq;have:=tK (ve:=fun x:Unit=>Bl true) K w a [] [] rfl;simp only[aH,run_underlying b,aM,aR,K.check,this,get,c,cZ];simp
omit [DecidableEq α] in
theorem Ru{P:Program}{e:TypeId}{ke:α->Vl}{ve:β->Vl}(d:P.underlying t=Z (.map k e)){w:D}{l:List (α×β)}(h:Is w b ke ve l)(ty:TypeId):
  (fZ #[t] ty #[.map (Z b)]).run P w= .ok (I J l.length) w:=by
 obtain⟨es,clock,a,E⟩:=h;have c:es.size=l.length:=by simpa using congrArg dH E.read
 simp[fZ,run_underlying d,cf a,goInt,aM,c]
def put(a:α)(v:β)(l:List (α×β)):List (α×β):=
 match get a l with
 |some (i,_)=>l.set i (a,v)
 |none=>l++[(a,v)]
theorem PJ{a:α}{v:β}{l:List (α×β)}(c:(l.map aj).Nodup):((put a v l).map aj).Nodup:=by
 unfold put;split
 ·rename_i i u h
  have hi:=get_some h;have:(l.set i (a,v)).map aj=l.map aj:=by
   rw[List.map_set];apply dw;intro j;by_cases b:j=i
   ·subst b
    obtain⟨f,_⟩:=aQ.1 hi;rw[dh (by simpa using f),ct,hi];rfl
   ·rw[eF (fun e=>b e.symm)]
  rw[this];exact c
 ·rename_i h
  have:=get_none.1 h;rw[ef,jT];refine⟨c,sP,?_⟩;intro x k y d;obtain⟨p,g,rfl⟩:=aU.1 k;simp at d;subst d;exact this p g
theorem zC{a:α}{v:β}{l:List (α×β)}(f:(l.map aj).Nodup)(p:α×β):p∈put a v l↔p=(a,v)\/(p∈l/\p.1≠a):=by
 unfold put;split
 ·rename_i i u h
  have hi:=get_some h;obtain⟨c,m⟩:=aQ.1 hi;rw[bj];constructor
  ·rintro⟨j,b⟩
   by_cases e:j=i
   ·subst e
    rw[dh c] at b;exact oL (by injection b with b;exact b.symm)
   ·rw[eF (fun x=>e x.symm)] at b
    refine oR ⟨aJ b,fun d=>e ?_⟩;exact sR f b hi d
  ·rintro(rfl|⟨k,g⟩)
   ·exact⟨i,dh c⟩
   ·obtain⟨j,b⟩:=bj.1 k
    refine⟨j,?_⟩;rw[eF]
    ·exact b
    ·rintro rfl
     rw[hi] at b;injection b with b
     exact g (by rw[<-b])
 ·rename_i h
  have:=get_none.1 h;simp only[List.mem_append,List.mem_singleton];constructor
  ·rintro(h1|rfl)
   ·exact oR ⟨h1,this p h1⟩
   ·exact oL rfl
  ·rintro(rfl|⟨h1,_⟩)
   ·exact oR rfl
   ·exact oL h1
theorem Cc{a:α}{v:β}{l:List (α×β)}(h:∀p∈l,p.1≠a):put a v l=l++[(a,v)]:=by
 unfold put;rw[get_none.2 h]
theorem LG{P:Program}{e:TypeId}{ke:α->Vl}{ve:β->Vl}(K:pq P k ke)(B:P.underlying t=Z (.map k e)){w:D}{l:List (α×β)}(h:Is w b ke ve l)(a:α)(v:β):
  ∃w',(ka t (.map (Z b)) (ke a) (ve v)).run P w= .ok () w'/\Is w' b ke ve (put a v l)/\w.mapTurned w' b:=by
 obtain⟨es,clock,d,E⟩:=h;have G:es.size=l.length:=by simpa using congrArg dH E.read
 unfold ka;simp only[aH,run_underlying B,aM,cf d,K.check,tK K w a es.toList l E.read];have m:=PJ (a:=a) (v:=v) E.keys;unfold put at m⊢;cases n:get a l with
 |none=>
  simp only[n,cZ] at m⊢;refine⟨_,cB _ d,⟨_,_,heap_setBlock_same d _,?_,m,?_,?_⟩,⟨_,_,_,_,d,rfl⟩⟩
  ·simp[E.read]
  ·rw[Array.toList_push,ef,jT]
   refine⟨E.born,sP,?_⟩;intro x C y p;obtain⟨e0,f,rfl⟩:=aU.1 C;simp at p;subst p;have:=E.hQ e0 f;omega
  ·intro e0 f
   simp at f;rcases f with f|rfl
   ·have:=E.hQ e0 (by simpa using f);omega
   ·simp
 |some x=>
  obtain⟨i,u⟩:=x;have hi:=get_some n;obtain⟨A,F⟩:=aQ.1 hi;have s:∃e0,es[i]? =Z e0/\e0.key=ke a:=by
   have h1:=congrArg (·[i]?) E.read;simp[hi] at h1;obtain⟨e0,h2,h3,_⟩:=h1;exact⟨e0,h2,h3⟩
  obtain⟨e0,g,z⟩:=s;simp only[n,da,g,z,Option.getD_some,aH,K.stays,aM] at m⊢;refine⟨_,cB _ d,⟨_,_,heap_setBlock_same d _,?_,m,?_,?_⟩,⟨_,_,_,_,d,rfl⟩⟩
  ·apply dw
   intro j;have h1:=congrArg (·[j]?) E.read;simp only[ct,dm] at h1⊢;rw[cn];by_cases c:i=j
   ·subst c
    simp[g,A]
   ·simp[c,h1]
  ·have:((es.modify i fun e=>{key:=ke a,val:=ve v,born:=e.born}).toList.map (·.born))=es.toList.map (·.born):=by
    apply dw;intro j;simp only[ct,dm,cn];by_cases c:i=j
    ·subst c;simp[g]
    ·simp[c]
   rw[this];exact E.born
  ·intro q r
   obtain⟨j,c⟩:=bj.1 r;simp only[dm,cn] at c;by_cases o:i=j
   ·subst o
    simp[g] at c;rw[<-c];exact E.hQ e0 (by simpa using iU g)
   ·simp[o] at c
    exact E.hQ q (by simpa using iU c)
def del(a:α)(l:List (α×β)):List (α×β):=l.filter fun p=>decide (p.1≠a)
theorem RI{a:α}{l:List (α×β)}{p:α×β}:p∈del a l↔p∈l/\p.1≠a:=by simp[del]
theorem UC{a:α}{l:List (α×β)}(b:(l.map aj).Nodup):((del a l).map aj).Nodup:=List.Nodup.sublist (jz.map _) b
theorem Gc{a:α}{i:Nat}{u:β}:∀{l:List (α×β)},(l.map aj).Nodup->get a l=Z (i,u)->del a l=l.eraseIdx i
 |[],_,h=>by simp[get] at h
 |p::r,c,h=>by
  simp only[eP,List.nodup_cons] at c;unfold get at h;by_cases b:a=p.1
  ·simp[b] at h
   obtain⟨rfl,rfl⟩:=h;have:del a r=r:=by
    unfold del;rw[jA];intro q f;simp only[decide_eq_true_eq];intro e;exact c.1 (aU.2 ⟨q,f,by rw[e,b]⟩)
   unfold del at this⊢;simp only[eB,b,ne_eq,not_true_eq_false,decide_false,Bool.false_eq_true,if_false,List.eraseIdx_cons_zero];rw[<-b];exact this
  ·simp only[b,if_false,cj] at h
   obtain⟨⟨j,g⟩,h1,h2⟩:=h;simp at h2;obtain⟨rfl,rfl⟩:=h2;have:=Gc c.2 h1;unfold del at this⊢;have d:¬p.1=a:=fun e=>b e.symm;rw[eB,if_pos (by simpa using d),List.eraseIdx_cons_succ,this]
theorem Jp{a:α}{l:List (α×β)}(h:get a l=Y):del a l=l:=by
 unfold del;rw[jA];intro q b;simpa using get_none.1 h q b
theorem Jo{ke:α->Vl}{ve:β->Vl}{es:Array MapEntry}{clock:Nat}{l:List (α×β)}(E:xL ke ve es clock l){a:α}{u:β}(c:get a l=Z (i,u)):
  xL ke ve (es.eraseIdxIfInBounds i) clock (del a l):=by
 have g:es.size=l.length:=by simpa using congrArg dH E.read
 have hi:=get_some c;obtain⟨f,_⟩:=aQ.1 hi;have b:(es.eraseIdxIfInBounds i).toList=es.toList.eraseIdx i:=by
  have:i<es.size:=oM
  simp[iH,this]
 refine⟨?_,UC E.keys,?_,?_⟩
 ·rw[b,Gc E.keys c,map_eraseIdx,E.read,map_eraseIdx]
 ·rw[b]
  exact List.Nodup.sublist ((fE _ _).map _) E.born
 ·rw[b]
  exact fun e d=>E.hQ e ((fE _ _).subset d)
theorem QM{P:Program}{e:TypeId}{ke:α->Vl}{ve:β->Vl}(K:pq P k ke)(f:P.underlying t=Z (.map k e)){w:D}{l:List (α×β)}(h:Is w b ke ve l)(a:α)(ty:TypeId):
  ∃w',(dG #[t,k] ty #[.map (Z b),ke a]).run P w= .ok (Tp #[]) w'/\Is w' b ke ve (del a l)/\w.mapTurned w' b:=by
 obtain⟨es,clock,c,E⟩:=h;cases d:get a l with
 |none=>
  refine⟨setBlock w b (.map es clock),?_,⟨es,clock,heap_setBlock_same c _,by rw[Jp d];exact E⟩,⟨_,_,_,_,c,rfl⟩⟩;simp[dG,run_underlying f,cf c,K.check,tK K w a es.toList l E.read,d,aM,fun o=>cB (P:=P) o c,setBlock]
 |some x=>
  obtain⟨i,u⟩:=x;refine⟨setBlock w b (.map (es.eraseIdxIfInBounds i) clock),?_,⟨_,_,heap_setBlock_same c _,Jo E d⟩,⟨_,_,_,_,c,rfl⟩⟩;simp[dG,run_underlying f,cf c,K.check,tK K w a es.toList l E.read,d,aM,fun o=>cB (P:=P) o c,setBlock]
def iz(w:D)(b r:Nat)(ke:α->Vl)(ve:β->Vl)(l:List (α×β))(left:α->Bool):Prop:=
 ∃es clock c seen c0,w.heap[b]? =Z (.map es clock)/\w.heap[r]? =Z (.mapIter (Z b) c seen c0)/\xL ke ve es clock l/\c<=c0/\c<=clock/\(∀e∈es.toList,e.born<c)/\
  ∀e∈es.toList,∀a,e.key=ke a->seen.contains e.born= !left a
omit [DecidableEq α] in
theorem iz.is{w:D}{ke:α->Vl}{ve:β->Vl}{l:List (α×β)}{left:α->Bool}(h:iz w b r ke ve l left):Is w b ke ve l:=by
 obtain⟨es,clock,d,seen,c0,a,c,E,_⟩:=h;exact⟨es,clock,a,E⟩
omit [DecidableEq α] in
theorem iz.congr{w w':D}{ke:α->Vl}{ve:β->Vl}{l:List (α×β)}{left:α->Bool}(h:iz w b r ke ve l left)(h1:w'.heap[b]? =w.heap[b]?)(h2:w'.heap[r]? =w.heap[r]?):iz w' b r ke ve l left:=by
 obtain⟨es,clock,d,seen,c0,a,c,E⟩:=h;exact⟨es,clock,d,seen,c0,by rw[h1,a],by rw[h2,c],E⟩
omit [DecidableEq α] in
theorem Is.congr{w w':D}{ke:α->Vl}{ve:β->Vl}{l:List (α×β)}(h:Is w b ke ve l)(h1:w'.heap[b]? =w.heap[b]?):Is w' b ke ve l:=by
 obtain⟨es,clock,a,E⟩:=h;exact⟨es,clock,by rw[h1,a],E⟩
omit [DecidableEq α] in
theorem Is.keys{w:D}{b:Nat}{ke:α->Vl}{ve:β->Vl}{l:List (α×β)}(h:Is w b ke ve l):(l.map aj).Nodup:=by
 obtain⟨es,clock,a,E⟩:=h;exact E.keys
omit [DecidableEq α] in
theorem Is.lt{w:D}{ke:α->Vl}{ve:β->Vl}{l:List (α×β)}(h:Is w b ke ve l):b<w.heap.size:=by
 obtain⟨es,clock,a,E⟩:=h;exact(aL a)
omit [DecidableEq α] in
theorem I7{P:Program}{e:TypeId}{ke:α->Vl}{ve:β->Vl}(d:P.underlying t=Z (.map k e)){w:D}{l:List (α×β)}(h:Is w b ke ve l):
  ∃w',(Instr.range t (.map (Z b))).run P w= .ok (X (Z ⟨w.heap.size,0,Y⟩)) w'/\iz w' b w.heap.size ke ve l (fun _=>true)/\∃o,w'=w.alloc o:=by
 have c:=h.lt;obtain⟨es,clock,a,E⟩:=h;refine⟨_,run_range_map w t k e b es clock d a,⟨es,clock,clock,#[],clock,?_,heap_alloc_new _ _,E,bA _,bA _,E.hQ,sP⟩,_,rfl⟩;show(w.heap.push _)[b]? =_;rw[Array.getElem?_push_lt c,<-a,dA c]
theorem JJ{P:Program}{ke:α->Vl}{ve:β->Vl}(inj:∀a b,ke a=ke b->a=b){w:D}{l:List (α×β)}{left:α->Bool}(M:b≠r)(h:iz w b r ke ve l left)(ty:TypeId):
  ((∀p∈l,left p.1=false)/\(gm (X (Z ⟨r,0,Y⟩)) false ty).run P w= .ok (Tp #[Bl false]) w)\/
  ∃a v,(a,v)∈l/\left a=true/\∃w',(gm (X (Z ⟨r,0,Y⟩)) false ty).run P w= .ok (Tp #[Bl true,ke a,ve v]) w'/\
   iz w' b r ke ve l (fun x=>left x&&decide (x≠a))/\w.grownBy w' (Z r)/\w'.heap.size=w.heap.size/\(jg (X (Z ⟨r,0,Y⟩))).run P w'= .ok (Tp #[ke a,ve v]) w':=by
 obtain⟨es,clock,k,seen,c0,C,J,E,a6,K,H,y⟩:=h;have S:∀e∈es.toList,∃p∈l,e.key=ke p.1/\e.val=ve p.2:=by
  intro e d;have h1:(e.key,e.val)∈l.map (fun p=>(ke p.1,ve p.2)):=by rw[<-E.read];exact aU.2 ⟨e,d,rfl⟩
  obtain⟨p,g,h2⟩:=aU.1 h1;simp at h2;exact⟨p,g,h2.1.symm,h2.2.symm⟩
 have T:∀p∈l,∃e∈es.toList,e.key=ke p.1/\e.val=ve p.2:=by
  intro p g;have h1:(ke p.1,ve p.2)∈es.toList.map (fun e=>(e.key,e.val)):=by rw[E.read];exact aU.2 ⟨p,g,rfl⟩
  obtain⟨e,d,h2⟩:=aU.1 h1;simp at h2;exact⟨e,d,h2.1,h2.2⟩
 rcases run_next_at (P:=P) w ty r b k c0 seen es clock J C H a6 with⟨h0,z⟩|⟨e,d,w1,a7,z⟩
 ·left
  refine⟨?_,z⟩;intro p g;obtain⟨e,d,h1,_⟩:=T p g;cases t:left p.1
  ·rfl
  ·exfalso
   have h2:=y e d p.1 h1;rw[t] at h2;have h3:e∈leftOf es seen:=by
    unfold leftOf;rw[Array.mem_filter];exact⟨by simpa using d,by simp at h2⊢;exact h2⟩
   have:=Array.size_pos_of_mem h3;omega
 ·right
  have m:e∈es.toList/\seen.contains e.born=false:=by
   unfold leftOf at d;simp at d⊢;exact d
  obtain⟨p,g,h1,h2⟩:=S e m.1;have F:=y e m.1 p.1 h1;rw[m.2] at F;have f:w1.heap=w.heap/\w1.os=w.os/\w1.tape=w.tape/\w1.output=w.output:=by rcases a7 with rfl|rfl<;>exact⟨rfl,rfl,rfl,rfl⟩
  have W:w1.heap[r]? =Z (.mapIter (Z b) k seen c0):=by rw[f.1];exact J
  have R:r<w1.heap.size:=(aL W);have A:(setBlock w1 r (.mapIter (Z b) k (seen.push e.born) clock)).heap[b]? =Z (.map es clock):=by
   show(w1.heap.setIfInBounds r _)[b]? =_;rw[gG (fun x=>M x.symm),f.1,C]
  have B:(setBlock w1 r (.mapIter (Z b) k (seen.push e.born) clock)).heap[r]? =Z (.mapIter (Z b) k (seen.push e.born) clock):=by
   show(w1.heap.setIfInBounds r _)[r]? =_;rw[Array.getElem?_setIfInBounds_self_of_lt R]
  refine⟨p.1,p.2,g,by cases t:left p.1<;>simp[t] at F⊢,_,by rw[z,h1,h2],⟨es,clock,k,_,clock,A,B,E,K,K,H,?_⟩,?_,?_,?_⟩
  ·intro o u a s
   rw[Array.contains_push,y o u a s];by_cases n:a=p.1
   ·subst n
    have:o.born=e.born:=by
     obtain⟨i,hi⟩:=bj.1 u;obtain⟨j,c⟩:=bj.1 m.1;have G:∀{i:Nat}{x:MapEntry},es.toList[i]? =Z x->x.key=ke p.1->∃q,l[i]? =Z q/\q.1=p.1:=by
      intro i x n Q;have h3:=congrArg (·[i]?) E.read;simp only[ct,n,da] at h3;cases I:l[i]? with
      |none=>rw[I] at h3;simp at h3
      |some q=>
       rw[I] at h3;simp at h3;exact⟨q,rfl,inj _ _ (by rw[<-h3.1,Q])⟩
     obtain⟨q1,U,N⟩:=G hi s;obtain⟨q2,V,O⟩:=G c h1;obtain rfl:=sR E.keys U V (by rw[N,O]);rw[hi] at c;injection c with c
     rw[c]
    simp[this]
   ·have:o.born≠e.born:=by
     intro L;obtain⟨i,hi⟩:=bj.1 u;obtain⟨j,c⟩:=bj.1 m.1;obtain rfl:=sR E.born hi c L;rw[hi] at c;injection c with c
     subst c;exact n (inj _ _ (by rw[<-s,h1]))
    simp[n,this]
  ·exact⟨f.2.1,f.2.2.1,f.2.2.2,by simp[setBlock,f.1],fun i _ hi=>by
    show(w1.heap.setIfInBounds r _)[i]? =_;rw[gG (fun x=>hi (by rw[x])),f.1]⟩
  ·simp[setBlock,f.1]
  ·rw[run_entry_at _ r b k seen es clock e B A m.1 E.born,h1,h2]
theorem QL{P:Program}{e:TypeId}{ke:α->Vl}{ve:β->Vl}(K:pq P k ke)(f:P.underlying t=Z (.map k e)){w:D}{l:List (α×β)}{left:α->Bool}(j:b≠r)(h:iz w b r ke ve l left)(a:α)(ty:TypeId):
  ∃w',(dG #[t,k] ty #[.map (Z b),ke a]).run P w= .ok (Tp #[]) w'/\iz w' b r ke ve (del a l) left/\w.mapTurned w' b:=by
 obtain⟨es,clock,z,seen,c0,c,q,E,s,v,p,n⟩:=h;cases d:get a l with
 |none=>
  refine⟨setBlock w b (.map es clock),?_,⟨es,clock,z,seen,c0,heap_setBlock_same c _,?_,by rw[Jp d];exact E,s,v,p,n⟩,⟨_,_,_,_,c,rfl⟩⟩
  ·simp[dG,run_underlying f,cf c,K.check,tK K w a es.toList l E.read,d,aM,fun o=>cB (P:=P) o c,setBlock]
  ·rw[heap_setBlock_other c _ (fun x=>j x.symm),q]
 |some x=>
  obtain⟨i,u⟩:=x;have A:=Jo E d;have y:∀e0∈(es.eraseIdxIfInBounds i).toList,e0∈es.toList:=by
   intro e0 m;have C:es.size=l.length:=by simpa using congrArg dH E.read
   obtain⟨B,_⟩:=aQ.1 (get_some d);have f:(es.eraseIdxIfInBounds i).toList=es.toList.eraseIdx i:=by
    have:i<es.size:=oM
    simp[iH,this]
   rw[f] at m;exact(fE _ _).subset m
  refine⟨setBlock w b (.map (es.eraseIdxIfInBounds i) clock),?_,⟨_,_,z,seen,c0,heap_setBlock_same c _,?_,A,s,v,fun e0 g=>p e0 (y e0 g),fun e0 g=>n e0 (y e0 g)⟩,⟨_,_,_,_,c,rfl⟩⟩
  ·simp[dG,run_underlying f,cf c,K.check,tK K w a es.toList l E.read,d,aM,fun o=>cB (P:=P) o c,setBlock]
  ·rw[heap_setBlock_other c _ (fun x=>j x.symm),q]
theorem Gv{l:List (α×β)}{left:α->Bool}{a:α}{v:β}(c:(a,v)∈l)(b:left a=true):
  (l.filter fun p=>left p.1&&decide (p.1≠a)).length<(l.filter fun p=>left p.1).length:=by
 have e:(l.filter fun p=>left p.1&&decide (p.1≠a))=(l.filter fun p=>left p.1).filter fun p=>decide (p.1≠a):=by
  rw[List.filter_filter];congr 1;funext p;rw[Bool.and_comm]
 rw[e,List.length_filter_lt_length_iff_exists];exact⟨(a,v),List.mem_filter.2 ⟨c,b⟩,sP⟩
theorem Rr{l:List (α×β)}{left:α->Bool}(a:α):((del a l).filter fun p=>left p.1).length<=(l.filter fun p=>left p.1).length:=
 (jz.filter _).length_le
def V(w:D)(v:Vl)(ke:α->Vl)(ve:β->Vl)(l:List (α×β)):Prop:=(v= .map Y/\l=[])\/∃b,v= .map (Z b)/\Is w b ke ve l
theorem Nz{P:Program}{e:TypeId}{ke:α->Vl}{ve:β->Vl}(K:pq P k ke)(c:P.underlying t=Z (.map k e)){w:D}{l:List (α×β)}(h:V w m ke ve l)(a:α)
  {z:Vl} (d:(zeroValue e).run P w= .ok z w):
  (fq t m (ke a) true).run P w= .ok (Tp #[((na a l).map ve).getD z,Bl (na a l).isSome]) w:=by
 rcases h with⟨rfl,rfl⟩|⟨b,rfl,h⟩
 ·rw[look_nil K c w a d];rfl
 ·exact Pe K c h a d
omit [DecidableEq α] in
theorem Vc{P:Program}{e:TypeId}{ke:α->Vl}{ve:β->Vl}(a:P.underlying t=Z (.map k e)){w:D}{l:List (α×β)}(h:V w m ke ve l)(ty:TypeId):
  (fZ #[t] ty #[m]).run P w= .ok (I J l.length) w:=by
 rcases h with⟨rfl,rfl⟩|⟨b,rfl,h⟩
 ·simp[fZ,run_underlying a,goInt,aM]
 ·exact Ru a h ty
section
variable {P:Program} (w:D) {ops:Array Oper} {rest:List Oper} {o:Oper} {a:Act} {Q:Exit->Act->D->Prop}
theorem zO(g:o.guard=Y)(m x v:Operand)(t:TypeId)(j:o.op=Op.mapUpdate t m x v){e:TypeId}{ke:α->Vl}{ve:β->Vl}(K:pq P k ke)(p:P.underlying t=Z (.map k e))
  {l:List (α×β)} {b:Nat} (i:a.eval m= .map (Z b)) (h:Is w b ke ve l) (c:α) (u:β) (q:a.eval x=ke c) (hv:a.eval v=ve u)
  (d:∀w',Is w' b ke ve (put c u l)->w.mapTurned w' b->wpList P ops Q rest (a.put o.dst undef) w'):
  wpList P ops Q (o::rest) a w:=by
 refine wpList_plain g fun r f=> ?_;obtain⟨w',n,r1,r2⟩:=LG K p h c u;unfold cT;simp[execOp,j,i,q,hv,n,aM];exact f _ _ (d w' r1 r2)
theorem Sq(g:o.guard=Y)(m x:Operand)(t k:TypeId)(j:o.op=Op.call {callee:=Callee.builtin jU,args:= #[m,x],argTypes:= #[t,k]})
  {e:TypeId} {ke:α->Vl} {ve:β->Vl} (K:pq P k ke) (p:P.underlying t=Z (.map k e)) {l:List (α×β)} {b:Nat} (i:a.eval m= .map (Z b)) (h:Is w b ke ve l) (c:α) (q:a.eval x=ke c)
  (d:∀w',Is w' b ke ve (del c l)->w.mapTurned w' b->wpList P ops Q rest (a.put o.dst (Tp #[])) w'):
  wpList P ops Q (o::rest) a w:=by
 refine wpList_plain g fun r f=> ?_;obtain⟨w',n,r1,r2⟩:=QM K p h c o.type;unfold cT;simp[execOp,j,resolve,invoke,builtin,i,q,n,aM];exact f _ _ (d w' r1 r2)
theorem Xw(i:o.guard=Y)(m x:Operand)(t k:TypeId)(n:o.op=Op.call {callee:=Callee.builtin jU,args:= #[m,x],argTypes:= #[t,k]})
  {e:TypeId} {ke:α->Vl} {ve:β->Vl} (K:pq P k ke) (q:P.underlying t=Z (.map k e)) {l:List (α×β)} {left:α->Bool} {b r:Nat} (g:b≠r) (j:a.eval m= .map (Z b)) (h:iz w b r ke ve l left) (c:α) (s:a.eval x=ke c)
  (d:∀w',iz w' b r ke ve (del c l) left->w.mapTurned w' b->wpList P ops Q rest (a.put o.dst (Tp #[])) w'):
  wpList P ops Q (o::rest) a w:=by
 refine wpList_plain i fun u f=> ?_;obtain⟨w',p,r1,r2⟩:=QL K q g h c o.type;unfold cT;simp[execOp,n,resolve,invoke,builtin,j,s,p,aM];exact f _ _ (d w' r1 r2)
omit [DecidableEq α] in
theorem Cu(d:o.guard=Y)(m:Operand)(t:TypeId)(g:o.op=Op.call {callee:=Callee.builtin Builtin.len,args:= #[m],argTypes:= #[t]})
  {k e:TypeId} {ke:α->Vl} {ve:β->Vl} (i:P.underlying t=Z (.map k e)) {l:List (α×β)} {mv:Vl} (f:a.eval m=mv) (h:V w mv ke ve l)
  (b:wpList P ops Q rest (a.put o.dst (I J l.length)) w):
  wpList P ops Q (o::rest) a w:=by
 refine wpList_plain d fun j c=> ?_;unfold cT;simp[execOp,g,resolve,invoke,builtin,f,Vc i h o.type,aM];exact c _ _ b
omit [DecidableEq α] in
theorem Kd(f:o.guard=Y)(m:Operand)(t:TypeId)(i:o.op=Op.range t m){e:TypeId}{ke:α->Vl}{ve:β->Vl}(n:P.underlying t=Z (.map k e)){l:List (α×β)}(g:a.eval m= .map (Z b))(h:Is w b ke ve l)
  (c:∀w',iz w' b w.heap.size ke ve l (fun _=>true)->(∃o,w'=w.alloc o)->wpList P ops Q rest (a.put o.dst (X (Z ⟨w.heap.size,0,Y⟩))) w'):
  wpList P ops Q (o::rest) a w:=by
 refine wpList_plain f fun p d=> ?_;obtain⟨w',j,r1,r2⟩:=I7 (P:=P) n h;unfold cT;simp[execOp,i,g,j,aM];exact d _ _ (c w' r1 r2)
theorem Ko(q:o.guard=Y)(i:Operand)(g:o.op=Op.next i false){ke:α->Vl}{ve:β->Vl}(inj:∀a b,ke a=ke b->a=b){l:List (α×β)}{left:α->Bool}(n:b≠r)(f:a.eval i=X (Z ⟨r,0,Y⟩))(h:iz w b r ke ve l left)
  (k:(∀p∈l,left p.1=false)->wpList P ops Q rest (a.put o.dst (Tp #[Bl false])) w)
  (m:∀c v w',(c,v)∈l->left c=true->iz w' b r ke ve l (fun x=>left x&&decide (x≠c))->w.grownBy w' (Z r)->w'.heap.size=w.heap.size->(jg (X (Z ⟨r,0,Y⟩))).run P w'= .ok (Tp #[ke c,ve v]) w'->
   wpList P ops Q rest (a.put o.dst (Tp #[Bl true,ke c,ve v])) w'):
  wpList P ops Q (o::rest) a w:=by
 refine wpList_plain q fun u e=> ?_;unfold cT;rcases JJ (P:=P) inj n h o.type with⟨j,d⟩|⟨c,v,t,s,w',d,r1,r2,r3,r4⟩
 ·simp[execOp,g,f,d,aM]
  exact e _ _ (k j)
 ·simp[execOp,g,f,d,aM]
  exact e _ _ (m c v w' t s r1 r2 r3 r4)
end
def two(p:Int×Int):Vl:=H #[I J p.1,I J p.2]
def unit(_:Unit):Vl:=H #[]
theorem xj(a b:Int×Int)(h:two a=two b):a=b:=by
 unfold two at h;injection h with h
 simp at h;exact Prod.ext h.1 h.2
end Mp
open Go Go.RowKit Go.ChangeMaps
structure Fr(S:Nat->Prop)(B:Nat)(w w':D):Prop where
 os:w'.os=w.os
 tape:w'.tape=w.tape
 output:w'.output=w.output
 size:w.heap.size<=w'.heap.size
 block:∀k,k<B->¬S k->w'.heap[k]? =w.heap[k]?
namespace Fr
variable {S T:Nat->Prop} {B:Nat} {u v w:D}
theorem refl(S:Nat->Prop)(B:Nat)(w:D):Fr S B w w:=⟨rfl,rfl,rfl,bA _,fun _ _ _=>rfl⟩
theorem trans(h:Fr S B u v)(k:Fr S B v w):Fr S B u w:=
 ⟨k.os.trans h.os,k.tape.trans h.tape,k.output.trans h.output,Nat.le_trans h.size k.size,fun i hi a=>(k.block i hi a).trans (h.block i hi a)⟩
theorem mono(h:Fr S B u v)(c:C<=B)(a:∀k,k<C->S k->T k):Fr T C u v:=
 ⟨h.os,h.tape,h.output,h.size,fun i hi b=>h.block i oM fun x=>b (a i hi x)⟩
theorem kq{n:Nat}(h:O n u v)(a:B<=n):Fr S B u v:=⟨h.os,h.tape,h.output,h.size,fun i hi _=>h.block i oM⟩
theorem below(h:Fr S B u v)(b:C<=B)(a:∀k,k<C->¬S k):O C u v:=⟨h.os,h.tape,h.output,h.size,fun i hi=>h.block i oM (a i hi)⟩
theorem setCell(h:Fr S B u v)(a:Addr)(x:Vl)(b:S a.block\/B<=a.block):Fr S B u (v.setCell a x):=
 h.trans ⟨rfl,rfl,rfl,by simp[kO],fun k d c=>heap_setCell_other _ _ _ _ (by rintro rfl;rcases b with b|b;exact c b;omega)⟩
theorem setRow(h:Fr S B u v)(b:Nat)(cs:Array Vl)(a:S b\/B<=b):Fr S B u (v.setRow b cs):=
 h.trans ⟨rfl,rfl,rfl,by simp[gA],fun k d c=>by
  have:k≠b:=by rintro rfl;rcases a with a|a;exact c a;omega
  simp[gA,cn];exact fun e=>absurd e.symm this⟩
theorem grown(h:Fr S B u v){r:Option Nat}(a:v.grownBy w r)(hv:B<=v.heap.size)(c:∀b,r=Z b->S b\/B<=b):Fr S B u w:=
 h.trans ⟨a.os,a.tape,a.output,a.size,fun k f d=>a.block k oM fun e=>by rcases c k e.symm with x|x;exact d x;omega⟩
theorem turned(h:Fr S B u v)(c:v.mapTurned w b)(hv:B<=v.heap.size)(a:S b\/B<=b):Fr S B u w:=h.grown c.grown hv fun k e=>by cases e;exact a
theorem calls(h:Fr S B u v)(k:O v.heap.size v w)(hv:B<=v.heap.size):Fr S B u w:=h.trans (kq k hv)
end Fr
def Row(S:Nat->Prop)(w:D)(e:TypeId)(size:Nat)(v:Vl)(n:Nat)(xs:List Vl):Prop:=w.ownsRow 0 e size v n xs/\∀b,v.ownBlock=Z b->S b
namespace Row
variable {S T:Nat->Prop} {w w':D} {e:TypeId} {size:Nat} {v:Vl} {n:Nat} {xs:List Vl}
theorem nil(S:Nat->Prop)(w:D)(e:TypeId)(size:Nat):Row S w e size (.slice none 0 0) 0 []:=⟨⟨sP,oL ⟨rfl,rfl⟩⟩,fun _ h=>by cases h⟩
theorem mono(h:Row S w e size v n xs)(a:∀k,S k->T k):Row T w e size v n xs:=⟨h.1,fun b c=>a b (h.2 b c)⟩
theorem length(h:Row S w e size v n xs):xs.length=n*size:=h.1.1
theorem lt(h:Row S w e size v n xs)(b:Nat)(a:v.ownBlock=Z b):b<w.heap.size:=by
 rcases h.1.2 with⟨rfl,_⟩|⟨g,cap,d,rfl,_,c,_⟩
 ·cases a
 ·injection a with a
  subst a;exact(aL c)
theorem congr(h:Row S w e size v n xs)(d:∀b,v.ownBlock=Z b->w'.heap[b]? =w.heap[b]?):Row S w' e size v n xs:=by
 refine⟨⟨h.1.1,?_⟩,h.2⟩;rcases h.1.2 with h1|⟨g,cap,a,rfl,h2,c,h3⟩
 ·exact oL h1
 ·exact oR ⟨g,cap,a,rfl,h2,by rw[d g rfl];exact c,h3⟩
theorem below{B:Nat}(h:Row S w e size v n xs)(d:O B w w')(a:w.heap.size<=B):Row S w' e size v n xs:=
 h.congr fun b c=>d.block b (Nat.lt_of_lt_of_le (h.lt b c) a)
theorem RV{base:Nat}(h:w.ownsRow base e size v n xs)(f:∀k,base<=k->S k):Row S w e size v n xs:=by
 refine⟨⟨h.1,?_⟩,?_⟩
 ·rcases h.2 with h1|⟨g,cap,c,rfl,h2,d,h3⟩
  ·exact oL h1
  ·exact oR ⟨g,cap,c,rfl,aF _,d,h3⟩
 ·intro b a
  rcases h.2 with⟨rfl,_⟩|⟨g,cap,c,rfl,h2,d,h3⟩
  ·cases a
  ·injection a with a
   subst a;exact f _ h2
theorem cases(h:Row S w e size v n xs):(v= .slice none 0 0/\n=0/\xs=[])\/∃g cap a,v= .slice (Z ⟨g,0,Y⟩) n cap/\S g/\w.heap[g]? =Z (Cl a e (0,0))/\n<=cap/\cap<=maxLen/\a.size=cap*size/\a.toList.take (n*size)=xs:=by
 rcases h.1.2 with⟨rfl,rfl⟩|⟨g,cap,a,rfl,_,b,h3⟩
 ·exact oL ⟨rfl,rfl,List.length_eq_zero_iff.1 (by rw[h.1.1];simp)⟩
 ·exact oR ⟨g,cap,a,rfl,h.2 g rfl,b,h3⟩
theorem cell{g:Nat}{b:Array Vl}(c:w.heap[g]? =Z (Cl b e (0,0)))(f:b.toList.take (n*size)=xs){j:Nat}{x:Vl}(a:xs[j]? =Z x):w.cell? ⟨g,j,Y⟩=Z x:=by
 have h1:b[j]? =Z x:=by
  rw[<-f] at a;have d:j<n*size:=by
   have:=(lL a);rw[List.length_take] at this;omega
  rw[List.getElem?_take_of_lt d] at a;simpa using a
 exact cell_of_row w g j _ _ _ c▸h1
end Row
theorem re{P:Program}{ops:Array Oper}{rest:List Oper}{o:Oper}{a:Act}{w:D}{Q:Exit->Act->D->Prop}(r:o.guard=Y)(s x:Operand)(t:TypeId)(B:o.op= .call {callee:=.builtin .append,args:= #[s,x],argTypes:= #[t,t]})
  (e:TypeId) (z:Vl) (size bytes:Nat) (F:P.underlying t=Z (.slice e)) (h2:(P.info? e).map (fun i=>(i.zero,i.size,i.bytes))=Z (Z z,size,bytes)) (K:z.cells.size=size) (E:0<size) (q:bytes<=4096)
  (S:Nat->Prop) (v:Vl) (n:Nat) (xs:List Vl) (C:a.eval s=v) (l:Row S w e size v n xs)
  (m:Nat) (b g:Nat) (cs:List Vl) (G:a.eval x= .slice (Z ⟨b,0,Y⟩) m g) (hu:∀j c,cs[j]? =Z c->w.cell? ⟨b,j,Y⟩=Z c) (A:cs.length=m*size) (h1:∀c∈cs,c.oneCell'=true) (M:n+m<=30000000000)
  (h:∀v' w',Row (fun k=>S k\/k=w.heap.size) w' e size v' (n+m) (xs++cs)->w.grownBy w' v.ownBlock->wpList P ops Q rest (a.put o.dst v') w'):wpList P ops Q (o::rest) a w:=by
 obtain⟨i,hi,H,I,J⟩:=info_parts h2;refine wpList_append_own_at w r s x t B 0 e i z size bytes F hi H I J K E v n xs C l.1 ⟨b,0,Y⟩ m g cs G A (fun j u y=> ?_) h1 (by unfold maxLen;omega) ?_ (aF _) (fun v' w' h3 p L d=> ?_)
 ·rw[Addr.add_mid,Nat.zero_add]
  exact hu j u y
 ·have:(n+m)*bytes<=30000000000*4096:=Nat.mul_le_mul oM q
  omega
 ·refine h v' w' ⟨h3,fun k f=> ?_⟩ p
  rcases d with d|d
  ·exact oL (l.2 k (by rw[<-d];exact f))
  ·rw[d] at f
   injection f with f
   exact oR f.symm
end Go.Proofs.YtbojijefenfbgaaGreatDoor
namespace Go.Proofs.YtbojijefenfbgaaGreatDoor
namespace Ks
variable {P:Program} {ops:Array Oper} {rest:List Oper} {o:Oper} {a:Act} {w:D} {Q:Exit->Act->D->Prop}
theorem U0(h:wpList P l.toArray Q l a w):(Code.region id l.toArray false).wp P Q a w:=wp_region_list h
theorem ret{K:Act->D->Prop}(h:Q .ret a w):Exit.then K Q .ret a w:=h
theorem norm(h:K a w):Exit.then K Q .normal a w:=h
theorem done(h:K a w):wpList P ops (Exit.then K Q) [] a w:=h
theorem val(c:o.guard=Y)(v:Vl)(hv:(execOp a.eval o).run P w= .ok (.value v) w)(h:wpList P ops Q rest (a.put o.dst v) w):wpList P ops Q (o::rest) a w:=
 wpList_plain c fun K b=>by
  unfold cT;rw[hv];exact b _ _ h
theorem v(x:Vl)(h:wpList P ops Q rest (a.put o.dst x) w)(b:o.guard=Y:=by rfl)(hv:(execOp a.eval o).run P w= .ok (.value x) w:=by kernel_rfl):wpList P ops Q (o::rest) a w:=val b x hv h
theorem off(c:ah o (yielded ops a.tmps)=false)(h:wpList P ops Q rest (a.put o.dst undef) w):wpList P ops Q (o::rest) a w:=
 wpList_step fun K b=>by
  rw[c];exact b _ _ h
theorem ml(c:ah o (yielded ops a.tmps)=true)(v:Vl)(hv:(execOp a.eval o).run P w= .ok (.value v) w)(h:wpList P ops Q rest (a.put o.dst v) w):wpList P ops Q (o::rest) a w:=
 wpList_step fun K b=>by
  rw[c];show o.wp P a w K Q;unfold cT;rw[hv];exact b _ _ h
theorem sN{ty:TypeId}(hu:P.underlying ty=Z d)(hd:d.isRow=false){w:D}{off:Nat}{v:Vl}(h:w.cell? ⟨b,off,Y⟩=Z v):(loadVar ty ⟨b,off,Y⟩).run P w= .ok v w:=by
 have h1:=run_underlying hu w;cases d<;>simp[TypeDesc.isRow] at hd<;>simp[loadVar,isAgg,go_sem,h,h1]
theorem g(x:Vl)(h:wpList P ops Q rest (a.put o.dst x) w)(b:ah o (yielded ops a.tmps)=true:=by kernel_rfl)(hv:(execOp a.eval o).run P w= .ok (.value x) w:=by kernel_rfl):wpList P ops Q (o::rest) a w:=ml b x hv h
theorem n(h:wpList P ops Q rest (a.put o.dst undef) w)(b:ah o (yielded ops a.tmps)=false:=by kernel_rfl):wpList P ops Q (o::rest) a w:=off b h
theorem cell(e:o.guard=Y)(ty:TypeId)(x:Operand)(f:o.op= .load ty x){d:TypeDesc}(hu:P.underlying ty=Z d)(hd:d.isRow=false)(b off:Nat)(v:Vl)(g:a.eval x=X (Z ⟨b,off,Y⟩))(c:w.cell? ⟨b,off,Y⟩=Z v)
  (h:wpList P ops Q rest (a.put o.dst v) w):wpList P ops Q (o::rest) a w:=by
 refine val e v ?_ h;have h1:=sN hu hd c;unfold execOp;simp only[f,g,cJ,bG,aH,aR,ar,h1]
theorem row(e:o.guard=Y)(ty:TypeId)(x:Operand)(f:o.op= .load ty x)(b:Nat)(g:a.eval x=X (Z ⟨b,0,Y⟩)){cs:Array Vl}{fr:Nat×Nat}(c:w.heap[b]? =Z (Cl cs t fr))(hu:P.underlying ty=Z d)(hd:(match d with| .struct _| .array _ _=>true|_=>false)=true)(hi:(P.info? ty).map (·.size)=Z cs.size)
  (h:wpList P ops Q rest (a.put o.dst (H cs)) w):wpList P ops Q (o::rest) a w:=by
 refine val e _ ?_ h;unfold execOp;simp only[f,g,cJ,bG,aH,aR,ar,run_loadVar_row w b t ty cs fr d c hu hd hi]
theorem pj(e:o.guard=Y)(ty:TypeId)(x:Operand)(f:o.op= .load ty x)(b off:Nat)(g:a.eval x=X (Z ⟨b,off,Y⟩))(cs:List Vl)(c:w.rangeAt b off cs)(hu:P.underlying ty=Z d)(hd:d.isRow=true)(hi:(P.info? ty).map (·.size)=Z cs.length)
  (h:wpList P ops Q rest (a.put o.dst (H cs.toArray)) w):wpList P ops Q (o::rest) a w:=by
 refine val e _ ?_ h;unfold execOp;simp only[f,g,cJ,bG,aH,aR,ar,run_loadVar_mid w b off ty cs d c hu hd hi]
theorem store(r:o.guard=Y)(ty:TypeId)(x y:Operand)(j:o.op= .store ty x y)(b off:Nat)(v:Vl)(m:a.eval x=X (Z ⟨b,off,Y⟩))(n:a.eval y=v){t:TypeId}{cs:Array Vl}(d:w.heap[b]? =Z (Cl cs t (0,0)))(C:off<cs.size)(hi:(P.info? ty).map (·.size)=Z 1)(hv:v.oneCell'=true)(e:Array Vl)(q:cs.setIfInBounds off v=e)
  (h:∀w',Hq (w'.heap[b]? =Z (Cl e t (0,0)))->Hq (∀S B,(S b\/B<=b)->Fr S B w w')->Hq (∀k,k≠b->w'.heap[k]? =w.heap[k]?)->Hq (w'.heap.size=w.heap.size)->wpList P ops Q rest (a.put o.dst undef) w'):wpList P ops Q (o::rest) a w:=by
 subst q;refine wpList_plain r fun K f=> ?_;have g:w.frozen? ⟨b,off,Y⟩=false:=frozen_of_row w b off _ t d;obtain⟨i,s,z⟩:=cj.1 hi;have c:∃u,w.cell? ⟨b,off,Y⟩=Z u:=⟨cs[off],by rw[cell_of_row w b off _ _ _ d];exact dA C⟩;obtain⟨u,c⟩:=c;have h1:(storeVar ty ⟨b,off,Y⟩ v).run P w= .ok () (w.setCell ⟨b,off,Y⟩ v):=by
  have l:(sizeOf ty).run P w= .ok 1 w:=by simp[sizeOf,typeInfo,s,z]
  clear m n h f j;cases v<;>simp[Value.oneCell'] at hv<;>first|(simp[storeVar,l,go_sem,c,g];done)|(simp[storeVar,l,go_sem];rw[run_store _ _ _ _ _ rfl];simp[go_sem,c,g])
 unfold cT execOp;simp only[j,m,n,Instr.storeAt,bG,aH,aR,ar,h1];refine f _ _ (h _ ?_ ?_ ?_ ?_)
 ·exact heap_setCell_same w b off _ t v d
 ·exact fun S B p=>(Fr.refl S B w).setCell _ _ p
 ·exact fun k A=>heap_setCell_other _ _ _ _ A
 ·show(w.setCell ⟨b,off,Y⟩ v).heap.size=w.heap.size
  simp[kO]
theorem make(d:o.guard=Y)(t:TypeId)(e:o.op= .makeMap t Y)(h:∀w' b,Hq (b=w.heap.size)->Hq (w'.heap[b]? =Z (.map #[] 0))->Hq (O w.heap.size w w')->Hq (w'.heap.size=w.heap.size+1)->wpList P ops Q rest (a.put o.dst (.map (Z b))) w'):wpList P ops Q (o::rest) a w:=by
 refine wpList_plain d fun K c=> ?_;have h1:= @run_makeMap P t w;unfold cT execOp;simp only[e,aH,cZ,h1,ar,aR];exact c _ _ (h _ _ rfl (heap_alloc_new _ _) ((Below.refl _ _).alloc lR _) (by show(w.heap.push _).size=_;simp))
theorem box(c:o.guard=Y)(t:TypeId)(x:Operand)(d:o.op= .box t x)(cs:Array Vl)(e:(a.eval x).cells=cs)(h:∀w' b,Hq (b=w.heap.size)->Hq (w'.heap[b]? =Z (Cl cs t (0,0)))->Hq (O w.heap.size w w')->Hq (w'.heap.size=w.heap.size+1)->wpList P ops Q rest (a.put o.dst (X (Z ⟨b,0,Y⟩))) w'):wpList P ops Q (o::rest) a w:=
 Great.wpList_boxTo c t x d _ rfl _ rfl cs e (h _ _ rfl (heap_alloc_new _ _) ((Below.refl _ _).alloc lR _) (by show(w.heap.push _).size=_;simp))
theorem alloc(e:o.guard=Y)(t:TypeId)(f:o.op= .alloc t)(z:Vl)(g:(P.info? t).map (fun i=>i.zero)=Z (Z z))(cs:Array Vl)(d:z.cells=cs)(h:∀w' b,Hq (b=w.heap.size)->Hq (w'.heap[b]? =Z (Cl cs t (0,0)))->Hq (O w.heap.size w w')->Hq (w'.heap.size=w.heap.size+1)->wpList P ops Q rest (a.put o.dst (X (Z ⟨b,0,Y⟩))) w'):wpList P ops Q (o::rest) a w:=by
 subst d;refine wpList_plain e fun K c=> ?_;obtain⟨i,hi,j⟩:=cj.1 g;unfold cT;simp[execOp,f,Instr.alloc,zeroValue,typeInfo,hi,j,newVar,newRow,aM];exact c _ _ (h _ _ rfl (heap_alloc_new _ _) ((Below.refl _ _).alloc lR _) (by show(w.heap.push _).size=_;simp))
theorem whole(f:o.guard=Y)(ty:TypeId)(x y:Operand)(i:o.op= .store ty x y)(b:Nat)(cs:Array Vl)(l:a.eval x=X (Z ⟨b,0,Y⟩))(m:a.eval y=H cs){hQ:Array Vl}(c:w.heap[b]? =Z (Cl hQ t (0,0)))(hi:(P.info? ty).map (·.size)=Z cs.size)(j:hQ.size=cs.size)(h1:cs.all (·.oneCell')=true)
  (h:∀w',Hq (w'.heap[b]? =Z (Cl cs t (0,0)))->Hq (∀S B,(S b\/B<=b)->Fr S B w w')->Hq (∀k,k≠b->w'.heap[k]? =w.heap[k]?)->Hq (w'.heap.size=w.heap.size)->wpList P ops Q rest (a.put o.dst undef) w'):wpList P ops Q (o::rest) a w:=by
 refine wpList_store_row f ty x y i b cs l m t hQ c hi j h1 (h _ ?_ ?_ ?_ ?_)
 ·exact setRow_heap _ _ _ _ _ _ c
 ·exact fun S B d=>(Fr.refl S B w).setRow _ _ d
 ·intro k g
  show(w.setRow b cs).heap[k]? =w.heap[k]?;simp[gA,cn];exact fun e=>absurd e.symm g
 ·show(w.setRow b cs).heap.size=w.heap.size
  simp[gA]
theorem decl{os:Oper}(j:o.guard=Y)(T:TypeId)(l:o.op= .alloc T)(z:Vl)(r:(P.info? T).map (fun i=>i.zero)=Z (Z z))(k:os.guard=Y)(x y:Operand)(n:os.op= .store T x y)(cs:Array Vl)(p:∀b,(a.put o.dst (X (Z ⟨b,0,Y⟩))).eval x=X (Z ⟨b,0,Y⟩))(q:∀b,(a.put o.dst (X (Z ⟨b,0,Y⟩))).eval y=H cs)
  (hi:(P.info? T).map (·.size)=Z cs.size) (m:z.cells.size=cs.size) (h1:cs.all (·.oneCell')=true)
  (h:∀w' b,Hq (w.heap.size<=b)->Hq (w'.heap[b]? =Z (Cl cs T (0,0)))->Hq (O w.heap.size w w')->wpList P ops Q rest ((a.put o.dst (X (Z ⟨b,0,Y⟩))).put os.dst undef) w'):wpList P ops Q (o::os::rest) a w:=by
 refine alloc j T l z r _ rfl ?_;intro w1 b c f e t;refine whole k T x y n b cs (p b) (q b) f.o hi m h1 ?_;intro w2 g d s H4;refine h w2 b (bO c.o.symm) g.o (e.o.trans ?_);exact(d.o (fun _=>False) w.heap.size (oR (bO c.o.symm))).below lR (fun _ _ h=>h)
theorem call(d:o.guard=Y)(f:FuncId)(args:Array Vl)(hv:(execOp a.eval o).run P w= .ok (.enter f args) w)(c:Calls P f args w fun e w'=>∃v,e=Re v/\R v w')
  (h:∀v w',R v w'->wpList P ops Q rest (a.put o.dst v) w'):wpList P ops Q (o::rest) a w:=
 wpList_plain d fun K b=>by
  unfold cT;rw[hv];refine c.mono ?_;rintro e w' ⟨v,rfl,g⟩;exact b _ _ (h v w' g)
theorem pN(f:ah o (yielded ops a.tmps)=true)(ty:TypeId)(x:Operand)(e:o.op= .load ty x)(hu:P.underlying ty=Z d)(hd:d.isRow=false)(b off:Nat)(v:Vl)(g:a.eval x=X (Z ⟨b,off,Y⟩))(c:w.cell? ⟨b,off,Y⟩=Z v)
  (h:wpList P ops Q rest (a.put o.dst v) w):wpList P ops Q (o::rest) a w:=by
 refine ml f v ?_ h;have h1:=sN hu hd c;unfold execOp;simp only[e,g,cJ,bG,aH,aR,ar,h1]
theorem El(g:ah o (yielded ops a.tmps)=true)(f:FuncId)(args:Array Vl)(hv:(execOp a.eval o).run P w= .ok (.enter f args) w)(c:Calls P f args w fun e w'=>∃v,e=Re v/\R v w')
  (h:∀v w',R v w'->wpList P ops Q rest (a.put o.dst v) w'):wpList P ops Q (o::rest) a w:=
 wpList_step fun K b=>by
  rw[g];show o.wp P a w K Q;unfold cT;rw[hv];refine c.mono ?_;rintro e w' ⟨v,rfl,d⟩;exact b _ _ (h v w' d)
theorem pure(g:ah o (yielded ops a.tmps)=true)(f:FuncId)(args:Array Vl)(hv:(execOp a.eval o).run P w= .ok (.enter f args) w){v:Vl}(d:Calls P f args w fun e w'=>e=Re v/\O w.heap.size w w')
  (h:∀w',O w.heap.size w w'->wpList P ops Q rest (a.put o.dst v) w'):wpList P ops Q (o::rest) a w:=
 El g f args hv (R:=fun u w'=>u=v/\O w.heap.size w w') (d.mono fun e w' b=>⟨_,b.1,rfl,b.2⟩) fun u w' ⟨e,c⟩=>by
  subst e;exact h w' c
theorem fin(h:Q .normal a w):wpList P ops Q [] a w:=h
theorem mr(h:K a w):Exit.inBlock id (Exit.then K Q) .normal a w:=h
theorem ys(h:Q .normal a w):Exit.then K (Exit.inBlock id Q) (.exit id) a w:=by
 show(if id=id then _ else _);rw[if_pos rfl];exact h
theorem oF{L:Act->D->Prop}(h:Q .normal a w):Exit.then K (Exit.then L (Exit.inBlock id Q)) (.exit id) a w:=ys (K:=L) h
theorem least(p:Nat->Prop)(h:∃n,p n):∃n,p n/\∀m,p m->n<=m:=by
 obtain⟨n,e⟩:=h;induction n using Nat.strongRecOn with
 |_ n ih=>
  by_cases b:∃m,m<n/\p m
  ·obtain⟨m,d,a⟩:=b
   exact ih m d a
  ·exact⟨n,e,fun m a=>Nat.le_of_not_lt fun c=>b ⟨m,c,a⟩⟩
theorem loop{c:Code}(b:Nat->Act->D->Prop)(n:Nat)(h:b n a w)(round:∀n a w,b n a w->c.wp P (Exit.then (fun f w'=>∃m,m<n/\b m f w') Q) a w):(Code.loop c).wp P Q a w:=by
 have j:∀a w,∃n:Nat,(∃n,b n a w)->b n a w/\∀m,b m a w->n<=m:=fun a w=>by
  by_cases h:∃n,b n a w
  ·obtain⟨n,h1,h2⟩:=least (fun n=>b n a w) h
   exact⟨n,fun _=>⟨h1,h2⟩⟩
  ·exact⟨0,fun l=>absurd l h⟩
 have q:∃d:Act->D->Nat,∀a w,(∃n,b n a w)->b (d a w) a w/\∀m,b m a w->d a w<=m:=⟨fun a w=>Classical.choose (j a w),fun a w=>Classical.choose_spec (j a w)⟩;obtain⟨d,k⟩:=q;refine wp_loop (fun a w=>∃n,b n a w) d ⟨n,h⟩ ?_;intro a w o;refine wp_mono (round _ _ _ (k a w o).1) ?_;intro e f w' i;cases e with
 |normal=>
  obtain⟨m,p,g⟩:=i;exact⟨⟨m,g⟩,Nat.lt_of_le_of_lt ((k f w' ⟨m,g⟩).2 m g) p⟩
 |_=>exact i
theorem entry(d:o.guard=Y)(b:Operand)(f:o.op= .entry b)(r:Nat)(v:Vl)(e:a.eval b=X (Z ⟨r,0,Y⟩))(c:(jg (X (Z ⟨r,0,Y⟩))).run P w= .ok v w)(h:wpList P ops Q rest (a.put o.dst v) w):wpList P ops Q (o::rest) a w:=by
 refine val d v ?_ h;unfold execOp;simp only[f,e,c,aH,ar];rfl
theorem I6(c:o.guard=Y)(m:Operand)(t:TypeId)(f:o.op=Op.range t m){e:TypeId}(g:P.underlying t=Z (.map k e))(d:a.eval m= .map Y)
  (h:∀w' r,Hq (r=w.heap.size)->Hq (w'.heap[r]? =Z (.mapIter none 0 #[] 0))->Hq (O w.heap.size w w')->wpList P ops Q rest (a.put o.dst (X (Z ⟨r,0,Y⟩))) w'):wpList P ops Q (o::rest) a w:=by
 refine wpList_plain c fun i b=> ?_;have h1:=run_range_nilMap (P:=P) w t k e g;unfold cT;simp[execOp,f,d,h1,aM];exact b _ _ (h _ _ rfl (heap_alloc_new _ _) ((Below.refl _ _).alloc lR _))
theorem JI(c:o.guard=Y)(b:Operand)(e:o.op=Op.next b false)(r:Nat)(d:a.eval b=X (Z ⟨r,0,Y⟩)){x y:Nat}{s:Array Nat}(f:w.heap[r]? =Z (.mapIter none x s y))(h:wpList P ops Q rest (a.put o.dst (Tp #[Bl false])) w):wpList P ops Q (o::rest) a w:=by
 refine val c _ ?_ h;have h1:(gm (X (Z ⟨r,0,Y⟩)) false o.type).run P w= .ok (Tp #[Bl false]) w:=by
  simp only[gm,getObj,aH,Sem.run,f,aM];rfl
 unfold execOp;simp only[e,d,h1,aH,ar];rfl
end Ks
theorem kv{P:Program}{ops:Array Oper}{Q:Exit->Act->D->Prop}{rest:List Oper}{o:Oper}{a b:Act}{w:D}(x:Vl)(h:wpList P ops Q rest b w)(d:o.guard=Y:=by rfl)(hv:(execOp a.eval o).run P w= .ok (.value x) w:=by kernel_rfl)(c:a.put o.dst x=b:=by simp only[zD];first|done|rfl|fail):wpList P ops Q (o::rest) a w:=by subst c;exact Ks.v x h d hv
theorem kg{P:Program}{ops:Array Oper}{Q:Exit->Act->D->Prop}{rest:List Oper}{o:Oper}{a b:Act}{w:D}(x:Vl)(h:wpList P ops Q rest b w)(d:ah o (yielded ops a.tmps)=true:=by kernel_rfl)(hv:(execOp a.eval o).run P w= .ok (.value x) w:=by kernel_rfl)(c:a.put o.dst x=b:=by simp only[zD];first|done|rfl|fail):wpList P ops Q (o::rest) a w:=by subst c;exact Ks.g x h d hv
theorem ab{P:Program}{ops:Array Oper}{Q:Exit->Act->D->Prop}{rest:List Oper}{o:Oper}{a b:Act}{w:D}(h:wpList P ops Q rest b w)(d:ah o (yielded ops a.tmps)=false:=by kernel_rfl)(c:a.put o.dst undef=b:=by simp only[zD];first|done|rfl|fail):wpList P ops Q (o::rest) a w:=by subst c;exact Ks.n h d
theorem kd{P:Program}{ops:Array Oper}{Q:Exit->Act->D->Prop}{a:Act}{w:D}(h:K a w):wpList P ops (Exit.then K Q) [] a w:=h
theorem kX{P:Program}{Q:Exit->Act->D->Prop}{a:Act}{w:D}(h:wpList P l.toArray Q l a w):(Code.region id l.toArray false).wp P Q a w:=wp_region_list h
theorem kt{Q:Exit->Act->D->Prop}{a:Act}{w:D}(h:Q .ret a w):Exit.then K Q .ret a w:=h
theorem km{Q:Exit->Act->D->Prop}{a:Act}{w:D}(h:K a w):Exit.then K Q .normal a w:=h
