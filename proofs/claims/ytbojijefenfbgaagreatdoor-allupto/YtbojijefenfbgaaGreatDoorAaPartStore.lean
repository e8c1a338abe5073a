/- Some cells of a row written, by one operation. Comparison of structs and arrays, as one operation. What a gate knows, as a rising list of items; what the program's three maps have of it. A gate by what it knows: how it admits, closes and looks; what stays true of it. A gate in memory: the program's, the document's, and what was asked of signatures. One operation, one law: slices. One element put behind a slice that is owned: the two operations in one. Steps of drawn regions that only read: a cell, an element's place, an element. -/
import Derived.Test.YtbojijefenfbgaaGreatDoorAaMapRaw
import Derived.Test.YtbojijefenfbgaaGreatDoorAaSignD
open List renaming length_cons->bE,pairwise_cons->bM,mem_cons->cr,pairwise_map->gH,map_cons->eP,filter_cons->eB,mem_map->aU,mem_filter->bK,map_append->ef,perm_append_comm->fG,mem_iff_getElem?->bj,filter_congr->gI,length_take->aY,flatMap_cons->eo
open Go.Result renaming andThen->aM,andThen_ok->ar
open List.Perm renaming refl->dX,trans->gB
open Prod renaming fst->aj
open Nat renaming pow_le_pow_right->jB,add_mul->dB
open Go.Instr renaming indexAt->dM,fill->iC,loadAt->cJ,sureAddr->bG
open Go.Region renaming wanted->ah
open Go.Sem renaming run_bind->aH,run_pure->aR
open Option renaming some->Z,none->Y
open Go.Value renaming int->I,pointer->X,agg->H,bool->Bl,string->sT
open Go.IntKind renaming i64->J
open Go.Obj renaming cells->Cl
open Go.Ending renaming returned->Re
open Go renaming World->D,Value->Vl
open Go.RowKit renaming Below->O
set_option maxHeartbeats 4000000
open Go Go.RowKit
variable{S:Nat->Prop}{b bs i id kn size sz:Nat}{c:Int×Int}{cs:Array Vl}{d:TypeDesc}{e:TypeId}{floor:Int}{fr:Nat×Nat}{mU:List ((Int×Int)×(Int×Int))}{t:List UInt8}{w':D}{xs:List Vl}
namespace Go.Proofs.YtbojijefenfbgaaGreatDoor
namespace Ks
def setL(cs:Array Vl)(o:Nat):List Vl->Array Vl
 |[]=>cs
 |v::r=>setL (cs.setIfInBounds o v) (o+1) r
theorem yS:∀(vs:List Vl)(cs:Array Vl)(o:Nat),(setL cs o vs).size=cs.size
 |[],_,_=>rfl
 |v::r,cs,o=>by
  unfold setL;rw[yS r];simp
theorem zn:∀(vs:List Vl)(cs:Array Vl)(o j:Nat),o+vs.length<=cs.size->(setL cs o vs)[j]? =if o<=j/\j<o+vs.length then vs[j-o]? else cs[j]?
 |[],cs,o,j,_=>by
  rw[if_neg (by simp only[List.length_nil];omega)];rfl
 |v::r,cs,o,j,h=>by
  simp only[bE] at h⊢;unfold setL;rw[zn r _ _ _ (by simp;omega)];by_cases h1:o+1<=j/\j<o+1+r.length
  ·rw[if_pos h1,if_pos oM,show j-o=(j-(o+1))+1 by omega]
   simp
  ·rw[if_neg h1]
   by_cases h2:j=o
   ·subst h2
    rw[if_pos oM,Array.getElem?_setIfInBounds_self_of_lt oM];simp
   ·rw[if_neg oM,Array.getElem?_setIfInBounds_ne (fun e=>h2 e.symm)]
theorem K4:∀(vs:List Vl)(w:D)(b o:Nat)(cs:Array Vl)(t:TypeId),w.heap[b]? =Z (Cl cs t (0,0))->(w.setCells b o vs).heap[b]? =Z (Cl (setL cs o vs) t (0,0))
 |[],_,_,_,_,_,h=>h
 |v::r,w,b,o,_cs,t,h=>K4 r _ b (o+1) _ t (heap_setCell_same w b o _ t v h)
theorem K2:∀(vs:List Vl)(w:D)(b o k:Nat),k≠b->(w.setCells b o vs).heap[k]? =w.heap[k]?
 |[],_,_,_,_,_=>rfl
 |_v::r,_w,b,o,k,h=>(K2 r _ b (o+1) k h).trans (heap_setCell_other _ _ _ _ h)
theorem size_setCells:∀(vs:List Vl)(w:D)(b o:Nat),(w.setCells b o vs).heap.size=w.heap.size
 |[],_,_,_=>rfl
 |v::r,w,b,o=>(size_setCells r _ b (o+1)).trans (by simp[World.setCell])
theorem Kh(S:Nat->Prop)(B:Nat){b:Nat}(a:S b\/B<=b):∀(vs:List Vl)(w:D)(o:Nat),Fr S B w (w.setCells b o vs)
 |[],w,_=>Fr.refl S B w
 |v::r,w,o=>((Fr.refl S B w).setCell ⟨b,o,Y⟩ v a).trans (Kh S B a r _ (o+1))
theorem part{P:Program}{ops:Array Oper}{rest:List Oper}{o:Oper}{a:Act}{w:D}{Q:Exit->Act->D->Prop}(g:o.guard=Y)(ty:TypeId)(x y:Operand)(m:o.op= .store ty x y)(b off:Nat)(vs:List Vl)(n:a.eval x=X (Z ⟨b,off,Y⟩))(p:a.eval y=H vs.toArray){t:TypeId}(c:w.heap[b]? =Z (Cl cs t (0,0)))(r:off+vs.length<=cs.size)(hi:(P.info? ty).map (·.size)=Z vs.length)(hv:vs.toArray.all (·.oneCell')=true)(d:Array Vl)(f:setL cs off vs=d)
  (h:∀w',Hq (w'.heap[b]? =Z (Cl d t (0,0)))->Hq (∀S B,(S b\/B<=b)->Fr S B w w')->Hq (∀k,k≠b->w'.heap[k]? =w.heap[k]?)->Hq (w'.heap.size=w.heap.size)->wpList P ops Q rest (a.put o.dst undef) w'):wpList P ops Q (o::rest) a w:=by
 subst f;refine wpList_store_mid g ty x y m b off vs.toArray n p (fun j i=>⟨?_,frozen_of_row w b _ _ t c⟩) (by simpa using hi) hv (h _ ?_ ?_ ?_ ?_)
 ·have q:j<vs.length:=by simpa using i
  rw[cell_of_row w b (off+j) _ _ _ c,Array.getElem?_eq_getElem oM];rfl
 ·exact K4 vs w b off cs t c
 ·exact fun S B e=>Kh S B e vs w off
 ·exact fun k l=>K2 vs w b off k l
 ·exact size_setCells vs w b off
theorem zx{P:Program}{o:Oper}{a:Act}{w:D}(t ty:TypeId)(x y:Operand)(e:o.op= .binOp .eql t x y ty)(u v:Array Vl)(g:a.eval x=H u)(h:a.eval y=H v)(c:P.eqGuardType P.depth t=false)(b:Bool)(d:(Op.equalIn 10000 t (H u) (H v)).run P w= .ok b w):(execOp a.eval o).run P w= .ok (.value (Bl b)) w:=by
 have f:(program).run P w= .ok P w:=rfl;unfold execOp;simp only[e,g,h];unfold eqGuard binOp;simp[f,c,Op.equal,Op.maxDepth,d,aM]
theorem QU{P:Program}{o:Oper}{a:Act}{w:D}(t ty:TypeId)(x y:Operand)(e:o.op= .binOp .neq t x y ty)(u v:Array Vl)(g:a.eval x=H u)(h:a.eval y=H v)(c:P.eqGuardType P.depth t=false)(b:Bool)(d:(Op.equalIn 10000 t (H u) (H v)).run P w= .ok b w):(execOp a.eval o).run P w= .ok (.value (.bool !b)) w:=by
 have f:(program).run P w= .ok P w:=rfl;unfold execOp;simp only[e,g,h];unfold eqGuard binOp;simp[f,c,Op.equal,Op.maxDepth,d,aM]
end Ks
namespace Bk
open Mp
structure It where
 gate:Int
 fi:Int
 br:Int
 ba:Int
 gone:Bool
deriving DecidableEq
def It.key(x:It):Int×Int:=(x.gate,x.fi)
def It.pass(x:It):Int×Int:=(x.br,x.ba)
def z2e(a b:It):Prop:=a.gate<b.gate\/(a.gate=b.gate/\a.fi<b.fi)
instance (a b:It):Decidable (z2e a b):=by unfold z2e;infer_instance
theorem z2e.trans{a b c:It}(h:z2e a b)(k:z2e b c):z2e a c:=by unfold z2e at*;omega
theorem z2e.ne{a b:It}(h:z2e a b):a.key≠b.key:=by
 unfold z2e at h;unfold It.key;intro e;injection e with c d
 omega
theorem WV{a b:It}(h:a.key≠b.key)(k:¬z2e a b):z2e b a:=by
 unfold z2e at*;unfold It.key at h;by_cases c:a.gate=b.gate
 ·by_cases d:a.fi=b.fi
  ·exact absurd (Prod.ext c d) h
  ·omega
 ·omega
def ins(x:It):List It->List It
 |[]=>[x]
 |y::r=>if z2e x y then x::y::r else y::ins x r
theorem tL(x:It):∀l,(ins x l).Perm (x::l)
 |[]=>dX _
 |y::r=>by
  unfold ins;split
  ·exact dX _
  ·exact((tL x r).cons y).trans (List.Perm.swap x y r)
theorem B9{x y:It}{l:List It}:y∈ins x l↔y=x\/y∈l:=by rw[(tL x l).mem_iff];simp
theorem XP(x:It)(l:List It):(ins x l).length=l.length+1:=by rw[(tL x l).length_eq];rfl
def qt(l:List It):Prop:=l.Pairwise z2e
theorem CD{x:It}:∀{l:List It},qt l->(∀y∈l,y.key≠x.key)->qt (ins x l)
 |[],_,_=>by simp[ins,qt]
 |y::r,h,c=>by
  obtain⟨h1,h2⟩:=bM.1 h;unfold ins;split
  ·rename_i b
   refine bM.2 ⟨fun z a=> ?_,h⟩;rcases cr.1 a with rfl|a
   ·exact b
   ·exact b.trans (h1 z a)
  ·rename_i b
   refine bM.2 ⟨fun z a=> ?_,CD h2 fun z a=>c z (by simp[a])⟩;rcases B9.1 a with rfl|a
   ·exact WV (fun e=>c y sP e.symm) b
   ·exact h1 z a
theorem qt.keys{l:List It}(h:qt l):(l.map It.key).Nodup:=gH.2 (h.imp fun h=>h.ne)
def jn(floor:Int)(x:It):It:=if x.gone=false/\x.br<floor then⟨x.gate,x.fi,0,0,true⟩ else x
theorem yX(floor:Int)(x:It):(jn floor x).key=x.key:=by
 unfold jn;split<;>rfl
theorem XE(floor:Int){x y:It}(h:z2e x y):z2e (jn floor x) (jn floor y):=by
 have a:=yX floor x;have b:=yX floor y;unfold It.key at a b;injection a with a c
 injection b with b d
 unfold z2e at*;rw[a,b,c,d];exact h
theorem XF(floor:Int){l:List It}(h:qt l):qt (l.map (jn floor)):=gH.2 (h.imp fun h=>XE floor h)
theorem SM(floor:Int)(l:List It):(l.map (jn floor)).map It.key=l.map It.key:=by
 rw[List.map_map];exact List.map_congr_left fun x _=>yX floor x
theorem KO{x:It}:(jn floor x).gone=(x.gone||decide (x.br<floor)):=by
 unfold jn;split
 ·rename_i h
  simp[h.2]
 ·rename_i h
  by_cases a:x.gone
  ·simp[a]
  ·simp only[Bool.not_eq_true] at a
   simp[a] at h⊢;exact h
theorem QZ{x:It}(h:(jn floor x).gone=false):jn floor x=x:=by
 unfold jn at*;split
 ·rename_i h1
  rw[if_pos h1] at h;simp at h
 ·rfl
def held(l:List It):List It:=l.filter fun x=> !x.gone
def pair(x:It):(Int×Int)×(Int×Int):=(x.key,x.pass)
theorem II(floor:Int)(l:List It):held (l.map (jn floor))=(held l).filter fun x=>decide (¬x.br<floor):=by
 unfold held;induction l with
 |nil=>rfl
 |cons x r ih=>
  simp only[eP,eB,KO];cases b:x.gone
  ·by_cases a:x.br<floor
   ·simp[a]
    simpa using ih
   ·have:jn floor x=x:=QZ (by rw[KO,b];simp[a])
    rw[this];simp only[a,Bool.not_false,if_true,eB,not_false_eq_true,decide_true,Bool.or_self,decide_false];rw[ih]
  ·simp
   simpa using ih
structure Has(l:List It)(lh:List ((Int×Int)×Unit))(ld:List ((Int×Int)×(Int×Int)))(lu:List ((Int×Int)×Unit)):Prop where
 heard:(lh.map aj).Perm (l.map It.key)
 held:ld.Perm ((Bk.held l).map pair)
 used:∀p,p∈lu.map aj↔∃x∈Bk.held l,x.pass=p
theorem Has.nil:Has [] [] [] []:=⟨sP,by simp[Bk.held],by simp[Bk.held]⟩
theorem FW{lh:List ((Int×Int)×Unit)}:(na c lh).isSome=decide (c∈lh.map aj):=by
 cases h:na c lh with
 |none=>
  have:=CT.1 h;symm;simp only[Option.isSome_none,decide_eq_false_iff_not,aU,not_exists,not_and];exact fun p a=>this p a
 |some u=>
  have:=FV h;symm;simp only[Option.isSome_some,decide_eq_true_eq,aU];exact⟨_,this,rfl⟩
theorem Has.has{l lh ld lu}(a:Has l lh ld lu)(c:Int×Int):(na c lh).isSome=decide (c∈l.map It.key):=by
 rw[FW];congr 1;exact propext a.heard.mem_iff
theorem Has.WA{l lh ld lu}(a:Has l lh ld lu)(p:Int×Int):(na p lu).isSome=decide (∃x∈Bk.held l,x.pass=p):=by
 rw[FW];congr 1;exact propext (a.used p)
theorem Has.len{l lh ld lu}(a:Has l lh ld lu):lh.length=l.length:=by simpa using a.heard.length_eq
theorem Has.Iu{l lh ld lu}(a:Has l lh ld lu):ld.length=(Bk.held l).length:=by simpa using a.held.length_eq
theorem Dm{x:It}(a:x.gone=true)(l:List It):(held (ins x l)).Perm (held l):=by
 unfold held;refine((tL x l).filter _).trans ?_;rw[eB];simp[a]
theorem yY{x:It}(a:x.gone=false)(l:List It):(held (ins x l)).Perm (x::held l):=by
 unfold held;refine((tL x l).filter _).trans ?_;rw[eB];simp[a]
theorem Ki{l lh ld lu}(a:Has l lh ld lu)(b:c∉l.map It.key):∀p∈lh,p.1≠c:=fun p d e=>b (a.heard.mem_iff.1 (aU.2 ⟨p,d,e⟩))
theorem XI{l lh ld lu}(a:Has l lh ld lu)(b:c∉l.map It.key):∀p∈ld,p.1≠c:=fun p d e=>by
 obtain⟨x,f,rfl⟩:=aU.1 (a.held.mem_iff.1 d);exact b (aU.2 ⟨x,(bK.1 f).1,e⟩)
theorem Has.note{l lh ld lu}(a:Has l lh ld lu){x:It}(b:x.gone=true)(d:x.key∉l.map It.key):Has (ins x l) (put x.key () lh) ld lu:=by
 refine⟨?_,?_,?_⟩
 ·rw[Cc (Ki a d),ef]
  refine gB ?_ ((tL x l).map It.key).symm;exact(fG).trans (a.heard.cons x.key)
 ·exact a.held.trans ((Dm b l).map _).symm
 ·intro p
  rw[a.used p];constructor
  ·rintro⟨y,c,e⟩
   exact⟨y,(Dm b l).mem_iff.2 c,e⟩
  ·rintro⟨y,c,e⟩
   exact⟨y,(Dm b l).mem_iff.1 c,e⟩
theorem Has.add{l lh ld lu}(a:Has l lh ld lu)(d:(lu.map aj).Nodup){x:It}(c:x.gone=false)(g:x.key∉l.map It.key):Has (ins x l) (put x.key () lh) (put x.key x.pass ld) (put x.pass () lu):=by
 refine⟨?_,?_,?_⟩
 ·rw[Cc (Ki a g),ef]
  refine gB ?_ ((tL x l).map It.key).symm;exact(fG).trans (a.heard.cons x.key)
 ·rw[Cc (XI a g)]
  refine gB ?_ ((yY c l).map pair).symm;exact(fG).trans (a.held.cons (pair x))
 ·intro p
  have h1:p∈(put x.pass () lu).map aj↔p=x.pass\/p∈lu.map aj:=by
   simp only[aU];constructor
   ·rintro⟨q,f,rfl⟩
    rcases (zC d q).1 f with rfl|⟨h1,_⟩
    ·exact oL rfl
    ·exact oR ⟨q,h1,rfl⟩
   ·rintro(rfl|⟨q,f,rfl⟩)
    ·exact⟨_,(zC d _).2 (oL rfl),rfl⟩
    ·by_cases e:q.1=x.pass
     ·exact⟨(x.pass,()),(zC d _).2 (oL rfl),e.symm⟩
     ·exact⟨q,(zC d _).2 (oR ⟨f,e⟩),rfl⟩
  rw[h1,a.used p];constructor
  ·rintro(rfl|⟨y,b,e⟩)
   ·exact⟨x,(yY c l).mem_iff.2 sP,rfl⟩
   ·exact⟨y,(yY c l).mem_iff.2 (by simp[b]),e⟩
  ·rintro⟨y,b,e⟩
   rcases cr.1 ((yY c l).mem_iff.1 b) with rfl|b
   ·exact oL e.symm
   ·exact oR ⟨y,b,e⟩
structure pQ(floor:Int)(mU ld:List ((Int×Int)×(Int×Int)))(yh lu:List ((Int×Int)×Unit))(left:Int×Int->Bool):Prop where
 held:ld=mU.filter fun p=>left p.1||decide (¬p.2.1<floor)
 used:∀p,p∈lu.map aj↔p∈yh.map aj/\¬∃q∈mU,q.2=p/\left q.1=false/\p.1<floor
theorem pQ.start(floor:Int)(mU:List ((Int×Int)×(Int×Int)))(a:List ((Int×Int)×Unit)):pQ floor mU mU a a (fun _=>true):=
 ⟨by simp only[Bool.true_or];exact(List.filter_eq_self.2 fun _ _=>rfl).symm,fun p=>sP⟩
theorem pQ.stay{ld:List ((Int×Int)×(Int×Int))}{k lu:List ((Int×Int)×Unit)}{left:Int×Int->Bool}(S:pQ floor mU ld k lu left)(m:(mU.map aj).Nodup){a v:Int×Int}(g:(a,v)∈ld)(hv:¬v.1<floor):
  pQ floor mU ld k lu (fun x=>left x&&decide (x≠a)):=by
 have l:(a,v)∈mU:=by rw[S.held] at g;exact(bK.1 g).1
 have h:∀q∈mU,q.1=a->q=(a,v):=fun q b e=>by
  obtain⟨i,hi⟩:=bj.1 b;obtain⟨j,d⟩:=bj.1 l;obtain rfl:=sR m hi d e;rw[hi] at d;injection d
 refine⟨?_,?_⟩
 ·rw[S.held]
  refine gI fun q b=> ?_;by_cases e:q.1=a
  ·rw[h q b e]
   simp[hv]
  ·simp[e]
 ·intro p
  rw[S.used p];refine and_congr_right fun _=>not_congr ⟨?_,?_⟩
  ·rintro⟨q,b,rfl,f,c⟩
   exact⟨q,b,rfl,by simp[f],c⟩
  ·rintro⟨q,b,rfl,f,c⟩
   refine⟨q,b,rfl,?_,c⟩;by_cases e:q.1=a
   ·rw[h q b e] at c
    exact absurd c hv
   ·simpa [e] using f
theorem pQ.N6{ld:List ((Int×Int)×(Int×Int))}{m lu:List ((Int×Int)×Unit)}{left:Int×Int->Bool}(S:pQ floor mU ld m lu left)(n:(mU.map aj).Nodup){a v:Int×Int}(h:(a,v)∈ld)(hv:v.1<floor):
  pQ floor mU (del a ld) m (del v lu) (fun x=>left x&&decide (x≠a)):=by
 have k:(a,v)∈mU:=by rw[S.held] at h;exact(bK.1 h).1
 have l:∀q∈mU,q.1=a->q=(a,v):=fun q b e=>by
  obtain⟨i,hi⟩:=bj.1 b;obtain⟨j,d⟩:=bj.1 k;obtain rfl:=sR n hi d e;rw[hi] at d;injection d
 refine⟨?_,?_⟩
 ·rw[S.held,del,List.filter_filter]
  refine gI fun q b=> ?_;by_cases e:q.1=a
  ·rw[l q b e]
   simp[hv]
  ·simp[e]
 ·intro p
  have h1:p∈(del v lu).map aj↔p∈lu.map aj/\p≠v:=by
   simp only[aU,RI];constructor
   ·rintro⟨q,⟨b,g⟩,rfl⟩
    exact⟨⟨q,b,rfl⟩,g⟩
   ·rintro⟨⟨q,b,rfl⟩,g⟩
    exact⟨q,⟨b,g⟩,rfl⟩
  rw[h1,S.used p,and_assoc];refine and_congr_right fun _=>⟨?_,?_⟩
  ·rintro⟨h2,h3⟩ ⟨q,b,rfl,f,c⟩
   by_cases e:q.1=a
   ·exact h3 (by rw[l q b e])
   ·exact h2 ⟨q,b,rfl,by simpa [e] using f,c⟩
  ·intro h2
   refine⟨?_,?_⟩
   ·rintro⟨q,b,rfl,f,c⟩
    exact h2 ⟨q,b,rfl,by simp[f],c⟩
   ·rintro rfl
    exact h2 ⟨(a,p),k,rfl,sP,hv⟩
theorem Has.raise{l lh mU yh}(a:Has l lh mU yh){ld:List ((Int×Int)×(Int×Int))}{lu:List ((Int×Int)×Unit)}{left:Int×Int->Bool}(S:pQ floor mU ld yh lu left)(g:∀p∈ld,left p.1=false):Has (l.map (jn floor)) lh ld lu:=by
 have d:∀p∈mU,left p.1=false:=fun p i=>by
  cases c:left p.1
  ·rfl
  ·have:p∈ld:=by rw[S.held];exact bK.2 ⟨i,by simp[c]⟩
   rw[g p this] at c;exact c.symm
 have e:ld=mU.filter fun p=>decide (¬p.2.1<floor):=by
  rw[S.held];refine gI fun q j=> ?_;rw[d q j];simp
 refine⟨by rw[SM];exact a.heard,?_,?_⟩
 ·rw[e,II]
  refine(a.held.filter _).trans ?_;rw[List.filter_map];exact dX _
 ·intro p
  rw[S.used p,a.used p,II];constructor
  ·rintro⟨⟨x,b,rfl⟩,h2⟩
   refine⟨x,bK.2 ⟨b,?_⟩,rfl⟩;simp only[decide_eq_true_eq];intro h;have:pair x∈mU:=a.held.mem_iff.2 (aU.2 ⟨x,b,rfl⟩);exact h2 ⟨pair x,this,rfl,d _ this,h⟩
  ·rintro⟨x,b,rfl⟩
   obtain⟨h1,h2⟩:=bK.1 b;refine⟨⟨x,h1,rfl⟩,?_⟩;rintro⟨q,_,_,_,f⟩;simp only[decide_eq_true_eq] at h2;exact h2 f
structure St where
 number:Int
 floor:Int
 own:Int
 key:List UInt8
 order:List UInt8
 l:List It
def be(l:List UInt8):Nat:=l.foldl (fun n x=>256*n+x.toNat) 0
theorem FY(l:List UInt8)(x:UInt8):be (l++[x])=256*be l+x.toNat:=by simp[be]
theorem yp(l:List UInt8):be l<256^l.length:=by
 have:∀(l:List UInt8)(n B:Nat),n<B->l.foldl (fun n x=>256*n+x.toNat) n<B*256^l.length:=by
  intro l;induction l with
  |nil=>intro n B h;simpa using h
  |cons x r ih=>
   intro n B h;have a:=x.toNat_lt;have:=ih (256*n+x.toNat) (B*256) oM;simp only[List.foldl_cons,bE,Nat.pow_succ];rw[Nat.mul_assoc] at this;rw[Nat.mul_comm (256^r.length) 256];exact this
 have:=this l 0 1 oM;simpa [be] using this
def gX(t:List UInt8):Int:=be ((t.drop 1).take 2)
def lK(t:List UInt8):Int:=be ((t.drop 3).take 4)
theorem Jv:0<=gX t/\gX t<=65535:=by
 unfold gX;have h:=yp ((t.drop 1).take 2);have h2:((t.drop 1).take 2).length<=2:=by rw[aY];omega
 have:=jB (n:=256) oM h2;omega
theorem TL:0<=lK t/\lK t<=4294967295:=by
 unfold lK;have h:=yp ((t.drop 3).take 4);have h2:((t.drop 3).take 4).length<=4:=by rw[aY];omega
 have:=jB (n:=256) oM h2;omega
section
variable (R:List UInt8->List UInt8->List UInt8->Bool)
def St.fresh(s:St)(t:List UInt8):It:=⟨s.number,s.own+1,gX t,lK t,false⟩
def fi(s:St)(t:List UInt8):Int×St:=
 if t.length≠72\/t.head? ≠Z 84 then(4,s)
 else if R s.key (t.take 8) (t.drop 8)=false then(5,s)
 else if gX t<s.floor then(6,s)
 else if∃x∈held s.l,x.pass=(gX t,lK t) then(7,s)
 else if 1000<=s.own then(8,s)
 else(0,{s with own:=s.own+1,l:=ins (s.fresh t) s.l})
def St.raised(s:St)(t:List UInt8):St:={s with floor:=gX t,order:=t,l:=s.l.map (jn (gX t))}
def ki(s:St)(t:List UInt8):Int×St:=
 if t.length≠67\/t.head? ≠Z 67 then(4,s)
 else if R s.key (t.take 3) (t.drop 3)=false then(5,s)
 else if gX t<=s.floor then(6,s)
 else(0,s.raised t)
end
structure Fair(s:St)(x:It):Prop where
 gate:0<=x.gate/\x.gate<=15
 fi:1<=x.fi/\x.fi<=1000
 br:0<=x.br/\x.br<=65535
 ba:0<=x.ba/\x.ba<=4294967295
 gone:x.gone=true->x.br=0/\x.ba=0
 floor:x.gone=false->s.floor<=x.br
 own:x.gate=s.number->x.fi<=s.own
structure Inv(s:St):Prop where
 number:0<=s.number/\s.number<=15
 floor:0<=s.floor/\s.floor<=65535
 own:0<=s.own/\s.own<=1000
 g':qt s.l
 fair:∀x∈s.l,Fair s x
def St.new(n:Int)(k:List UInt8):St:=⟨n,0,0,k,[],[]⟩
theorem Inv.new{n:Int}{k:List UInt8}(h:0<=n/\n<=15):Inv (St.new n k):=⟨h,by simp[St.new],by simp[St.new],List.Pairwise.nil,fun x a=>by simp[St.new] at a⟩
theorem KR{s:St}(h:Inv s)(t:List UInt8):(s.fresh t).key∉s.l.map It.key:=by
 intro c;obtain⟨x,d,e⟩:=aU.1 c;unfold It.key St.fresh at e;injection e with a b
 have:=(h.fair x d).own a;simp at b;omega
theorem Inv.Ud{s:St}(h:Inv s)(d:¬gX t<s.floor)(g:¬1000<=s.own):Inv {s with own:=s.own+1,l:=ins (s.fresh t) s.l}:=by
 have c:=h.own;refine⟨h.number,h.floor,⟨by show 0<=s.own+1;omega,by show s.own+1<=1000;omega⟩,CD h.g' (fun y b e=>KR h t (aU.2 ⟨y,b,e⟩)),?_⟩;intro x a;rcases B9.1 a with rfl|a
 ·exact⟨h.number,⟨by show 1<=s.own+1;omega,by show s.own+1<=1000;omega⟩,Jv,TL,fun e=>absurd e (by simp[St.fresh]),fun _=>(by show s.floor<=gX t;omega),fun _=>Int.le_refl _⟩
 ·have f:=h.fair x a
  exact⟨f.gate,f.fi,f.br,f.ba,f.gone,f.floor,fun e=>Int.le_trans (f.own e) (by show s.own<=s.own+1;omega)⟩
theorem Inv.raised{s:St}(h:Inv s)(t:List UInt8):Inv (s.raised t):=by
 refine⟨h.number,Jv,h.own,XF _ h.g',?_⟩;intro y d;obtain⟨x,c,rfl⟩:=aU.1 d;have f:=h.fair x c;unfold jn;split
 ·exact⟨f.gate,f.fi,sP,sP,fun _=>⟨rfl,rfl⟩,fun e=>by simp at e,f.own⟩
 ·rename_i a
  refine⟨f.gate,f.fi,f.br,f.ba,f.gone,fun e=> ?_,f.own⟩;have:¬x.br<gX t:=fun b=>a ⟨e,b⟩;show gX t<=x.br;omega
theorem Inv.fi(R:List UInt8->List UInt8->List UInt8->Bool){s:St}(h:Inv s)(t:List UInt8):Inv (fi R s t).2:=by
 unfold Bk.fi;split
 ·exact h
 ·split
  ·exact h
  ·split
   ·exact h
   ·split
    ·exact h
    ·split
     ·exact h
     ·rename_i h1 _ h2
      exact h.Ud h1 h2
theorem Inv.ki(R:List UInt8->List UInt8->List UInt8->Bool){s:St}(h:Inv s)(t:List UInt8):Inv (ki R s t).2:=by
 unfold Bk.ki;split
 ·exact h
 ·split
  ·exact h
  ·split
   ·exact h
   ·exact h.raised t
theorem kB:∀(l:List Int)(a N:Int),l.Pairwise (· < ·)->(∀x∈l,a<=x/\x<N)->a<=N->(l.length:Int)<=N-a
 |[],a,N,_,_,h=>by simp;omega
 |x::r,a,N,d,b,h=>by
  obtain⟨h1,h2⟩:=bM.1 d;have e:=b x sP;have:=kB r (x+1) N h2 (fun y c=>⟨by have:=h1 y c;omega,(b y (by simp[c])).2⟩) oM;simp only[bE];omega
theorem Inv.kB{s:St}(h:Inv s):s.l.length<=16000:=by
 have h1:(s.l.map fun x=>x.gate*1000+x.fi).Pairwise (· < ·):=by
  rw[gH];refine h.g'.imp_of_mem ?_;intro a b c e d;have f:=h.fair a c;have g:=h.fair b e;have:=f.fi;have:=g.fi;unfold z2e at d;omega
 have:=Bk.kB _ 1 16001 h1 (fun x i=>by
  obtain⟨y,j,rfl⟩:=aU.1 i;have f:=h.fair y j;have:=f.fi;have:=f.gate;omega) oM
 simp at this;omega
end Bk
namespace Gt
open Mp Bk
def str(l:List UInt8):Vl:=sT ⟨l.toArray⟩
def Maps(S:Nat->Prop)(w:D)(vh vd vu:Vl)(l:List It):Prop:=
 (vh= .map Y/\vd= .map Y/\vu= .map Y/\l=[])\/
 ∃a bd bu lh ld lu,vh= .map (Z a)/\vd= .map (Z bd)/\vu= .map (Z bu)/\S a/\S bd/\S bu/\a≠bd/\bd≠bu/\a≠bu/\Is w a two unit lh/\Is w bd two two ld/\Is w bu two unit lu/\Has l lh ld lu
theorem Maps.congr{S T:Nat->Prop}{w w':D}{vh vd vu:Vl}{l:List It}(h:Maps S w vh vd vu l)(a:∀k,S k->T k)(b:∀k,S k->k<w.heap.size->w'.heap[k]? =w.heap[k]?):Maps T w' vh vd vu l:=by
 rcases h with h|⟨d,bd,bu,lh,ld,lu,e,f,g,s1,s2,s3,n1,n2,n3,h1,h2,h3,c⟩
 ·exact oL h
 ·exact oR ⟨d,bd,bu,lh,ld,lu,e,f,g,a _ s1,a _ s2,a _ s3,n1,n2,n3,h1.congr (b _ s1 h1.lt),h2.congr (b _ s2 h2.lt),h3.congr (b _ s3 h3.lt),c⟩
theorem Maps.ask{w:D}{vh vd vu:Vl}{l:List It}(h:Maps S w vh vd vu l):∃lh ld lu,V w vh two unit lh/\V w vd two two ld/\V w vu two unit lu/\Has l lh ld lu:=by
 rcases h with⟨rfl,rfl,rfl,rfl⟩|⟨b,bd,bu,lh,ld,lu,c,d,e,s1,s2,s3,n1,n2,n3,h1,h2,h3,a⟩
 ·exact⟨[],[],[],oL ⟨rfl,rfl⟩,oL ⟨rfl,rfl⟩,oL ⟨rfl,rfl⟩,Has.nil⟩
 ·exact⟨lh,ld,lu,oR ⟨b,c,h1⟩,oR ⟨bd,d,h2⟩,oR ⟨bu,e,h3⟩,a⟩
def pR(s:St)(vh vd vu:Vl):Array Vl:= #[I J s.number,str s.key,I J s.own,I J s.floor,vh,vd,vu,str s.order]
def gg(S:Nat->Prop)(w:D)(g:Nat)(s:St):Prop:=
 S g/\∃vh vd vu,w.heap[g]? =Z (Cl (pR s vh vd vu) 143 (0,0))/\Maps S w vh vd vu s.l
theorem gg.lt{w:D}{g:Nat}{s:St}(h:gg S w g s):g<w.heap.size:=by
 obtain⟨_,vh,vd,vu,a,_⟩:=h;exact(aL a)
theorem gg.congr{S T:Nat->Prop}{w w':D}{g:Nat}{s:St}(h:gg S w g s)(a:∀k,S k->T k)(b:∀k,S k->k<w.heap.size->w'.heap[k]? =w.heap[k]?):gg T w' g s:=by
 have d:=h.lt;obtain⟨s1,vh,vd,vu,c,e⟩:=h;exact⟨a _ s1,vh,vd,vu,by rw[b g s1 d];exact c,e.congr a b⟩
theorem gg.below{w:D}{g:Nat}{s:St}(h:gg S w g s)(a:O w.heap.size w w'):gg S w' g s:=h.congr (fun _ h=>h) fun k _ b=>a.block k b
def fF(x:It):List Vl:=[I J x.gate,I J x.fi,I J x.br,I J x.ba,Bl x.gone]
def gi(l:List It):List Vl:=l.flatMap fF
theorem Gp(l:List It):(gi l).length=l.length*5:=by
 induction l with
 |nil=>rfl
 |cons x r ih=>
  unfold gi at*;rw[eo,List.length_append,ih,bE,show(fF x).length=5 from rfl];omega
theorem sQ(l:List It)(x:It):gi (l++[x])=gi l++fF x:=by simp[gi]
theorem flat_get{b:Type}(f:b->List Vl)(m:Nat)(a:∀x,(f x).length=m):∀(l:List b)(i j:Nat)(x:b),l[i]? =Z x->j<m->(l.flatMap f)[i*m+j]? =(f x)[j]?
 |[],i,j,x,h,_=>by simp at h
 |y::r,0,j,x,h,c=>by
  simp at h;subst h;rw[eo,List.getElem?_append_left (by rw[a];omega)];simp
 |y::r,i+1,j,x,h,c=>by
  simp at h;rw[eo,List.getElem?_append_right (by rw[a,dB];omega),a,show(i+1)*m+j-m=i*m+j by rw[dB];omega];exact flat_get f m a r i j x h c
def lF(s:St)(lv:Vl)(kn:Nat):Array Vl:= #[I J s.number,I J s.floor,I J s.own,str s.key,str s.order,lv,X (Z ⟨kn,0,Y⟩)]
def jh(S:Nat->Prop)(w:D)(g:Nat)(s:St)(kn:Nat):Prop:=
 S g/\∃lv,w.heap[g]? =Z (Cl (lF s lv kn) 225 (0,0))/\Row S w 73 5 lv s.l.length (gi s.l)
theorem jh.lt{w:D}{g:Nat}{s:St}(h:jh S w g s kn):g<w.heap.size:=by
 obtain⟨_,lv,a,_⟩:=h;exact(aL a)
theorem jh.congr{S T:Nat->Prop}{w w':D}{g kn:Nat}{s:St}(h:jh S w g s kn)(c:∀k,S k->T k)(e:∀k,S k->k<w.heap.size->w'.heap[k]? =w.heap[k]?):jh T w' g s kn:=by
 have i:=h.lt;obtain⟨s1,lv,f,a⟩:=h;exact⟨c _ s1,lv,by rw[e g s1 i];exact f,(a.congr fun b d=>e b (a.2 b d) (a.lt b d)).mono c⟩
theorem jh.below{w:D}{g:Nat}{s:St}(h:jh S w g s kn)(a:O w.heap.size w w'):jh S w' g s kn:=h.congr (fun _ h=>h) fun k _ b=>a.block k b
structure lS where
 key:List UInt8
 text:List UInt8
 sign:List UInt8
 yes:Bool
def vw(x:lS):List Vl:=[str x.key,str x.text,str x.sign]
def oJ(l:List lS):List Vl:=l.flatMap vw
def py(l:List lS):List Vl:=l.map fun x=>Bl x.yes
def jV(R:List UInt8->List UInt8->List UInt8->Bool)(S:Nat->Prop)(w:D)(kn:Nat)(ks:List lS):Prop:=
 S kn/\(∀x∈ks,x.yes=R x.key x.text x.sign)/\∃lv a,w.heap[kn]? =Z (Cl #[lv,a] 120 (0,0))/\Row S w 34 3 lv ks.length (oJ ks)/\Row S w 4 1 a ks.length (py ks)
theorem jV.lt{R:List UInt8->List UInt8->List UInt8->Bool}{w:D}{ks:List lS}(h:jV R S w kn ks):kn<w.heap.size:=by
 obtain⟨_,_,lv,b,a,_⟩:=h;exact(aL a)
theorem jV.congr{R:List UInt8->List UInt8->List UInt8->Bool}{S T:Nat->Prop}{w w':D}{kn:Nat}{ks:List lS}(h:jV R S w kn ks)(c:∀k,S k->T k)(d:∀k,S k->k<w.heap.size->w'.heap[k]? =w.heap[k]?):jV R T w' kn ks:=by
 have g:=h.lt;obtain⟨s1,e,lv,i,f,h1,h2⟩:=h;exact⟨c _ s1,e,lv,i,by rw[d kn s1 g];exact f,(h1.congr fun b a=>d b (h1.2 b a) (h1.lt b a)).mono c,(h2.congr fun b a=>d b (h2.2 b a) (h2.lt b a)).mono c⟩
theorem jV.below{R:List UInt8->List UInt8->List UInt8->Bool}{w:D}{ks:List lS}(h:jV R S w kn ks)(a:O w.heap.size w w'):jV R S w' kn ks:=h.congr (fun _ h=>h) fun k _ b=>a.block k b
end Gt
namespace Ks
section
variable {P:Program} {ops:Array Oper} {rest:List Oper} {o:Oper} {a:Act} {w:D} {Q:Exit->Act->D->Prop}
theorem mB(h:Q .ret a w):Exit.inBlock id Q .ret a w:=h
theorem wY(w:D)(t e:TypeId)(sz:Nat)(hu:P.underlying t=Z (.slice e))(f:P.cellsOf e=sz)(a:(P.info? e).isSome=true)(b len cap n:Nat)(d:n<len):(dM t (.slice (Z ⟨b,0,Y⟩) len cap) (I J (n:Int))).run P w= .ok (X (Z ⟨b,n*sz,Y⟩)) w:=by
 obtain⟨i,c⟩:=Option.isSome_iff_exists.1 a;have h1:(underlying t).run P w= .ok (.slice e) w:=run_underlying hu w;have h2:(sizeOf e).run P w= .ok sz w:=by rw[<-f];exact run_sizeOf w c
 simp[dM,asIntOf,h1,h2,d,Addr.add_mid]
theorem idx(i:ah o (yielded ops a.tmps)=true)(t:TypeId)(x ix:Operand)(f:o.op= .indexAddr t x ix)(e:TypeId)(sz:Nat)(hu:P.underlying t=Z (.slice e))(g:P.cellsOf e=sz)(c:(P.info? e).isSome=true)(b len cap n:Nat)
  (j:a.eval x= .slice (Z ⟨b,0,Y⟩) len cap) (hi:a.eval ix=I J (n:Int)) (d:n<len) (h:wpList P ops Q rest (a.put o.dst (X (Z ⟨b,n*sz,Y⟩))) w):wpList P ops Q (o::rest) a w:=by
 refine ml i _ ?_ h;unfold execOp;simp only[f,j,hi,aH,aR,ar,wY w t e sz hu g c b len cap n d]
theorem qc{W:D}{K:Act->Prop}{l:List Oper}(c:o.guard=Y)(t:TypeId)(x ix:Operand)(g:o.op= .indexAddr t x ix)(e:TypeId)(sz:Nat)(hu:P.underlying t=Z (.slice e))(i:P.cellsOf e=sz)(d:(P.info? e).isSome=true)(b len cap n:Nat)
  (j:a.eval x= .slice (Z ⟨b,0,Y⟩) len cap) (hi:a.eval ix=I J (n:Int)) (f:n<len) (h:Qt.Lex P W K l (a.put o.dst (X (Z ⟨b,n*sz,Y⟩)))):Qt.Lex P W K (o::l) a:=by
 refine Qt.kb c _ (fun w' _=> ?_) h;unfold execOp;simp only[g,j,hi,aH,aR,ar,wY w' t e sz hu i d b len cap n f]
theorem single(g:o.guard=Y)(t e:TypeId)(x:Operand)(j:o.op= .buildSlice t 1 #[(0,x)])(v z:Vl)(n:a.eval x=v)(cs:Array Vl)(sz c:Nat)(hu:P.underlying t=Z (.slice e))(h2:(P.info? e).map (fun i=>(i.zero,i.size,i.bytes))=Z (Z z,sz,c))(m:¬1*sz>2^24)(k:¬1*sz=0)
  (f:iC (fun i=>Z (i*sz,sz)) ((Array.range (1*sz)).map (z.cells[· % z.cells.size]!)) [(0,v)]=Z cs)
  (h:∀w' b,Hq (b=w.heap.size)->Hq (w'.heap[b]? =Z (Cl cs e (0,0)))->Hq (O w.heap.size w w')->wpList P ops Q rest (a.put o.dst (.slice (Z ⟨b,0,Y⟩) 1 1)) w'):wpList P ops Q (o::rest) a w:=by
 refine wpList_plain g fun K d=> ?_;obtain⟨i,hi,p,q,r⟩:=info_parts h2;subst q;have l:=run_buildSlice (P:=P) w t e 1 #[(0,v)] cs i z hu hi p m k f;unfold Oper.wp execOp;simp only[j,n,List.map_toArray,eP,List.map_nil,aH,aR,ar,l];exact d _ _ (h _ _ rfl (heap_alloc_new _ _) ((Below.refl _ _).alloc lR _))
end
end Ks
theorem Row.range{a:Type}{f:a->List Vl}{m:Nat}(c:∀x,(f x).length=m){w:D}{g n:Nat}{b:Array Vl}{l:List a}(d:w.heap[g]? =Z (Cl b e (0,0)))(k:b.toList.take (n*m)=l.flatMap f){x:a}(o:l[i]? =Z x):w.rangeAt g (i*m) (f x):=fun j v hv=>by
 have h:j<m:=by
  have:=(lL hv);rwa [c] at this
 refine Row.cell d k (j:=i*m+j) ?_;rw[Gt.flat_get f m c l i j x o h];exact hv
theorem JS{x:Vl}(h:cs[i]? =Z x):cs.setIfInBounds i x=cs:=by
 apply Array.ext_getElem?;intro j;rw[Array.getElem?_setIfInBounds];split
 ·rename_i e
  subst e;rw[h];simp[(aL h)]
 ·rfl
theorem Row.other{w:D}{v:Vl}{n:Nat}(h:Row S w e size v n xs)(c:v.ownBlock≠Z bs)(d:∀k,k≠bs->w'.heap[k]? =w.heap[k]?):Row S w' e size v n xs:=h.congr fun b a=>d b fun e=>c (e▸a)
theorem kV{w:D}{t:TypeId}{v:Vl}{n:Nat}(h:Row S w e size v n xs)(d:w.heap[bs]? =Z (Cl cs t fr))(f:e≠t):v.ownBlock≠Z bs:=fun a=>by
 rcases h.1.2 with⟨rfl,_⟩|⟨g,cap,i,rfl,_,b,_⟩
 ·cases a
 ·have c:g=bs:=Option.some.inj a
  rw[c,d] at b;cases b;exact f rfl
theorem Row.kl{w:D}{v:Vl}{n:Nat}(h:Row S w e sz v n xs)(c:v.ownBlock=Z b):∃a,w.heap[b]? =Z (Cl a e (0,0)):=by
 rcases h.1.2 with⟨rfl,_⟩|⟨g,cap,a,rfl,_,f,_⟩
 ·cases c
 ·have d:g=b:=Option.some.inj c
  exact⟨a,d▸f⟩
theorem Row.one{w:D}{v:Vl}{n:Nat}(h:Row S w e sz v n xs):v.oneCell'=true:=by
 rcases h.1.2 with⟨rfl,_⟩|⟨g,cap,a,rfl,_⟩<;>rfl
theorem Row.self{w:D}{v:Vl}{n:Nat}(h:Row S w e sz v n xs):Row (fun k=>v.ownBlock=Z k) w e sz v n xs:=⟨h.1,fun _ a=>a⟩
theorem mG{w:D}{o B:Nat}{cs:List Vl}(h:w.rangeAt b o cs)(a:O B w w')(c:b<B):w'.rangeAt b o cs:=fun j v hv=>by
 rw[a.cell (by exact c)];exact h j v hv
namespace Ks
theorem push{P:Program}{ops:Array Oper}{rest:List Oper}{o1 o2:Oper}{a:Act}{w:D}{Q:Exit->Act->D->Prop}(A:o1.guard=Y)(B:o2.guard=Y)(t e:TypeId)(x s y:Operand)(F:o1.op= .buildSlice t 1 #[(0,x)])(G:o2.op= .call {callee:=.builtin .append,args:= #[s,y],argTypes:= #[t,t]})(v z:Vl)(N:a.eval x=v)(cs:Array Vl)(sz f:Nat)(hu:P.underlying t=Z (.slice e))(h2:(P.info? e).map (fun i=>(i.zero,i.size,i.bytes))=Z (Z z,sz,f))(M:¬1*sz>2^24)(H:¬1*sz=0)
  (r:iC (fun i=>Z (i*sz,sz)) ((Array.range (1*sz)).map (z.cells[· % z.cells.size]!)) [(0,v)]=Z cs) (R:z.cells.size=sz) (p:f<=4096) (S:Nat->Prop) (sv:Vl) (n:Nat) (xs:List Vl) (L:∀u,(a.put o1.dst u).eval s=sv) (O:∀b,(a.put o1.dst (.slice (Z ⟨b,0,Y⟩) 1 1)).eval y= .slice (Z ⟨b,0,Y⟩) 1 1) (J:Row S w e sz sv n xs) (E:cs.size=sz) (h1:∀c∈cs.toList,c.oneCell'=true) (U:n<=29999999999)
  (h:∀u g w',Row (fun k=>S k\/w.heap.size<=k) w' e sz g (n+1) (xs++cs.toList)->Fr (fun k=>sv.ownBlock=Z k) w.heap.size w w'->wpList P ops Q rest ((a.put o1.dst u).put o2.dst g) w'):wpList P ops Q (o1::o2::rest) a w:=by
 refine single A t e x F v z N cs sz f hu h2 M H r ?_;intro w1 b T m d;have I:Row S w1 e sz sv n xs:=J.below d.o lR;refine re B s y t G e z sz f hu h2 R oM p S sv n xs (L _) I 1 b 1 cs.toList (O b) (fun j c q=>(cell_of_row w1 b j _ _ _ m.o).trans (by simpa using q)) (by simpa using E) h1 oM ?_;intro g w2 K C;refine h _ g w2 (K.mono fun k l=>l.elim oL fun e=>oR (by rw[e];exact d.o.size)) ?_;exact(Fr.kq d.o lR).trans ((Fr.refl _ _ _).grown C d.o.size fun k l=>oL l)
end Ks
namespace Qg
open Qt
variable {P:Program} {ops:Array Oper} {w:D} {Q:Act->Prop} {rest:List Oper} {o:Oper} {a:Act}
theorem cell(g:ah o (yielded ops a.tmps)=true)(ty:TypeId)(x:Operand)(f:o.op= .load ty x){d:TypeDesc}(hu:P.underlying ty=Z d)(hd:d.isRow=false)(b off:Nat)(v:Vl)(j:a.eval x=X (Z ⟨b,off,Y⟩))(c:b<w.heap.size)(e:w.cell? ⟨b,off,Y⟩=Z v)
  (h:wpQuiet P ops (BW w) Q rest (a.put o.dst v)):wpQuiet P ops (BW w) Q (o::rest) a:=by
 refine val g v (fun w' i=> ?_) h;have h1:=Ks.sN hu hd (w:=w') (b:=b) (off:=off) (v:=v) (by rw[i.cell (by exact c)];exact e);unfold execOp;simp only[f,j,cJ,bG,aH,aR,ar,h1]
theorem pj(i:ah o (yielded ops a.tmps)=true)(ty:TypeId)(x:Operand)(g:o.op= .load ty x)(b off:Nat)(l:a.eval x=X (Z ⟨b,off,Y⟩))(cs:List Vl)(c:b<w.heap.size)(e:w.rangeAt b off cs)(hu:P.underlying ty=Z d)(hd:d.isRow=true)(hi:(P.info? ty).map (·.size)=Z cs.length)
  (h:wpQuiet P ops (BW w) Q rest (a.put o.dst (H cs.toArray))):wpQuiet P ops (BW w) Q (o::rest) a:=by
 refine val i (H cs.toArray) (fun w' k=> ?_) h;have f:w'.rangeAt b off cs:=fun j v hv=>by rw[k.cell (by exact c)];exact e j v hv
 have h1:=run_loadVar_mid w' b off ty cs d f hu hd hi;unfold execOp;simp only[g,l,cJ,bG,aH,aR,ar,h1]
theorem idx(j:ah o (yielded ops a.tmps)=true)(t:TypeId)(x ix:Operand)(f:o.op= .indexAddr t x ix)(e:TypeId)(sz:Nat)(hu:P.underlying t=Z (.slice e))(i:P.cellsOf e=sz)(c:(P.info? e).isSome=true)(b len cap n:Nat)
  (k:a.eval x= .slice (Z ⟨b,0,Y⟩) len cap) (hi:a.eval ix=I J (n:Int)) (d:n<len) (h:wpQuiet P ops (BW w) Q rest (a.put o.dst (X (Z ⟨b,n*sz,Y⟩)))):wpQuiet P ops (BW w) Q (o::rest) a:=by
 refine val j _ (fun w' _=> ?_) h;have g:=Ks.wY (P:=P) w' t e sz hu i c b len cap n d;unfold execOp;simp only[f,k,hi,aH,aR,ar,g]
theorem im{id:Nat}{Q:Exit->Act->D->Prop}{l:List Oper}(n:Nat)(d:P.follows .mixedOrders=true)(c:Region.lexTailB .any l.toArray n=true)
  (h:wpQuiet P l.toArray (BW w) (fun b=>∀w',BW w w'->wpList P l.toArray Q (l.drop n) b w') (l.take n) a):(Code.region id l.toArray true).wp P Q a w:=
 Qt.zK (C:=BW w) n d c ⟨rfl,rfl,rfl,Nat.le_refl _,fun _ _=>rfl⟩ h
end Qg
namespace Ks
theorem Wp{P:Program}{ops:Array Oper}{rest:List Oper}{o:Oper}{a:Act}{w:D}{Q:Exit->Act->D->Prop}(f:ah o (yielded ops a.tmps)=true)(ty:TypeId)(x:Operand)(e:o.op= .load ty x)(b:Nat)(g:a.eval x=X (Z ⟨b,0,Y⟩)){t:TypeId}(c:w.heap[b]? =Z (Cl cs t fr))(hu:P.underlying ty=Z d)(hd:(match d with| .struct _| .array _ _=>true|_=>false)=true)(hi:(P.info? ty).map (·.size)=Z cs.size)
  (h:wpList P ops Q rest (a.put o.dst (H cs)) w):wpList P ops Q (o::rest) a w:=by
 refine ml f _ ?_ h;unfold execOp;simp only[e,g,cJ,bG,aH,aR,ar,run_loadVar_row w b t ty cs fr d c hu hd hi]
theorem OJ{Q:Exit->Act->D->Prop}{a:Act}{w:D}{b:Nat}{K L M:Act->D->Prop}(c:id≠b)(h:Q .normal a w):Exit.then K (Exit.inBlock b (Exit.then L (Exit.then M (Exit.inBlock id Q)))) (.exit id) a w:=by
 show(if id=b then _ else _);rw[if_neg c];exact oF h
theorem same{P:Program}{ops:Array Oper}{rest:List Oper}{o:Oper}{a:Act}{w:D}{Q:Exit->Act->D->Prop}(g:ah o (yielded ops a.tmps)=true)(f:FuncId)(args:Array Vl)(hv:(execOp a.eval o).run P w= .ok (.enter f args) w){v:Vl}(d:Calls P f args w fun e w'=>e=Re v/\w'=w)
  (h:wpList P ops Q rest (a.put o.dst v) w):wpList P ops Q (o::rest) a w:=
 El g f args hv (R:=fun u w'=>u=v/\w'=w) (d.mono fun e w' b=>⟨_,b.1,rfl,b.2⟩) fun u w' ⟨e,c⟩=>by
  subst e;subst c;exact h
theorem cut{P:Program}{Q:Exit->Act->D->Prop}{a:Act}{w:D}{x y:Code}(M:Act->D->Prop)(h1:x.wp P (Exit.then M Q) a w)(h2:∀a w,M a w->y.wp P Q a w):(Code.seq x y).wp P Q a w:=by
 refine wp_seq (wp_mono h1 ?_);intro e a w b;cases e with
 |normal=>exact h2 a w b
 |_=>exact b
