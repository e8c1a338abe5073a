/- Laws of one operation each, for rows of one-cell elements whose whole block is told. A region that draws its order: its first n operations leave the worlds of a class within it and yield one value in all of them; the others stand in a row behind them. Then one walk of the text's order serves every order. (The library has this for one world, and for a class without a tail; here both together.) -/
import Derived.Test.YtbojijefenfbgaaGreatDoorAaShort
import Derived.WalkSpells
import Derived.WalkLawsBesides
import Derived.Deep.MidRow
import Derived.StillTail
import Derived.Deep.Quiet
import Derived.Lib.QuietBelow
import Derived.Laws.Rows
open Array renaming ext_getElem?->dI,getElem?_push->jl
open List renaming map_map->gQ,getElem?_map->ct,getElem?_eq_some_iff->aQ,length_map->aS,ne_nil_of_mem->jE
open Option renaming map_eq_some_iff->cj
open Go.Region renaming ready->dT,sinkB->iL,chainB->iA,binds->iM,lexHead->hZ,lexTailB->gR,wanted->ah
open Option renaming some->Z,none->Y
open Go.Value renaming int->I,pointer->X,agg->H,string->sT
open Go.Obj renaming cells->Cl
open Go.Ending renaming returned->Re
open Go renaming World->D,Value->Vl
open Go.RowKit renaming Below->O
set_option maxHeartbeats 4000000
open Go Go.RowKit
variable{f:Nat->Vl}{g j:Nat}{l:List Oper}{t:TypeId}
namespace Go.Proofs.YtbojijefenfbgaaGreatDoor
namespace Own
def dk(n:Nat)(f:Nat->Vl):Array Vl:=Array.ofFn (n:=n) (fun j=>f j.val)
theorem oU(n:Nat)(f:Nat->Vl):(dk n f).size=n:=by simp[dk]
theorem ob{n:Nat}(h:j<n):(dk n f)[j]? =Z (f j):=by simp[dk,h]
theorem tF{n:Nat}(h:n<=j):(dk n f)[j]? =Y:=by simp[dk,h]
theorem mn{n:Nat}{g:Nat->Vl}(h:∀j,j<n->f j=g j):dk n f=dk n g:=by
 apply dI;intro i;by_cases hi:i<n
 ·rw[ob hi,ob hi,h i hi]
 ·rw[tF oM,tF oM]
theorem IW{n:Nat}(v:Vl):(dk n f).setIfInBounds j v=dk n (fun i=>if i=j then v else f i):=by
 apply dI;intro i;rw[Array.getElem?_setIfInBounds];by_cases hi:i<n
 ·by_cases e:j=i
  ·subst e;rw[ob (f:=fun i=>if i=j then v else f i) hi,if_pos rfl,if_pos (by rw[oU];exact hi),if_pos rfl]
  ·rw[ob (f:=fun i=>if i=j then v else f i) hi,if_neg e,ob hi,if_neg (Ne.symm e)]
 ·rw[tF (f:=fun i=>if i=j then v else f i) oM]
  by_cases e:j=i
  ·subst e;rw[if_pos rfl,if_neg (by rw[oU];exact hi)]
  ·rw[if_neg e,tF oM]
def lA(n:Nat)(z:Vl):Array Vl:=dk n (fun _=>z)
theorem Kz(n:Nat)(z:Vl)(a:z.cells= #[z]):madeCells z.cells (n*1)=lA n z:=by
 rw[a];apply dI;intro i;simp only[madeCells,lA,Nat.mul_one];by_cases h:i<n
 ·rw[ob h];simp[h,Nat.mod_one]
 ·rw[tF oM];simp[h]
theorem zN(l:List Vl)(n:Nat)(h:l.length=n)(f:Nat->Vl)(a:∀j (b:j<l.length),f j=l[j]):l.toArray=dk n f:=by
 apply dI;intro i;by_cases hi:i<n
 ·rw[ob hi,a i oM];simp[h,hi]
 ·rw[tF oM];simp;omega
theorem mX{w:D}{n:Nat}(a:w.heap[g]? =Z (Cl (dk n f) t (0,0)))(i:Nat)(v:Vl):
  (w.setCell ⟨g,i,Y⟩ v).heap[g]? =Z (Cl (dk n (fun j=>if j=i then v else f j)) t (0,0)):=by
 rw[heap_setCell_same w g i _ t v a,IW]
theorem jI{w:D}{n:Nat}(a:w.heap[g]? =Z (Cl (dk n f) t (0,0)))(j:Nat)(h:j<n):w.cell? ⟨g,j,Y⟩=Z (f j):=by
 rw[cell_of_row w g j _ t _ a,ob h]
theorem nv{w:D}{n:Nat}(a:w.heap[g]? =Z (Cl (dk n f) t (0,0)))(j:Nat):w.frozen? ⟨g,j,Y⟩=false:=frozen_of_row w g j _ t a
theorem Dl{P:Program}(w:D){ops:Array Oper}{rest:List Oper}{o:Oper}{a:Act}{Q:Exit->Act->D->Prop}
  (q:o.guard=Y) (l c:Operand) (t:TypeId) (s:o.op=Op.makeSlice t l c)
  (e:TypeId) (z:Vl) (d:Nat) (h1:P.underlying t=Z (.slice e)) (h2:(P.info? e).map (fun i=>(i.zero,i.size,i.bytes))=Z (Z z,1,d)) (u:z.cells= #[z])
  (g f:IntKind) (L C:Int) (n:Nat) (r:a.eval l= .int g L) (p:a.eval c= .int f C) (m:L=(n:Int)) (h:C=(n:Int)) (A:d*n<=281474976710656) (B:n<=281474976710656)
  (j:wpList P ops Q rest (a.put o.dst (.slice (Z ⟨w.heap.size,0,Y⟩) n n)) (w.alloc (Cl (lA n z) e))):
  wpList P ops Q (o::rest) a w:=by
 refine wpList_plain q fun K k=> ?_;obtain⟨i,hi,v,x,y⟩:=info_parts h2;subst m h;have b:=run_make (P:=P) w t e i z h1 hi v g f (n:Int) (n:Int) oM oM (by rw[y];omega) oM;rw[x] at b;simp only[Int.toNat_natCast] at b;rw[Kz n z u] at b;unfold Oper.wp;simp[execOp,s,r,p,b,Result.andThen];exact k _ _ j
theorem I4(l:List UInt8)(r:ByteArray):(l.map (fun c=>((c.toNat:Nat):Int))).foldl (fun r n=>r.push (UInt8.ofNat n.toNat)) r=⟨r.data++l.toArray⟩:=by
 induction l generalizing r with
 |nil=>simp
 |cons c l ih=>
  simp only[List.map_cons,List.foldl_cons];rw[ih];simp[ByteArray.push]
theorem zL{P:Program}(w:D){ops:Array Oper}{rest:List Oper}{o:Oper}{a:Act}{Q:Exit->Act->D->Prop}
  (r:o.guard=Y) (x:Operand) (f d e:TypeId) (s:o.op=Op.convert f d x)
  (t:P.underlying f=Z (.slice e)) (q:P.underlying e=Z (.int .u8)) (hd:P.underlying d=Z .string)
  (b off cap:Nat) (l:List UInt8) (u:a.eval x= .slice (Z ⟨b,off,Y⟩) l.length cap) (n:∀j (h:j<l.length),w.cell? ⟨b,off+j,Y⟩=Z (I .u8 (l[j].toNat:Int)))
  (k:wpList P ops Q rest (a.put o.dst (sT ⟨l.toArray⟩)) w):
  wpList P ops Q (o::rest) a w:=by
 refine wpList_plain r fun K m=> ?_;have g:=run_loadCells_list (P:=P) (w:=w) ⟨b,off,Y⟩ ((l.map (fun c=>((c.toNat:Nat):Int))).map (Value.int .u8)) (fun j v hv=>by
  simp only[gQ,ct,cj] at hv;obtain⟨c,p,rfl⟩:=hv;obtain⟨h,rfl⟩:=aQ.1 p;have:=n j h;rw[Addr.add_mid];simpa using this)
 simp only[aS] at g;have i:=run_bytesToString (P:=P) w ⟨b,off,Y⟩ l.length cap _ g;rw[I4] at i;have h2:=run_convert_bytes_string (P:=P) w f d e (Z ⟨b,off,Y⟩) l.length cap t q hd;rw[i] at h2;unfold Oper.wp;simp[execOp,s,u,h2,Result.andThen];refine m _ _ ?_;simpa using k
theorem nJ{P:Program}(w:D){ops:Array Oper}{rest:List Oper}{o:Oper}{a:Act}{Q:Exit->Act->D->Prop}
  (e:o.guard=Y) (t:TypeId) (f:o.op=Op.alloc t) (b:Array Vl) (h2:(P.info? t).map (fun i=>i.zero)=Z (Z (H b)))
  (c:wpList P ops Q rest (a.put o.dst (X (Z ⟨w.heap.size,0,Y⟩))) (w.alloc (Cl b t))):
  wpList P ops Q (o::rest) a w:=by
 refine wpList_plain e fun K d=> ?_;obtain⟨i,hi,g⟩:=cj.1 h2;unfold Oper.wp;simp[execOp,f,Instr.alloc,zeroValue,typeInfo,hi,g,newVar,newRow,Value.cells,Result.andThen];exact d _ _ c
theorem qz{P:Program}{ops:Array Oper}{rest:List Oper}{o:Oper}{a:Act}{w:D}{Q:Exit->Act->D->Prop}(d:o.guard=Y)(t:TypeId)(b:Array (Nat×Operand))(e:o.op= .build t b)
  (cs:Array Vl) (c:P.built t (b.map fun(i,x)=>(i,a.eval x)).toList=Z cs)
  (h:wpList P ops Q rest (a.put o.dst (H cs)) w):wpList P ops Q (o::rest) a w:=
 wpList_build d t b e (by rw[c];rfl) (by rw[c];exact h)
theorem WS(w:D)(a cs:Array Vl)(t:TypeId):(w.alloc (Cl a t)).setRow w.heap.size cs=w.alloc (Cl cs t):=by
 have h:((w.alloc (Cl a t)).setRow w.heap.size cs).heap=(w.alloc (Cl cs t)).heap:=by
  apply dI;intro i;by_cases hi:i=w.heap.size
  ·subst hi;rw[setRow_heap _ _ a cs t (0,0) (heap_alloc_new _ _),heap_alloc_new]
  ·show(Array.modify _ _ _)[i]? =_
   rw[Array.getElem?_modify,if_neg (Ne.symm hi)];show(w.heap.push _)[i]? =(w.heap.push _)[i]?;rw[jl,jl,if_neg hi,if_neg hi]
 show({(w.alloc (Cl a t)).setRow w.heap.size cs with heap:=((w.alloc (Cl a t)).setRow w.heap.size cs).heap}:D)=_;rw[h];rfl
theorem qy{P:Program}{ops:Array Oper}{rest:List Oper}{o:Oper}{a:Act}{w:D}{Q:Exit->Act->D->Prop}(c:o.guard=Y)(ty:TypeId)(x y:Operand)(d:o.op= .store ty x y)
  (b cells:Array Vl) (t:TypeId) (f:a.eval x=X (Z ⟨w.heap.size,0,Y⟩)) (g:a.eval y=H cells)
  (hi:(P.info? ty).map (·.size)=Z cells.size) (e:b.size=cells.size) (h1:cells.all (·.oneCell')=true)
  (h:wpList P ops Q rest (a.put o.dst undef) (w.alloc (Cl cells t))):wpList P ops Q (o::rest) a (w.alloc (Cl b t)):=
 wpList_store_row c ty x y d w.heap.size cells f g t b (heap_alloc_new _ _) hi e h1 (by rw[WS];exact h)
theorem jM{P:Program}{b:Func}{p:Tmp}{ty:TypeId}(h:b.results= #[.cell p ty]){post:Ending->D->Prop}{a:Act}{w:D}(hd:a.defers=[])(g:Nat)(t:TypeId)(cs:Array Vl)(fr:Nat×Nat)(d:TypeDesc)
  (e:a.tmps.getD p undef=X (Z ⟨g,0,Y⟩)) (c:w.heap[g]? =Z (Cl cs t fr))
  (hu:P.underlying ty=Z d) (i:(match d with| .struct _| .array _ _=>true|_=>false)=true) (hi:(P.info? ty).map (·.size)=Z cs.size)
  (f:post (Re (H cs)) w):bodyPost P b post .ret a w:=
 bodyPost_ret (v:=H cs) (results_cell_row h a.tmps w g t cs fr d e c hu i hi) hd f
theorem rb{n:Nat}(h:∀j,j<n->(f j).oneCell'=true):(dk n f).all (·.oneCell')=true:=by
 rw[Array.all_eq_true_iff_forall_mem];intro v hv;obtain⟨j,a,rfl⟩:=Array.mem_iff_getElem.1 hv;rw[oU] at a;have:=ob (f:=f) a;rw[Array.getElem?_eq_some_iff] at this;obtain⟨_,e⟩:=this;rw[e];exact h j a
theorem Xm{P:Program}(W:D)(t e:TypeId)(z:Vl)(b:Nat)(h1:P.underlying t=Z (.slice e))(h2:(P.info? e).map (fun i=>(i.zero,i.size,i.bytes))=Z (Z z,1,b))(h:z.cells= #[z])
  (d c:IntKind) (L C:Int) (n:Nat) (g:L=(n:Int)) (f:C=(n:Int)) (m:b*n<=281474976710656) (o:n<=281474976710656):
  Sem.run P (Instr.makeSlice t (.int d L) (.int c C)) W= .ok (.slice (Z ⟨W.heap.size,0,Y⟩) n n) (W.alloc (Cl (lA n z) e)):=by
 obtain⟨i,hi,j,k,l⟩:=info_parts h2;subst g f;have a:=run_make (P:=P) W t e i z h1 hi j d c (n:Int) (n:Int) oM oM (by rw[l];omega) oM;rw[k] at a;simp only[Int.toNat_natCast] at a;rw[Kz n z h] at a;exact a
theorem Yv{P:Program}(W:D)(d a e:TypeId)(p:P.underlying d=Z (.slice e))(m:P.underlying e=Z (.int .u8))(hd:P.underlying a=Z .string)
  (b off n cap:Nat) (l:List UInt8) (o:n=l.length) (i:∀j (h:j<l.length),W.cell? ⟨b,off+j,Y⟩=Z (I .u8 (l[j].toNat:Int))):
  Sem.run P (convert d a (.slice (Z ⟨b,off,Y⟩) n cap)) W= .ok (sT ⟨l.toArray⟩) W:=by
 subst o;have f:=run_loadCells_list (P:=P) (w:=W) ⟨b,off,Y⟩ ((l.map (fun c=>((c.toNat:Nat):Int))).map (Value.int .u8)) (fun j v hv=>by
  simp only[gQ,ct,cj] at hv;obtain⟨c,k,rfl⟩:=hv;obtain⟨h,rfl⟩:=aQ.1 k;have:=i j h;rw[Addr.add_mid];simpa using this)
 simp only[aS] at f;have g:=run_bytesToString (P:=P) W ⟨b,off,Y⟩ l.length cap _ f;rw[I4] at g;have h2:=run_convert_bytes_string (P:=P) W d a e (Z ⟨b,off,Y⟩) l.length cap p m hd;rw[g] at h2;simpa using h2
end Own
open Go Go.RowKit Go.Sort Region
namespace Qt
section
variable {P:Program} {ops:Array Oper} {C:D->Prop} {n:Nat}
def qq(P:Program)(ops:Array Oper)(C:D->Prop)(n:Nat)(L:Array Bool->Act->Prop):Nat->Array Bool->Act->Prop
 |0,listed,a=>L listed a
 |f+1,listed,a=>dT .any ops listed≠ []/\∀i∈dT .any ops listed,i<n/\qOp P ops C i (qq P ops C n L f (listed.setIfInBounds i true)) a
theorem qq.wp{L:Array Bool->Act->Prop}{Q:Exit->Act->D->Prop}(e:∀listed a,L listed a->∀w,C w->wpAny P .any ops Q g listed a w)(f:Nat):
  ∀listed a,qq P ops C n L f listed a->∀w,C w->wpAny P .any ops Q (g+f) listed a w:=by
 induction f with
 |zero=>exact e
 |succ f ih=>
  intro listed a h w j;exact⟨fun d=>absurd d h.1,fun i hi=>wpOp_of_qOp j (fun b w' k c=>ih _ b c w' k) (h.2 i hi).2⟩
theorem KB{listed:Array Bool}(e:iL .any ops n=true)(a:iA .any ops n=true)(d:n<ops.size)(inv:HeadInv .any ops n listed){i j:Nat}(hi:i∈dT .any ops listed)(b:i<n)
  (c:j∈dT .any ops listed):j<n:=by
 rcases Nat.lt_or_ge j n with h|h
 ·exact h
 ·exact absurd c (tail_waits e a d inv _ i rfl b (mem_ready.1 hi).1 j h)
theorem qq.first{L:Array Bool->Act->Prop}(x:∀(j:Nat)(o:Oper) cs b,ops[j]? =Z o->o.op≠ .select cs b)(w:iL .any ops n=true)(r:iA .any ops n=true)(u:n<ops.size)
  (E:∀listed a,L listed a->∀j∈dT .any ops listed,n<=j) {i:Nat} {oi:Oper} {v:Vl} (m:ops[i]? =Z oi) (s:i<n) (f:Nat):
  ∀listed a,HeadInv .any ops n listed->(∀j oj,ops[j]? =Z oj->j≠i->listed.getD j true=false->(∀e∈oj.after,iM .any e=true->e.on≠i)->oi.apart ops oj=true)->
   i∈dT .any ops listed->YieldsIn P ops C oi v a->qq P ops C n L f (listed.setIfInBounds i true) (a.put oi.dst v)->qq P ops C n L (f+1) listed a:=by
 induction f with
 |zero=>
  intro listed a inv _ d l g;refine⟨jE d,fun j c=> ?_⟩;have h:=KB w r u inv d s c;refine⟨h,?_⟩;by_cases e:j=i
  ·rw[e];exact l.qOp m g
  ·exact absurd (E _ _ g j (ready_mono c e)) oM
 |succ f ih=>
  intro listed a inv q d l g;refine⟨jE d,fun j c=> ?_⟩;have h:=KB w r u inv d s c;refine⟨h,?_⟩;by_cases e:j=i
  ·rw[e];exact l.qOp m g
  ·obtain⟨y,oj,p,A⟩:=mem_ready.1 c
   have K:∀e∈oj.after,iM .any e=true->e.on≠i:=fun e D B F=>by
    have h1:=A e D B;rw[F,getD_both (mem_ready.1 d).1] at h1;cases h1
   refine qOp_mono (fun z h3=> ?_) (qOp_put p (q j oj p e y K) (fun cs b=>x i oi cs b m) (fun cs b=>x j oj cs b p) l (g.2 j (ready_mono c e)).2);refine ih _ z (inv.set c h) (fun k ok G H J I=>q k ok G H ?_ I) (ready_mono d (Ne.symm e)) h3.1 ?_
   ·by_cases t:j=k
    ·rw[<-t];exact y
    ·rwa [getD_set_ne true t] at J
   ·rw[Array.setIfInBounds_comm _ _ e]
    exact h3.2
theorem qq.lex{g:Nat}{K:Act->Prop}(w:Region.noSelect ops=true)(u:iL .any ops n=true)(r:iA .any ops n=true)(s:n<ops.size)(l:List Oper):
  ∀(k:Nat)(listed:Array Bool)(a:Act),(∀j,j<l.length->l[j]? =ops[k+j]?)->k+l.length=n->HeadInv .any ops n listed->hZ .any ops g l.length k listed=true->wpQuiet P ops C K l a->
   qq P ops C n (fun y m=>Region.seqB .any ops g n y=true/\K m) l.length listed a:=by
 induction l with
 |nil=>
  intro k listed a _ d _ b h;have e:k=n:=by simpa using d
  subst e;exact⟨by simpa [hZ] using b,h⟩
 |cons o l ih=>
  intro k listed a f d inv b h;have c:ops[k]? =Z o:=by simpa using (f 0 sP).symm
  simp only[List.length_cons,hZ,Bool.and_eq_true] at b d;have i:k∈dT .any ops listed:=by simpa using b.1.1
  have t:qOp P ops C k (wpQuiet P ops C K l) a:=by unfold qOp;simp only[c];exact h
  obtain⟨v,x,p⟩:=yieldsIn_of_qOp c t;exact qq.first (Region.noSelect_spec w) u r s (fun _ _ q=>seqB_ready q.1) c oM l.length listed a inv (Region.free_spec c b.1.2) i x
   (ih (k+1) _ _ (fun j z=>by have:=f (j+1) (by simp;omega);simpa [Nat.add_assoc,Nat.add_comm 1 j] using this) oM (inv.set i oM) b.2 p)
theorem zK{id:Nat}{Q:Exit->Act->D->Prop}{a:Act}{w:D}(n:Nat)(s:P.follows .mixedOrders=true)(d:gR .any l.toArray n=true)(p:C {w with drawn:=w.drawn+1})
  (h:wpQuiet P l.toArray C (fun c=>∀w',C w'->wpList P l.toArray Q (l.drop n) c w') (l.take n) a):(Code.region id l.toArray true).wp P Q a w:=by
 simp only[gR,Bool.and_eq_true,decide_eq_true_eq] at d;obtain⟨⟨⟨⟨v,m⟩,u⟩,q⟩,r⟩:=d;have A:n<l.length:=by simpa using m
 have b:(l.take n).length=n:=by simp;omega
 have f:(l.drop n).length=l.toArray.size-n:=by simp
 have z:HeadInv .any l.toArray n (Array.replicate l.toArray.size false):=
  ⟨sP,fun j oj _ k=>(by rw[getD_replicate_false] at k;cases k),fun t _ x=>getD_in (by simpa using x) (getD_replicate_false _ _)⟩
 have o:=qq.lex (P:=P) (C:=C) (g:=l.toArray.size-n) v u q m (l.take n) 0 _ a (fun j i=>by
  rw[b] at i;simp[i]) (by rw[b];simp) z (by rw[b];exact r) h
 refine wp_region_any s ?_;have:=qq.wp (Q:=Q) (g:=l.toArray.size-n) (fun listed c e w' y=>by
  have:=wpAny_of_seq (md:=.any) (Q':=Q) (l.drop n) n listed c w' (fun j=>by simp[List.getElem?_drop]) (by rw[f];exact e.1) (e.2 w' y);rwa [f] at this) _ _ _ o _ p
 rw[b,show l.toArray.size-n+n=l.toArray.size by omega] at this;exact this
end
def BW(w:D):D->Prop:=fun w'=>O w.heap.size w w'
theorem Di{P:Program}{id:Nat}{Q:Exit->Act->D->Prop}{a:Act}{w:D}(n:Nat)(d:P.follows .mixedOrders=true)(c:gR .any l.toArray n=true)
  (h:wpQuiet P l.toArray (BW w) (fun b=>∀w',O w.heap.size w w'->wpList P l.toArray Q (l.drop n) b w') (l.take n) a):(Code.region id l.toArray true).wp P Q a w:=
 zK (C:=BW w) n d c ⟨rfl,rfl,rfl,Nat.le_refl _,fun _ _=>rfl⟩ h
theorem lW{P:Program}{id:Nat}{Q:Exit->Act->D->Prop}{a:Act}{w:D}(d:P.follows .mixedOrders=true)(c:Region.lexB .any l.toArray=true)
  (h:wpQuiet P l.toArray (BW w) (fun b=>∀w',O w.heap.size w w'->Q .normal b w') l a):(Code.region id l.toArray true).wp P Q a w:=
 wp_region_quiet (C:=BW w) d c ⟨rfl,rfl,rfl,Nat.le_refl _,fun _ _=>rfl⟩ h
section
variable {P:Program} {ops:Array Oper} {w:D} {Q:Act->Prop} {rest:List Oper} {o:Oper} {a:Act}
theorem ED(b:o.guard=Y)(v:Vl)(hv:∀w',O w.heap.size w w'->(execOp a.eval o).run P w'= .ok (.value v) w')(h:wpQuiet P ops (BW w) Q rest (a.put o.dst v)):wpQuiet P ops (BW w) Q (o::rest) a:=by
 unfold wpQuiet;rw[if_pos (by simp[ah,b])];refine⟨v,fun w' c=> ?_,h⟩;unfold Oper.quietAt;rw[hv w' c];exact⟨rfl,rfl⟩
theorem tD(k:o.guard=Y)(f:FuncId)(args:Array Vl)(v:Vl)(hv:∀w',(execOp a.eval o).run P w'= .ok (.enter f args) w')(i:∀w',O w.heap.size w w'->Calls P f args w' fun e d=>e=Re v/\O w'.heap.size w' d)
  (h:wpQuiet P ops (BW w) Q rest (a.put o.dst v)):wpQuiet P ops (BW w) Q (o::rest) a:=by
 unfold wpQuiet;rw[if_pos (by simp[ah,k])];refine⟨v,fun w' c=> ?_,h⟩;unfold Oper.quietAt;rw[hv w'];refine⟨rfl,(i w' c).mono fun e d ⟨j,g⟩=>⟨j,?_⟩⟩;have b:O w.heap.size w w':=c;exact b.trans (g.mono b.size)
theorem Vo(c:o.guard=Y)(ty:TypeId)(x:Operand)(f:o.op= .load ty x)(g:Nat)(j:a.eval x=X (Z ⟨g,0,Y⟩))(t:TypeId)(cs:Array Vl)(fr:Nat×Nat)(d:TypeDesc)(b:w.heap[g]? =Z (Cl cs t fr))
  (hu:P.underlying ty=Z d) (hd:(match d with| .struct _| .array _ _=>true|_=>false)=true) (hi:(P.info? ty).map (·.size)=Z cs.size)
  (h:wpQuiet P ops (BW w) Q rest (a.put o.dst (H cs))):wpQuiet P ops (BW w) Q (o::rest) a:=by
 refine ED c (H cs) (fun w' i=> ?_) h;have e:g<w.heap.size:=(aL b);unfold execOp;simp only[f,j,Instr.loadAt,Instr.sureAddr,Sem.run_bind,Sem.run_pure,Result.andThen_ok,run_loadVar_row w' g t ty cs fr d ((i.block g e).trans b) hu hd hi]
end
