/- Walks of the program's book: what only asks. Walks of the program's book: what writes. Walks of the program's book: Add, Raise. Walk of the program's book: Raise. Walks of the program's papers: what a text says. Walks of the program's papers: ReadTicket, ReadOrder, Right. -/
import Derived.Test.YtbojijefenfbgaaGreatDoorAaAuto
import Derived.Test.YtbojijefenfbgaaGreatDoorChecked
import Derived.Test.YtbojijefenfbgaaGreatDoorAaDocN
open Go.Sem renaming run_bind->aH,run_pure->aR,run->cW
open Go.Result renaming andThen_ok->ar
open Go.RowKit.Below renaming refl->ai
open Nat renaming lt_of_lt_of_le->aB,le_of_eq->bO,le_trans->ag,mod_eq_of_lt->aP
open List renaming take_succ_cons->ak,take_zero->aE,drop_succ_cons->ax,drop_zero->aK,length_drop->dN
open Go.Act renaming put->aD
open Go.Instr renaming slice->lj,sliceAt->fe
open Option renaming map_some->da,map_none->cZ
open Go.IntWalk renaming i64_in->az
open BitVec renaming ofInt->gr,ofInt_natCast->iV,toNat_ofNat->bH
open Option renaming some->Z,none->Y
open Go.Value renaming int->I,pointer->X,agg->H,bool->Bl,string->sT,tuple->Tp
open Go.IntKind renaming i64->J
open Go.Obj renaming cells->Cl
open Go.Ending renaming returned->Re
open Go renaming World->D,Value->Vl
open Go.RowKit renaming Below->O
set_option maxHeartbeats 4000000
set_option maxRecDepth 100000
open Go Go.RowKit
open Go.Proofs.YtbojijefenfbgaaGreatDoor
open Qt(Lex kb nn gh)
open Ks(au box make loop ml)
variable{P:Program}{S:Nat->Prop}{b bd bh bu g r:Nat}{d:TypeDesc}{v:Vl}{w':D}
namespace Go.Proofs.YtbojijefenfbgaaGreatDoor
open Tryz
namespace Gt
open Mp Bk
theorem fy{w:D}{cs:Array Vl}{T:TypeId}(h:w.heap[g]? =Z (Cl cs T (0,0)))(j:Nat)(hv:cs[j]? =Z v):w.cell? ⟨g,j,Y⟩=Z v:=cell_of_row w g j _ _ _ h▸hv
theorem sN{ty:TypeId}(hu:P.underlying ty=Z d)(hd:d.isRow=false){w:D}{off:Nat}(h:w.cell? ⟨b,off,Y⟩=Z v):(loadVar ty ⟨b,off,Y⟩).run P w= .ok v w:=by
 have h1:=run_underlying hu w;cases d<;>simp[TypeDesc.isRow] at hd<;>simp[loadVar,isAgg,go_sem,h,h1]
theorem mz{W:D}{K:Act->Prop}{l:List Oper}{o:Oper}{a:Act}(f:o.guard=Y)(ty:TypeId)(x:Operand)(g:o.op= .load ty x)(hu:P.underlying ty=Z d)(hd:d.isRow=false)(b off:Nat)(v:Vl)(j:a.eval x=X (Z ⟨b,off,Y⟩))(c:b<W.heap.size)(e:W.cell? ⟨b,off,Y⟩=Z v)
  (h:Lex P W K l (a.put o.dst v)):Lex P W K (o::l) a:=by
 refine kb f v (fun w' i=> ?_) h;have h1:=sN hu hd (w:=w') (b:=b) (off:=off) (v:=v) (by rw[i.cell (by exact c)];exact e);unfold execOp;simp only[g,j,Instr.loadAt,Instr.sureAddr,aH,aR,ar,h1]
theorem Bv{W:D}{K:Act->Prop}{l:List Oper}{o:Oper}{a:Act}(n:o.guard=Y)(m x:Operand)(t:TypeId)(q:o.op=Op.lookup t m x true){k e:TypeId}{d β:Type}[DecidableEq d]{ke:d->Vl}{ve:β->Vl}(f:pq P k ke)(r:P.underlying t=Z (.map k e))
  {z:Vl} (v:∀w,(zeroValue e).run P w= .ok z w) {ls:List (d×β)} {mv:Vl} (p:a.eval m=mv) (i:V W mv ke ve ls) (c:d) (u:a.eval x=ke c)
  (h:Lex P W K l (a.put o.dst (Tp #[((na c ls).map ve).getD z,Bl (na c ls).isSome]))):Lex P W K (o::l) a:=by
 refine kb n _ (fun w' s=> ?_) h;have j:V w' mv ke ve ls:=by
  rcases i with h1|⟨b,g,h1⟩
  ·exact oL h1
  ·exact oR ⟨b,g,h1.congr (s.block b h1.lt)⟩
 have h1:=Nz f r j c (v w');unfold execOp;simp only[q,p,u,h1,aH,ar];rfl
theorem uJ{w:D}{s:St}(h:gg S w g s):Rt 75 #[X (Z ⟨g,3,Y⟩)] w (I J s.floor):=by
 obtain⟨_,vh,vd,vu,a,_⟩:=h;have b:w.cell? ⟨g,3,Y⟩=Z (I J s.floor):=fy a 3 rfl;clear a;go_enter func75,ntmps75
 go_wp2
 go_ret
 exact⟨rfl,ai _ _⟩
theorem Rj{w:D}{s:St}(h:gg S w g s):Rt 136 #[X (Z ⟨g,3,Y⟩)] w (I J s.l.length):=by
 obtain⟨_,vh,vd,vu,b,c⟩:=h;have f:w.cell? ⟨g,4,Y⟩=Z vh:=fy b 4 rfl;clear b;obtain⟨lh,ld,lu,d,V2,V3,a⟩:=c.ask;have e:=a.len;clear a V2 V3 c;go_enter func136,ntmps136
 go_wp2_with (first|(at_len;refine Cu _ rfl _ _ rfl qG rfl d ?_))
 go_ret
 exact⟨rfl,ai _ _⟩
theorem Nn{w:D}{s:St}(h:gg S w g s):Rt 137 #[X (Z ⟨g,3,Y⟩)] w (I J (held s.l).length):=by
 obtain⟨_,vh,vd,vu,b,c⟩:=h;have f:w.cell? ⟨g,5,Y⟩=Z vd:=fy b 5 rfl;clear b;obtain⟨lh,ld,lu,d,V2,V3,a⟩:=c.ask;have e:=a.Iu;clear a d V3 c;go_enter func137,ntmps137
 go_wp2_with (first|(at_len;refine Cu _ rfl _ _ rfl oH rfl V2 ?_))
 go_ret
 exact⟨rfl,ai _ _⟩
theorem JZ(o:Option Unit):(o.map unit).getD (H #[])=H #[]:=by cases o<;>rfl
theorem Of{w:D}{s:St}(h:gg S w g s)(p:Int×Int):Rt 78 #[X (Z ⟨g,3,Y⟩),two p] w (Bl (decide (∃x∈held s.l,x.pass=p))):=by
 obtain⟨_,vh,vd,vu,c,j⟩:=h;have v:w.cell? ⟨g,6,Y⟩=Z vu:=fy c 6 rfl;have i:=(aL c);clear c;obtain⟨lh,ld,lu,r,V2,V3,d⟩:=j.ask;have e:Hq _:=d.WA p;clear d r V2 j;have a:Hq (O w.heap.size w (w.alloc (Cl #[I J p.1,I J p.2] 150))):=(ai _ _).alloc lR _;have n:Hq ((w.alloc (Cl #[I J p.1,I J p.2] 150)).heap[w.heap.size]? =Z (Cl #[I J p.1,I J p.2] 150 (0,0))):=heap_alloc_new _ _;have q:Hq (V (w.alloc (Cl #[I J p.1,I J p.2] 150)) vu two unit lu):=by
  rcases V3 with h1|⟨b,t,h1⟩
  ·exact oL h1
  ·exact oR ⟨b,t,h1.congr (a.o.block b h1.lt)⟩
 have m:Hq ((w.alloc (Cl #[I J p.1,I J p.2] 150)).cell? ⟨g,6,Y⟩=Z vu):=by
  show _=_;rw[a.o.cell (by exact i)];exact v
 have u:Hq (g<(w.alloc (Cl #[I J p.1,I J p.2] 150)).heap.size):=aB i a.o.size;unfold two;go_enter func78,ntmps78
 go_wp2
 generalize World.alloc _ _=w1 at*;refine Qt.uO 9 kr kr _ _ rfl rfl 194 rfl #[] kr _ _ rfl #[] kr rfl sP ?_;simp only[ak,aE];refine yw (X (Z ⟨g,3,Y⟩)) ?_;refine yw (X (Z ⟨g,3,Y⟩)) ?_;refine yV (X (Z ⟨g,6,Y⟩)) ?_;refine mz rfl _ _ rfl uk rfl g 6 vu rfl u.o m.o ?_;simp only[zD];refine nn rfl _ _ rfl _ rfl _ _ _ _ n.o underlying150 rfl kr ?_;simp only[zD];refine Bv rfl _ _ _ rfl yd uk Jj rfl q.o p rfl ?_;rw[e.o,JZ];simp only[zD];refine yw (Tp #[H #[],Bl (decide (∃x∈held s.l,x.pass=p))]) ?_;refine yw (H #[]) ?_;refine yV (Bl (decide (∃x∈held s.l,x.pass=p))) ?_;refine gh ⟨fun _=>rfl,fun _=>rfl,?_⟩;intro b w2 _ _ f;have k:=tq a f;clear f;simp only[List.setIfInBounds_toArray,List.set_cons_zero,List.set_cons_succ];go_wp2
 go_ret
 exact⟨rfl,k.o⟩
theorem Pn(b:Nat)(w:D):cW prog (binOp BinOp.eql 137 (.map (Z b)) (.map Y)) w= .ok (Bl false) w:=kr
structure Made(S:Nat->Prop)(w:D)(g:Nat)(s:St)(bh bd bu:Nat)(lh:List ((Int×Int)×Unit))(ld:List ((Int×Int)×(Int×Int)))(lu:List ((Int×Int)×Unit)):Prop where
 gate:w.heap[g]? =Z (Cl (pR s (.map (Z bh)) (.map (Z bd)) (.map (Z bu))) 143 (0,0))
 sh:S bh
 sd:S bd
 su:S bu
 hd:bh≠bd
 du:bd≠bu
 hu:bh≠bu
 ih:Is w bh two unit lh
 id:Is w bd two two ld
 iu:Is w bu two unit lu
theorem Made.xP{w:D}{s:St}{lh ld lu}(h:Made S w g s bh bd bu lh ld lu):g≠bh/\g≠bd/\g≠bu:=by
 have a:=h.gate;obtain⟨_,_,h1,_⟩:=h.ih;obtain⟨_,_,h2,_⟩:=h.id;obtain⟨_,_,h3,_⟩:=h.iu;refine⟨?_,?_,?_⟩
 ·rintro rfl;rw[a] at h1;cases h1
 ·rintro rfl;rw[a] at h2;cases h2
 ·rintro rfl;rw[a] at h3;cases h3
theorem Made.congr{S T:Nat->Prop}{w w':D}{g:Nat}{s:St}{bh bd bu:Nat}{lh ld lu}(h:Made S w g s bh bd bu lh ld lu)(b:∀k,S k->T k)(a:∀k,k<w.heap.size->w'.heap[k]? =w.heap[k]?):Made T w' g s bh bd bu lh ld lu:=
 ⟨by rw[a g (aL h.gate)];exact h.gate,b _ h.sh,b _ h.sd,b _ h.su,h.hd,h.du,h.hu,h.ih.congr (a _ h.ih.lt),h.id.congr (a _ h.id.lt),h.iu.congr (a _ h.iu.lt)⟩
theorem Made.heard{w:D}{s:St}{lh ld lu lh'}(h:Made S w g s bh bd bu lh ld lu)(hi:Is w' bh two unit lh')(f:w.mapTurned w' bh):Made S w' g s bh bd bu lh' ld lu:=by
 have c:=h.xP;have a:∀k,k<w.heap.size->k≠bh->w'.heap[k]? =w.heap[k]? :=fun k b d=>f.grown.block k b (fun e=>d (by injection e));exact⟨by rw[a g (aL h.gate) c.1];exact h.gate,h.sh,h.sd,h.su,h.hd,h.du,h.hu,hi,h.id.congr (a _ h.id.lt h.hd.symm),h.iu.congr (a _ h.iu.lt h.hu.symm)⟩
theorem Made.held{w:D}{s:St}{lh ld lu ld'}(h:Made S w g s bh bd bu lh ld lu)(hi:Is w' bd two two ld')(f:w.mapTurned w' bd):Made S w' g s bh bd bu lh ld' lu:=by
 have c:=h.xP;have a:∀k,k<w.heap.size->k≠bd->w'.heap[k]? =w.heap[k]? :=fun k b d=>f.grown.block k b (fun e=>d (by injection e));exact⟨by rw[a g (aL h.gate) c.2.1];exact h.gate,h.sh,h.sd,h.su,h.hd,h.du,h.hu,h.ih.congr (a _ h.ih.lt h.hd),hi,h.iu.congr (a _ h.iu.lt h.du.symm)⟩
theorem Made.used{w:D}{s:St}{lh ld lu lu'}(h:Made S w g s bh bd bu lh ld lu)(hi:Is w' bu two unit lu')(f:w.mapTurned w' bu):Made S w' g s bh bd bu lh ld lu':=by
 have c:=h.xP;have a:∀k,k<w.heap.size->k≠bu->w'.heap[k]? =w.heap[k]? :=fun k b d=>f.grown.block k b (fun e=>d (by injection e));exact⟨by rw[a g (aL h.gate) c.2.2];exact h.gate,h.sh,h.sd,h.su,h.hd,h.du,h.hu,h.ih.congr (a _ h.ih.lt h.hu),h.id.congr (a _ h.id.lt h.du),hi⟩
theorem Made.Ey{w:D}{s:St}{lh ld lu}(h:Made S w g s bh bd bu lh ld lu)(b:S g)(a:Has s.l lh ld lu):gg S w g s:=
 ⟨b,_,_,_,h.gate,oR ⟨bh,bd,bu,lh,ld,lu,rfl,rfl,rfl,h.sh,h.sd,h.su,h.hd,h.du,h.hu,h.ih,h.id,h.iu,a⟩⟩
theorem Tb{w:D}{s:St}{lh ld lu}(h:Made S w g s bh bd bu lh ld lu)(c:Int×Int):Calls prog 151 #[X (Z ⟨g,3,Y⟩),two c] w fun e w'=>e=Re (Tp #[])/\Made S w' g s bh bd bu (put c () lh) ld lu/\Fr S w.heap.size w w':=by
 have n:w.cell? ⟨g,4,Y⟩=Z (.map (Z bh)):=fy h.gate 4 rfl;have p:=(aL h.gate);have q:=Pn bh;have a:Hq (O w.heap.size w (w.alloc (Cl #[I J c.1,I J c.2] 154))):=(ai _ _).alloc lR _;have b:Hq (Made S (w.alloc (Cl #[I J c.1,I J c.2] 154)) g s bh bd bu lh ld lu):=h.congr (fun _ h=>h) a.o.block;have k:Hq ((w.alloc (Cl #[I J c.1,I J c.2] 154)).heap[w.heap.size]? =Z (Cl #[I J c.1,I J c.2] 154 (0,0))):=heap_alloc_new _ _;clear h;unfold two;go_enter func151,ntmps151
 go_wp2
 generalize World.alloc _ _=w1 at*;refine Qt.im 6 kr kr ?_;simp only[ak,aE];refine yw (X (Z ⟨g,3,Y⟩)) ?_;refine yw (X (Z ⟨g,3,Y⟩)) ?_;refine yV (X (Z ⟨g,4,Y⟩)) ?_;refine mz rfl _ _ rfl qG rfl g 4 (.map (Z bh)) rfl (aL b.o.gate) (fy b.o.gate 4 rfl) ?_;simp only[zD];refine nn rfl _ _ rfl _ rfl _ _ _ _ k.o underlying154 rfl kr ?_;simp only[zD];refine yV (H #[]) ?_;refine gh ?_;intro w2 i;have d:Hq _:=b.o.congr (fun _ h=>h) i.block;have f:Hq _:=a.o.trans (i.mono a.o.size);clear i b k a;simp only[ax,aK];refine zO _ rfl _ _ _ _ rfl ua qG rfl d.o.ih c () rfl rfl ?_;intro w3 hi j;have m:Hq _:=d.o.heard hi j;have l:Hq _:=(Fr.kq f.o lR).turned j f.o.size (oL d.o.sh);clear hi j d f;simp only[aD];go_wp2
 go_end0
 exact⟨rfl,m.o,l.o⟩
theorem Pp{w:D}{s:St}(K:S g)(M:w.heap[g]? =Z (Cl (pR s (.map Y) (.map Y) (.map Y)) 143 (0,0)))(c:Int×Int):Calls prog 151 #[X (Z ⟨g,3,Y⟩),two c] w fun e w'=>e=Re (Tp #[])/\(∃bh bd bu,Made (fun k=>S k\/w.heap.size<=k) w' g s bh bd bu (put c () []) [] [])/\Fr S w.heap.size w w':=by
 have e7:=(aL M);have Hg:Hq _:=M;clear M;unfold two;go_enter func151,ntmps151
 refine au ?_;refine box rfl _ _ rfl #[I J c.1,I J c.2] rfl ?_;intro w1 b1 G O n C;have i:Hq _:=(n.o.block g e7).trans Hg.o;have p:Hq (Fr S w.heap.size w w1):=Fr.kq n.o lR;clear Hg n;simp only[zD];refine kd (wp_seq ?_);refine wp_seq (kX (kv (X (Z ⟨g,3,Y⟩)) ?_));refine kv (X (Z ⟨g,3,Y⟩)) ?_;refine kv (X (Z ⟨g,4,Y⟩)) ?_;refine Ks.cell rfl _ _ rfl qG rfl g 4 (.map Y) rfl (fy i.o 4 rfl) ?_;simp only[zD];refine kv (Bl true) ?_;refine kd (wp_cond_true rfl ?_);refine wp_seq (kX (kv (X (Z ⟨g,3,Y⟩)) ?_));refine make rfl _ rfl ?_;intro w2 bh d b a H4;have a8:Hq _:=(a.o.block g (aL i.o)).trans i.o;have P:=ca a O;have W:Hq _:=p.o.calls a.o p.o.size;have c0:Hq (Is w2 bh two unit ([]:List ((Int×Int)×(Unit)))):=⟨_,_,b.o,sP,sP,sP,sP⟩;have f:Hq _:=d.o.trans C.o;have e1:Hq _:=H4.o.trans (by rw[C.o]);clear d b a H4 i O p C;simp only[zD];refine kv (X (Z ⟨g,3,Y⟩)) ?_;refine kv (X (Z ⟨g,4,Y⟩)) ?_;refine Ks.store rfl _ _ _ rfl g 4 _ rfl rfl a8.o (by show 4<8;omega) kr rfl (pR s (.map (Z bh)) (.map Y) (.map Y)) rfl ?_;intro w3 v b a H4;have Q:Hq (w3.heap[b1]? =_):=(a.o b1 (by have:=G.o;omega)).trans P.o;have q:Hq _:=W.o.trans (b.o _ _ (oL K));have z:Hq (Is w3 bh two unit ([]:List ((Int×Int)×(Unit)))):=c0.o.congr (a.o _ (by have:=f.o;omega));have E:Hq _:=H4.o.trans e1.o;clear b a H4 a8 P W e1 c0;simp only[aD];refine au ?_;refine make rfl _ rfl ?_;intro w4 bd d b a H4;have b0:Hq _:=(a.o.block g (aL v.o)).trans v.o;have R:=ca a Q;have a6:Hq _:=q.o.calls a.o q.o.size;have c4:Hq (Is w4 bh two unit ([]:List ((Int×Int)×Unit))):=z.o.congr (a.o.block _ z.o.lt);have b6:Hq (Is w4 bd two two ([]:List ((Int×Int)×(Int×Int)))):=⟨_,_,b.o,sP,sP,sP,sP⟩;have m:Hq _:=d.o.trans E.o;have e2:Hq _:=H4.o.trans (by rw[E.o]);clear d b a H4 v Q q E z;simp only[zD];refine kv (X (Z ⟨g,3,Y⟩)) ?_;refine kv (X (Z ⟨g,5,Y⟩)) ?_;refine Ks.store rfl _ _ _ rfl g 5 _ rfl rfl b0.o (by show 5<8;omega) kr rfl (pR s (.map (Z bh)) (.map (Z bd)) (.map Y)) rfl ?_;intro w5 x b a H4;have T:Hq (w5.heap[b1]? =_):=(a.o b1 (by have:=G.o;omega)).trans R.o;have r:Hq _:=a6.o.trans (b.o _ _ (oL K));have A:Hq (Is w5 bh two unit ([]:List ((Int×Int)×Unit))):=c4.o.congr (a.o _ (by have:=f.o;omega));have y:Hq (Is w5 bd two two ([]:List ((Int×Int)×(Int×Int)))):=b6.o.congr (a.o _ (by have:=m.o;omega));have F:Hq _:=H4.o.trans e2.o;clear b a H4 b0 R a6 e2 c4 b6;simp only[aD];refine au ?_;refine make rfl _ rfl ?_;intro w6 bu d b a H4;have b2:Hq _:=(a.o.block g (aL x.o)).trans x.o;have U:=ca a T;have a7:Hq _:=r.o.calls a.o r.o.size;have c6:Hq (Is w6 bh two unit ([]:List ((Int×Int)×Unit))):=A.o.congr (a.o.block _ A.o.lt);have b7:Hq (Is w6 bd two two ([]:List ((Int×Int)×(Int×Int)))):=y.o.congr (a.o.block _ y.o.lt);have c8:Hq (Is w6 bu two unit ([]:List ((Int×Int)×(Unit)))):=⟨_,_,b.o,sP,sP,sP,sP⟩;have B:Hq _:=d.o.trans F.o;have e3:Hq _:=H4.o.trans (by rw[F.o]);clear d b a H4 x T r F A y;simp only[zD];refine kv (X (Z ⟨g,3,Y⟩)) ?_;refine kv (X (Z ⟨g,6,Y⟩)) ?_;refine Ks.store rfl _ _ _ rfl g 6 _ rfl rfl b2.o (by show 6<8;omega) kr rfl (pR s (.map (Z bh)) (.map (Z bd)) (.map (Z bu))) rfl ?_;intro w7 b3 b a H4;have V:Hq (w7.heap[b1]? =_):=(a.o b1 (by have:=G.o;omega)).trans U.o;have t:Hq _:=a7.o.trans (b.o _ _ (oL K));have c7:Hq _:=c6.o.congr (a.o _ (by have:=f.o;omega));have b8:Hq _:=b7.o.congr (a.o _ (by have:=m.o;omega));have c9:Hq _:=c8.o.congr (a.o _ (by have:=B.o;omega));have e6:Hq _:=H4.o.trans e3.o;clear b a H4 b2 U a7 e3 c6 b7 c8;simp only[aD];refine kd ?_;have j:Hq (Made (fun k=>S k\/w.heap.size<=k) w7 g s bh bd bu [] [] []):=by
  have h1:=f.o;have h2:=m.o;have h3:=B.o;exact⟨b3.o,oR oM,oR oM,oR oM,oM,oM,oM,c7.o,b8.o,c9.o⟩
 clear b3 c7 b8 c9 f m B e6;refine Qt.im 6 kr kr ?_;simp only[ak,aE];refine yw (X (Z ⟨g,3,Y⟩)) ?_;refine yw (X (Z ⟨g,3,Y⟩)) ?_;refine yV (X (Z ⟨g,4,Y⟩)) ?_;refine mz rfl _ _ rfl qG rfl g 4 (.map (Z bh)) rfl (aL j.o.gate) (fy j.o.gate 4 rfl) ?_;simp only[zD];refine nn rfl _ _ rfl _ rfl _ _ _ _ V.o underlying154 rfl kr ?_;simp only[zD];refine yV (H #[]) ?_;refine gh ?_;simp only[ax,aK];intro w8 L;have l:Hq _:=j.o.congr (fun _ h=>h) L.block;have u:Hq _:=t.o.calls L t.o.size;clear L j V t;refine zO _ rfl _ _ _ _ rfl ua qG rfl l.o.ih c () rfl rfl ?_;intro w9 hi N;have e5:Hq _:=l.o.heard hi N;have e4:Hq _:=u.o.turned N u.o.size l.o.sh;clear hi N l u;simp only[aD];go_wp2
 go_end0
 exact⟨rfl,⟨bh,bd,bu,e5.o⟩,e4.o⟩
theorem Fv{w:D}{s:St}(h:gg S w g s)(c:Int×Int):Calls prog 151 #[X (Z ⟨g,3,Y⟩),two c] w fun e w'=>∃v,e=Re v/\v=Tp #[]/\(∃bh bd bu lh ld lu,Has s.l lh ld lu/\Made (fun k=>S k\/w.heap.size<=k) w' g s bh bd bu (put c () lh) ld lu)/\Fr S w.heap.size w w':=by
 obtain⟨i,vh,vd,vu,d,a⟩:=h;rcases a with⟨rfl,rfl,rfl,j⟩|⟨bh,bd,bu,lh,ld,lu,rfl,rfl,rfl,s1,s2,s3,n1,n2,n3,h1,h2,h3,f⟩
 ·refine(Pp i d c).mono ?_
  rintro e w' ⟨rfl,⟨bh,bd,bu,a⟩,b⟩;exact⟨_,rfl,rfl,⟨bh,bd,bu,[],[],[],by rw[j];exact Has.nil,a⟩,b⟩
 ·refine(Tb ⟨d,s1,s2,s3,n1,n2,n3,h1,h2,h3⟩ c).mono ?_
  rintro e w' ⟨rfl,a,b⟩;refine⟨_,rfl,rfl,⟨bh,bd,bu,lh,ld,lu,f,?_⟩,b⟩;exact⟨a.gate,oL s1,oL s2,oL s3,n1,n2,n3,a.ih,a.id,a.iu⟩
theorem gg.cut{w:D}{s:St}(h:gg S w g s){B:Nat}(a:w.heap.size<=B):gg (fun k=>S k/\k<B) w g s:=by
 have l:=h.lt;obtain⟨f,vh,vd,vu,i,j⟩:=h;refine⟨⟨f,oM⟩,vh,vd,vu,i,?_⟩;rcases j with h|⟨bh,bd,bu,lh,ld,lu,c,d,e,s1,s2,s3,n1,n2,n3,h1,h2,h3,b⟩
 ·exact oL h
 ·exact oR ⟨bh,bd,bu,lh,ld,lu,c,d,e,⟨s1,aB h1.lt a⟩,⟨s2,aB h2.lt a⟩,⟨s3,aB h3.lt a⟩,n1,n2,n3,h1,h2,h3,b⟩
theorem Ei{w:D}{s:St}(h:gg S w g s)(x:It)(hx:x.key∉s.l.map It.key)(hn:x.gone=false):Calls prog 79 #[X (Z ⟨g,3,Y⟩),two x.key,two x.pass] w fun e w'=>e=Re (Tp #[])/\gg (fun k=>S k\/w.heap.size<=k) w' g {s with l:=ins x s.l}/\Fr S w.heap.size w w':=by
 have O:Hq (gg S w g s):=h;have hS:=h.1;clear h;obtain⟨a,V⟩:=eX x.key;obtain⟨d,a6⟩:=eX x.pass;rw[<-V,<-a6];unfold two;go_enter func79,ntmps79
 refine wp_seq (kX (box rfl _ _ rfl #[I J a.1,I J a.2] rfl ?_));intro w1 b1 Q M y a8;simp only[zD];refine box rfl _ _ rfl #[I J d.1,I J d.2] rfl ?_;intro w2 m R A z b0;have p:=ca z M;have f:=tq y z;have P:Hq (gg (fun k=>S k/\k<w.heap.size) w2 g s):=(O.o.cut lR).below f.o;have b6:w.heap.size<=b1:=bO Q.o.symm;have b7:w.heap.size<=m:=ag y.o.size (bO R.o.symm);clear M y a8 z b0 O Q R;simp only[zD];refine kd (wp_seq ?_);refine kX (kv (X (Z ⟨g,3,Y⟩)) ?_);refine Ks.row rfl _ _ rfl b1 rfl p.o underlying154 rfl kr ?_;simp only[zD];refine Ks.call rfl 151 #[X (Z ⟨g,3,Y⟩),two a] (by unfold two;kernel_rfl) (Fv P.o a) ?_;rintro v w3 ⟨rfl,⟨bh,bd,bu,lh,ld,lu,T,W⟩,u⟩;have HH:Hq (Has s.l lh ld lu):=T;have U:∀k,(S k/\k<w.heap.size)\/w2.heap.size<=k->S k\/w.heap.size<=k:=fun k hk=>hk.imp (fun h=>h.1) (ag f.o.size);have q:Hq (Made (fun k=>S k\/w.heap.size<=k) w3 g s bh bd bu (put a () lh) ld lu):=W.congr U fun _ _=>rfl;have C:Hq (Fr S w.heap.size w w3):=(Fr.kq f.o lR).trans (u.mono f.o.size fun k _ h=>h.1);have N:Hq (w3.heap[b1]? =_):=(u.block b1 (aL p.o) (fun h=>oM)).trans p.o;have B:Hq (w3.heap[m]? =_):=(u.block m (aL A.o) (fun h=>oM)).trans A.o;clear T W u U p A P f;simp only[zD];refine kd (wp_seq (Qt.im 6 kr kr ?_));simp only[ak,aE];refine yw (X (Z ⟨g,3,Y⟩)) ?_;refine yw (X (Z ⟨g,3,Y⟩)) ?_;refine yV (X (Z ⟨g,5,Y⟩)) ?_;refine mz rfl _ _ rfl oH rfl g 5 (.map (Z bd)) rfl (aL q.o.gate) (fy q.o.gate 5 rfl) ?_;simp only[zD];refine nn rfl _ _ rfl _ rfl _ _ _ _ N.o underlying154 rfl kr ?_;simp only[zD];refine nn rfl _ _ rfl _ rfl _ _ _ _ B.o underlying150 rfl kr ?_;simp only[zD];refine gh ?_;simp only[ax,aK];intro w4 t;have i:Hq (Made (fun k=>S k\/w.heap.size<=k) w4 g s bh bd bu (put a () lh) ld lu):=q.o.congr (fun _ h=>h) t.block;have E:Hq (Fr S w.heap.size w w4):=C.o.calls t C.o.size;have n:=ca t B;clear t q C N B;refine zO _ rfl _ _ _ _ rfl ua oH rfl i.o.id a d rfl rfl ?_;intro w5 hi c;have r:Hq (Made (fun k=>S k\/w.heap.size<=k) w5 g s bh bd bu (put a () lh) (put a d ld) lu):=i.o.held hi c;have F:Hq (Fr S w.heap.size w w5):=E.o.turned c E.o.size i.o.sd;have L:Hq (w5.heap[m]? =_):=(c.grown.block m (aL n.o) (fun e=>by
  injection e with e
  obtain⟨_,_,h2,_⟩:=i.o.id;rw[<-e,n.o] at h2;cases h2)).trans n.o
 clear hi c i E n;simp only[aD];refine kd (Qt.im 6 kr kr ?_);simp only[ak,aE];refine yw (X (Z ⟨g,3,Y⟩)) ?_;refine yw (X (Z ⟨g,3,Y⟩)) ?_;refine yV (X (Z ⟨g,6,Y⟩)) ?_;refine mz rfl _ _ rfl uk rfl g 6 (.map (Z bu)) rfl (aL r.o.gate) (fy r.o.gate 6 rfl) ?_;simp only[zD];refine nn rfl _ _ rfl _ rfl _ _ _ _ L.o underlying150 rfl kr ?_;simp only[zD];refine yV (H #[]) ?_;refine gh ?_;simp only[ax,aK];intro w6 K;have j:Hq (Made (fun k=>S k\/w.heap.size<=k) w6 g s bh bd bu (put a () lh) (put a d ld) lu):=r.o.congr (fun _ h=>h) K.block;have G:Hq (Fr S w.heap.size w w6):=F.o.calls K F.o.size;clear K r F L;refine zO _ rfl _ _ _ _ rfl yd uk rfl j.o.iu d () rfl rfl ?_;intro w7 hi c;have b:Hq (Made (fun k=>S k\/w.heap.size<=k) w7 g s bh bd bu (put a () lh) (put a d ld) (put d () lu)):=j.o.used hi c;have a7:Hq (Fr S w.heap.size w w7):=G.o.turned c G.o.size j.o.su;have b3:Hq _:=j.o.iu.keys;clear hi c j G;simp only[aD];go_wp2
 go_end0
 refine⟨rfl,?_,a7.o⟩;subst V a6;exact Made.Ey (s:={s with l:=ins x s.l}) ⟨b.o.gate,b.o.sh,b.o.sd,b.o.su,b.o.hd,b.o.du,b.o.hu,b.o.ih,b.o.id,b.o.iu⟩ (oL hS) (HH.o.add b3.o hn hx)
theorem Made.UZ{w:D}{s:St}{lh ld lu}(h:Made S w g s bh bd bu lh ld lu)(a:g≠r/\bh≠r/\bd≠r/\bu≠r)(c:w.grownBy w' (Z r)):Made S w' g s bh bd bu lh ld lu:=by
 have b:∀k,k<w.heap.size->k≠r->w'.heap[k]? =w.heap[k]? :=fun k d f=>c.block k d (fun e=>f (by injection e));exact⟨by rw[b g (aL h.gate) a.1];exact h.gate,h.sh,h.sd,h.su,h.hd,h.du,h.hu,h.ih.congr (b _ h.ih.lt a.2.1),h.id.congr (b _ h.id.lt a.2.2.1),h.iu.congr (b _ h.iu.lt a.2.2.2)⟩
theorem iz.lt{w:D}{a β:Type}{ke:a->Vl}{ve:β->Vl}{l:List (a×β)}{left:a->Bool}(h:iz w b r ke ve l left):r<w.heap.size:=by
 obtain⟨_,_,_,_,_,_,c,_⟩:=h;exact(aL c)
def yF(g:Nat)(F:Int)(r:Nat)(bd:Nat)(f:Nat->Vl):Act:={tmps:= #[X (Z ⟨g,3,Y⟩),I J F,f 2,f 3,f 4,f 5,X (Z ⟨g,3,Y⟩),I J F,X (Z ⟨g,3,Y⟩),X (Z ⟨g,3,Y⟩),X (Z ⟨g,3,Y⟩),X (Z ⟨g,3,Y⟩),X (Z ⟨g,5,Y⟩),.map (Z bd),X (Z ⟨r,0,Y⟩),f 15,f 16,f 17,f 18,f 19,f 20,f 21,f 22,f 23,f 24,f 25,f 26,f 27,f 28,f 29,f 30,f 31,f 32,f 33],defers:=[]}
theorem X5{w:D}{s:St}{lh ld lu}(h:Made S w g s bh bd bu lh ld lu)(hS:S g)(Ho:Has s.l lh ld lu)(F:Int):Calls prog 216 #[X (Z ⟨g,3,Y⟩),I J F] w fun e w'=>e=Re (Tp #[])/\gg S w' g {s with floor:=F,l:=s.l.map (jn F)}/\Fr S w.heap.size w w':=by
 have k:Hq (Made S w g s bh bd bu lh ld lu):=h;have HH:Hq (Has s.l lh ld lu):=Ho;clear h Ho;go_enter func216,ntmps216
 refine wp_seq (kX (kv (X (Z ⟨g,3,Y⟩)) ?_));refine kv (I J F) ?_;refine kv (X (Z ⟨g,3,Y⟩)) ?_;refine kv (X (Z ⟨g,3,Y⟩)) ?_;refine Ks.store rfl _ _ _ rfl g 3 _ rfl rfl k.o.gate (by show 3<8;omega) kr rfl (pR {s with floor:=F} (.map (Z bh)) (.map (Z bd)) (.map (Z bu))) rfl ?_;intro w1 HG u d H4;have q:Hq (Made S w1 g {s with floor:=F} bh bd bu lh ld lu):=by
  have hn:=k.o.xP;have h:=k.o;exact⟨HG.o,h.sh,h.sd,h.su,h.hd,h.du,h.hu,h.ih.congr (d.o _ hn.1.symm),h.id.congr (d.o _ hn.2.1.symm),h.iu.congr (d.o _ hn.2.2.symm)⟩
 have R:Hq (Fr S w.heap.size w w1):=u.o _ _ (oL hS);clear k HG u d H4;simp only[aD];refine kd (wp_seq ?_);refine kX (kv (X (Z ⟨g,3,Y⟩)) ?_);refine kv (X (Z ⟨g,3,Y⟩)) ?_;refine kv (X (Z ⟨g,5,Y⟩)) ?_;refine Ks.cell rfl _ _ rfl oH rfl g 5 (.map (Z bd)) rfl (fy q.o.gate 5 rfl) ?_;simp only[zD];refine Kd _ rfl _ _ rfl oH rfl q.o.id ?_;rintro w2 e5 ⟨o2,n0⟩;obtain⟨r,hr⟩:=eX w1.heap.size;rw[<-hr] at e5⊢;have e3:O w1.heap.size w1 w2:=by rw[n0];exact(ai _ _).alloc lR _
 have j0:Hq (Made S w2 g {s with floor:=F} bh bd bu lh ld lu):=q.o.congr (fun _ h=>h) e3.block;have h7:Hq (Fr S w.heap.size w w2):=R.o.calls e3 R.o.size;have a7:g≠r/\bh≠r/\bd≠r/\bu≠r:=by
  have h1:=(aL q.o.gate);have h2:=q.o.ih.lt;have h3:=q.o.id.lt;have h4:=q.o.iu.lt;omega
 have o6:w.heap.size<=r:=by rw[hr];exact R.o.size
 have l6:Hq _:=q.o.id.keys;have l1:Hq (iz w2 bd r two two ld (fun _=>true)):=e5;clear e5 n0 hr e3 q R;simp only[zD];refine au ?_;refine loop (fun n a wr=>∃f i lu' left,a=yF g F r bd f/\Made S wr g {s with floor:=F} bh bd bu lh i lu'/\iz wr bd r two two i left/\pQ F ld i lu lu' left/\Fr S w.heap.size w wr/\n=(i.filter fun p=>left p.1).length) _ ⟨fun _=>undef,ld,lu,_,rfl,j0.o,l1.o,pQ.start F ld lu,h7.o,rfl⟩ ?_;clear j0 l1 h7 w2 w1;rintro n a wr ⟨f,i,lu',left,rfl,hM,hR,hW,hF,rfl⟩;have fin:∀(a':Act)(w':D) E b0 P,a'=yF g F r bd (fun j=>a'.tmps.getD j undef)->Made S w' g {s with floor:=F} bh bd bu lh E b0->iz w' bd r two two E P->pQ F ld E lu b0 P->Fr S w.heap.size w w'->(E.filter fun p=>P p.1).length<(i.filter fun p=>left p.1).length->∃m,m<(i.filter fun p=>left p.1).length/\∃f i lu' left,a'=yF g F r bd f/\Made S w' g {s with floor:=F} bh bd bu lh i lu'/\iz w' bd r two two i left/\pQ F ld i lu lu' left/\Fr S w.heap.size w w'/\m=(i.filter fun p=>left p.1).length:=
  fun a' w' E b0 P h1 h2 h3 h4 h5 h6=>⟨_,h6,_,E,b0,P,h1,h2,h3,h4,h5,rfl⟩
 have l5:Hq _:=fin;clear fin;have k:Hq _:=hM;have HR:Hq (iz wr bd r two two i left):=hR;have HW:Hq _:=hW;have Q:Hq _:=hF;clear hM hR hW hF;unfold yF;refine au ?_;refine Ko _ rfl _ rfl xj a7.2.2.1 rfl HR.o ?_ ?_
 ·intro hl
  simp only[zD];refine au ?_;go_end0
  refine⟨rfl,?_,Q.o⟩;exact Made.Ey (s:={s with floor:=F,l:=s.l.map (jn F)}) ⟨k.o.gate,k.o.sh,k.o.sd,k.o.su,k.o.hd,k.o.du,k.o.hu,k.o.ih,k.o.id,k.o.iu⟩ hS (HH.o.raise HW.o hl)
 ·intro c v w3 a6 l9 e1 e4 o7 l7
  have y:Hq (Made S w3 g {s with floor:=F} bh bd bu lh i lu'):=k.o.UZ a7 e4;have T:Hq (Fr S w.heap.size w w3):=Q.o.grown e4 Q.o.size (fun b e=>by injection e with e;subst e;exact oR o6);obtain⟨t,M⟩:∃l:Int×Int->Bool,l=fun x=>left x&&decide (x≠c):=⟨_,rfl⟩;rw[<-M] at e1;have V:Hq (iz w3 bd r two two i t):=e1;clear e1 e4 o7 k Q HR;have o4:Hq _:=l7;clear l7;simp only[zD];refine au ?_;refine Ks.entry rfl _ rfl r _ rfl o4.o ?_;simp only[zD];refine au ?_;refine Ks.alloc rfl _ rfl (H #[I J 0,I J 0]) kr _ rfl ?_;intro w4 b4 G b1 d H4;have b8:Hq (Made S w4 g {s with floor:=F} bh bd bu lh i lu'):=y.o.congr (fun _ h=>h) d.o.block;have b3:Hq (Fr S w.heap.size w w4):=T.o.calls d.o T.o.size;have c8:Hq (iz w4 bd r two two i t):=V.o.congr (d.o.block _ y.o.id.lt) (d.o.block _ (iz.lt V.o));have o5:w.heap.size<=b4/\r<b4/\g<b4/\bd<b4/\bu<b4/\bh<b4:=by
   have e:=G.o;have h1:=T.o.size;have h2:=iz.lt V.o;have h3:=(aL y.o.gate);have h4:=y.o.ih.lt;have h5:=y.o.id.lt;have h6:=y.o.iu.lt;omega
  clear G d H4 y T V;simp only[zD];refine Ks.alloc rfl _ rfl (H #[I J 0,I J 0]) kr _ rfl ?_;intro w5 b5 G j5 d H4;have j1:Hq (Made S w5 g {s with floor:=F} bh bd bu lh i lu'):=b8.o.congr (fun _ h=>h) d.o.block;have h8:Hq (Fr S w.heap.size w w5):=b3.o.calls d.o b3.o.size;have l2:Hq (iz w5 bd r two two i t):=c8.o.congr (d.o.block _ b8.o.id.lt) (d.o.block _ (iz.lt c8.o));have e7:=ca d b1;have o8:b4<b5:=by
   have e:=G.o;have h1:=(aL b1.o);omega
  clear G d H4 b8 b3 c8 b1;simp only[zD];refine Ks.whole rfl _ _ _ rfl b4 #[I J c.1,I J c.2] rfl rfl e7.o kr rfl (by simp[Value.oneCell']) ?_;intro w6 e9 u d H4;have j2:Hq (Made S w6 g {s with floor:=F} bh bd bu lh i lu'):=by
   have h:=j1.o;exact⟨(d.o _ oM).trans h.gate,h.sh,h.sd,h.su,h.hd,h.du,h.hu,h.ih.congr (d.o _ oM),h.id.congr (d.o _ oM),h.iu.congr (d.o _ oM)⟩
  have h9:Hq (Fr S w.heap.size w w6):=h8.o.trans (u.o _ _ (oR o5.1));have l3:Hq (iz w6 bd r two two i t):=l2.o.congr (d.o _ oM) (d.o _ oM);have j9:Hq (w6.heap[b5]? =_):=(d.o _ oM).trans j5.o;clear u d H4 j1 h8 l2 e7 j5;simp only[aD];refine Ks.whole rfl _ _ _ rfl b5 #[I J v.1,I J v.2] rfl rfl j9.o kr rfl (by simp[Value.oneCell']) ?_;intro w7 c4 u d H4;have B:Hq (Made S w7 g {s with floor:=F} bh bd bu lh i lu'):=by
   have h:=j2.o;exact⟨(d.o _ oM).trans h.gate,h.sh,h.sd,h.su,h.hd,h.du,h.hu,h.ih.congr (d.o _ oM),h.id.congr (d.o _ oM),h.iu.congr (d.o _ oM)⟩
  have U:Hq (Fr S w.heap.size w w7):=h9.o.trans (u.o _ _ (oR oM));have W:Hq (iz w7 bd r two two i t):=l3.o.congr (d.o _ oM) (d.o _ oM);have h0:Hq (w7.heap[b4]? =_):=(d.o _ oM).trans e9.o;clear u d H4 j2 h9 l3 j9 e9;simp only[aD];refine kd (wp_seq ?_);refine kX (kv (X (Z ⟨b5,0,Y⟩)) ?_);refine Ks.cell rfl _ _ rfl underlying3 rfl b5 0 (I J v.1) rfl (fy c4.o 0 rfl) ?_;simp only[zD];refine au ?_;refine wp_cond_split rfl ?_ ?_
  ·intro z
   have z:=of_decide_eq_true z;refine wp_seq (Qt.im 5 kr kr ?_);simp only[ak,aE];refine yw (X (Z ⟨g,3,Y⟩)) ?_;refine yw (X (Z ⟨g,3,Y⟩)) ?_;refine yV (X (Z ⟨g,5,Y⟩)) ?_;refine mz rfl _ _ rfl oH rfl g 5 (.map (Z bd)) rfl (aL B.o.gate) (fy B.o.gate 5 rfl) ?_;simp only[zD];refine nn rfl _ _ rfl _ rfl _ _ _ _ h0.o underlying154 rfl kr ?_;simp only[zD];refine gh ?_;simp only[ax,aK];intro w8 C;have c0:Hq (Made S w8 g {s with floor:=F} bh bd bu lh i lu'):=B.o.congr (fun _ h=>h) C.block;have b6:Hq (Fr S w.heap.size w w8):=U.o.calls C U.o.size;have l4:Hq (iz w8 bd r two two i t):=W.o.congr (C.block _ B.o.id.lt) (C.block _ (iz.lt W.o));have c6:=ca C c4;clear C B U W c4 h0;refine Xw _ rfl _ _ _ _ rfl ua oH a7.2.2.1 rfl l4.o c rfl ?_;intro w9 e2 a8;have K:Hq (Made S w9 g {s with floor:=F} bh bd bu lh (del c i) lu'):=c0.o.held e2.is a8;have b7:Hq (Fr S w.heap.size w w9):=b6.o.turned a8 b6.o.size (oL c0.o.sd);have c9:Hq (iz w9 bd r two two (del c i) t):=e2;have l0:Hq (w9.heap[b5]? =_):=(a8.grown.block b5 (aL c6.o) (fun e=>by injection e with e;omega)).trans c6.o;clear e2 a8 c0 b6 l4 c6;simp only[aD];refine kd (Qt.im 5 kr kr ?_);simp only[ak,aE];refine yw (X (Z ⟨g,3,Y⟩)) ?_;refine yw (X (Z ⟨g,3,Y⟩)) ?_;refine yV (X (Z ⟨g,6,Y⟩)) ?_;refine mz rfl _ _ rfl uk rfl g 6 (.map (Z bu)) rfl (aL K.o.gate) (fy K.o.gate 6 rfl) ?_;simp only[zD];refine nn rfl _ _ rfl _ rfl _ _ _ _ l0.o underlying150 rfl kr ?_;simp only[zD];refine gh ?_;simp only[ax,aK];intro e6 L;have A:Hq (Made S e6 g {s with floor:=F} bh bd bu lh (del c i) lu'):=K.o.congr (fun _ h=>h) L.block;have b2:Hq (Fr S w.heap.size w e6):=b7.o.calls L b7.o.size;have c7:Hq (iz e6 bd r two two (del c i) t):=c9.o.congr (L.block _ K.o.id.lt) (L.block _ (iz.lt c9.o));clear L K b7 c9 l0;refine Sq _ rfl _ _ _ _ rfl yd uk rfl A.o.iu v rfl ?_;intro w11 l8 N;have n9:Hq (Made S w11 g {s with floor:=F} bh bd bu lh (del c i) (del v lu')):=A.o.used l8 N;have n5:Hq (Fr S w.heap.size w w11):=b2.o.turned N b2.o.size (oL A.o.su);have o0:Hq (iz w11 bd r two two (del c i) t):=c7.o.congr (N.grown.block _ A.o.id.lt (fun e=>A.o.du (by injection e))) (N.grown.block _ (iz.lt c7.o) (fun e=>a7.2.2.2 (by injection e with e;exact e.symm)));clear l8 N A b2 c7;simp only[aD];refine au ?_;refine l5.o _ _ _ _ _ rfl n9.o o0.o (M▸HW.o.N6 l6.o a6 z) n5.o ?_;rw[M];exact Nat.lt_of_le_of_lt (Rr (left:=fun x=>left x&&decide (x≠c)) c) (Gv a6 l9)
  ·intro z
   have z:=of_decide_eq_false z;refine au ?_;refine l5.o _ _ _ _ _ rfl B.o W.o (M▸HW.o.stay l6.o a6 z) U.o ?_;rw[M];exact Gv a6 l9
theorem Tx{w:D}{s:St}(i:S g)(t:s.l=[])(j:w.heap[g]? =Z (Cl (pR s (.map Y) (.map Y) (.map Y)) 143 (0,0)))(F:Int):Calls prog 216 #[X (Z ⟨g,3,Y⟩),I J F] w fun e w'=>e=Re (Tp #[])/\gg S w' g {s with floor:=F,l:=s.l.map (jn F)}/\Fr S w.heap.size w w':=by
 have h:Hq _:=j;clear j;go_enter func216,ntmps216
 refine wp_seq (kX (kv (X (Z ⟨g,3,Y⟩)) ?_));refine kv (I J F) ?_;refine kv (X (Z ⟨g,3,Y⟩)) ?_;refine kv (X (Z ⟨g,3,Y⟩)) ?_;refine Ks.store rfl _ _ _ rfl g 3 _ rfl rfl h.o (by show 3<8;omega) kr rfl (pR {s with floor:=F} (.map Y) (.map Y) (.map Y)) rfl ?_;intro w1 d f k H4;have c:Hq (Fr S w.heap.size w w1):=f.o _ _ (oL i);clear h f k H4;simp only[aD];refine kd (wp_seq ?_);refine kX (kv (X (Z ⟨g,3,Y⟩)) ?_);refine kv (X (Z ⟨g,3,Y⟩)) ?_;refine kv (X (Z ⟨g,5,Y⟩)) ?_;refine Ks.cell rfl _ _ rfl oH rfl g 5 (.map Y) rfl (fy d.o 5 rfl) ?_;simp only[zD];refine Ks.I6 rfl _ _ rfl oH rfl ?_;intro w2 r u q b;have p:=ca b d;have m:Hq (Fr S w.heap.size w w2):=c.o.calls b.o c.o.size;clear d c b;simp only[zD];refine au ?_;refine loop (fun n a wr=>wr=w2/\a=_) 0 ⟨rfl,rfl⟩ ?_;rintro n a wr ⟨rfl,rfl⟩;refine au ?_;refine Ks.JI rfl _ rfl r rfl q.o ?_;simp only[zD];refine au ?_;go_end0
 exact⟨rfl,⟨i,_,_,_,p.o,oL ⟨rfl,rfl,rfl,by show List.map _ s.l=[];rw[t];rfl⟩⟩,m.o⟩
theorem LI{w:D}{s:St}(h:gg S w g s)(F:Int):Calls prog 216 #[X (Z ⟨g,3,Y⟩),I J F] w fun e w'=>∃v,e=Re v/\v=Tp #[]/\gg S w' g {s with floor:=F,l:=s.l.map (jn F)}/\Fr S w.heap.size w w':=by
 obtain⟨a,vh,vd,vu,b,f⟩:=h;rcases f with⟨rfl,rfl,rfl,d⟩|⟨bh,bd,bu,lh,ld,lu,rfl,rfl,rfl,s1,s2,s3,n1,n2,n3,h1,h2,h3,c⟩
 ·exact(Tx a d b F).mono fun e w' ⟨h1,h2⟩=>⟨_,h1,rfl,h2⟩
 ·exact(X5 ⟨b,s1,s2,s3,n1,n2,n3,h1,h2,h3⟩ a c F).mono fun e w' ⟨h1,h2⟩=>⟨_,h1,rfl,h2⟩
theorem Eo(l:List UInt8)(k:Nat)(a:k<=l.length)(w:D):(lj 9 (sT ⟨l.toArray⟩) (Z (I J (k:Int))) none Y).run prog w= .ok (sT ⟨(l.drop k).toArray⟩) w:=by
 rw[run_slice_string_l w 9 ⟨l.toArray⟩ underlying9 .i64 (k:Int) oM (by show(k:Int)<=(l.length:Int);omega),Int.toNat_natCast,Sw.uI];rw[List.take_of_length_le (by rw[dN];exact Nat.le_refl _)]
theorem Em(l:List UInt8)(k:Nat)(a:k<=l.length)(w:D):(lj 9 (sT ⟨l.toArray⟩) none (Z (I J (k:Int))) Y).run prog w= .ok (sT ⟨(l.take k).toArray⟩) w:=by
 rw[run_slice_string_h w 9 ⟨l.toArray⟩ underlying9 .i64 (k:Int) oM (by show(k:Int)<=(l.length:Int);omega),Int.toNat_natCast,Sw.uI];rfl
theorem wP{W:D}{K:Act->Prop}{r:List Oper}{o:Oper}{a:Act}(b:o.guard=Y)(x y:Operand)(d:o.op= .slice 9 x (Z y) none Y)(l:List UInt8)(k:Nat)(c:k<=l.length)(e:a.eval x=sT ⟨l.toArray⟩)(f:a.eval y=I J (k:Int))
  (h:Lex prog W K r (a.put o.dst (sT ⟨(l.drop k).toArray⟩))):Lex prog W K (o::r) a:=by
 refine kb b _ (fun w' _=> ?_) h;unfold execOp;have hu:=run_underlying (P:=prog) underlying9 w';simp only[d,e,f,fe,hu,da,cZ,Eo l k c w',aH,ar,aR]
theorem wO{W:D}{K:Act->Prop}{r:List Oper}{o:Oper}{a:Act}(b:o.guard=Y)(x y:Operand)(d:o.op= .slice 9 x none (Z y) Y)(l:List UInt8)(k:Nat)(c:k<=l.length)(e:a.eval x=sT ⟨l.toArray⟩)(f:a.eval y=I J (k:Int))
  (h:Lex prog W K r (a.put o.dst (sT ⟨(l.take k).toArray⟩))):Lex prog W K (o::r) a:=by
 refine kb b _ (fun w' _=> ?_) h;unfold execOp;have hu:=run_underlying (P:=prog) underlying9 w';simp only[d,e,f,fe,hu,da,cZ,Em l k c w',aH,ar,aR]
def yD(l:List UInt8)(n k:Nat)(f:Nat->Vl):Act:={tmps:= #[sT ⟨l.toArray⟩,I J (n:Int),f 2,f 3,I J 0,sT ⟨#[]⟩,I J (be (l.take k)),f 7,I J (n:Int),I J (k:Int),f 10,f 11,f 12,f 13,f 14,f 15,f 16,f 17,f 18,f 19,f 20,f 21,f 22,f 23],defers:=[]}
theorem Wu(x:Nat)(h:x<4294967296):IntKind.i64.wrap ((x:Int)*256)=((256*x:Nat):Int):=by
 rw[az _ ⟨oM,oM⟩];omega
theorem Sf(x b:Nat)(h:x<4294967296)(a:b<256):IntKind.i64.wrap ((gr 64 ((256*x:Nat):Int)|||gr 64 (b:Int)).toNat:Int)=((256*x+b:Nat):Int):=by
 have e:(gr 64 ((256*x:Nat):Int)|||gr 64 (b:Int)).toNat=256*x+b:=by
  rw[BitVec.toNat_or,iV,iV,bH,bH,aP oM,aP oM];exact(Nat.two_pow_add_eq_or_of_lt (i:=8) a x).symm
 rw[e,az _ ⟨oM,oM⟩]
theorem zk(l:List UInt8)(n:Nat)(q:n<=l.length)(r:n<=4)(w:D):Rt 149 #[sT ⟨l.toArray⟩,I J (n:Int)] w (Tp #[I J (be (l.take n)),sT ⟨(l.drop n).toArray⟩]):=by
 have p:∀(W:D)(k:Nat)(h:k<l.length),cW prog (Instr.index 9 (sT ⟨l.toArray⟩) (I J (k:Int))) W= .ok (I .u8 ((l[k]).toNat:Int)) W:=fun W k h=>Dc.tG W ⟨l.toArray⟩ k (by exact h) k rfl;go_enter func149,ntmps149
 refine au ?_;refine loop (fun m a wr=>wr=w/\∃(k:Nat)(f:Nat->Vl),k<=n/\m=n-k/\a=yD l n k f) n ⟨rfl,0,fun _=>undef,Nat.zero_le _,rfl,rfl⟩ ?_;rintro m a wr ⟨rfl,k,f,s,rfl,rfl⟩;have fin:∀(d:Act)(b:Nat),k<b->b<=n->d=yD l n b (fun j=>d.tmps.getD j undef)->∃m,m<n-k/\wr=wr/\∃(k:Nat)(f:Nat->Vl),k<=n/\m=n-k/\d=yD l n k f:=fun d b h1 h2 h3=>⟨n-b,oM,rfl,b,_,h2,rfl,h3⟩;unfold yD;refine au ?_;refine wp_cond_split rfl ?_ ?_
 ·intro c
  have c:k<n:=by have:=of_decide_eq_true c;omega
  refine au ?_;have g:be (l.take k)<4294967296:=aB (yp _) (by
   have:(l.take k).length<=4:=by rw[List.length_take];omega
   exact Nat.pow_le_pow_right (n:=256) oM this)
  refine Ks.val rfl (I J ((256*be (l.take k):Nat):Int)) (by simp[execOp,go_sem,<-Wu _ g]) ?_;simp only[zD];refine au ?_;refine Ks.val rfl (I .u8 ((l[k]'oM).toNat:Int)) (by
   have:=p wr k oM;simp[execOp,go_sem,this]) ?_
  simp only[zD];refine Ks.val rfl (I J ((l[k]'oM).toNat:Int)) (by
   have i:=(l[k]'oM).toNat_lt;simp[execOp,go_sem];exact az _ ⟨oM,oM⟩) ?_
  simp only[zD];refine Ks.val rfl (I J ((be (l.take (k+1)):Nat):Int)) (by
   have i:=(l[k]'oM).toNat_lt;have h1:=Sf (be (l.take k)) (l[k]'oM).toNat g oM;have e:be (l.take (k+1))=256*be (l.take k)+(l[k]'oM).toNat:=by rw[List.take_succ_eq_append_getElem oM,FY]
   rw[e];simp[execOp,go_sem];exact h1) ?_
  simp only[zD];refine kv (I J ((be (l.take (k+1)):Nat):Int)) ?_;refine Ks.fin (Ks.mr (kX ?_));refine Ks.val rfl (I J ((k+1:Nat):Int)) (by
   simp[execOp,go_sem];rw[az _ ⟨oM,oM⟩]) ?_
  simp only[zD];refine kv (I J ((k+1:Nat):Int)) ?_;refine kd ?_;exact fin _ (k+1) oM c rfl
 ·intro c
  obtain rfl:k=n:=by have:=of_decide_eq_false c;omega
  refine au ?_;refine Qt.qj kr kr ?_;refine yw (I J (be (l.take k))) ?_;refine yw (sT ⟨l.toArray⟩) ?_;refine yV (I J (k:Int)) ?_;refine wP rfl _ _ rfl l k q rfl rfl ?_;simp only[zD];refine yw (I J (be (l.take k))) ?_;refine yV (sT ⟨(l.drop k).toArray⟩) ?_;refine gh ?_;intro w2 o;refine km (wp_ret ?_);exact bodyPost_ret (v:=Tp #[I J (be (l.take k)),sT ⟨(l.drop k).toArray⟩]) kr rfl ⟨rfl,o⟩
theorem zp(l:List UInt8)(c:UInt8):l.take 1=[c]↔l.head? =Z c:=by cases l<;>simp
section
variable {ops:Array Oper} {rest:List Oper} {o:Oper} {a:Act} {w:D} {Q:Exit->Act->D->Prop}
theorem wF(d:Region.wanted o (yielded ops a.tmps)=true)(x y:Operand)(c:o.op= .slice 9 x none (Z y) Y)(l:List UInt8)(k:Nat)(b:k<=l.length)(e:a.eval x=sT ⟨l.toArray⟩)(f:a.eval y=I J (k:Int))
  (h:wpList prog ops Q rest (a.put o.dst (sT ⟨(l.take k).toArray⟩)) w):wpList prog ops Q (o::rest) a w:=by
 refine ml d _ ?_ h;unfold execOp;have hu:=run_underlying (P:=prog) underlying9 w;simp only[c,e,f,fe,hu,da,cZ,Em l k b w,aH,ar,aR]
theorem Bp(d:Region.wanted o (yielded ops a.tmps)=true)(x y:Operand)(c:o.op= .slice 9 x (Z y) none Y)(l:List UInt8)(k:Nat)(b:k<=l.length)(e:a.eval x=sT ⟨l.toArray⟩)(f:a.eval y=I J (k:Int))
  (h:wpList prog ops Q rest (a.put o.dst (sT ⟨(l.drop k).toArray⟩)) w):wpList prog ops Q (o::rest) a w:=by
 refine ml d _ ?_ h;unfold execOp;have hu:=run_underlying (P:=prog) underlying9 w;simp only[c,e,f,fe,hu,da,cZ,Eo l k b w,aH,ar,aR]
end
theorem WI(l:List UInt8)(h:l.length≠67\/l.head? ≠Z 67)(w:D):Rt 143 #[sT ⟨l.toArray⟩] w (Tp #[I J 0,Bl false]):=by
 go_enter func143,ntmps143
 refine wp_seq (kX (kv (I J 0) ?_));refine kv (Bl false) ?_;refine kd (wp_seq ?_);refine wp_seq (kX (kv (sT ⟨l.toArray⟩) ?_));refine kv (I J (l.length:Int)) ?_;by_cases a:l.length=67
 ·have b:=h.resolve_left (fun x=>x a)
  refine Ks.val rfl (Bl false) (by simp[execOp,go_sem,a]) ?_;simp only[zD];refine au ?_;refine wF kr _ _ rfl l 1 oM rfl rfl ?_;simp only[zD];refine ml kr (Bl true) (by simp[execOp,go_sem,zp,b]) ?_;simp only[zD];refine kv (Bl true) ?_;refine kd (wp_cond_true rfl ?_);refine wp_seq (kX (kv (I J 0) ?_));refine kv (Bl false) ?_;refine kd (wp_ret ?_);repeat (refine kt ?_)
  refine bodyPost_ret (v:=Tp #[I J 0,Bl false]) kr rfl ?_;exact⟨rfl,ai _ _⟩
 ·refine Ks.val rfl (Bl true) (by simp[execOp,go_sem];omega) ?_
  simp only[zD];refine kv (Bl true) ?_;with_reducible refine ab ?_;with_reducible refine ab ?_;with_reducible refine ab ?_;refine kv (Bl true) ?_;refine kd (wp_cond_true rfl ?_);refine wp_seq (kX (kv (I J 0) ?_));refine kv (Bl false) ?_;refine kd (wp_ret ?_);repeat (refine kt ?_)
  refine bodyPost_ret (v:=Tp #[I J 0,Bl false]) kr rfl ?_;exact⟨rfl,ai _ _⟩
theorem Yt(l:List UInt8)(d:l.length=67)(c:l.head? =Z 67)(w:D):Rt 143 #[sT ⟨l.toArray⟩] w (Tp #[I J (gX l),Bl true]):=by
 have a:Hq (∀w,Rt 149 #[sT ⟨(l.drop 1).toArray⟩,I J 2] w (Tp #[I J (gX l),sT ⟨(l.drop 3).toArray⟩])):=fun w=>by
  have:=zk (l.drop 1) 2 (by rw[dN];omega) oM w;rw[List.drop_drop] at this;exact this
 go_enter func143,ntmps143
 refine wp_seq (kX (kv (I J 0) ?_));refine kv (Bl false) ?_;refine kd (wp_seq ?_);refine wp_seq (kX (kv (sT ⟨l.toArray⟩) ?_));refine kv (I J (l.length:Int)) ?_;refine Ks.val rfl (Bl false) (by simp[execOp,go_sem,d]) ?_;simp only[zD];refine au ?_;refine wF kr _ _ rfl l 1 oM rfl rfl ?_;simp only[zD];refine ml kr (Bl false) (by simp[execOp,go_sem,zp,c]) ?_;simp only[zD];refine au ?_;refine Bp kr _ _ rfl l 1 oM rfl rfl ?_;simp only[zD];refine Ks.call rfl 149 #[sT ⟨(l.drop 1).toArray⟩,I J 2] kr ((a.o w).mono fun e w' h=>⟨_,h.1,rfl,h.2⟩) (R:=fun v w'=>v=_/\O w.heap.size w w') ?_;rintro v w1 ⟨rfl,b⟩;simp only[zD];refine kv (Tp #[I J (gX l),sT ⟨(l.drop 3).toArray⟩]) ?_;refine kv (I J (gX l)) ?_;refine kv (sT ⟨(l.drop 3).toArray⟩) ?_;refine kv (I J (gX l)) ?_;refine kv (sT ⟨(l.drop 3).toArray⟩) ?_;refine kd (wp_seq ?_);refine kX (kv (I J (gX l)) ?_);refine kv (I J (gX l)) ?_;refine kv (Bl true) ?_;refine kd (wp_ret ?_);repeat (refine kt ?_)
 refine bodyPost_ret (v:=Tp #[I J (gX l),Bl true]) kr rfl ?_;exact⟨rfl,b⟩
