/- Walks of the program's curve: multiples. Walks of the program's curve: Sum. Walks of the program's curve: Sum. Walks of the program's wide numbers: Sub, Add, Below, Less. Walks of the program's field: FromNumber, Number, Odd. -/
import Derived.Test.YtbojijefenfbgaaGreatDoorAaCurveA
open Go.Instr renaming indexAt->dM,sureAddr->bG,loadAt->cJ
open Go.Sem renaming run_bind->aH,run_pure->aR
open Go.Result renaming andThen_ok->ar
open Array renaming length_toList->bw
open Go.RowKit.Below renaming refl->ai
open Nat renaming mul_comm->bJ,le_trans->ag,mod_eq_of_lt->aP
open Option renaming some->Z,none->Y
open Go.Value renaming int->I,pointer->X,agg->H,bool->Bl,tuple->Tp
open Go.IntKind renaming i64->J,u64->Uq
open Go.Obj renaming cells->Cl
open Go.Ending renaming returned->Re
open Go renaming World->D,Value->Vl
open Go.RowKit renaming Below->O
set_option maxHeartbeats 4000000
set_option maxRecDepth 100000
open Go Go.RowKit
open Go.Proofs.YtbojijefenfbgaaGreatDoor
open Ed(oQ pf oP mh iq)
open Own(mn jM dk ob oU tF jI nv nJ)
open Qt(ev gh)
open UV(nj ni nX ot nM mW mE mZ nY om nW)
variable{P:Program}{W w w':D}{a:Act}{b k m:Nat}{fn:Func}{o:Oper}{p:Tmp}{post:Ending->D->Prop}
namespace Go.Proofs.YtbojijefenfbgaaGreatDoor
open Tryz
namespace Qt
theorem wY(w:D)(t e:TypeId)(len sz:Nat)(i:TypeInfo)(hu:P.underlying t=Z (.array len e))(hi:P.info? e=Z i)(c:P.cellsOf e=sz)(b off n:Nat)(k:IntKind)(a:n<len):
  (dM t (X (Z ⟨b,off,Y⟩)) (.int k (n:Int))).run P w= .ok (X (Z ⟨b,off+n*sz,Y⟩)) w:=by
 have h1:(underlying t).run P w= .ok (.array len e) w:=run_underlying hu w;have h2:(sizeOf e).run P w= .ok sz w:=by rw[<-c];exact run_sizeOf w hi
 have h3:(0:Int)<=(n:Int)/\(n:Int)<(len:Int):=⟨oM,oM⟩;simp[dM,asIntOf,bG,h1,h2,h3,a,Addr.add_mid]
theorem qc{W:D}{K:Act->Prop}{l:List Oper}{a:Act}(c:o.guard=Y)(t:TypeId)(x ix:Operand)(j:o.op= .indexAddr t x ix)(e:TypeId)(len sz:Nat)(hu:P.underlying t=Z (.array len e))(m:P.cellsOf e=sz)(d:(P.info? e).isSome=true)(b off n:Nat)(k:IntKind)
  (p:a.eval x=X (Z ⟨b,off,Y⟩)) (hi:a.eval ix= .int k (n:Int)) (g:n<len) (h:Lex P W K l (a.put o.dst (X (Z ⟨b,off+n*sz,Y⟩)))):Lex P W K (o::l) a:=by
 refine kb c _ (fun w' _=> ?_) h;obtain⟨i,f⟩:=Option.isSome_iff_exists.1 d;unfold execOp;simp only[j,p,hi,aH,aR,ar,wY w' t e len sz i hu f m b off n k g]
end Qt
namespace Cw
open Fw
def ft(p:Ed.E)(k:Nat):Nat->Ed.E:=fun j=>if j<=k then oQ p j else e0
theorem Q3(p:Ed.E):ux (fun _=>e0) 0 pf=ft p 0:=by
 funext j;unfold ux ft;by_cases h:j=0
 ·subst h;rfl
 ·rw[if_neg h,if_neg oM]
theorem Q2(p:Ed.E)(k:Nat):ux (ft p k) (k+1) (oP (ft p k k) p)=ft p (k+1):=by
 funext j;unfold ux ft;by_cases h:j=k+1
 ·subst h;rw[if_pos rfl,if_pos lR,if_pos lR];rfl
 ·rw[if_neg h]
  by_cases h2:j<=k
  ·rw[if_pos h2,if_pos oM]
  ·rw[if_neg h2,if_neg oM]
theorem P6(p:Ed.E):mF (ft p 15)=mF (oQ p):=by
 rw[td,td];refine mn fun j a=> ?_;unfold tc ft;rw[if_pos oM]
theorem FO{K:Act->Prop}{l:List Oper}(d:o.guard=Y)(x:Operand)(e:o.op= .load 163 x)(b off:Nat)(v:Ed.E)(g:a.eval x=X (Z ⟨b,off,Y⟩))(c:b<W.heap.size)(f:W.rangeAt b off (pw v).toList)
  (h:Qt.Lex prog W K l (a.put o.dst (H (pw v)))):Qt.Lex prog W K (o::l) a:=
 Qt.um d 163 x e b off g (pw v).toList _ c f underlying163 rfl (by rw[bw,nx];kernel_rfl) h
theorem JT{ops:Array Oper}{rest:List Oper}{Q:Exit->Act->D->Prop}(d:o.guard=Y)(x y:Operand)(e:o.op= .store 163 x y)(b off:Nat)(v:Ed.E)(f:a.eval x=X (Z ⟨b,off,Y⟩))(g:a.eval y=H (pw v))(c:w.there b off 16)
  (h:wpList prog ops Q rest (a.put o.dst undef) (w.setCells b off (pw v).toList)):wpList prog ops Q (o::rest) a w:=
 wpList_store_mid d 163 x y e b off (pw v) f g (by rw[nx];exact c) (by rw[nx];kernel_rfl) (uZ v) h
theorem uY{ops:Array Oper}{rest:List Oper}{Q:Exit->Act->D->Prop}(d:o.guard=Y)(x:Operand)(e:o.op= .load 276 x)(b:Nat)(v:Nat->Ed.E)(f:a.eval x=X (Z ⟨b,0,Y⟩))(c:ej w b v)
  (h:wpList prog ops Q rest (a.put o.dst (H (mF v))) w):wpList prog ops Q (o::rest) a w:=
 wpList_load_row d 276 x e b f 276 (mF v) (0,0) _ c underlying276 rfl (by rw[sS];kernel_rfl) h
theorem tb{ops:Array Oper}{rest:List Oper}{Q:Exit->Act->D->Prop}(d:o.guard=Y)(x y:Operand)(e:o.op= .store 276 x y)(b:Nat)(v hQ:Nat->Ed.E)(f:a.eval x=X (Z ⟨b,0,Y⟩))(g:a.eval y=H (mF v))(c:ej w b hQ)
  (h:wpList prog ops Q rest (a.put o.dst undef) (w.setRow b (mF v))):wpList prog ops Q (o::rest) a w:=
 wpList_store_row d 276 x y e b (mF v) f g 276 (mF hQ) c (by rw[sS];kernel_rfl) ((sS _).trans (sS _).symm) (GQ v) h
theorem ej.setRow{w:D}{b:Nat}{e:Nat->Ed.E}(h:ej w b e)(f:Nat->Ed.E):ej (w.setRow b (mF f)) b f:=setRow_heap _ _ _ _ _ _ h
theorem wq(h:fn.results= #[.cell p 276])(hd:a.defers=[])(g:Nat)(v:Nat->Ed.E)(c:a.tmps.getD p undef=X (Z ⟨g,0,Y⟩))(b:ej w g v)(d:post (Re (H (mF v))) w):
  bodyPost prog fn post .ret a w:=
 jM h hd g 276 (mF v) (0,0) _ c b underlying276 rfl (by rw[sS];kernel_rfl) d
noncomputable abbrev M3(w:D)(p:Ed.E):D:=((w.alloc (Cl (pw p) 163)).alloc (Cl Tryz.zeroCells276 276)).alloc (Cl Tryz.zeroCells276 276)
theorem VM(w:D)(p:Ed.E):fb (M3 w p) w.heap.size p:=fb.below (jv w _ _ rfl) (((ai (w.heap.size+1) _).alloc sP _).alloc sP _) oM
theorem VN(w:D)(p:Ed.E):ej (M3 w p) (w.heap.size+1) (fun _=>e0):=ej.below (.zero (jv _ _ _ sP)) ((ai (w.heap.size+2) _).alloc sP _) oM
theorem VO(w:D)(p:Ed.E):ej (M3 w p) (w.heap.size+1+1) (fun _=>e0):=.zero (jv _ _ _ sP)
theorem VL(w:D)(p:Ed.E):O w.heap.size w (M3 w p):=(((ai _ _).alloc lR _).alloc sP _).alloc (by simp;omega) _
theorem ND(p:Ed.E)(w:D):Rt 173 #[H (pw p)] w (H (mF (oQ p))):=by
 have d:Hq (fb (M3 w p) w.heap.size p):=VM w p;have c:Hq (ej (M3 w p) (w.heap.size+1) (fun _=>e0)):=VN w p;have b:Hq (ej (M3 w p) (w.heap.size+1+1) (fun _=>e0)):=VO w p;have g:Hq (O w.heap.size w (M3 w p)):=VL w p;go_enter func173,ntmps173
 go_wp2_with fail
 refine(FP _).mono ?_;rintro e w1 ⟨rfl,s⟩;have a:Hq (O (M3 w p).heap.size (M3 w p) w1):=s;clear s;have l:Hq (ej w1 (w.heap.size+1+1) (fun _=>e0)):=b.o.below a.o b.o.lt;have q:Hq (ej w1 (w.heap.size+1) (fun _=>e0)):=c.o.below a.o c.o.lt;have n:Hq (fb w1 w.heap.size p):=d.o.below a.o d.o.lt;have m:=tq g a;go_wp2_with (refine JT rfl _ _ rfl (w.heap.size+1+1) 0 pf rfl rfl (l.o.there 0 oM) ?_)
 have h:Hq (ej (w1.setCells (w.heap.size+1+1) 0 (pw pf).toList) (w.heap.size+1+1) (ft p 0)):=by
  show ej _ _ _;rw[<-Q3];exact l.o.set 0 oM pf
 go_loopw [7] (fun i j=>∃k:Nat,k<=15/\i=I J (k:Int)/\ej j (w.heap.size+1+1) (ft p k)/\fb j w.heap.size p/\ej j (w.heap.size+1) (fun _=>e0)/\O w.heap.size w j) (fun i _=>15-(intOf i).toNat)
 case atStart=>exact⟨0,oM,rfl,h.o,n.o.setCells oM _,q.o.setCells oM _,Dj oM _ _ _ _ m.o⟩
 case round=>
  clear d c b g a l q n m h;rename D=>f
  obtain⟨k,C,rfl,x,u,v,r⟩:=hrel;have b:Hq (ej f (w.heap.size+1+1) (ft p k)):=x;have d:Hq (fb f w.heap.size p):=u;have c:Hq (ej f (w.heap.size+1) (fun _=>e0)):=v;have g:Hq (O w.heap.size w f):=r;clear x u v r;by_cases F:k<15
  ·go_wp2_with fail
   refine Qt.im 8 kr kr ?_;refine yw (I J (k:Int)) ?_;refine Qt.kb rfl (I J ((k+1:Nat):Int)) (fun w' _=> ?_) ?_
   ·go_simp
    rw[IntKind.wrap_i64];omega
   refine yV (I J (k:Int)) ?_;refine Qt.qc rfl 276 _ _ rfl 163 16 16 underlying276 kr kr (w.heap.size+1+1) 0 k .i64 rfl rfl oM ?_;rw[show 0+k*16=16*k by omega];refine FO rfl _ rfl (w.heap.size+1+1) (16*k) (ft p k k) rfl b.o.lt (b.o.range k oM) ?_;refine ya rfl _ rfl w.heap.size p rfl d.o ?_;refine ev rfl 176 #[H (pw (ft p k k)),H (pw p)] (H (pw (oP (ft p k k) p))) (fun _=>kr) (fun w' _=>Ej (ft p k k) p w') ?_;simp only[zD];refine Qt.qc rfl 276 _ _ rfl 163 16 16 underlying276 kr kr (w.heap.size+1+1) 0 (k+1) .i64 rfl rfl oM ?_;rw[show 0+(k+1)*16=16*(k+1) by omega];simp only[zD];refine gh ?_;intro w2 t;have a:Hq (O f.heap.size f w2):=t;clear t;have h:Hq (ej w2 (w.heap.size+1+1) (ft p k)):=b.o.below a.o b.o.lt;refine JT rfl _ _ rfl (w.heap.size+1+1) (16*(k+1)) (oP (ft p k k) p) rfl rfl (h.o.there (k+1) oM) ?_;have B:Hq (ej (w2.setCells (w.heap.size+1+1) (16*(k+1)) (pw (oP (ft p k k) p)).toList) (w.heap.size+1+1) (ft p (k+1))):=by
    show ej _ _ _;rw[<-Q2];exact h.o.set (k+1) oM _
   have z:Hq (fb (w2.setCells (w.heap.size+1+1) (16*(k+1)) (pw (oP (ft p k k) p)).toList) w.heap.size p):=(d.o.below a.o d.o.lt).setCells oM _;have A:Hq (ej (w2.setCells (w.heap.size+1+1) (16*(k+1)) (pw (oP (ft p k k) p)).toList) (w.heap.size+1) (fun _=>e0)):=(c.o.below a.o c.o.lt).setCells oM _;have y:Hq (O w.heap.size w (w2.setCells (w.heap.size+1+1) (16*(k+1)) (pw (oP (ft p k k) p)).toList)):=Dj oM _ _ _ _ (tR g a);simp only[Act.put];go_wp2_with fail
   exact⟨⟨k+1,oM,by go_num,B.o,z.o,A.o,y.o⟩,by simp[intOf];omega⟩
  ·obtain rfl:k=15:=by omega
   go_wp2_with (first|refine uY rfl _ rfl (w.heap.size+1+1) (ft p 15) rfl b.o ?_|refine tb rfl _ _ rfl (w.heap.size+1) (ft p 15) _ rfl rfl c.o ?_)
   refine wq results173 rfl (w.heap.size+1) (ft p 15) rfl (c.o.setRow _) ⟨by rw[P6],g.o.trans ((hJ _ _ _).mono oM)⟩
end Cw
namespace Own
theorem Ye{P:Program}(w:D){ops:Array Oper}{rest:List Oper}{o:Oper}{a:Act}{Q:Exit->Act->D->Prop}
  (m:o.guard=Y) (l c:Operand) (t:TypeId) (q:o.op=Op.makeSlice t l c)
  (e:TypeId) (z:Vl) (sz d:Nat) (h1:P.underlying t=Z (.slice e)) (h2:(P.info? e).map (fun i=>(i.zero,i.size,i.bytes))=Z (Z z,sz,d))
  (g f:IntKind) (n:Nat) (p:a.eval l= .int g (n:Int)) (k:a.eval c= .int f (n:Int)) (v:d*n<=281474976710656) (x:n<=281474976710656)
  (h:wpList P ops Q rest (a.put o.dst (.slice (Z ⟨w.heap.size,0,Y⟩) n n)) (w.alloc (Cl (madeCells z.cells (n*sz)) e))):
  wpList P ops Q (o::rest) a w:=by
 refine wpList_plain m fun K j=> ?_;obtain⟨i,hi,r,s,u⟩:=info_parts h2;have b:=run_make (P:=P) w t e i z h1 hi r g f (n:Int) (n:Int) oM oM (by rw[u];omega) oM;rw[s] at b;simp only[Int.toNat_natCast] at b;unfold Oper.wp;simp[execOp,q,p,k,b,Result.andThen];exact j _ _ h
end Own
namespace Cw
open Fw
noncomputable def sn(F:Nat->Nat->Ed.E)(j:Nat):Vl:=tc (F (j / 256)) (j % 256)
def lZ(w:D)(b m:Nat)(F:Nat->Nat->Ed.E):Prop:=w.heap[b]? =Z (Cl (dk (m*256) (sn F)) 276 (0,0))
theorem Ss:Tryz.zeroCells276=dk 256 (fun _=>I Uq 0):=kr
theorem RG(m:Nat):madeCells (Value.agg Tryz.zeroCells276).cells (m*256)=dk (m*256) (sn (fun _ _=>e0)):=by
 rw[show(Value.agg Tryz.zeroCells276).cells=Tryz.zeroCells276 from rfl,Ss];apply Array.ext_getElem?;intro i;by_cases h:i<m*256
 ·rw[ob h]
  have b:sn (fun _ _=>e0) i=I Uq 0:=EB (i % 256 % 16) oM;rw[b];have a:(dk 256 (fun _=>Value.int .u64 0))[i % 256]? =Z (I Uq 0):=ob oM;simp[madeCells,h,oU];rw[getElem!_def,a]
 ·rw[tF oM]
  simp[madeCells,h]
end Cw
namespace Qt
theorem Ow{W:D}{K:Act->Prop}{l:List Oper}{a:Act}(c:o.guard=Y)(t:TypeId)(x ix:Operand)(j:o.op= .indexAddr t x ix)(e:TypeId)(sz:Nat)(hu:P.underlying t=Z (.slice e))(m:P.cellsOf e=sz)(d:(P.info? e).isSome=true)(b off len cap n:Nat)(k:IntKind)
  (p:a.eval x= .slice (Z ⟨b,off,Y⟩) len cap) (hi:a.eval ix= .int k (n:Int)) (g:n<len) (h:Lex P W K l (a.put o.dst (X (Z ⟨b,off+n*sz,Y⟩)))):Lex P W K (o::l) a:=by
 refine kb c _ (fun w' _=> ?_) h;obtain⟨i,f⟩:=Option.isSome_iff_exists.1 d;have h1:(underlying t).run P w'= .ok (.slice e) w':=run_underlying hu w';have h2:(sizeOf e).run P w'= .ok sz w':=by rw[<-m];exact run_sizeOf w' f
 have h3:(dM t (.slice (Z ⟨b,off,Y⟩) len cap) (.int k (n:Int))).run P w'= .ok (X (Z ⟨b,off+n*sz,Y⟩)) w':=by
  simp[dM,asIntOf,h1,h2,g,Addr.add_mid]
 unfold execOp;simp only[j,p,hi,aH,aR,ar,h3]
theorem TZ{Q:Exit->Act->D->Prop}{l:List Oper}(N:Nat)(_:l.length=N)(n:Nat)(h:Lex P w (fun b=>∀w',O w.heap.size w w'->wpList P l.toArray Q (l.drop n) b w') (l.take n) a):wpList P l.toArray Q l a w:=Ji n h
end Qt
namespace Cw
open Fw
theorem JE(w:D)(b off:Nat)(v:Vl)(h:w.cell? ⟨b,off,Y⟩=Z v):(loadVar 159 ⟨b,off,Y⟩).run prog w= .ok v w:=by
 have h1:=run_underlying (P:=prog) underlying159 w;simp[loadVar,go_sem,h]
theorem yf{K:Act->Prop}{l:List Oper}(e:o.guard=Y)(x:Operand)(f:o.op= .load 159 x)(b off:Nat)(v:Vl)(i:a.eval x=X (Z ⟨b,off,Y⟩))(c:b<W.heap.size)(d:W.cell? ⟨b,off,Y⟩=Z v)
  (h:Qt.Lex prog W K l (a.put o.dst v)):Qt.Lex prog W K (o::l) a:=by
 refine Qt.kb e v (fun w' g=> ?_) h;have h1:=JE w' b off v (by rw[g.cell (by exact c)];exact d);unfold execOp;simp only[f,i,cJ,bG,aH,aR,ar,h1]
noncomputable def tw(t:Q×Ed.E):Array Vl:=t.1.cells++pw t.2
theorem xi(t:Q×Ed.E):(tw t).size=20:=by unfold tw;rw[Array.size_append,nx];rfl
theorem Oc(t:Q×Ed.E):(tw t).all (·.oneCell')=true:=by
 unfold tw;rw[Array.all_append,uZ,Q.cells_one];rfl
def oC:Array Vl:= #[I Uq 0,I Uq 0,I Uq 0,I Uq 0,I Uq 0,I Uq 0,I Uq 0,I Uq 0,I Uq 0,I Uq 0,I Uq 0,I Uq 0,I Uq 0,I Uq 0,I Uq 0,I Uq 0,I Uq 0,I Uq 0,I Uq 0,I Uq 0]
def rj(w:D)(b:Nat)(t:Q×Ed.E):Prop:=w.heap[b]? =Z (Cl (tw t) 192 (0,0))
theorem rj.Tr{t:Q×Ed.E}(h:rj w b t):w.rangeAt b 4 (pw t.2).toList:=fun j v hv=>by
 rw[cell_of_row w b (4+j) _ _ _ h];unfold tw;rw[Array.getElem?_append_right (by show 4<=4+j;omega)];rw[show 4+j-t.1.cells.size=j from by show 4+j-4=j;omega];simpa using hv
def qw(q:Q)(k:Nat):BitVec 64:=if k=0 then q.a0 else if k=1 then q.a1 else if k=2 then q.a2 else q.a3
theorem rj.word{t:Q×Ed.E}(h:rj w b t)(k:Nat)(a:k<4):w.cell? ⟨b,k,Y⟩=Z (I Uq (un (qw t.1 k))):=by
 rw[cell_of_row w b k _ _ _ h];unfold tw;rw[Array.getElem?_append_left (by show k<4;exact a)];rcases k with _|_|_|_|k<;>first|rfl|omega
theorem rj.setRow{w:D}{b:Nat}{o:Array Vl}(h:w.heap[b]? =Z (Cl o 192 (0,0)))(t:Q×Ed.E):rj (w.setRow b (tw t)) b t:=setRow_heap _ _ _ _ _ _ h
theorem Ff{ops:Array Oper}{rest:List Oper}{Q:Exit->Act->D->Prop}(c:o.guard=Y)(x:Operand)(d:o.op= .load 192 x)(b off:Nat)(t:Fw.Q×Ed.E)(f:a.eval x=X (Z ⟨b,off,Y⟩))(e:w.rangeAt b off (tw t).toList)
  (h:wpList prog ops Q rest (a.put o.dst (H (tw t))) w):wpList prog ops Q (o::rest) a w:=
 wpList_load_mid c 192 x d b off f (tw t).toList _ e underlying192 rfl (by rw[bw,xi];kernel_rfl) h
theorem GP{ops:Array Oper}{rest:List Oper}{Q:Exit->Act->D->Prop}(d:o.guard=Y)(x y:Operand)(e:o.op= .store 192 x y)(b:Nat)(t:Fw.Q×Ed.E)(f:a.eval x=X (Z ⟨b,0,Y⟩))(g:a.eval y=H (tw t))(c:w.heap[b]? =Z (Cl oC 192 (0,0)))
  (h:wpList prog ops Q rest (a.put o.dst undef) (w.setRow b (tw t))):wpList prog ops Q (o::rest) a w:=
 wpList_store_row d 192 x y e b (tw t) f g 192 oC c (by rw[xi];kernel_rfl) ((xi t).symm▸rfl) (Oc t) h
theorem Ry{ops:Array Oper}{rest:List Oper}{Q:Exit->Act->D->Prop}(c:o.guard=Y)(x:Operand)(d:o.op= .load 163 x)(b off:Nat)(v:Ed.E)(f:a.eval x=X (Z ⟨b,off,Y⟩))(e:w.rangeAt b off (pw v).toList)
  (h:wpList prog ops Q rest (a.put o.dst (H (pw v))) w):wpList prog ops Q (o::rest) a w:=
 wpList_load_mid c 163 x d b off f (pw v).toList _ e underlying163 rfl (by rw[bw,nx];kernel_rfl) h
theorem lZ.lt{F:Nat->Nat->Ed.E}(h:lZ w b m F):b<w.heap.size:=(aL h)
theorem lZ.below{F:Nat->Nat->Ed.E}(h:lZ w b m F)(a:O k w w')(c:b<k):lZ w' b m F:=(a.block b c).trans h
theorem lZ.range{F:Nat->Nat->Ed.E}(h:lZ w b m F)(i j:Nat)(hi:i<m)(a:j<16):w.rangeAt b (256*i+16*j) (pw (F i j)).toList:=fun n v hv=>by
 have c:n<16:=by
  have:=(lL hv);rw[bw,nx] at this;exact this
 rw[jI h (256*i+16*j+n) oM];unfold sn tc;rw[show(256*i+16*j+n) / 256=i by omega,show(256*i+16*j+n) % 256 / 16=j by omega,show(256*i+16*j+n) % 256 % 16=n by omega];have h2:(pw (F i j))[n]? =Z v:=by simpa using hv
 rw[h2];rfl
theorem lZ.there{w:D}{b m:Nat}{F:Nat->Nat->Ed.E}(h:lZ w b m F)(i:Nat)(hi:i<m):w.there b (256*i) 256:=fun j a=>
 ⟨by rw[jI h (256*i+j) oM];rfl,nv h _⟩
theorem lZ.set{F:Nat->Nat->Ed.E}(h:lZ w b m F)(i:Nat)(_hi:i<m)(f:Nat->Ed.E):lZ (w.setCells b (256*i) (mF f).toList) b m (fun k=>if k=i then f else F k):=by
 have d:w.heap[b]? =Z (Cl (dk (m*256) (sn F)) 276 (0,0)):=h;have h2:=I' (mF f).toList (256*i) w (sn F) d;show(w.setCells b (256*i) (mF f).toList).heap[b]? =Z (Cl (dk (m*256) (sn (fun k=>if k=i then f else F k))) 276 (0,0));rw[h2];refine congrArg (fun c=>Z (Obj.cells c 276 (0,0))) ?_;refine mn fun j g=> ?_;rw[bw,sS];unfold sn;by_cases a:256*i<=j/\j<256*i+256
 ·rw[if_pos a]
  show _=tc (if j / 256=i then f else F (j / 256)) (j % 256);rw[if_pos oM,show j-256*i=j % 256 by omega];have e:(mF f)[j % 256]? =Z (tc f (j % 256)):=by rw[td];exact ob oM
  simp[e]
 ·rw[if_neg a]
  show _=tc (if j / 256=i then f else F (j / 256)) (j % 256);rw[if_neg oM]
theorem P3{ops:Array Oper}{rest:List Oper}{Q:Exit->Act->D->Prop}(d:o.guard=Y)(x y:Operand)(e:o.op= .store 276 x y)(b off:Nat)(f:Nat->Ed.E)(g:a.eval x=X (Z ⟨b,off,Y⟩))(i:a.eval y=H (mF f))(c:w.there b off 256)
  (h:wpList prog ops Q rest (a.put o.dst undef) (w.setCells b off (mF f).toList)):wpList prog ops Q (o::rest) a w:=
 wpList_store_mid d 276 x y e b off (mF f) g i (by rw[sS];exact c) (by rw[sS];kernel_rfl) (GQ f) h
def nr(q:Q)(i:Nat):BitVec 64:=qw q (i / 16)>>>(4*(i % 16))&&&15#64
def oK(T:Nat->Q×Ed.E)(i:Nat)(a:Ed.E):Nat->Ed.E
 |0=>a
 |j+1=>oP (oK T i a j) (oQ (T j).2 (nr (T j).1 i).toNat)
def nb(e:Ed.E):Ed.E:=mh (mh (mh (mh e)))
def pr(T:Nat->Q×Ed.E)(m:Nat):Nat->Ed.E
 |0=>pf
 |d+1=>oK T (63-d) (nb (pr T m d)) m
noncomputable def FT(T:Nat->Q×Ed.E)(k:Nat):Nat->Nat->Ed.E:=fun j=>if j<k then oQ (T j).2 else fun _=>e0
theorem Qm(T:Nat->Q×Ed.E)(k:Nat):(fun j=>if j=k then oQ (T k).2 else FT T k j)=FT T (k+1):=by
 funext j;unfold FT;by_cases h:j=k
 ·subst h;rw[if_pos rfl,if_pos oM]
 ·rw[if_neg h]
  by_cases h2:j<k
  ·rw[if_pos h2,if_pos oM]
  ·rw[if_neg h2,if_neg oM]
theorem Qn(T:Nat->Q×Ed.E):FT T 0=fun _ _=>e0:=by
 funext j;unfold FT;rw[if_neg oM]
noncomputable abbrev S2(w:D)(m:Nat):D:=(w.alloc (Cl oA 163)).alloc (Cl (madeCells Tryz.zeroCells276 (m*256)) 276)
theorem VT(w:D)(m:Nat):fb (S2 w m) w.heap.size e0:=fb.below (.zero (jv w _ _ rfl)) ((ai (w.heap.size+1) _).alloc sP _) oM
theorem VU(w:D)(m:Nat):lZ (S2 w m) (w.heap.size+1) m (fun _ _=>e0):=by
 unfold lZ;rw[<-RG];exact jv _ _ _ sP
theorem VS(w:D)(m:Nat):O w.heap.size w (S2 w m):=((ai _ _).alloc lR _).alloc sP _
theorem lZ.setRow{w:D}{b c m:Nat}{F:Nat->Nat->Ed.E}(h:lZ w b m F)(a:b≠c)(cs:Array Vl):lZ (w.setRow c cs) b m F:=by
 unfold lZ at*;rw[<-h];show(Array.modify _ _ _)[b]? =_;rw[Array.getElem?_modify,if_neg (Ne.symm a)]
theorem Gr{ops:Array Oper}{rest:List Oper}{c os:Oper}{a:Act}{w:D}{Q:Exit->Act->D->Prop}{x y:Operand}(f:c.guard=Y)(e:c.op= .alloc 163)(g:os.guard=Y)(i:os.op= .store 163 x y)(v:Ed.E)
  (j:∀b,(a.put c.dst (X (Z ⟨b,0,Y⟩))).eval x=X (Z ⟨b,0,Y⟩)) (k:∀b,(a.put c.dst (X (Z ⟨b,0,Y⟩))).eval y=H (pw v))
  (h:∀w2 b,w.heap.size<=b->fb w2 b v->O w.heap.size w w2->wpList prog ops Q rest ((a.put c.dst (X (Z ⟨b,0,Y⟩))).put os.dst undef) w2):wpList prog ops Q (c::os::rest) a w:=by
 refine nJ _ f 163 e oA kr ?_;have d:fb (w.alloc (Cl oA 163)) w.heap.size e0:=.zero (jv _ _ _ rfl);refine pA g x y i w.heap.size v e0 (j _) (k _) d ?_;exact h _ _ lR (d.setRow v) (((ai _ _).alloc lR _).trans (hJ _ _ _))
theorem Nw{ops:Array Oper}{rest:List Oper}{Q:Exit->Act->D->Prop}(e:o.guard=Y)(x:Operand)(f:o.op= .load 159 x)(b off:Nat)(v:Vl)(g:a.eval x=X (Z ⟨b,off,Y⟩))(d:w.cell? ⟨b,off,Y⟩=Z v)
  (h:wpList prog ops Q rest (a.put o.dst v) w):wpList prog ops Q (o::rest) a w:=by
 refine wpList_plain e fun K c=> ?_;unfold Oper.wp execOp;simp only[f,g,cJ,bG,aH,aR,ar,JE w b off v d];exact c _ _ h
theorem OB(x:BitVec 64):bits .and .u64 (un x) 15=un (x&&&15#64):=nj x 15#64
theorem Er(q:Q)(i:Nat):(nr q i).toNat<16:=by
 unfold nr;rw[BitVec.toNat_and];exact Nat.lt_of_le_of_lt Nat.and_le_right dc
attribute [local go_sem] OB UV.ni UV.nX UV.ot UV.nM UV.nj UV.mW UV.mE UV.mZ UV.nY UV.om UV.nW
theorem VB(r m:Nat)(hm:m<=2)(T:Nat->Q×Ed.E)(w:D)(R:r<w.heap.size)(hT:∀j,j<m->w.rangeAt r (j*20) (tw (T j)).toList):
  Rt 110 #[.slice (Z ⟨r,0,Y⟩) m m] w (H (pw (pr T m 64))):=by
 have h0:Hq (r<w.heap.size):=R;have c4:Hq (∀w',O w.heap.size w w'->∀j,j<m->w'.rangeAt r (j*20) (tw (T j)).toList):=fun w' e9 j hj n v hv=>by
  rw[e9.cell (by exact R)];exact hT j hj n v hv
 clear R hT;go_enter func110,ntmps110
 go_wp2_with (refine Own.Ye _ rfl _ _ 275 rfl 276 (H Tryz.zeroCells276) 256 2048 underlying275 kr .i64 .i64 m rfl rfl oM oM ?_)
 go_loopw [16] (fun i l=>∃k:Nat,k<=m/\i=I J (k:Int)/\lZ l (w.heap.size+1) m (FT T k)/\fb l w.heap.size e0/\O w.heap.size w l) (fun i _=>m-(intOf i).toNat)
 case atStart=>exact⟨0,oM,rfl,by rw[Qn];exact VU w m,VT w m,VS w m⟩
 case round=>
  rename D=>d
  obtain⟨k,hk,rfl,u,t,s⟩:=hrel;have c:Hq (lZ d (w.heap.size+1) m (FT T k)):=u;have b:Hq (fb d w.heap.size e0):=t;have f:Hq (O w.heap.size w d):=s;clear u t s;by_cases P:k<m
  ·have e6:Hq (d.rangeAt r (k*20) (tw (T k)).toList):=c4.o d f.o k P
   have HM:Hq (rj ((d.alloc (Cl oC 192)).setRow d.heap.size (tw (T k))) d.heap.size (T k)):=rj.setRow (jv _ _ _ rfl) (T k);have g:Hq (O d.heap.size d ((d.alloc (Cl oC 192)).setRow d.heap.size (tw (T k)))):=((ai _ _).alloc lR _).trans (hJ _ _ _);go_wp2_with (first|refine Ff rfl _ rfl r (k*20) (T k) rfl e6.o ?_|refine Ry rfl _ rfl d.heap.size 4 (T k).2 rfl HM.o.Tr ?_|refine GP rfl _ _ rfl d.heap.size (T k) rfl rfl (heap_alloc_new _ _) ?_)
   refine(ND (T k).2 _).mono ?_;rintro e w2 ⟨rfl,A⟩;have p:=tq g A;have b6:Hq (lZ w2 (w.heap.size+1) m (FT T k)):=c.o.below p.o c.o.lt;have e4:Hq (w2.there (w.heap.size+1) (k*256) 256):=by
    have h:=b6.o.there k P;rw[bJ] at h;exact h
   clear A;go_wp2_with (refine P3 rfl _ _ rfl (w.heap.size+1) (k*256) (oQ (T k).2) rfl rfl e4.o ?_)
   refine⟨⟨k+1,oM,by go_num,?_,?_,?_⟩,by simp[intOf];omega⟩
   ·have h:=b6.o.set k P (oQ (T k).2)
    rw[Qm,bJ] at h;exact h
   ·exact(b.o.below p.o b.o.lt).setCells oM _
   ·exact Dj oM _ _ _ _ (tR f p)
  ·obtain rfl:k=m:=by omega
   go_wp2_with fail
   refine(FP _).mono ?_;rintro e w2 ⟨rfl,A⟩;have p:Hq (O d.heap.size d w2):=A;clear A;go_wp2_with (refine Gr rfl rfl rfl rfl pf (fun _=>rfl) (fun _=>rfl) ?_)
   intro w3 bs c9 hW c6;have HL:Hq (w2.heap.size<=bs):=c9;have F:Hq (O w2.heap.size w2 w3):=c6;have b1:Hq (fb w3 bs pf):=hW;have b7:Hq (lZ w3 (w.heap.size+1) k (FT T k)):=(c.o.below p.o c.o.lt).below F.o (c.o.below p.o c.o.lt).lt;have a7:Hq (fb w3 w.heap.size e0):=(b.o.below p.o b.o.lt).below F.o (b.o.below p.o b.o.lt).lt;have U:Hq (O w.heap.size w w3):=(tR f p).trans (F.o.mono (ag f.o.size p.o.size));have x:Hq (w.heap.size+1<bs):=by
    have h1:=c.o.lt;have h2:=p.o.size;have h3:=HL.o;show _<_;omega
   clear c9 hW c6 HL F p c b f;go_wp2_with fail
   go_loopw [7] (fun i l=>∃n:Nat,n<=64/\i=I J ((n:Int)-1)/\fb l bs (pr T k (64-n))/\lZ l (w.heap.size+1) k (FT T k)/\fb l w.heap.size e0/\O w.heap.size w l) (fun i _=>(intOf i+1).toNat)
   case atStart=>exact⟨64,oM,rfl,b1.o,b7.o,a7.o,U.o⟩
   case round=>
    clear b1 b7 a7 U;rename D=>wc
    obtain⟨n,hn,rfl,B,u,t,s⟩:=hrel;have q:Hq (fb wc bs (pr T k (64-n))):=B;have c:Hq (lZ wc (w.heap.size+1) k (FT T k)):=u;have b:Hq (fb wc w.heap.size e0):=t;have f:Hq (O w.heap.size w wc):=s;clear B u t s;rcases n with _|i
    ·go_wp2_with (first|refine Fg rfl _ rfl bs (pr T k 64) rfl q.o ?_|refine pA rfl _ _ rfl w.heap.size (pr T k 64) e0 rfl rfl b.o ?_)
     exact sr results110 rfl w.heap.size (pr T k 64) rfl (b.o.setRow _) ⟨rfl,f.o.trans ((hJ _ _ _).mono lR)⟩
    ·have ei:(((i+1:Nat):Int)-1)=(i:Int):=by omega
     rw[ei];have hi:i<64:=oM
     obtain⟨a,N⟩:=eX (pr T k (64-(i+1)));rw[<-N] at q;have e7:Hq (a=pr T k (64-(i+1))):=N;clear N ei;go_wp2_with (refine Qt.TZ 6 rfl 5 ?_)
     refine ya rfl _ rfl bs a rfl q.o ?_;refine ev rfl 175 #[H (pw a)] (H (pw (mh a))) (fun _=>kr) (fun w' _=>yr a w') ?_;refine ev rfl 175 #[H (pw (mh a))] (H (pw (mh (mh a)))) (fun _=>kr) (fun w' _=>yr (mh a) w') ?_;refine ev rfl 175 #[H (pw (mh (mh a)))] (H (pw (mh (mh (mh a))))) (fun _=>kr) (fun w' _=>yr (mh (mh a)) w') ?_;refine ev rfl 175 #[H (pw (mh (mh (mh a))))] (H (pw (nb a))) (fun _=>kr) (fun w' _=>yr (mh (mh (mh a))) w') ?_;simp only[zD];refine gh ?_;intro w5 c7;have g:Hq (O wc.heap.size wc w5):=c7;clear c7;have M:Hq (fb w5 bs a):=q.o.below g.o q.o.lt;have b8:Hq (lZ w5 (w.heap.size+1) k (FT T k)):=c.o.below g.o c.o.lt;have a8:Hq (fb w5 w.heap.size e0):=b.o.below g.o b.o.lt;have V:=tq f g;refine pA rfl _ _ rfl bs (nb a) a rfl rfl M.o ?_;have b2:Hq (fb (w5.setRow bs (pw (nb a))) bs (nb a)):=M.o.setRow _;have c0:Hq (lZ (w5.setRow bs (pw (nb a))) (w.heap.size+1) k (FT T k)):=b8.o.setRow (by have:=x.o;omega) _;have b0:Hq (fb (w5.setRow bs (pw (nb a))) w.heap.size e0):=a8.o.other (by have:=x.o;omega) _;have W:Hq (O w.heap.size w (w5.setRow bs (pw (nb a)))):=V.o.trans ((hJ _ _ _).mono (by have:=x.o;omega));clear q c b f g M b8 a8 V;simp only[Act.put];go_wp2_with fail
     go_loopw [40] (fun S l=>∃j:Nat,j<=k/\S=I J (j:Int)/\fb l bs (oK T i (nb a) j)/\lZ l (w.heap.size+1) k (FT T k)/\fb l w.heap.size e0/\O w.heap.size w l) (fun S _=>k-(intOf S).toNat)
     case atStart=>exact⟨0,oM,rfl,b2.o,c0.o,b0.o,W.o⟩
     case round=>
      clear b2 c0 b0 W;rename D=>wd
      obtain⟨j,hj,rfl,B,u,t,s⟩:=hrel;have q:Hq (fb wd bs (oK T i (nb a) j)):=B;have c:Hq (lZ wd (w.heap.size+1) k (FT T k)):=u;have b:Hq (fb wd w.heap.size e0):=t;have f:Hq (O w.heap.size w wd):=s;clear B u t s;by_cases G:j<k
      ·have e5:Hq (wd.rangeAt r (j*20) (tw (T j)).toList):=c4.o wd f.o j G
       have g:Hq (O wd.heap.size wd ((wd.alloc (Cl oC 192)).setRow wd.heap.size (tw (T j)))):=((ai _ _).alloc lR _).trans (hJ _ _ _);have HC:Hq (((wd.alloc (Cl oC 192)).setRow wd.heap.size (tw (T j))).cell? ⟨wd.heap.size,i / 16,Y⟩=Z (I Uq (un (qw (T j).1 (i / 16))))):=(rj.setRow (jv _ _ _ rfl) (T j)).word (i / 16) oM;go_wp2_with (first|refine Ff rfl _ rfl r (j*20) (T j) rfl e5.o ?_|refine GP rfl _ _ rfl wd.heap.size (T j) rfl rfl (heap_alloc_new _ _) ?_|refine Nw rfl _ rfl wd.heap.size (i / 16) (I Uq (un (qw (T j).1 (i / 16)))) rfl HC.o ?_)
       have C:Hq (fb ((wd.alloc (Cl oC 192)).setRow wd.heap.size (tw (T j))) bs (oK T i (nb a) j)):=q.o.below g.o q.o.lt;have y:Hq (lZ ((wd.alloc (Cl oC 192)).setRow wd.heap.size (tw (T j))) (w.heap.size+1) k (FT T k)):=c.o.below g.o c.o.lt;have L:Hq (fb ((wd.alloc (Cl oC 192)).setRow wd.heap.size (tw (T j))) w.heap.size e0):=b.o.below g.o b.o.lt;have X:Hq (O w.heap.size w ((wd.alloc (Cl oC 192)).setRow wd.heap.size (tw (T j)))):=f.o.trans (g.o.mono f.o.size);have a6:Hq (((wd.alloc (Cl oC 192)).setRow wd.heap.size (tw (T j))).rangeAt (w.heap.size+1) (0+j*256+(nr (T j).1 i).toNat*16) (pw (oQ (T j).2 (nr (T j).1 i).toNat)).toList):=by
        have h:=y.o.range j (nr (T j).1 i).toNat G (Er _ _);rw[show FT T k j=oQ (T j).2 from if_pos G,show 256*j+16*(nr (T j).1 i).toNat=0+j*256+(nr (T j).1 i).toNat*16 by omega] at h;exact h
       refine Qt.im 8 kr kr ?_;refine ya rfl _ rfl bs (oK T i (nb a) j) rfl C.o ?_;refine yw (.slice (Z ⟨w.heap.size+1,0,Y⟩) k k) ?_;refine yw (I J (j:Int)) ?_;refine yV (I Uq (un (nr (T j).1 i))) ?_;refine Qt.Ow rfl 275 _ _ rfl 276 256 underlying275 kr kr (w.heap.size+1) 0 k k j .i64 rfl rfl G ?_;refine Qt.qc rfl 276 _ _ rfl 163 16 16 underlying276 kr kr (w.heap.size+1) (0+j*256) (nr (T j).1 i).toNat .u64 rfl rfl (Er _ _) ?_;simp only[zD];refine FO rfl _ rfl (w.heap.size+1) (0+j*256+(nr (T j).1 i).toNat*16) (oQ (T j).2 (nr (T j).1 i).toNat) rfl y.o.lt a6.o ?_;refine ev rfl 176 #[H (pw (oK T i (nb a) j)),H (pw (oQ (T j).2 (nr (T j).1 i).toNat))] (H (pw (oK T i (nb a) (j+1)))) (fun _=>kr) (fun w' _=>Ej (oK T i (nb a) j) (oQ (T j).2 (nr (T j).1 i).toNat) w') ?_;simp only[zD];refine gh ?_;intro K c8;have z:Hq (O ((wd.alloc (Cl oC 192)).setRow wd.heap.size (tw (T j))).heap.size ((wd.alloc (Cl oC 192)).setRow wd.heap.size (tw (T j))) K):=c8;clear c8;have b3:Hq (fb K bs (oK T i (nb a) j)):=C.o.below z.o C.o.lt;have e3:Hq (lZ K (w.heap.size+1) k (FT T k)):=y.o.below z.o y.o.lt;have e2:Hq (fb K w.heap.size e0):=L.o.below z.o L.o.lt;have e1:=tq X z;clear g HC C y L X a6 z;refine pA rfl _ _ rfl bs (oK T i (nb a) (j+1)) (oK T i (nb a) j) rfl rfl b3.o ?_;simp only[Act.put];go_wp2_with fail
       refine⟨⟨j+1,oM,by go_num,b3.o.setRow _,e3.o.setRow (by have:=x.o;omega) _,e2.o.other (by have:=x.o;omega) _,e1.o.trans ((hJ _ _ _).mono (by have:=x.o;omega))⟩,by simp[intOf];omega⟩
      ·obtain rfl:j=k:=by omega
       go_wp2_with fail
       have he:oK T i (nb a) j=pr T j (64-i):=by
        rw[e7.o,show 64-i=(64-(i+1))+1 by omega];show _=oK T (63-(64-(i+1))) (nb (pr T j (64-(i+1)))) j;rw[show 63-(64-(i+1))=i by omega]
       exact⟨⟨i,oM,rfl,by rw[<-he];exact q.o,c.o,b.o,f.o⟩,by simp[intOf]⟩
end Cw
namespace Ww
open Fw Bt
attribute [local go_sem] va xt xr xp xu
attribute [local go_sem] UV.ni UV.nX UV.ot UV.nM UV.nj UV.mW UV.mE UV.mZ UV.nY UV.om UV.nW rL sO
def nT(a b:Q):Q:=⟨d0 a b,d1 a b,d2 a b,d3 a b⟩
def k4(a b:Q):Bool:=carry a.a3 b.a3 (k3 a b)
theorem JU(a b:Q):(nT a b).num+b.num=a.num+115792089237316195423570985008687907853269984665640564039457584007913129639936*(bv (m4 a b)).toNat:=by
 have v0:(d0 a b).toNat+b.a0.toNat+0=a.a0.toNat+18446744073709551616*(bv (m1 a b)).toNat:=oZ a.a0 b.a0 false;have c:(d1 a b).toNat+b.a1.toNat+(bv (m1 a b)).toNat=a.a1.toNat+18446744073709551616*(bv (m2 a b)).toNat:=oZ a.a1 b.a1 (m1 a b);have d:(d2 a b).toNat+b.a2.toNat+(bv (m2 a b)).toNat=a.a2.toNat+18446744073709551616*(bv (m3 a b)).toNat:=oZ a.a2 b.a2 (m2 a b);have v3:(d3 a b).toNat+b.a3.toNat+(bv (m3 a b)).toNat=a.a3.toNat+18446744073709551616*(bv (m4 a b)).toNat:=oZ a.a3 b.a3 (m3 a b);exact CQ _ _ _ _ _ _ _ _ _ _ _ _ _ _ _ _ _ v0 c d v3
theorem Ua(a b:Q):(rm a b).num+115792089237316195423570985008687907853269984665640564039457584007913129639936*(bv (k4 a b)).toNat=a.num+b.num:=by
 have v0:(a.a0+b.a0+bv false).toNat+18446744073709551616*(bv (k1 a b)).toNat=a.a0.toNat+b.a0.toNat+0:=me a.a0 b.a0 false;have c:(a.a1+b.a1+bv (k1 a b)).toNat+18446744073709551616*(bv (k2 a b)).toNat=a.a1.toNat+b.a1.toNat+(bv (k1 a b)).toNat:=me a.a1 b.a1 (k1 a b);have d:(a.a2+b.a2+bv (k2 a b)).toNat+18446744073709551616*(bv (k3 a b)).toNat=a.a2.toNat+b.a2.toNat+(bv (k2 a b)).toNat:=me a.a2 b.a2 (k2 a b);have v3:(a.a3+b.a3+bv (k3 a b)).toNat+18446744073709551616*(bv (k4 a b)).toNat=a.a3.toNat+b.a3.toNat+(bv (k3 a b)).toNat:=me a.a3 b.a3 (k3 a b);exact KI _ _ _ _ _ _ _ _ _ _ _ _ _ _ _ _ _ v0 c d v3
theorem Ck(a b:Q):m4 a b=decide (a.num<b.num):=by
 have h:=JU a b;have h1:=qJ (nT a b);have h2:=qJ a;have h3:=qJ b;cases c:m4 a b with
 |true=>
  rw[c,show(bv true).toNat=1 from rfl] at h;exact(decide_eq_true oM).symm
 |false=>
  rw[c,show(bv false).toNat=0 from rfl] at h;exact(decide_eq_false oM).symm
theorem pB{P:Program}{q:Tmp}{ty:TypeId}(h:fn.results= #[.cell p ty,.tmp q]){post:Ending->D->Prop}(hd:a.defers=[])(g:Nat)(t:TypeId)(cs:Array Vl)(fr:Nat×Nat)(d:TypeDesc)(u:Vl)(e:a.tmps.getD p undef=X (Z ⟨g,0,Y⟩))(j:a.tmps.getD q undef=u)(b:w.heap[g]? =Z (Cl cs t fr))
  (hu:P.underlying ty=Z d) (l:(match d with| .struct _| .array _ _=>true|_=>false)=true) (hi:(P.info? ty).map (·.size)=Z cs.size) (i:post (Re (Tp #[H cs,u])) w):
  bodyPost P fn post .ret a w:=by
 refine bodyPost_ret (v:=Tp #[H cs,u]) ?_ hd i;have c:=run_loadVar_row (P:=P) w g t ty cs fr d b hu l hi;have f:a.tmps[p]?.getD undef=X (Z ⟨g,0,Y⟩):=by simpa using e
 have k:a.tmps[q]?.getD undef=u:=by simpa using j
 simp[results,h,f,k,asAddr,c]
theorem EI(w:D)(o1 o2 o3 a:Obj):((((w.alloc o1).alloc o2).alloc o3).alloc a).heap[w.heap.size+1+1]? =Z o3:=
 (((ai (w.heap.size+3) _).alloc sP a).block _ oM).trans (jv _ _ _ sP)
theorem EZ(w:D)(o1 o2 o3 a:Obj):O w.heap.size w ((((w.alloc o1).alloc o2).alloc o3).alloc a):=((((ai _ _).alloc lR _).alloc sP _).alloc (by simp;omega) _).alloc (by simp;omega) _
theorem FN(a b:Q)(w:D):Rt 166 #[H a.cells,H b.cells] w (Tp #[H (nT a b).cells,I Uq (un (bv (m4 a b)))]):=by
 unfold Q.cells;go_enter func166,ntmps166
 go_wp2_with fail
 exact pB results166 rfl (w.heap.size+1+1) 184 (nT a b).cells (0,0) _ (I Uq (un (bv (m4 a b)))) rfl rfl (EI w _ _ _ _) underlying184 rfl kr ⟨rfl,EZ w _ _ _ _⟩
theorem Oq(a b:Q)(w:D):Rt 200 #[H a.cells,H b.cells] w (Tp #[H (rm a b).cells,I Uq (un (bv (k4 a b)))]):=by
 unfold Q.cells;go_enter func200,ntmps200
 go_wp2_with fail
 exact pB results200 rfl (w.heap.size+1+1) 184 (rm a b).cells (0,0) _ (I Uq (un (bv (k4 a b)))) rfl rfl (EI w _ _ _ _) underlying184 rfl kr ⟨rfl,EZ w _ _ _ _⟩
def fY(w:D)(b:Nat)(q:Q):Prop:=w.heap[b]? =Z (Cl q.cells 184 (0,0))
theorem fY.lt{q:Q}(h:fY w b q):b<w.heap.size:=(aL h)
theorem fY.below{q:Q}(h:fY w b q)(a:O k w w')(c:b<k):fY w' b q:=(a.block b c).trans h
theorem fY.setRow{w:D}{b:Nat}{q:Q}(h:fY w b q)(r:Q):fY (w.setRow b r.cells) b r:=setRow_heap _ _ _ _ _ _ h
theorem oz{ops:Array Oper}{rest:List Oper}{Q:Exit->Act->D->Prop}(d:o.guard=Y)(x:Operand)(e:o.op= .load 184 x)(b:Nat)(q:Fw.Q)(f:a.eval x=X (Z ⟨b,0,Y⟩))(c:fY w b q)
  (h:wpList prog ops Q rest (a.put o.dst (H q.cells)) w):wpList prog ops Q (o::rest) a w:=
 wpList_load_row d 184 x e b f 184 q.cells (0,0) _ c underlying184 rfl kr h
theorem pP{ops:Array Oper}{rest:List Oper}{Q:Exit->Act->D->Prop}(d:o.guard=Y)(x y:Operand)(e:o.op= .store 184 x y)(b:Nat)(q hQ:Fw.Q)(f:a.eval x=X (Z ⟨b,0,Y⟩))(g:a.eval y=H q.cells)(c:fY w b hQ)
  (h:wpList prog ops Q rest (a.put o.dst undef) (w.setRow b q.cells)):wpList prog ops Q (o::rest) a w:=
 wpList_store_row d 184 x y e b q.cells f g 184 hQ.cells c kr rfl q.cells_one h
theorem xn{K:Act->Prop}{l:List Oper}(d:o.guard=Y)(x:Operand)(e:o.op= .load 184 x)(b:Nat)(q:Q)(f:a.eval x=X (Z ⟨b,0,Y⟩))(c:fY W b q)
  (h:Qt.Lex prog W K l (a.put o.dst (H q.cells))):Qt.Lex prog W K (o::l) a:=
 Qt.nn d 184 x e b f 184 q.cells (0,0) _ c underlying184 rfl kr h
theorem uG(h:fn.results= #[.cell p 184])(hd:a.defers=[])(g:Nat)(q:Q)(c:a.tmps.getD p undef=X (Z ⟨g,0,Y⟩))(b:fY w g q)(d:post (Re (H q.cells)) w):
  bodyPost prog fn post .ret a w:=
 jM h hd g 184 q.cells (0,0) _ c b underlying184 rfl kr d
theorem VP(w:D)(a b:Q):fY ((w.alloc (Cl a.cells 184)).alloc (Cl b.cells 184)) w.heap.size a:=fY.below (jv w _ _ rfl) ((ai (w.heap.size+1) _).alloc sP _) oM
theorem VQ(w:D)(a b:Q):fY ((w.alloc (Cl a.cells 184)).alloc (Cl b.cells 184)) (w.heap.size+1) b:=jv _ _ _ sP
theorem xM(w:D)(a b:Q):O w.heap.size w ((w.alloc (Cl a.cells 184)).alloc (Cl b.cells 184)):=((ai _ _).alloc lR _).alloc sP _
theorem tN(w:D):fY (w.alloc (Cl zQ.cells 184)) w.heap.size zQ:=jv _ _ _ rfl
abbrev N3(w:D)(a b:Q):D:=((w.alloc (Cl a.cells 184)).alloc (Cl b.cells 184)).alloc (Cl zQ.cells 184)
theorem AO(w:D)(a b:Q):fY (N3 w a b) w.heap.size a:=fY.below (jv w _ _ rfl) (((ai (w.heap.size+1) _).alloc sP _).alloc sP _) oM
theorem VR(w:D)(a b:Q):fY (N3 w a b) (w.heap.size+1) b:=fY.below (jv _ _ _ sP) ((ai (w.heap.size+2) _).alloc sP _) oM
theorem Ie(w:D)(a b:Q):fY (N3 w a b) (w.heap.size+1+1) zQ:=jv _ _ _ sP
theorem AP(w:D)(a b:Q):O w.heap.size w (N3 w a b):=(((ai _ _).alloc lR _).alloc sP _).alloc (by simp;omega) _
theorem EL(b:Bool):(un (bv b)==0)= !b:=by cases b<;>rfl
theorem EK(b:Bool):(un (bv b) !=0)=b:=by cases b<;>rfl
theorem wT(a b:Q)(w:D):Rt 106 #[H a.cells,H b.cells] w (Bl (decide (a.num<b.num))):=by
 go_enter func106,ntmps106
 go_wp2_with (first|refine oz rfl _ rfl w.heap.size a rfl (VP w a b) ?_|refine oz rfl _ rfl (w.heap.size+1) b rfl (VQ w a b) ?_)
 refine(FN a b _).mono ?_;rintro e w1 ⟨rfl,d⟩;have c:Hq _:=d;clear d;have f:=EL (m4 a b);go_wp2_with (refine pP rfl _ _ rfl w1.heap.size (nT a b) zQ rfl rfl (tN w1) ?_)
 refine bodyPost_ret (v:=Bl (m4 a b)) (by simp[results,results106,go_sem,EK]) rfl ⟨by rw[Ck],?_⟩;exact(xM w a b).trans ((c.o.mono (xM w a b).size).trans (((ai _ _).alloc (ag (xM w a b).size c.o.size) _).trans ((hJ _ _ _).mono (ag (xM w a b).size c.o.size))))
def uC(a b:Q):Q:=if a.num<b.num then a else nT a b
theorem SZ(a b:Q)(h:a.num<2*b.num):(uC a b).num=a.num % b.num:=by
 unfold uC;by_cases h1:a.num<b.num
 ·rw[if_pos h1,aP h1]
 ·rw[if_neg h1]
  have h2:=JU a b;have h3:m4 a b=false:=by rw[Ck];exact decide_eq_false h1
  rw[h3,show(bv false).toNat=0 from rfl] at h2;rw[Nat.mod_eq_sub_mod oM,aP oM];omega
theorem uX(a b:Q)(w:D):Rt 202 #[H a.cells,H b.cells] w (H (uC a b).cells):=by
 go_enter func202,ntmps202
 go_wp2_with (first|refine oz rfl _ rfl w.heap.size a rfl (AO w a b) ?_|refine oz rfl _ rfl (w.heap.size+1) b rfl (VR w a b) ?_)
 refine(FN a b _).mono ?_;rintro e w1 ⟨rfl,m⟩;have d:Hq (O (N3 w a b).heap.size (N3 w a b) w1):=m;clear m;have l:Hq (fY w1 (w.heap.size+1+1) zQ):=(Ie w a b).below d.o (Ie w a b).lt;have j:Hq (fY w1 w.heap.size a):=(AO w a b).below d.o (AO w a b).lt;have i:Hq (O w1.heap.size w1 ((w1.alloc (Cl zQ.cells 184)).setRow w1.heap.size (nT a b).cells)):=((ai _ _).alloc lR _).trans (hJ _ _ _);have f:Hq (fY ((w1.alloc (Cl zQ.cells 184)).setRow w1.heap.size (nT a b).cells) (w.heap.size+1+1) zQ):=l.o.below i.o l.o.lt;have q:Hq (fY ((w1.alloc (Cl zQ.cells 184)).setRow w1.heap.size (nT a b).cells) w.heap.size a):=j.o.below i.o j.o.lt;have r:Hq (fY ((w1.alloc (Cl zQ.cells 184)).setRow w1.heap.size (nT a b).cells) w1.heap.size (nT a b)):=(tN w1).setRow _;have k:Hq (O w.heap.size w ((w1.alloc (Cl zQ.cells 184)).setRow w1.heap.size (nT a b).cells)):=((AP w a b).trans (d.o.mono (AP w a b).size)).trans (i.o.mono (ag (AP w a b).size d.o.size));have p:=EL (m4 a b);have n:=EK (m4 a b);have c:=Ck a b;cases g:m4 a b with
 |true=>
  rw[g] at p c n;have h:Hq (uC a b=a):=if_pos (of_decide_eq_true c.symm);clear c g;go_wp2_with (first|refine pP rfl _ _ rfl w1.heap.size (nT a b) zQ rfl rfl (tN w1) ?_|refine oz rfl _ rfl w.heap.size a rfl q.o ?_|refine pP rfl _ _ rfl (w.heap.size+1+1) a zQ rfl rfl f.o ?_)
  exact uG results202 rfl (w.heap.size+1+1) a rfl (f.o.setRow _) ⟨by rw[h.o],k.o.trans ((hJ _ _ _).mono oM)⟩
 |false=>
  rw[g] at p c n;have h:Hq (uC a b=nT a b):=if_neg (of_decide_eq_false c.symm);clear c g;go_wp2_with (first|refine pP rfl _ _ rfl w1.heap.size (nT a b) zQ rfl rfl (tN w1) ?_|refine oz rfl _ rfl w1.heap.size (nT a b) rfl r.o ?_|refine pP rfl _ _ rfl (w.heap.size+1+1) (nT a b) zQ rfl rfl f.o ?_)
  exact uG results202 rfl (w.heap.size+1+1) (nT a b) rfl (f.o.setRow _) ⟨by rw[h.o],k.o.trans ((hJ _ _ _).mono oM)⟩
end Ww
namespace Ww
open Fw Bt
theorem uN(w:D):Rt 223 #[] w (H (nq PP).cells):=by
 go_enter func223,ntmps223
 go_wp2_with fail
 exact jM results223 rfl w.heap.size 184 _ (0,0) _ rfl (heap_alloc_new _ _) underlying184 rfl kr ⟨rfl,(ai _ _).alloc lR _⟩
def oG(q:Q):Ed.F×Bool:=if h:q.num<Ed.P then(⟨q.num,h⟩,true) else(0,false)
theorem U4(q:Q)(h:q.num<Ed.P):fw ⟨q.num,h⟩=q.cells:=by
 rw[nK];congr 1;exact(sq rfl).symm
noncomputable abbrev R2(w:D)(q:Q):D:=(w.alloc (Cl q.cells 184)).alloc (Cl lM 161)
theorem AQ(w:D)(q:Q):fY (R2 w q) w.heap.size q:=fY.below (jv w _ _ rfl) ((ai (w.heap.size+1) _).alloc sP _) oM
theorem Ih(w:D)(q:Q):b' (R2 w q) (w.heap.size+1) 0:=.zero (jv _ _ _ sP)
theorem Ig(w:D)(q:Q):O w.heap.size w (R2 w q):=((ai _ _).alloc lR _).alloc sP _
theorem Mu:(nq PP).num=PP:=qI dc
theorem QD(q:Q)(w:D):Rt 106 #[H q.cells,H (nq PP).cells] w (Bl (decide (q.num<PP))):=by
 have h:=wT q (nq PP) w;rwa [Mu] at h
theorem WE(q:Q)(w:D):Rt 154 #[H q.cells] w (Tp #[H (fw (oG q).1),Bl (oG q).2]):=by
 obtain⟨b,f⟩:=eX ((nq PP).cells);have m:Hq (∀w,Rt 223 #[] w (H b)):=by rw[f];exact uN
 have l:Hq (∀w,Rt 106 #[H q.cells,H b] w (Bl (decide (q.num<PP)))):=by rw[f];exact QD q
 clear f;go_enter func154,ntmps154
 go_wp2_with fail
 refine Qt.qj kr kr ?_;refine xn rfl _ rfl w.heap.size q rfl (AQ w q) ?_;refine ev rfl 223 #[] (H b) (fun _=>kr) (fun w' _=>m.o w') ?_;refine ev rfl 106 #[H q.cells,H b] (Bl (decide (q.num<PP))) (fun _=>kr) (fun w' _=>l.o w') ?_;refine yV (Bl (!decide (q.num<PP))) ?_;refine gh ?_;intro w1 i;have c:Hq (O (R2 w q).heap.size (R2 w q) w1):=i;clear i;have j:Hq (fY w1 w.heap.size q):=(AQ w q).below c.o (AQ w q).lt;have a:Hq (b' w1 (w.heap.size+1) 0):=(Ih w q).below c.o (Ih w q).lt;have g:Hq (O w.heap.size w w1):=(Ig w q).trans (c.o.mono (Ig w q).size);by_cases h:q.num<PP
 ·have d:=decide_eq_true h
  have e:Hq (oG q=(⟨q.num,h⟩,true)):=dif_pos h;have k:Hq (fw ⟨q.num,h⟩=q.cells):=U4 q h;rw[d];clear d;go_wp2_with (first|refine oz rfl _ rfl w.heap.size q rfl j.o ?_|refine oy rfl _ _ rfl (w.heap.size+1) ⟨q.num,h⟩ 0 rfl (by rw[k.o];rfl) a.o ?_)
  exact sF results154 rfl (w.heap.size+1) ⟨q.num,h⟩ true rfl rfl (a.o.setRow _) ⟨by rw[e.o],g.o.trans ((hJ _ _ _).mono oM)⟩
 ·have d:=decide_eq_false h
  have e:Hq (oG q=(0,false)):=dif_neg h;rw[d];clear d;go_wp2_with (first|refine Cg rfl _ _ rfl (w.heap.size+1) 0 rfl rfl a.o ?_)
  exact sF results154 rfl (w.heap.size+1) 0 false rfl rfl (a.o.setRow _) ⟨by rw[e.o],g.o.trans ((hJ _ _ _).mono oM)⟩
theorem Pq(x:Ed.F)(w:D):Rt 180 #[H (fw x)] w (H (nq x.val).cells):=by
 rw[nK];generalize nq x.val=q;unfold Q.cells;go_enter func180,ntmps180
 go_wp2_with fail
 exact jM results180 rfl (w.heap.size+1) 184 q.cells (0,0) _ rfl (jv _ _ _ sP) underlying184 rfl kr ⟨rfl,((ai _ _).alloc lR _).alloc sP _⟩
theorem RU(x:BitVec 64):(un (x&&&1#64)==1)=(x.toNat % 2==1):=by
 unfold un;rw[BitVec.toNat_and,show(1#64).toNat=1 from rfl,Nat.and_one_is_mod];rcases Nat.mod_two_eq_zero_or_one x.toNat with h|h<;>rw[h]<;>rfl
theorem We(x:BitVec 64):bits .and .u64 (un x) 1=un (x&&&1#64):=nj x 1#64
theorem wo(x:Ed.F)(w:D):Rt 181 #[H (fw x)] w (Bl (iq x)):=by
 have a:iq x=((nq x.val).a0.toNat % 2==1):=by
  have h:=pa x;unfold iq;generalize nq x.val=q at h;unfold Q.num at h;congr 1;omega
 rw[nK,a];generalize nq x.val=q;unfold Q.cells;have b:=We q.a0;have c:=RU q.a0;go_enter func181,ntmps181
 go_wp2_with fail
 refine bodyPost_ret (v:=Bl (q.a0.toNat % 2==1)) (by simp[results,results181,go_sem]) rfl ⟨rfl,(ai _ _).alloc lR _⟩
