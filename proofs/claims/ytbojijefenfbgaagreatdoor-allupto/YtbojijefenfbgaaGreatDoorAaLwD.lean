/- Walk of posternlaw: one step of a script, of any kind. What can be read of the book. Walk of the book: reads. Walk of the book: looks. -/
import Derived.Test.YtbojijefenfbgaaGreatDoorAaCopC
open List renaming getElem?_eq_getElem->ae,mem_of_getElem?->aJ,take_succ_cons->ak,take_zero->aE,drop_succ_cons->ax,drop_zero->aK,getElem?_set_self->dh,set_set->ll,length_set->eL,range->eE,getElem?_map->ct
open Go renaming heap_alloc_new->kF,heap_alloc_old->kG
open Go.Value renaming oneCell'->av
open Nat renaming le_trans->ag,le_refl->bA,zero_le->aF,mul_comm->bJ
open Eq renaming trans->aN
open Option renaming some->Z,none->Y
open Go.Value renaming int->I,pointer->X,agg->H,bool->Bl,string->sT,tuple->Tp
open Go.IntKind renaming i64->J
open Go.Obj renaming cells->Cl
open Go.Ending renaming returned->Re
open Go renaming World->D,Value->Vl
open Go.RowKit renaming Below->O
set_option maxHeartbeats 4000000
set_option maxRecDepth 100000
open Go Go.RowKit
open Go.Proofs.YtbojijefenfbgaaGreatDoor
open Ks(pt au ay aq w0 vq decl qT qN ql qp xV lp af gY)
open Qt(tT ev gh lW pD)
variable{B N c n:Nat}{C:Nat->Nat->Prop}{cs:Array Vl}{e:TypeId}{w:D}{xs:List Vl}
namespace Go.Proofs.YtbojijefenfbgaaGreatDoor
open Tryz
namespace Gt
open Mp Bk
structure Sp where
 kind:Int
 on:Int
 ru:Int
 n:Int
 text:List UInt8
 floor:Int
 seen:Vl
 ph:List (Sn×Vl)
 order:List UInt8
 heard:Vl
 news:List It
def tr(o:Sp):List Vl:=[I J o.kind,I J o.on,I J o.ru,I J o.n,sT ⟨o.text.toArray⟩,I J o.floor,o.seen,str o.order,o.heard]
structure qO(N:Nat)(w:D)(o:Sp):Prop where
 ph:mi (fun b=>b<N) w o.seen o.ph
 tg:o.ph.length<=1100000
 more:∀q∈o.ph,q.1.more.length<=1000000000
 news:Sl (fun b=>b<N) w 5 o.heard o.news.length (gi o.news)
 sf:o.news.length<=1000000000
 on: -9223372036854775808<=o.on/\o.on<9223372036854775808
 ru: -9223372036854775808<=o.ru/\o.ru<9223372036854775808
theorem qO.below{w':D}{o:Sp}(h:qO N w o)(_:N<=w.heap.size)(a:O N w w'):qO N w' o:=
 ⟨⟨h.ph.row.congr (fun _ h=>h) a.size fun b c _=>a.block b c,fun p d=>(h.ph.more p d).congr (fun _ h=>h) a.size fun b c _=>a.block b c⟩,h.tg,h.more,h.news.congr (fun _ h=>h) a.size fun b c _=>a.block b c,h.sf,h.on,h.ru⟩
theorem b'.lt{N:Nat}{w:D}{W B K c:Nat}{ps:List Pr}{n:Nat}(h:b' N w W B K c ps n):N<=w.heap.size/\W<w.heap.size:=by
 obtain⟨⟨Oa,lv,ks,h⟩,_⟩:=h;exact⟨h.wN,(h.lt W 1 h.oW).2⟩
theorem yW{ps:List Pr}(a:∀p∈ps,p.s=p.t){i:Nat}{q:Pr}(c:q.s=q.t):∀p∈ps.set i q,p.s=p.t:=fun p b=>by
 rcases List.mem_or_eq_of_mem_set b with h|h
 ·exact a p h
 ·rw[h];exact c
theorem FE{b off:Nat}{t:TypeId}{fr:Nat×Nat}(h:w.heap[b]? =Z (Cl cs t fr))(c:(cs.toList.drop off).take xs.length=xs):w.rangeAt b off xs:=fun j u hu=>by
 rw[cell_of_row w b (off+j) _ _ _ h];have a:=(lL hu);rw[<-c,List.getElem?_take_of_lt a,List.getElem?_drop] at hu;simpa using hu
def Stepped(N W B K c n:Nat)(ps:List Pr)(w w':D):Prop:=(∃a,b' N w' W B K (c+4500000) a (n+2)/\ps.length<=a.length)/\O N w w'
theorem b'.nL{N:Nat}{w:D}{W B K c c':Nat}{ps:List Pr}{n m:Nat}(h:b' N w W B K c ps n)(a:c<=c')(d:n<=m):b' N w W B K c' ps m:=by
 obtain⟨⟨Oa,lv,ks,h⟩,b⟩:=h;exact⟨⟨Oa,lv,ks,(h.nL a).more d⟩,b⟩
section
variable {oo:Oper} {a:Act} {v:D} {x y z t:Operand} {ts:Array TypeId}
theorem UM{u:Vl}(b:oo.op= .call {callee:=.value (.func 135),args:= #[x],argTypes:=ts})(c:a.eval x=u):(execOp a.eval oo).run prog v= .ok (.enter 135 #[u]) v:=by
 have h:(execOp a.eval oo).run prog v= .ok (.enter 135 #[a.eval x]) v:=by
  unfold execOp;rw[b];kernel_rfl
 rw[h,c]
theorem SL{u1 u2 u3 b:Vl}(d:oo.op= .call {callee:=.value (.func 133),args:= #[x,y,z,t],argTypes:=ts})(h1:a.eval x=u1)(h2:a.eval y=u2)(h3:a.eval z=u3)(c:a.eval t=b):(execOp a.eval oo).run prog v= .ok (.enter 133 #[u1,u2,u3,b]) v:=by
 have h:(execOp a.eval oo).run prog v= .ok (.enter 133 #[a.eval x,a.eval y,a.eval z,a.eval t]) v:=by
  unfold execOp;rw[d];kernel_rfl
 rw[h,h1,h2,h3,c]
theorem UN(b:oo.op= .alloc 66):(execOp a.eval oo).run prog v= .ok (.value (pt v.heap.size 0)) (v.alloc (Cl #[sT ⟨#[]⟩,.slice none 0 0] 66 (0,0))):=by
 unfold execOp;rw[b];kernel_rfl
theorem UO{r:Nat}{hQ:Array Vl}(b:oo.op= .store 66 x y)(d:a.eval x=pt r 0)(e:a.eval y=H cs)(f:v.heap[r]? =Z (Cl hQ 66 (0,0)))(h2:cs.size=2)(h3:hQ.size=2)(h1:cs.all (·.oneCell')=true):(execOp a.eval oo).run prog v= .ok .skip (v.setRow r cs):=by
 have c:=run_storeVar_row (P:=prog) v r 66 66 hQ cs f (by rw[h2];kernel_rfl) (by rw[h2,h3]) h1;unfold execOp;simp only[b,d,e,Instr.storeAt,Instr.sureAddr,Sem.run_bind,Sem.run_pure,Result.andThen_ok,c]
end
theorem Pf{l:List Field}{a b c d:String×TypeId×Nat}(h:l.map (fun f=>(f.name,f.type,f.offset))=[a,b,c,d]):∃f g k m:Field,l=[f,g,k,m]/\(f.name,f.type,f.offset)=a/\(g.name,g.type,g.offset)=b/\(k.name,k.type,k.offset)=c/\(m.name,m.type,m.offset)=d:=by
 match l,h with
 |[],h=>simp at h
 |[f],h=>simp at h
 |[f,g],h=>simp at h
 |[f,g,k],h=>simp at h
 |[f,g,k,m],h=>
  simp only[List.map_cons,List.map_nil,List.cons.injEq,and_true] at h;exact⟨f,g,k,m,rfl,h.1,h.2.1,h.2.2.1,h.2.2.2⟩
 |f::g::k::m::n::r,h=>simp at h
theorem Jw(s:St)(w:D):(Op.equalIn 10000 129 (H (mu s)) (H (mu s))).run prog w= .ok true w:=by
 have n:=run_equalIn_struct (P:=prog) w 9999 129 (mu s) (mu s) kr kr;have i:(prog.fieldsOf 129).toList.map (fun f=>(f.name,f.type,f.offset))=[("Floor",3,0),("Own",3,1),("Known",3,2),("Held",3,3)]:=by kernel_rfl
 obtain⟨f,g,k,m,j,h1,h2,h3,a⟩:=Pf i;injection h1 with c h1
 injection h1 with d h
 injection h2 with g1 h2
 injection h2 with g2 g3
 injection h3 with k1 h3
 injection h3 with k2 k3
 injection a with m1 a
 injection a with m2 m3
 have o:=run_part_plain (P:=prog) w (e:=3) (xs:=mu s) (off:=0) (v:=I J s.floor) kr rfl;have p:=run_part_plain (P:=prog) w (e:=3) (xs:=mu s) (off:=1) (v:=I J s.own) kr rfl;have q:=run_part_plain (P:=prog) w (e:=3) (xs:=mu s) (off:=2) (v:=I J s.l.length) kr rfl;have r:=run_part_plain (P:=prog) w (e:=3) (xs:=mu s) (off:=3) (v:=I J (held s.l).length) kr rfl;have b:∀x:Int,(Op.equalIn 9999 3 (I J x) (I J x)).run prog w= .ok true w:=fun x=>by
  simp[go_sem]
 show(Op.equalIn (9999+1) _ _ _).run _ w=_;rw[n,j];simp[Op.eqFields,c,g1,k1,m1,d,g2,k2,m2,h,g3,k3,m3,o,p,q,r,b,Result.andThen_ok]
theorem N4{W K:Nat}{ps:List Pr}(o:Sp)(w:D)(h:b' N w W B K c ps n)(hn:n<=8000000000)(j5:0<ps.length)(hc:c<=5780000000000)(hD:qO N w o)(ht:Hs.kc w)(hN:0<N):
  Calls prog 65 #[X (Z ⟨W,0,Y⟩),H (tr o).toArray] w fun e w'=>e=Re (Bl true)/\Stepped N W B K c n ps w w':=by
 obtain⟨V,x0⟩:=h.lt;have x4:=hD.news.one;have x3:=hD.ph.row.one;have Ho:Hq (b' N w W B K c ps n):=h;have HT:Hq (Hs.kc w):=ht;have HD:Hq _:=hD;clear h ht hD;go_enter func65,ntmps65
 refine au ?_;refine Ks.box rfl _ _ rfl (tr o).toArray rfl ?_;intro w1 F o5 j9 b6 p9;have x6:=o5.o;have z1:=b6.o.size;clear o5 p9;simp only[zD];refine au ?_;refine wp_cond_split rfl ?_ ?_
 ·intro _
  refine au ?_;refine Ks.call rfl 64 #[pt W 0,I J o.n,sT ⟨o.text.toArray⟩] kr (R:=fun v w'=>v=Bl true/\Stepped N W B K c n ps w w') ((B8 o.n o.text w1 (Ho.o.below b6.o) oM).mono ?_) ?_
  ·rintro e w' ⟨d,⟨l9,h1,_,h2⟩,h3⟩
   exact⟨_,d,rfl,⟨l9,h1.nL oM oM,h2⟩,(b6.o.mono V).trans h3⟩
  rintro v w2 ⟨rfl,h1⟩;simp only[zD];refine au ?_;refine bodyPost_ret (v:=Bl true) kr rfl ?_;exact⟨rfl,h1⟩
 ·intro _
  refine au ?_;obtain⟨⟨Oa,lv,ks,hW⟩,he⟩:=Ho.o;obtain⟨gb,cap,w7,rfl,r5,hg,x1,x2,y0,r9⟩:=hW.row.cases.resolve_left (fun x=>absurd x.2.1 oM);have x5:=hW.np;have H1:Hq _:=hW.below b6.o;have q6:Hq (w1.heap[W]? =_):=H1.o.world;have n5:Hq _:=(b6.o.block gb (hW.lt gb 3 r5).2).trans hg;obtain⟨i,hi⟩:=eX (rH o.on ps.length);have l4:i<ps.length:=by rw[hi];exact JM j5
  obtain⟨p,S⟩:∃p,ps[i]? =Z p:=⟨_,ae l4⟩;have p7:Hq _:=Row.range (f:=lP) (m:=2) (fun _=>rfl) n5.o r9 S;have HE:Hq _:=he;have b0:=he p (aJ S);have j0:∀b j,Oa b j->b<w.heap.size:=fun b j a=>(hW.lt b j a).2;clear hW hg he;refine tT 14 (fun u w'=>∃b,u=X (Z ⟨b,0,Y⟩)/\w1.heap.size<=b/\w'.heap[b]? =Z (Cl #[X Y,X Y] 132 (0,0))) kr kr (fun u w w' ⟨b,e,h1,h2⟩ a=>⟨b,e,h1,(a.block b (aL h2)).trans h2⟩) _ rfl ?_;simp only[ak,aE];refine ay ?_;refine ev rfl 130 #[I J o.on,I J (ps.length:Int)] (I J (i:Int)) (fun _=>kr) (fun w' _=>by rw[hi];exact Fz o.on ps.length HD.o.on j5 w') ?_;simp only[zD];refine ay ?_;refine gh ⟨fun w' a=> ?_,?_⟩
  ·exact⟨⟨w'.heap.size,rfl,a.size,kF w' _⟩,⟨rfl,rfl,rfl,sP,fun k hk=>kG w' _ hk⟩⟩
  simp only[ax,aK];rintro u w2 h0 ⟨pb,rfl,x8,p4⟩;have n9:=ca h0 j9;have H2:Hq _:=H1.o.below h0;have x7:=(aL j9.o);have z2:=h0.size;have p2:=b6.o.trans (h0.mono z1);clear j9 H1 q6 n5 p7 h0 b6;simp only[zD];refine Ks.whole rfl _ _ _ rfl pb (lP p).toArray rfl rfl p4 kr rfl (by simp[lP,av]) ?_;intro w3 b8 G2 G3 G4;have l6:∀j,¬Oa pb j:=fun j x=>by have:=j0 pb j x;omega
  have b1:Hq (w3.heap[F]? =_):=(G3.o F oM).trans n9.o;have A:Hq _:=H2.o.other (G2.o _ _ (oL rfl)) l6;have T:O w.heap.size w w3:=p2.trans ((G2.o (fun _=>False) w.heap.size (oR oM)).below lR (fun _ _ h=>h));have b7:Hq _:=HD.o.below V (T.mono V);have l1:Hq (Hs.kc w3):=HT.o.below T HT.o.lt;have z3:=T.size;have l8:=(aL b8.o);have l7:=(aL b1.o);have q5:=HT;clear n9 H2 G2 G3 G4 p4 p2 Ho HT HD;simp only[Act.put];refine au ?_;refine wp_cond_split rfl ?_ ?_
  ·intro _
   obtain⟨x,hx⟩:=eX ((nH p.s o.text).1);refine au ?_;obtain⟨c4,_,b3,_⟩:=A.o.gates i p S;refine Ks.call rfl 31 _ kr (R:=fun v w'=>v=I J x/\gg (fun b=>Oa b (5+2*i)\/w3.heap.size<=b) w' p.x (nH p.s o.text).2/\Fr (fun b=>Oa b (5+2*i)) w3.heap.size w3 w') ((Qv c4 b3 o.text l1.o).mono ?_) ?_
   ·rintro e w' ⟨d,E,G⟩
    exact⟨_,d,by rw[hx],E,G⟩
   rintro _ w4 ⟨rfl,h9,a6⟩;have c7:Hq (w4.heap[pb]? =_):=(a6.block pb l8 (l6 _)).trans b8.o;have c6:Hq (w4.heap[F]? =_):=(a6.block F l7 fun x=>by have:=j0 F _ x;omega).trans b1.o;obtain⟨O4,h4,q8⟩:=A.o.AL S (b3.fi _ o.text) a6 h9;have H4:Hq _:=h4;have j1:(ps.set i {p with s:=(nH p.s o.text).2})[i]? =some {p with s:=(nH p.s o.text).2}:=dh l4;have c9:=(T.mono V).trans (A.o.rQ a6 fun b a=>⟨_,a⟩);clear h9 a6 h4 b8 b1 c4 b3 A;simp only[zD];refine au ?_;refine Qg.im 6 kr kr ?_;refine aq ?_;refine Ks.WQ.mk (Qg.call (w0 rfl) 22 #[I J x] (I J x) (fun _=>kr) (fun w' _=>Gw.tv x w') ?_);simp only[zD];refine aq ?_;intro w5 c0;have C:Hq _:=H4.o.below c0;have l2:=c9.trans (c0.mono H4.o.wN);clear c7 c6 H4 c0;obtain⟨_,a8,_,c8⟩:=C.o.gates i _ j1;refine Ks.call rfl 131 _ kr (R:=fun v w'=>v=I J x/\Left (fun b=>O4 b (6+2*i)) (fun b=>O4 b 4) w5 w' p.y K (nH p.t o.text).2 ks.length) ((Qw a8 C.o.known (fun j hj l5=>absurd (C.o.one j _ _ hj l5) oM) c8 (ag C.o.nk oM) o.text).mono ?_) ?_
   ·rintro e w' ⟨d,E⟩
    exact⟨_,d,by rw[hx,b0],E⟩
   rintro _ w6 ⟨rfl,hL⟩;obtain⟨O6,s6,h6,_⟩:=C.o.AM j1 (c8.fi _ o.text) C.o.nk hL;have l3:O N w w6:=by
    obtain⟨_,_,_,_,_,_,_,_,_,hf⟩:=hL;exact l2.trans (C.o.rQ hf fun b a=>a.elim (fun x=>⟨_,x⟩) (fun x=>⟨_,x⟩))
   rw[ll] at h6;clear hL a8 C;simp only[zD];refine au ?_;refine bodyPost_ret (v:=Bl true) kr rfl ?_;exact⟨rfl,⟨_,⟨⟨_,_,_,(h6.nL oM).more oM⟩,yW HE.o (by show(nH p.s o.text).2=(nH p.t o.text).2;rw[b0])⟩,by rw[eL];exact bA _⟩,l3⟩
  intro _;refine au ?_;refine wp_cond_split rfl ?_ ?_
  ·intro _
   obtain⟨x,hx⟩:=eX ((mw p.s o.text).1);refine au ?_;obtain⟨c4,_,b3,_⟩:=A.o.gates i p S;refine Ks.call rfl 71 _ kr (R:=fun v w'=>v=I J x/\gg (fun b=>Oa b (5+2*i)\/w3.heap.size<=b) w' p.x (mw p.s o.text).2/\Fr (fun b=>Oa b (5+2*i)) w3.heap.size w3 w') ((F9 c4 o.text l1.o).mono ?_) ?_
   ·rintro e w' ⟨d,E,G⟩
    exact⟨_,d,by rw[hx],E.mono fun _ h=>oL h,G⟩
   rintro _ w4 ⟨rfl,h9,a6⟩;have c7:Hq (w4.heap[pb]? =_):=(a6.block pb l8 (l6 _)).trans b8.o;have c6:Hq (w4.heap[F]? =_):=(a6.block F l7 fun x=>by have:=j0 F _ x;omega).trans b1.o;obtain⟨O4,h4,q8⟩:=A.o.AL S (b3.ki _ o.text) a6 h9;have H4:Hq _:=h4;have j1:(ps.set i {p with s:=(mw p.s o.text).2})[i]? =some {p with s:=(mw p.s o.text).2}:=dh l4;have c9:=(T.mono V).trans (A.o.rQ a6 fun b a=>⟨_,a⟩);clear h9 a6 h4 b8 b1 c4 b3 A;simp only[zD];refine au ?_;refine Qg.im 6 kr kr ?_;refine aq ?_;refine Ks.WQ.mk (Qg.call (w0 rfl) 22 #[I J x] (I J x) (fun _=>kr) (fun w' _=>Gw.tv x w') ?_);simp only[zD];refine aq ?_;intro w5 c0;have C:Hq _:=H4.o.below c0;have l2:=c9.trans (c0.mono H4.o.wN);clear c7 c6 H4 c0;obtain⟨_,a8,_,c8⟩:=C.o.gates i _ j1;refine Ks.call rfl 132 _ kr (R:=fun v w'=>v=I J x/\Left (fun b=>O4 b (6+2*i)) (fun b=>O4 b 4) w5 w' p.y K (mw p.t o.text).2 ks.length) ((Ga a8 C.o.known (fun j hj l5=>absurd (C.o.one j _ _ hj l5) oM) c8 (ag C.o.nk oM) o.text).mono ?_) ?_
   ·rintro e w' ⟨d,E⟩
    exact⟨_,d,by rw[hx,b0],E⟩
   rintro _ w6 ⟨rfl,hL⟩;obtain⟨O6,s6,h6,_⟩:=C.o.AM j1 (c8.ki _ o.text) C.o.nk hL;have l3:O N w w6:=by
    obtain⟨_,_,_,_,_,_,_,_,_,hf⟩:=hL;exact l2.trans (C.o.rQ hf fun b a=>a.elim (fun x=>⟨_,x⟩) (fun x=>⟨_,x⟩))
   rw[ll] at h6;clear hL a8 C;simp only[zD];refine au ?_;refine bodyPost_ret (v:=Bl true) kr rfl ?_;exact⟨rfl,⟨_,⟨⟨_,_,_,(h6.nL oM).more oM⟩,yW HE.o (by show(mw p.s o.text).2=(mw p.t o.text).2;rw[b0])⟩,by rw[eL];exact bA _⟩,l3⟩
  intro _;refine au ?_;refine wp_cond_split rfl ?_ ?_
  ·intro _
   refine au ?_;obtain⟨c4,a8,b3,c8⟩:=A.o.gates i p S;rw[<-b0] at a8;refine lW kr kr ?_;refine aq ?_;refine Ks.WQ.mk (Qg.call (w0 rfl) 66 #[pt p.x 0] (H (mu p.s)) (fun _=>kr) (fun w' a=>Fh (c4.below a)) ?_);simp only[zD];refine aq ?_;refine Ks.WQ.mk (Qg.call (w0 rfl) 67 #[pt p.y 0] (H (mu p.s)) (fun _=>kr) (fun w' a=>Fi (a8.below a) (ag b3.kB oM)) ?_);simp only[zD];refine Ks.WQ.o (vq (v:=Bl true) (w0 rfl) rfl (fun w' _=>Ks.zx _ _ _ _ rfl (mu p.s) (mu p.s) rfl rfl kr _ (Jw p.s w')) ?_);refine Ks.WQ.mk ?_;simp only[zD];refine aq ?_;intro w4 b2;refine au ?_;refine bodyPost_ret (v:=Bl true) kr rfl ?_;exact⟨rfl,⟨ps,⟨⟨Oa,_,ks,((A.o.below b2).nL oM).more oM⟩,HE.o⟩,bA _⟩,(T.mono V).trans (b2.mono A.o.wN)⟩
  intro _;refine au ?_;refine wp_cond_split rfl ?_ ?_
  ·intro _
   refine au ?_;refine Ks.call rfl 68 _ kr (R:=fun v w'=>v=Bl true/\Stepped N W B K c n ps w w') ((GX A.o S b0 oM).mono ?_) ?_
   ·rintro e w' ⟨d,⟨O',h1⟩,h2⟩
    exact⟨_,d,rfl,⟨ps,⟨⟨O',_,_,(h1.nL oM).more oM⟩,HE.o⟩,bA _⟩,(T.mono V).trans h2⟩
   rintro v w4 ⟨rfl,h1⟩;simp only[zD];refine au ?_;refine bodyPost_ret (v:=Bl true) kr rfl ?_;exact⟨rfl,h1⟩
  intro _;refine au ?_;refine wp_cond_split rfl ?_ ?_
  ·intro _
   refine au ?_;refine Ks.call rfl 69 _ kr (R:=fun v w'=>v=Bl true/\Stepped N W B K c n ps w w') ((Jr A.o S b0 oM).mono ?_) ?_
   ·rintro e w' ⟨d,⟨O',h1⟩,h2⟩
    exact⟨_,d,rfl,⟨ps,⟨⟨O',_,_,(h1.nL oM).more oM⟩,HE.o⟩,bA _⟩,(T.mono V).trans h2⟩
   rintro v w4 ⟨rfl,h1⟩;simp only[zD];refine au ?_;refine bodyPost_ret (v:=Bl true) kr rfl ?_;exact⟨rfl,h1⟩
  intro _;refine au ?_;refine wp_cond_split rfl ?_ ?_
  ·intro _
   have HX:Hq (w3.rangeAt F 5 [I J o.floor,o.seen]):=FE b1.o rfl;refine au ?_;refine Ks.call rfl 133 _ kr (R:=fun v w'=>(∃ord hv,v=Tp #[H #[str ord,hv],Bl true]/\hv.oneCell'=true)/\Stepped N W B K c n ps w w') ((FH A.o S b0 o.floor o.seen o.ph o.n b7.o.ph b7.o.tg b7.o.more oM).mono ?_) ?_
   ·rintro e w' ⟨v,d,⟨ord,hv,l,E,_,O',F',h1,h2,_⟩,h3⟩
    have:=b7.o.tg;have h3:=A.o.rQ h3 fun b a=>⟨_,a⟩;exact⟨v,d,⟨ord,hv,E,h2.one⟩,⟨ps,⟨⟨O',_,_,(h1.nL oM).more oM⟩,HE.o⟩,bA _⟩,(T.mono V).trans h3⟩
   rintro _ w4 ⟨⟨ord,hv,rfl,s4⟩,⟨l9,p0,r7⟩,c9⟩;simp only[zD];refine au ?_;refine decl rfl _ rfl (H #[sT ⟨#[]⟩,.slice none 0 0]) kr rfl _ _ rfl #[str ord,hv] (fun _=>rfl) (fun _=>rfl) kr rfl (by simp[str,s4];rfl) ?_;intro w5 b5 v7 u9 n0;simp only[zD];refine au ?_;refine bodyPost_ret (v:=Bl true) kr rfl ?_;exact⟨rfl,⟨l9,p0.below n0.o,r7⟩,c9.trans (n0.o.mono p0.lt.1)⟩
  intro _;refine au ?_;refine wp_cond_split rfl ?_ ?_
  ·intro _
   have HX:Hq (w3.rangeAt F 7 [str o.order,o.heard]):=FE b1.o rfl;refine au ?_;refine Ks.call rfl 134 _ kr (R:=fun v w'=>v=Bl true/\Stepped N W B K c n ps w w') ((E8 A.o S b0 o.order o.heard o.news b7.o.news (fun b j a x=>by have:=(A.o.lt b j x).1;omega) b7.o.sf oM l1.o oM).mono ?_) ?_
   ·rintro e w' ⟨d,⟨O',q,ks',h1,h2⟩,h3⟩
    exact⟨_,d,rfl,⟨_,⟨⟨O',_,_,h1.nL oM⟩,yW HE.o h2⟩,by rw[eL];exact bA _⟩,(T.mono V).trans h3⟩
   rintro v w4 ⟨rfl,h1⟩;simp only[zD];refine au ?_;refine bodyPost_ret (v:=Bl true) kr rfl ?_;exact⟨rfl,h1⟩
  intro _;refine au ?_;refine wp_cond_split rfl ?_ ?_
  ·intro _
   have q7:Hq (w3.heap[W]? =_):=A.o.world;obtain⟨w9,v8,w8,e',_,q9,_,_,_,s0⟩:=A.o.row.cases.resolve_left (fun x=>absurd x.2.1 oM);cases e';obtain⟨i2,o9⟩:=eX (rH o.ru ps.length);have r6:i2<ps.length:=by rw[o9];exact JM j5
   obtain⟨q,hq⟩:∃q,ps[i2]? =Z q:=⟨_,ae r6⟩;have r8:=HE.o q (aJ hq);have p8:Hq _:=Row.range (f:=lP) (m:=2) (fun _=>rfl) q9 s0 hq;refine au ?_;refine tT 14 (fun u w'=>∃b,u=X (Z ⟨b,0,Y⟩)/\w3.heap.size<=b/\w'.heap[b]? =Z (Cl #[X Y,X Y] 132 (0,0))) kr kr (fun u w w' ⟨b,e,h1,h2⟩ a=>⟨b,e,h1,(a.block b (aL h2)).trans h2⟩) _ rfl ?_;simp only[ak,aE];refine ay ?_;refine ev rfl 130 #[I J o.ru,I J (ps.length:Int)] (I J (i2:Int)) (fun _=>kr) (fun w' _=>by rw[o9];exact Fz o.ru ps.length b7.o.ru j5 w') ?_;simp only[zD];refine ay ?_;refine gh ⟨fun w' a=> ?_,?_⟩
   ·exact⟨⟨w'.heap.size,rfl,a.size,kF w' _⟩,⟨rfl,rfl,rfl,sP,fun k hk=>kG w' _ hk⟩⟩
   simp only[ax,aK];rintro u w4 b2 ⟨qb,rfl,x9,p5⟩;have c6:Hq (w4.heap[F]? =_):=(b2.block _ l7).trans b1.o;have c7:Hq (w4.heap[pb]? =_):=(b2.block _ l8).trans b8.o;have H4:Hq _:=A.o.below b2;have z4:=b2.size;have s5:=tR T b2;clear b1 b8 A q7 p8 b2;simp only[zD];refine Ks.whole rfl _ _ _ rfl qb (lP q).toArray rfl rfl p5 kr rfl (by simp[lP,av]) ?_;intro w5 l0 G2 G3 G4;have p1:∀j,¬Oa qb j:=fun j x=>by have:=j0 qb j x;omega
   have o0:Hq (w5.heap[F]? =_):=(G3.o F oM).trans c6.o;have o4:Hq (w5.heap[pb]? =_):=(G3.o pb oM).trans c7.o;have C:Hq _:=H4.o.other (G2.o _ _ (oL rfl)) p1;have p3:=s5.trans ((G2.o (fun _=>False) w.heap.size (oR oM)).below lR (fun _ _ h=>h));have z5:=p3.size;have p6:=(aL l0.o);have s7:=(aL o0.o);have s8:=(aL o4.o);clear c6 c7 H4 G2 G3 G4 p5;simp only[Act.put];refine au ?_;obtain⟨_,a8,_,o6⟩:=C.o.gates i2 q hq;have o8:∀b j,Oa b j->b<w5.heap.size:=fun b j x=>Nat.lt_of_lt_of_le (j0 b j x) z5;refine Qt.vl 13 (MJ q.t.floor (mj q.t.keys) (fun j=>[pt W 0,H (lP p).toArray,pt qb 1,pt q.y 0,undef,pt F 3,I J o.n].getD j undef) N W B K c ps n (.slice (Z ⟨gb,0,Y⟩) ps.length cap) ks w5 Oa) kr kr (MJ.start ⟨rfl,rfl,rfl,bA _,fun _ _=>rfl⟩) ?_ ?_
   ·intro j oj hj M B' U v z a7 P Q
    rcases (show j=0\/j=1\/j=2\/j=3\/j=4\/j=5\/j=6\/j=7\/j=8\/j=9\/j=10\/j=11\/j=12 by omega) with rfl|rfl|rfl|rfl|rfl|rfl|rfl|rfl|rfl|rfl|rfl|rfl|rfl
    ·cases M
     exact⟨w0 rfl,oL ⟨_,_,pM (v:=pt W 0) (oL rfl) kr,z.plain (j:=0) oM oM⟩⟩
    ·cases M
     have a:=(z.pre (pD Q a7 kr)).1;have hl:Hq _:=(a.block _ s8).trans o4.o;exact⟨w0 rfl,oL ⟨_,_,Ks.vV rfl Ks.tm kr hl kr,z.plain (j:=1) oM oM⟩⟩
    ·cases M
     exact⟨w0 rfl,oL ⟨_,_,qT rfl (qN 132 1 dc) (g:=qb) (n:=0) kr,z.plain (j:=2) oM oM⟩⟩
    ·cases M
     have a:=(z.pre (pD Q (pD Q a7 (k:=4) kr) kr)).1;have hl:Hq _:=(a.block _ p6).trans l0.o;have h2:=z.q 2 oM oM (P 2 kr);exact⟨w0 rfl,oL ⟨_,_,ql rfl Ks.yk (aN kr h2) (qp hl (v:=pt q.y 0) rfl),z.plain (j:=3) oM oM⟩⟩
    ·cases M
     have h7:=pD Q a7 (k:=7) kr;have a:=(z.pre h7).1;have h3:=z.q 3 oM oM (P 3 kr);refine⟨w0 rfl,oR (oR ⟨_,_,_,UM rfl (aN kr h3),(Jq (a8.below a) o6).mono ?_⟩)⟩;rintro e v' ⟨u,d,⟨sv,l,E,G,e4⟩,e5⟩;exact⟨u,d,E▸z.ph h7 e5 G e4⟩
    ·cases M
     exact⟨w0 rfl,oL ⟨_,_,qT rfl (qN 126 3 dc) (g:=F) (n:=0) kr,z.plain (j:=5) oM oM⟩⟩
    ·cases M
     have a:=(z.pre (pD Q a7 kr)).1;have hl:Hq _:=(a.block _ s7).trans o0.o;have h5:=z.q 5 oM oM (P 5 kr);exact⟨w0 rfl,oL ⟨_,_,ql rfl Ks.tk (aN kr h5) (qp hl (v:=I J o.n) rfl),z.plain (j:=6) oM oM⟩⟩
    ·cases M
     have h8:=pD Q a7 (k:=8) kr;have u0:=z.q 0 oM oM (P 0 kr);have u1:=z.q 1 oM oM (P 1 kr);have u6:=z.q 6 oM oM (P 6 kr);obtain⟨a,hs⟩:=z.pre a7;obtain⟨sv,l,u4,el,hs⟩:=hs (P 4 kr);obtain⟨n1,m1⟩:=B0 o6 el;refine⟨w0 rfl,oR (oR ⟨_,_,_,SL rfl (aN kr u0) (aN kr u1) (aN kr u4) (aN kr u6),(FH (C.o.below a) S b0 q.t.floor sv l o.n (mi.uM hs) oM (fun r hr=>by have:=m1 r hr;omega) oM).mono ?_⟩)⟩;rintro e v' ⟨u,d,⟨ord,hv,L,E,G,O',F',e4,e5,e6,e7,e8⟩,e9⟩;exact⟨u,d,z.tell a7 h8 (pD Q h8 kr) (pD Q h8 kr) (pD Q a7 kr) o8 E G (e4.nL oM) e5 e6 e7 e8 e9⟩
    ·cases M
     exact⟨w0 rfl,oL ⟨_,_,pM (v:=U 7) (oL rfl) kr,z.Sb (P 7 kr)⟩⟩
    ·cases M
     have h8:=P 8 kr;obtain⟨vs,d,x,E,G⟩:=z.Sc (Q 8 7 h8 kr) h8;exact⟨w0 rfl,oL ⟨_,_,xV rfl (aN kr d) E,G⟩⟩
    ·cases M
     have h8:=P 8 kr;obtain⟨vs,d,x,E,G⟩:=z.Wm (Q 8 7 h8 kr) h8;exact⟨w0 rfl,oL ⟨_,_,xV rfl (aN kr d) E,G⟩⟩
    ·cases M
     refine⟨w0 rfl,oL ⟨_,_,UN rfl,z.alloc (pD Q a7 kr) ?_⟩⟩;cases h7:B' 7 with
     |false=>exact(z.pre h7).1.size
     |true=>
      obtain⟨_,_,_,_,_,_,_,_,a1,_⟩:=z.post;exact(a1 h7).fr.size
    ·cases M
     obtain⟨r,cs,d,E,G,e4,e5,e6⟩:=z.store (P 7 kr) (P 9 kr) (P 11 kr) a7 o8;exact⟨w0 rfl,oR (oL ⟨_,UO rfl (aN kr d) (aN kr E) G e4 rfl e5,e6⟩)⟩
   ·intro B' U v j2 z
    obtain⟨lo,hi,r,ord,hv,L,O',F',a1,a2,a3,a4,a5⟩:=z.post;have m:=a1 (j2 7 oM);have s9:=a4 (j2 10 oM);obtain⟨u5,_,hr,_⟩:=a5 (j2 11 oM);rw[j2 12 oM] at hr;have HR:Hq _:=hr;have HQ:Hq (v.heap[qb]? =_):=(m.fr.block qb p6 (p1 2)).trans l0.o;have o7:=(p3.mono V).trans (C.o.rQ m.fr fun b a=>⟨_,a⟩);simp only[Qt.gu,ak,aE,ax,aK,Nat.zero_add,Nat.reduceAdd,s9,u5];simp only[zD];refine au ?_;refine Ks.call rfl 134 #[pt W 0,H (lP q).toArray,H #[str ord,hv]] kr (R:=fun v w'=>v=Bl true/\Stepped N W B K c n ps w w') ((E8 m.BT hq r8 ord hv L m.sl m.free (by have:=m.kB;omega) oM (q5.o.below o7 hN) oM).mono ?_) ?_
    ·rintro e w' ⟨d,⟨O',q',ks',h1,h2⟩,h3⟩
     exact⟨_,d,rfl,⟨_,⟨⟨O',_,_,h1.nL oM⟩,yW HE.o h2⟩,by rw[eL];exact bA _⟩,o7.trans h3⟩
    rintro _ w6 ⟨rfl,h1⟩;simp only[zD];refine au ?_;refine bodyPost_ret (v:=Bl true) kr rfl ?_;exact⟨rfl,h1⟩
  intro _;refine au ?_;refine bodyPost_ret (v:=Bl true) kr rfl ?_;exact⟨rfl,⟨ps,⟨⟨Oa,_,ks,(A.o.nL oM).more oM⟩,HE.o⟩,bA _⟩,T.mono V⟩
end Gt
namespace Fu
theorem Fl.read{sz:Nat}{f:Nat->Vl}{v:Vl}(h:Fl w e sz f v):∃p n cap,v= .slice p n cap/\n<=maxLen/\∀k,k<n->∃g,p=Z ⟨g,0,Y⟩/\g<w.heap.size/\w.rangeAt g (k*sz) ((eE sz).map f):=by
 rcases h with rfl|⟨g,n,cap,l,rfl,i,a,d⟩
 ·exact⟨Y,0,0,rfl,aF _,fun k c=>oM⟩
 refine⟨_,n,cap,rfl,i,fun k c=>⟨g,rfl,(aL a),fun j u hu=> ?_⟩⟩;have b:j<sz:=by
  have:=(lL hu);simpa using this
 have m:k*sz+sz<=n*sz:=by
  have:=Nat.mul_le_mul_right sz c;rwa [Nat.succ_mul] at this
 have h1:=d (k*sz+j) oM;rw[bJ k sz,Nat.mul_add_mod,Nat.mod_eq_of_lt b] at h1;have h2:u=f j:=by simpa [b] using hu.symm
 rw[h2,bJ k sz];exact cell_of_row w g _ _ _ _ a▸h1
end Fu
namespace Gt
open Mp Bk Fu
theorem IZ{S:Nat->Prop}{v:Vl}(h:Row S w e 1 v n xs):∃p cap,v= .slice p n cap/\∀i x,xs[i]? =Z x->∃b,p=Z ⟨b,0,Y⟩/\b<w.heap.size/\w.rangeAt b (i*1) [x]:=by
 rcases h.cases with⟨rfl,rfl,rfl⟩|⟨g,cap,k,rfl,_,c,_,_,_,f⟩
 ·exact⟨Y,0,rfl,fun i x a=>by simp at a⟩
 refine⟨_,cap,rfl,fun i x a=>⟨g,rfl,(aL c),fun j u hu=> ?_⟩⟩;have d:j=0:=by
  have:=(lL hu);simpa using this
 subst d;have:x=u:=by simpa using hu
 subst this;rw[Nat.mul_one];exact Row.cell c f a
theorem uz.read{C:Nat->Nat->Prop}{w:D}{k:Nat}{vs ms:Vl}{L:List (Vl×Int)}(h:uz C w k vs ms L):∃p cap q d,vs= .slice p L.length cap/\ms= .slice q L.length d/\∀i x,L[i]? =Z x->∃b1 a b n3 c,p=Z ⟨b1,0,Y⟩/\q=Z ⟨a,0,Y⟩/\b1<w.heap.size/\a<w.heap.size/\w.rangeAt b1 (i*1) [.slice b n3 c]/\w.rangeAt a (i*1) [I J x.2]/\n3<=maxLen/\∀j,j<n3->∃g,b=Z ⟨g,0,Y⟩/\g<w.heap.size/\w.rangeAt g (j*rq k) ((eE (rq k)).map (fT k x.2)):=by
 obtain⟨p,cap,rfl,h1⟩:=IZ h.row;obtain⟨q,d,rfl,h2⟩:=IZ h.marks;refine⟨p,cap,q,d,rfl,rfl,fun i x e=> ?_⟩;obtain⟨b1,rfl,h3,l⟩:=h1 i x.1 (by rw[ct,e];rfl);obtain⟨a,rfl,m,n⟩:=h2 i (hE x.2) (by rw[ct,e];rfl);obtain⟨b,n3,c,f,o,r⟩:=(h.all x (aJ e)).1.read;exact⟨b1,a,b,n3,c,rfl,rfl,h3,m,f▸l,n,o,r⟩
theorem LM{d:Bd}(h:lH C w B c d)(hc:c<=6000000000000):Rt 55 #[X (Z ⟨B,0,Y⟩)] w (Bl true):=by
 obtain⟨p1,c0,q1,c8,S,V,a7⟩:=(h.pU 1 oM).read;have e5:=h.kB 1 oM;have b2:=(show Hq _ from a7);obtain⟨p2,c6,q2,c9,T,t,a8⟩:=(h.pU 2 oM).read;have e6:=h.kB 2 oM;have b6:=(show Hq _ from a8);obtain⟨p3,c7,q3,e4,U,W,b0⟩:=(h.pU 3 oM).read;have e7:=h.kB 3 oM;have b7:=(show Hq _ from b0);have n:Hq (∀w',O w.heap.size w w'->Hq (w'.heap[B]? =Z (Cl #[d.v 0,d.m 0,.slice none 0 0,.slice none 0 0,.slice p1 (d.L 1).length c0,.slice q1 (d.L 1).length c8,.slice p2 (d.L 2).length c6,.slice q2 (d.L 2).length c9,.slice p3 (d.L 3).length c7,.slice q3 (d.L 3).length e4,I J d.next] 32 (0,0)))):=fun w' a=>by
  have h1:=(a.block B (h.lt B 2 h.oB)).trans h.book;unfold kh at h1;rw[S,T,U,V,t,W] at h1;exact h1
 clear h a7 a8 b0 S T U V t W;go_enter func55,ntmps55
 refine au ?_;refine lp 164 (fun i:Nat=>[(0,pt B 0),(3,I J (i:Int))]) (fun m i wr=>i<=(d.L 1).length/\m=(d.L 1).length-i/\O w.heap.size w wr) (d.L 1).length 0 ⟨aF _,rfl,Below.refl _ _⟩ ?_;rintro m i wr f ⟨hi,rfl,a⟩;have j:=n.o wr a;refine af ?_;refine wp_cond_split rfl ?_ ?_
 ·intro e
  have e:i<(d.L 1).length:=by have:=of_decide_eq_true e;omega
  obtain⟨x,M⟩:∃y,(d.L 1)[i]? =Z y:=⟨_,ae e⟩;obtain⟨g1,g2,N,b,s,rfl,rfl,A,p,G,q,E,F⟩:=b2.o i x M;have a6:b<=9223372036854775807:=E;clear j;refine au ?_;refine lp 164 (fun k:Nat=>[(0,pt B 0),(3,I J (i:Int)),(4,I J (k:Int))]) (fun m k wr=>k<=b/\m=b-k/\O w.heap.size w wr) b 0 ⟨aF _,rfl,a⟩ ?_;clear a;rintro m k wr t ⟨hk,rfl,a⟩;have j:=n.o wr a;have Q:Hq (wr.rangeAt g1 (i*1) [.slice N b s]):=mG G a A;refine af ?_;refine wp_cond_split rfl ?_ ?_
  ·intro g
   have g:k<b:=by have:=of_decide_eq_true g;omega
   obtain⟨g3,rfl,D,K⟩:=F k g;have P:Hq (wr.rangeAt g2 (i*1) [I J x.2]):=mG q a p;have R:Hq (wr.rangeAt g3 (k*3) [I J x.2,I J x.2,.slice none 0 0]):=mG K a D;refine au ?_;refine decl rfl _ rfl (H #[I J 0,I J 0,.slice none 0 0]) kr rfl _ _ rfl #[I J x.2,I J x.2,.slice none 0 0] (fun _=>rfl) (fun _=>rfl) kr rfl (by simp[av]) ?_;intro w3 b3 b8 b1 r;have u:=tR a r;have j:=n.o w3 u;have P:Hq (w3.rangeAt g2 (i*1) [I J x.2]):=mG q u p;simp only[zD];refine au ?_;refine lW kr kr ?_;refine aq ?_;intro w4 l;have l:=tR r l;refine au ?_;exact⟨b-(k+1),k+1,oM,gY kr,g,rfl,a.trans (l.mono a.size)⟩
  ·intro g
   refine au ?_;exact⟨(d.L 1).length-(i+1),i+1,oM,gY kr,e,rfl,a⟩
 ·intro e
  clear j;refine au ?_;refine lp 164 (fun i:Nat=>[(0,pt B 0),(6,I J (i:Int))]) (fun m i wr=>i<=(d.L 2).length/\m=(d.L 2).length-i/\O w.heap.size w wr) (d.L 2).length 0 ⟨aF _,rfl,a⟩ ?_;rintro m i wr f ⟨hi,rfl,a⟩;have j:=n.o wr a;refine af ?_;refine wp_cond_split rfl ?_ ?_
  ·intro e
   have e:i<(d.L 2).length:=by have:=of_decide_eq_true e;omega
   obtain⟨x,M⟩:∃y,(d.L 2)[i]? =Z y:=⟨_,ae e⟩;obtain⟨g1,g2,N,b,s,rfl,rfl,A,p,G,q,E,F⟩:=b6.o i x M;have a6:b<=9223372036854775807:=E;clear j;refine au ?_;refine lp 164 (fun k:Nat=>[(0,pt B 0),(6,I J (i:Int)),(7,I J (k:Int))]) (fun m k wr=>k<=b/\m=b-k/\O w.heap.size w wr) b 0 ⟨aF _,rfl,a⟩ ?_;clear a;rintro m k wr t ⟨hk,rfl,a⟩;have j:=n.o wr a;have Q:Hq (wr.rangeAt g1 (i*1) [.slice N b s]):=mG G a A;refine af ?_;refine wp_cond_split rfl ?_ ?_
   ·intro g
    have g:k<b:=by have:=of_decide_eq_true g;omega
    obtain⟨g3,rfl,D,K⟩:=F k g;have P:Hq (wr.rangeAt g2 (i*1) [I J x.2]):=mG q a p;obtain⟨z,hz⟩:∃z:It,z=⟨x.2,0,0,x.2,true⟩:=⟨_,rfl⟩;have R:Hq (wr.rangeAt g3 (k*5) (fF z)):=by rw[hz];exact mG K a D
    refine au ?_;refine lW kr kr ?_;refine aq ?_;refine vq (v:=H (fF z).toArray) (w0 rfl) rfl (fun w' _=>by rw[hz];kernel_rfl) ?_;refine Ks.WQ.mk ?_;simp only[zD];refine Ks.WQ.o (vq (w0 rfl) rfl (fun w' _=>Gq (z:=z) rfl rfl rfl) ?_);refine Ks.WQ.mk ?_;simp only[zD];refine aq ?_;intro w4 l;refine au ?_;exact⟨b-(k+1),k+1,oM,gY kr,g,rfl,a.trans (l.mono a.size)⟩
   ·intro g
    refine au ?_;exact⟨(d.L 2).length-(i+1),i+1,oM,gY kr,e,rfl,a⟩
  ·intro e
   clear j;refine au ?_;refine lp 164 (fun i:Nat=>[(0,pt B 0),(8,I J (i:Int))]) (fun m i wr=>i<=(d.L 3).length/\m=(d.L 3).length-i/\O w.heap.size w wr) (d.L 3).length 0 ⟨aF _,rfl,a⟩ ?_;rintro m i wr f ⟨hi,rfl,a⟩;have j:=n.o wr a;refine af ?_;refine wp_cond_split rfl ?_ ?_
   ·intro e
    have e:i<(d.L 3).length:=by have:=of_decide_eq_true e;omega
    obtain⟨x,M⟩:∃y,(d.L 3)[i]? =Z y:=⟨_,ae e⟩;obtain⟨g1,g2,N,b,s,rfl,rfl,A,p,G,q,E,F⟩:=b7.o i x M;have a6:b<=9223372036854775807:=E;clear j;refine au ?_;refine lp 164 (fun k:Nat=>[(0,pt B 0),(8,I J (i:Int)),(9,I J (k:Int))]) (fun m k wr=>k<=b/\m=b-k/\O w.heap.size w wr) b 0 ⟨aF _,rfl,a⟩ ?_;clear a;rintro m k wr t ⟨hk,rfl,a⟩;have j:=n.o wr a;have Q:Hq (wr.rangeAt g1 (i*1) [.slice N b s]):=mG G a A;refine af ?_;refine wp_cond_split rfl ?_ ?_
    ·intro g
     have g:k<b:=by have:=of_decide_eq_true g;omega
     obtain⟨g3,rfl,D,K⟩:=F k g;have P:Hq (wr.rangeAt g2 (i*1) [I J x.2]):=mG q a p;have R:Hq (wr.rangeAt g3 (k*3) [I J x.2,I J 0,.slice none 0 0]):=mG K a D;refine au ?_;refine decl rfl _ rfl (H #[I J 0,I J 0,.slice none 0 0]) kr rfl _ _ rfl #[I J x.2,I J 0,.slice none 0 0] (fun _=>rfl) (fun _=>rfl) kr rfl (by simp[av]) ?_;intro w3 b3 b8 b1 r;have u:=tR a r;have j:=n.o w3 u;have P:Hq (w3.rangeAt g2 (i*1) [I J x.2]):=mG q u p;simp only[zD];refine au ?_;refine lW kr kr ?_;refine aq ?_;intro w4 l;have l:=tR r l;refine au ?_;exact⟨b-(k+1),k+1,oM,gY kr,g,rfl,a.trans (l.mono a.size)⟩
    ·intro g
     refine au ?_;exact⟨(d.L 3).length-(i+1),i+1,oM,gY kr,e,rfl,a⟩
   ·intro e
    clear j;refine au ?_;refine bodyPost_ret (v:=Bl true) kr rfl ?_;exact⟨rfl,a⟩
theorem Rz{d:Bd}(h:lH C w B c d)(E:c<=6000000000000):Rt 17 #[X (Z ⟨B,0,Y⟩)] w (Bl true):=by
 obtain⟨p,cap,q,z,l,n,r⟩:=(h.pU 0 oM).read;have a6:=h.kB 0 oM;have s:Hq (lH C w B c d):=h;have t:=(show Hq _ from r);have j:Hq (∀w',O w.heap.size w w'->Hq (w'.heap[B]? =Z (Cl #[.slice p (d.L 0).length cap,.slice q (d.L 0).length z,.slice none 0 0,.slice none 0 0,d.v 1,d.m 1,d.v 2,d.m 2,d.v 3,d.m 3,I J d.next] 32 (0,0)))):=fun w' a=>by
  have h1:=(a.block B (h.lt B 2 h.oB)).trans h.book;unfold kh at h1;rw[l,n] at h1;exact h1
 clear h r l n;go_enter func17,ntmps17
 refine au ?_;refine lp 87 (fun i:Nat=>[(0,pt B 0),(3,I J (i:Int))]) (fun m i wr=>i<=(d.L 0).length/\m=(d.L 0).length-i/\O w.heap.size w wr) (d.L 0).length 0 ⟨aF _,rfl,Below.refl _ _⟩ ?_;rintro m i wr f ⟨hi,rfl,a⟩;have g:=j.o wr a;refine af ?_;refine wp_cond_split rfl ?_ ?_
 ·intro b
  have b:i<(d.L 0).length:=by have:=of_decide_eq_true b;omega
  obtain⟨x,R⟩:∃y,(d.L 0)[i]? =Z y:=⟨_,ae b⟩;obtain⟨g1,g2,S,n3,u,rfl,rfl,F,G,N,P,K,M⟩:=t.o i x R;have a7:n3<=9223372036854775807:=K;clear g;refine au ?_;refine lp 87 (fun k:Nat=>[(0,pt B 0),(3,I J (i:Int)),(4,I J (k:Int))]) (fun m k wr=>k<=n3/\m=n3-k/\O w.heap.size w wr) n3 0 ⟨aF _,rfl,a⟩ ?_;clear a;rintro m k wr W ⟨hk,rfl,a⟩;have g:=j.o wr a;have T:Hq (wr.rangeAt g1 (i*1) [.slice S n3 u]):=mG N a F;refine af ?_;refine wp_cond_split rfl ?_ ?_
  ·intro e
   have e:k<n3:=by have:=of_decide_eq_true e;omega
   obtain⟨g3,rfl,H,Q⟩:=M k e;have U:Hq (wr.rangeAt g2 (i*1) [I J x.2]):=mG P a G;have V:Hq (wr.rangeAt g3 (k*1) [I J x.2]):=mG Q a H;refine au ?_;refine lW kr kr ?_;refine aq ?_;intro w4 D;refine au ?_;exact⟨n3-(k+1),k+1,oM,gY kr,e,rfl,a.trans (D.mono a.size)⟩
  ·intro e
   refine au ?_;exact⟨(d.L 0).length-(i+1),i+1,oM,gY kr,b,rfl,a⟩
 ·intro b
  clear g;refine au ?_;refine lp 87 (fun _:Unit=>[(0,pt B 0),(5,I J 0)]) (fun m _ wr=>m=0/\O w.heap.size w wr) 0 () ⟨rfl,a⟩ ?_;clear a;rintro m i wr f ⟨rfl,a⟩;have g:=j.o wr a;refine af ?_;refine Ks.pure (w0 rfl) 55 #[pt B 0] kr (LM (s.o.below a) E) ?_;intro w2 A;simp only[zD];refine au ?_;refine bodyPost_ret (v:=Bl true) kr rfl ?_;exact⟨rfl,a.trans (A.mono a.size)⟩
