/- Walk of the document's book of signatures that were asked. Walks of the document's gate: New, Look. Walk of the document's gate: Look. -/
import Derived.Test.YtbojijefenfbgaaGreatDoorAaRefA
open List renaming map_cons->eP,map_nil->jq,getElem?_eq_getElem->ae,take_succ_cons->ak,take_zero->aE,setIfInBounds_toArray->bI,set_cons_zero->cw,set_cons_succ->cz,drop_succ_cons->ax,drop_zero->aK,length_append->ao
open Nat renaming zero_le->aF,lt_of_lt_of_le->aB
open Go.IntWalk renaming i64_in->az
open Go.Act renaming put->aD
open Option renaming some->Z,none->Y
open Go.Value renaming int->I,pointer->X,agg->H,bool->Bl,string->sT,tuple->Tp
open Go.IntKind renaming i64->J
open Go.Obj renaming cells->Cl
open Go.Ending renaming returned->Re
open Go renaming World->D,Value->Vl
open Go.RowKit renaming Below->O
set_option maxHeartbeats 4000000
set_option maxRecDepth 100000
open Go Go.RowKit
open Go.Proofs.YtbojijefenfbgaaGreatDoor
open Qt(sI kb gh gu)
open Ks(decl au loop mr pure)
open Dc(si tp lE)
open Cw(lq)
variable{P:Program}{S:Nat->Prop}{a:Act}{b g kn n sz:Nat}{e:TypeId}{o:Oper}{v:Vl}{w:D}{xs:List Vl}
namespace Go.Proofs.YtbojijefenfbgaaGreatDoor
open Tryz
namespace Gt
open Mp Bk Tk
def lB(k t g:List UInt8):List Vl:=[str k,str t,str g]
theorem EV:(prog.info? 34).map (fun i=>(i.zero,i.size,i.bytes))=Z (Z (H #[sT ⟨#[]⟩,sT ⟨#[]⟩,sT ⟨#[]⟩]),3,48):=kr
theorem ER:(prog.info? 4).map (fun i=>(i.zero,i.size,i.bytes))=Z (Z (Bl false),1,1):=kr
theorem S5{l:List Field}{a b c:String×TypeId×Nat}(h:l.map (fun f=>(f.name,f.type,f.offset))=[a,b,c]):∃f g k:Field,l=[f,g,k]/\(f.name,f.type,f.offset)=a/\(g.name,g.type,g.offset)=b/\(k.name,k.type,k.offset)=c:=by
 match l,h with
 |[],h=>simp at h
 |[f],h=>simp at h
 |[f,g],h=>simp at h
 |[f,g,k],h=>
  simp only[eP,jq,List.cons.injEq,and_true] at h;exact⟨f,g,k,rfl,h.1,h.2.1,h.2.2⟩
 |f::g::k::m::r,h=>simp at h
theorem UI(a b c d h c':List UInt8)(w:D):(Op.equalIn 10000 34 (H (lB a b c).toArray) (H (lB d h c').toArray)).run prog w= .ok (decide (a=d/\b=h/\c=c')) w:=by
 have s:=run_equalIn_struct (P:=prog) w 9999 34 (lB a b c).toArray (lB d h c').toArray kr kr;have q:(prog.fieldsOf 34).toList.map (fun f=>(f.name,f.type,f.offset))=[("Key",9,0),("Text",9,1),("Signature",9,2)]:=by kernel_rfl
 obtain⟨f,g,k,r,h1,h2,h3⟩:=S5 q;injection h1 with n h1
 injection h1 with o p
 injection h2 with g1 h2
 injection h2 with g2 g3
 injection h3 with k1 h3
 injection h3 with k2 k3
 have j:=fun x y z:List UInt8=>run_part_plain (P:=prog) w (e:=9) (xs:=(lB x y z).toArray) (off:=0) (v:=str x) kr rfl;have l:=fun x y z:List UInt8=>run_part_plain (P:=prog) w (e:=9) (xs:=(lB x y z).toArray) (off:=1) (v:=str y) kr rfl;have m:=fun x y z:List UInt8=>run_part_plain (P:=prog) w (e:=9) (xs:=(lB x y z).toArray) (off:=2) (v:=str z) kr rfl;have i:∀x y:List UInt8,(Op.equalIn 9999 9 (str x) (str y)).run prog w= .ok (decide (x=y)) w:=fun x y=>by
  unfold str;simp[go_sem];rw[Bool.eq_iff_iff];simp
 show(Op.equalIn (9999+1) _ _ _).run _ w=_;rw[s,r];simp only[Op.eqFields,n,g1,k1,o,g2,k2,p,g3,k3,ne_eq];by_cases h1:a=d
 ·by_cases h2:b=h
  ·by_cases h3:c=c'
   ·simp[h1,h2,h3,j,l,m,i]
   ·simp[h1,h2,h3,j,l,m,i]
  ·simp[h1,h2,j,l,i]
 ·simp[h1,j,i]
def uV(kn bc:Nat)(k t g:List UInt8)(i:Nat)(f:Nat->Vl):Act:={tmps:= #[X (Z ⟨kn,0,Y⟩),str k,str t,str g,f 4,f 5,f 6,f 7,Bl false,X (Z ⟨bc,0,Y⟩),I J (i:Int),f 11,f 12,f 13,f 14,f 15,f 16,f 17,f 18,f 19,f 20,f 21,f 22,f 23,f 24,f 25,f 26,f 27,f 28,f 29,f 30,f 31,f 32,f 33,f 34,f 35,f 36,f 37,f 38,f 39,f 40,f 41,f 42,f 43,f 44,f 45,f 46,f 47,f 48,f 49,f 50,f 51,f 52,f 53,f 54,f 55,f 56,f 57,f 58,f 59,f 60,f 61,f 62,f 63,f 64,f 65],defers:=[]}
theorem QC(x:lS):(vw x).length=3:=rfl
theorem CN(h:Row S w e sz v n xs)(a:v.ownBlock=Z b):∃c,w.heap[b]? =Z (Cl c e (0,0)):=by
 rcases h.cases with⟨rfl,_⟩|⟨g,_,c,rfl,_,d,_⟩
 ·cases a
 ·injection a with a
  subst a;exact⟨c,d⟩
theorem I9{T:Nat->Prop}{a:TypeId}{j:Nat}{v':Vl}{i:Nat}{k:List Vl}(h:Row S w e sz v n xs)(c:Row T w a j v' i k)(g:e≠a)(d:v.ownBlock=Z b):v'.ownBlock≠Z b:=fun f=>by
 obtain⟨l,h1⟩:=CN h d;obtain⟨m,h2⟩:=CN c f;rw[h1] at h2;injection h2 with h2
 injection h2 with _ h2
 exact g h2
theorem s'(h:Row S w e sz v n xs){cs:Array Vl}{t:TypeId}{fr:Nat×Nat}(a:w.heap[g]? =Z (Cl cs t fr))(c:e≠t):v.ownBlock≠Z g:=fun b=>by
 obtain⟨d,h1⟩:=CN h b;rw[h1] at a;injection a with a
 injection a with _ a
 exact c a
theorem Uj(l:List lS)(x:lS):oJ (l++[x])=oJ l++vw x:=by simp[oJ]
theorem T0(l:List lS)(x:lS):py (l++[x])=py l++[Bl x.yes]:=by simp[py]
theorem Tf{B:Nat}(x:Operand)(c:o.op= .buildSlice 22 1 #[(0,x)])(k t g:List UInt8)(d:a.eval x=H (lB k t g).toArray)(b:B<=w.heap.size):Qt.oE prog w (Ap.qs B 34 (lB k t g)) ((execOp a.eval o).run prog w):=
 Gw.xA 22 34 1 _ c (lB k t g).toArray (H #[sT ⟨#[]⟩,sT ⟨#[]⟩,sT ⟨#[]⟩]) 3 48 underlying22 EV dc dc [(0,H (lB k t g).toArray)] (by simp[d]) kr ⟨w.heap.size,rfl,b,heap_alloc_new _ _⟩
theorem Ui{P:Program}{a:Act}{w:D}(s x:Operand)(t:TypeId)(r:o.op= .call {callee:=.builtin .append,args:= #[s,x],argTypes:= #[t,t]})
  (e:TypeId) (z:Vl) (size bytes:Nat) (E:P.underlying t=Z (.slice e)) (h2:(P.info? e).map (fun i=>(i.zero,i.size,i.bytes))=Z (Z z,size,bytes)) (J:z.cells.size=size) (C:0<size) (m:bytes<=4096)
  (S:Nat->Prop) (v:Vl) (n:Nat) (xs:List Vl) (A:a.eval s=v) (g:Row S w e size v n xs)
  (b h:Nat) (cs:List Vl) (F:a.eval x= .slice (Z ⟨b,0,Y⟩) 1 h) (hu:∀j c,cs[j]? =Z c->w.cell? ⟨b,j,Y⟩=Z c) (q:cs.length=1*size) (h1:∀c∈cs,c.oneCell'=true) (M:n+1<=30000000000) (B:Nat) (L:B<=w.heap.size):
  sI P (fun w w'=>Fr S w.heap.size w w') w (fun v' w'=>Row (fun k=>S k\/B<=k) w' e size v' (n+1) (xs++cs)) ((execOp a.eval o).run P w):=by
 obtain⟨i,hi,G,H,I⟩:=info_parts h2;obtain⟨v',w',y,h3,l,K,f⟩:=run_append_own_at (P:=P) w 0 t o.type e i z size bytes E hi G H I J C v n xs g.1 ⟨b,0,Y⟩ 1 h cs q (fun j u p=>by
  rw[Addr.add_mid,Nat.zero_add];exact hu j u p) h1 (by unfold maxLen;omega) (by
  have:(n+1)*bytes<=30000000000*4096:=Nat.mul_le_mul oM m;omega) (aF _)
 unfold execOp;simp only[r,resolve,invoke,builtin,Sem.run_bind,Sem.run_pure,Result.andThen_ok,List.map_toArray,eP,jq,A,F,y];refine⟨⟨h3,fun k d=> ?_⟩,(Fr.refl S _ w).grown l lR fun k d=>oL (g.2 k d)⟩;rcases f with f|f
 ·exact oL (g.2 k (by rw[<-f];exact d))
 ·rw[f] at d
  injection d with d
  exact oR oM
def RK(S:Nat->Prop)(B kn:Nat)(lv:Vl)(n:Nat)(xs cs:List Vl):Nat->Vl->D->Prop
 |4,v,_=>v=lv
 |5,v,_=>v=H cs.toArray
 |6,v,w=>∃b,v= .slice (Z ⟨b,0,Y⟩) 1 1/\B<=b/\w.heap[b]? =Z (Cl cs.toArray 34 (0,0))
 |7,v,w=>Row (fun k=>S k\/B<=k) w 34 3 v (n+1) (xs++cs)
 |_,v,_=>v=X (Z ⟨kn,0,Y⟩)
theorem uj{T:D->D->Prop}{R:Vl->D->Prop}{r:Result Next}(v:Vl)(h:r= .ok (.value v) w)(a:R v w)(b:T w w):sI P T w R r:=by
 rw[h];exact⟨a,b⟩
theorem Km{ty:TypeId}{x:Operand}{p:Addr}(h:(o.op,a.eval x)=(.load ty x,X (Z p)))(h1:(loadVar ty p).run P w= .ok v w):(execOp a.eval o).run P w= .ok (.value v) w:=by
 injection h with b c
 unfold execOp;simp only[b,c,Instr.loadAt,Instr.sureAddr,Sem.run_bind,Sem.run_pure,Result.andThen_ok,h1]
def TK(S:Nat->Prop):Nat->D->D->Prop
 |6,w,w'=>O w.heap.size w w'
 |7,w,w'=>Fr S w.heap.size w w'
 |_,w,w'=>w'=w
theorem B4{ks:List lS}(h:jV Gw.ga S w kn ks)(k t g:List UInt8)(r5:t.length<=900000000)(hn:ks.length<=20000000000):Calls prog 203 #[X (Z ⟨kn,0,Y⟩),str k,str t,str g] w fun e w'=>∃v,e=Re v/\v=Bl (Gw.ga k t g)/\(∃ks',ks'.length<=ks.length+1/\jV Gw.ga (fun j=>S j\/w.heap.size<=j) w' kn ks')/\Fr S w.heap.size w w':=by
 obtain⟨hS,h8,lv,q,j9,hL,hY⟩:=h;have b0:Hq _:=j9;have L:Hq (Row S w 34 3 lv ks.length (oJ ks)):=hL;have a6:Hq (Row S w 4 1 q ks.length (py ks)):=hY;have j5:=(aL j9);have n0:Hq _:=Dc.LQ k t g r5;obtain⟨R,hR⟩:=eX (Gw.ga k t g);rw[<-hR] at n0⊢;clear j9 hL hY;go_enter func203,ntmps203
 refine wp_seq (kX (kv (Bl false) ?_));refine kd (wp_seq ?_);refine kX (kv (str k) ?_);refine kv (str t) ?_;refine kv (str g) ?_;refine kv (H (lB k t g).toArray) ?_;refine decl rfl _ rfl (H #[sT ⟨#[]⟩,sT ⟨#[]⟩,sT ⟨#[]⟩]) kr rfl _ _ rfl (lB k t g).toArray (fun _=>rfl) (fun _=>rfl) kr rfl (by simp[lB,str,Value.oneCell']) ?_;intro w1 bc l9 l1 l0;have r9:=l9.o;clear l9;simp only[zD];refine au ?_;have start:∀a0:Act,a0=uV kn bc k t g 0 (fun j=>a0.tmps.getD j undef)->∃(i:Nat)(f:Nat->Vl),a0=uV kn bc k t g i f/\i<=ks.length/\ks.length=ks.length-i/\O w.heap.size w w1/\w1.heap[bc]? =Z (Cl (lB k t g).toArray 34 (0,0)):=fun a0 h=>⟨0,_,h,aF _,rfl,l0.o,l1.o⟩;refine loop (fun m a wr=>∃(i:Nat)(f:Nat->Vl),a=uV kn bc k t g i f/\i<=ks.length/\m=ks.length-i/\O w.heap.size w wr/\wr.heap[bc]? =Z (Cl (lB k t g).toArray 34 (0,0))) ks.length (start _ rfl) ?_;clear start l1 l0 w1;rintro m a wr ⟨i,f,rfl,hi,rfl,hB,n⟩;have fin:∀(a':Act)(w':D) i',a'=uV kn bc k t g i' (fun j=>a'.tmps.getD j undef)->i<i'->i'<=ks.length->O w.heap.size w w'->w'.heap[bc]? =Z (Cl (lB k t g).toArray 34 (0,0))->∃m,m<ks.length-i/\∃(i:Nat)(f:Nat->Vl),a'=uV kn bc k t g i f/\i<=ks.length/\m=ks.length-i/\O w.heap.size w w'/\w'.heap[bc]? =Z (Cl (lB k t g).toArray 34 (0,0)):=
  fun a' w' i' h1 h2 h3 h4 h5=>⟨ks.length-i',oM,i',_,h1,h3,rfl,h4,h5⟩
 have p3:Hq _:=fin;clear fin;have r:Hq _:=hB;have W:Hq (wr.heap[bc]? =_):=n;have HK:Hq _:=(hB.block kn j5).trans b0.o;clear hB n;unfold uV;refine wp_seq (wp_seq ?_);refine kX (kv (I J (i:Int)) ?_);refine kv (X (Z ⟨kn,0,Y⟩)) ?_;refine kv (X (Z ⟨kn,0,Y⟩)) ?_;refine kv (X (Z ⟨kn,0,Y⟩)) ?_;refine Ks.cell rfl _ _ rfl underlying22 rfl kn 0 lv rfl (fy HK.o 0 rfl) ?_;simp only[zD];refine Ks.val rfl (I J (ks.length:Int)) (by
  rcases L.o.cases with⟨rfl,h0,_⟩|⟨A,cap,E,rfl,_⟩
  ·rw[h0]
   kernel_rfl
  ·kernel_rfl) ?_
 simp only[zD];refine kv (Bl (decide ((i:Int)<ks.length))) ?_;refine kd ?_;refine wp_cond_split rfl ?_ ?_
 ·intro Q
  have Q:i<ks.length:=by have:=of_decide_eq_true Q;omega
  obtain⟨y,hy⟩:∃y,ks[i]? =Z y:=⟨_,ae Q⟩;obtain⟨A,cap,E,rfl,s0,j2,_,_,_,o5⟩:∃A cap E,lv= .slice (Z ⟨A,0,Y⟩) ks.length cap/\S A/\w.heap[A]? =Z (Cl E 34 (0,0))/\ks.length<=cap/\cap<=maxLen/\E.size=cap*3/\E.toList.take (ks.length*3)=oJ ks:=by
   rcases L.o.cases with⟨_,h0,_⟩|h
   ·omega
   ·exact h
  have o9:Hq _:=Row.range QC j2 o5 hy;have o0:=(aL j2);clear j2 o5;refine au ?_;refine Qt.qj kr kr ?_;refine yw (X (Z ⟨kn,0,Y⟩)) ?_;refine yw (X (Z ⟨kn,0,Y⟩)) ?_;refine yV (X (Z ⟨kn,0,Y⟩)) ?_;refine mz rfl _ _ rfl underlying22 rfl kn 0 _ rfl (aL HK.o) (fy HK.o 0 rfl) ?_;simp only[zD];refine yV (I J (i:Int)) ?_;refine Ks.qc rfl _ _ _ rfl 34 3 underlying22 kr kr A _ cap i rfl rfl Q ?_;simp only[zD];refine Qt.um rfl _ _ rfl A (i*3) rfl (vw y) _ (aB o0 r.o.size) (lX o9.o r.o o0) underlying34 rfl kr ?_;simp only[zD];refine Qt.nn rfl _ _ rfl _ rfl _ _ _ _ W.o underlying34 rfl kr ?_;simp only[zD];refine kb rfl (Bl (decide (y.key=k/\y.text=t/\y.sign=g))) (fun w' _=>Ks.zx _ _ _ _ rfl (vw y).toArray (lB k t g).toArray rfl rfl kr _ (UI y.key y.text y.sign k t g w')) ?_;simp only[zD];refine gh ?_;intro w2 h9;refine km ?_;have W:=ca h9 W;have r:Hq _:=r.o.trans (h9.mono r.o.size);have HK:Hq _:=(r.o.block kn j5).trans b0.o;clear h9;refine wp_cond_split rfl ?_ ?_
  ·intro n
   have n:=of_decide_eq_true n;obtain⟨gy,p4,r8,rfl,s4,n9,_,_,_,q9⟩:∃A cap E,q= .slice (Z ⟨A,0,Y⟩) ks.length cap/\S A/\w.heap[A]? =Z (Cl E 4 (0,0))/\ks.length<=cap/\cap<=maxLen/\E.size=cap*1/\E.toList.take (ks.length*1)=py ks:=by
    rcases a6.o.cases with⟨_,h0,_⟩|h
    ·omega
    ·exact h
   have r6:y.yes=R:=by
    rw[hR,h8 y (List.mem_of_getElem? hy),n.1,n.2.1,n.2.2]
   have p1:Hq (w2.cell? ⟨gy,i*1,Y⟩=Z (Bl R)):=by
    have h1:w.cell? ⟨gy,i*1,Y⟩=Z (Bl y.yes):=by
     refine Row.cell n9 q9 ?_;rw[Nat.mul_one];unfold py;rw[List.getElem?_map,hy];rfl
    show _=_;rw[r.o.cell (by exact(aL n9)),h1,r6]
   refine wp_seq (kX (kv (X (Z ⟨kn,0,Y⟩)) ?_));refine kv (X (Z ⟨kn,0,Y⟩)) ?_;refine kv (X (Z ⟨kn,1,Y⟩)) ?_;refine Ks.cell rfl _ _ rfl underlying27 rfl kn 1 _ rfl (fy HK.o 1 rfl) ?_;simp only[zD];refine kv (I J (i:Int)) ?_;refine Ks.idx kr _ _ _ rfl 4 1 underlying27 kr kr gy _ p4 i rfl rfl Q ?_;simp only[zD];refine Ks.cell rfl _ _ rfl underlying4 rfl gy (i*1) (Bl R) rfl p1.o ?_;simp only[zD];refine kv (Bl R) ?_;refine kd (wp_ret ?_);repeat (first|refine kt ?_|refine Ks.mB ?_)
   refine bodyPost_ret (v:=Bl R) kr rfl ?_;refine⟨_,rfl,rfl,⟨ks,Nat.le_succ _,jV.congr (S:=S) (w:=w) ⟨hS,h8,_,_,b0.o,L.o,a6.o⟩ (fun j p=>oL p) fun j _ p=>r.o.block j p⟩,Fr.kq r.o lR⟩
  ·intro n
   refine wp_skip (mr ?_);refine kX (kv (I J (i:Int)) ?_);refine Ks.val rfl (I J ((i+1:Nat):Int)) (by
    simp[execOp,go_sem];rw[az _ ⟨oM,oM⟩]) ?_
   simp only[zD];refine kv (I J ((i+1:Nat):Int)) ?_;refine kd ?_;exact p3.o _ _ (i+1) rfl oM Q r.o W.o
 ·intro Q
  refine au ?_;refine pure kr 10 #[str k,str t,str g] kr (n0.o wr) ?_;intro w3 j0;have l2:=ca j0 W;have e3:Hq _:=r.o.trans (j0.mono r.o.size);have l5:Hq _:=(e3.o.block kn j5).trans b0.o;clear j0 W r HK;simp only[zD];refine au ?_;obtain⟨s,e1⟩:∃s:Nat->Prop,s=fun j=>lv.ownBlock=Z j:=⟨_,rfl⟩;have c9:∀j,s j->S j/\j<w.heap.size:=fun j p=>by
   rw[e1] at p;exact⟨L.o.2 j p,L.o.lt j p⟩
  have p6:¬s bc:=fun h=>by have:=(c9 bc h).2;omega
  have q7:¬s kn:=fun h=>by
   rw[e1] at h;exact s' L.o b0.o dc h
  have r7:∀b,q.ownBlock=Z b->¬s b:=fun b l h=>by
   rw[e1] at h;exact I9 a6.o L.o dc l h
  refine Qt.G5 (m:=7) (T:=TK s) (G:=fun b w'=>(b=false->Row s w' 34 3 lv ks.length (oJ ks))/\w'.heap[kn]? =Z (Cl #[lv,q] 120 (0,0))/\w'.heap[bc]? =Z (Cl (lB k t g).toArray 34 (0,0))/\Row (fun j=>S j/\j<w.heap.size) w' 4 1 q ks.length (py ks)/\Fr S w.heap.size w w') 8 (RK s w.heap.size kn lv ks.length (oJ ks) (lB k t g)) ?_ kr ?_ ?_ kr ?_ ?_ dc ?_
  ·have j1:O w.heap.size w {w3 with drawn:=w3.drawn+1}:=e3.o.trans ⟨rfl,rfl,rfl,Nat.le_refl _,fun _ _=>rfl⟩
   exact⟨fun _=>Row.below (B:=w.heap.size) (w:=w) ⟨L.o.1,fun b l=>by rw[e1];exact l⟩ j1 lR,l5.o,l2.o,Row.below (B:=w.heap.size) ⟨a6.o.1,fun b l=>⟨a6.o.2 b l,a6.o.lt b l⟩⟩ j1 lR,Fr.kq j1 lR⟩
  ·intro i b K wb hi F d
   by_cases C:i=6
   ·subst C
    have d:=d;obtain⟨g1,g2,g3,g4,z⟩:=F;exact⟨fun e=>(g1 e).below d lR,(d.block _ (aL g2)).trans g2,(d.block _ (aL g3)).trans g3,g4.below d lR,z.calls d z.size⟩
   ·have e:wb=K:=by
     unfold TK at d;split at d
     ·exact absurd rfl C
     ·exact absurd rfl hi
     ·exact d
    rw[e];exact F
  ·intro K wb F d
   have d:=d;obtain⟨g1,g2,g3,g4,z⟩:=F;exact⟨fun e=>absurd e dc,(d.block _ (aL g2) q7).trans g2,(d.block _ (aL g3) p6).trans g3,g4.congr fun b l=>d.block b (g4.lt b l) (r7 b l),z.trans (d.mono z.size fun j _ p=>(c9 j p).1)⟩
  ·intro i j u K wb hi p o4 hw b l F V d
   by_cases h7:j=7
   ·subst h7
    have e:wb=K:=by
     unfold TK at d;split at d
     ·have h2:false=true:=hw.symm.trans kr
      cases h2
     ·exact absurd rfl o4
     ·exact d
    rw[e];exact V
   ·by_cases C:j=6
    ·subst C
     obtain⟨b6,e6,n5,b2⟩:=V;refine⟨b6,e6,n5,?_⟩;unfold TK at d;split at d
     ·exact absurd rfl o4
     ·exact(d.block _ (aL b2) (fun h=>by have:=(c9 b6 h).2;omega)).trans b2
     ·rw[d]
      exact b2
    ·unfold RK at V⊢
     split
     ·exact V
     ·exact V
     ·exact absurd rfl C
     ·exact absurd rfl h7
     ·simp only at V
      exact V
  ·intro i o hi M U K b l F hd
   obtain⟨g1,g2,g3,g4,z⟩:=F;simp only[gu,ak,aE,aD,bI,cw,cz];have p7:i=0\/i=1\/i=2\/i=3\/i=4\/i=5\/i=6\/i=7:=oM
   rcases p7 with rfl|rfl|rfl|rfl|rfl|rfl|rfl|rfl
   ·obtain rfl:=Option.some.inj M
    exact uj (X (Z ⟨kn,0,Y⟩)) kr rfl rfl
   ·obtain rfl:=Option.some.inj M
    exact uj (X (Z ⟨kn,0,Y⟩)) kr rfl rfl
   ·obtain rfl:=Option.some.inj M
    have h1:=hd 1 dc kr;rw[h1];exact uj (X (Z ⟨kn,0,Y⟩)) kr rfl rfl
   ·obtain rfl:=Option.some.inj M
    have h1:=hd 2 dc kr;rw[h1];exact uj (X (Z ⟨kn,0,Y⟩)) kr rfl rfl
   ·obtain rfl:=Option.some.inj M
    have h1:U 3=X (Z ⟨kn,0,Y⟩):=hd 3 dc kr;rw[h1];refine uj lv ?_ rfl rfl;have h2:=Ks.sN (P:=prog) underlying22 rfl (fy g2 0 rfl:K.cell? ⟨kn,0,Y⟩=Z lv);exact Km rfl h2
   ·obtain rfl:=Option.some.inj M
    refine uj (H (lB k t g).toArray) ?_ rfl rfl;exact Km rfl (run_loadVar_row K bc _ 34 (lB k t g).toArray (0,0) _ g3 underlying34 rfl kr)
   ·obtain rfl:=Option.some.inj M
    have h1:U 5=H (lB k t g).toArray:=hd 5 dc kr;rw[h1];exact(Tf _ rfl k t g rfl z.size).Ib fun w' p5=>p5
   ·obtain rfl:=Option.some.inj M
    have h1:U 4=lv:=hd 4 dc kr;obtain⟨b6,C,n5,b2⟩:∃b,U 6= .slice (Z ⟨b,0,Y⟩) 1 1/\w.heap.size<=b/\K.heap[b]? =Z (Cl (lB k t g).toArray 34 (0,0)):=hd 6 dc kr;rw[h1,C];exact Ui _ _ _ rfl 34 (H #[sT ⟨#[]⟩,sT ⟨#[]⟩,sT ⟨#[]⟩]) 3 48 underlying22 EV rfl dc dc s lv ks.length (oJ ks) rfl (g1 (l rfl)) b6 1 (lB k t g) rfl (fun j c n=>(cell_of_row K b6 j _ _ _ b2).trans (by simpa using n)) rfl (fun c n=>by
     simp[lB] at n;rcases n with rfl|rfl|rfl<;>rfl) oM w.heap.size z.size
  ·intro U w5 F hd
   obtain⟨_,g2,g3,g4,z⟩:=F;have h0:U 0=X (Z ⟨kn,0,Y⟩):=hd 0 dc;have h1:U 1=X (Z ⟨kn,0,Y⟩):=hd 1 dc;have h2:U 2=X (Z ⟨kn,0,Y⟩):=hd 2 dc;have h3:U 3=X (Z ⟨kn,0,Y⟩):=hd 3 dc;have h4:U 4=lv:=hd 4 dc;have h5:U 5=H (lB k t g).toArray:=hd 5 dc;obtain⟨b6,C,_,_⟩:∃b,U 6= .slice (Z ⟨b,0,Y⟩) 1 1/\w.heap.size<=b/\w5.heap[b]? =Z (Cl (lB k t g).toArray 34 (0,0)):=hd 6 dc;obtain⟨v5,h7⟩:=eX (U 7);have a7:Row (fun k=>s k\/w.heap.size<=k) w5 34 3 (U 7) (ks.length+1) (oJ ks++lB k t g):=hd 7 dc;rw[<-h7] at a7;have b8:Hq (w5.heap[kn]? =Z (Cl #[lv,q] 120 (0,0))):=g2;have c6:Hq (Row (fun j=>S j\/w.heap.size<=j) w5 34 3 v5 (ks.length+1) (oJ ks++lB k t g)):=a7.mono fun j p=>p.imp (fun h=>(c9 j h).1) id;have e9:Hq (Row (fun j=>S j/\j<w.heap.size) w5 4 1 q ks.length (py ks)):=g4;have l3:Hq (Fr S w.heap.size w w5):=z;simp only[gu,ak,aE,ax,aK,aD,bI,cw,cz,h0,h1,h2,h3,h4,h5,C,<-h7];clear h0 h1 h2 h3 h4 h5 C h7 a7 g2 g3 g4 z hd e3 l5 l2;refine kv (X (Z ⟨kn,0,Y⟩)) ?_;refine kv (X (Z ⟨kn,0,Y⟩)) ?_;refine Ks.store rfl _ _ _ rfl kn 0 _ rfl rfl b8.o (by show 0<2;omega) kr (row_one c6.o) #[v5,q] rfl ?_;intro w6 e5 H2 N H4;have p8:v5.ownBlock≠Z kn:=s' c6.o b8.o dc;have q8:q.ownBlock≠Z kn:=s' e9.o b8.o dc;have l6:Hq (Row (fun j=>S j\/w.heap.size<=j) w6 34 3 v5 (ks.length+1) (oJ ks++lB k t g)):=c6.o.congr fun b l=>N.o b (fun e=>p8 (by rw[l,e]));have l8:Hq (Row (fun j=>S j/\j<w.heap.size) w6 4 1 q ks.length (py ks)):=e9.o.congr fun b l=>N.o b (fun e=>q8 (by rw[l,e]));have e4:Hq (Fr S w.heap.size w w6):=l3.o.trans (H2.o _ _ (oL hS));clear H2 N H4 b8 c6 e9 l3;simp only[aD];refine kd (wp_seq ?_);refine kX (kv (X (Z ⟨kn,0,Y⟩)) ?_);refine kv (X (Z ⟨kn,0,Y⟩)) ?_;refine kv (X (Z ⟨kn,0,Y⟩)) ?_;refine kv (X (Z ⟨kn,1,Y⟩)) ?_;refine Ks.cell rfl _ _ rfl underlying27 rfl kn 1 q rfl (fy e5.o 1 rfl) ?_;simp only[zD];refine kv (Bl R) ?_;refine Ks.single rfl 27 4 _ rfl (Bl R) (Bl false) rfl #[Bl R] 1 1 underlying27 ER dc dc kr ?_;intro w7 b7 p2 l7 a8;have c0:=ca a8 e5;have c7:Hq (Row (fun j=>S j\/w.heap.size<=j) w7 34 3 v5 (ks.length+1) (oJ ks++lB k t g)):=l6.o.below a8.o lR;have b1:Hq (Row (fun j=>S j/\j<w.heap.size) w7 4 1 q ks.length (py ks)):=l8.o.below a8.o lR;have b3:Hq (Fr S w.heap.size w w7):=e4.o.calls a8.o e4.o.size;clear e5 l6 l8 e4 a8 p2;simp only[zD];refine re rfl _ _ _ rfl 4 (Bl false) 1 1 underlying27 ER rfl dc dc _ _ ks.length (py ks) rfl b1.o 1 b7 1 [Bl R] rfl (fun j c n=>(cell_of_row w7 b7 j _ _ _ l7.o).trans (by simpa using n)) rfl (fun c n=>by
    simp at n;rw[n];rfl) oM ?_
   intro v8 w8 a7 e2;have p9:q.ownBlock≠Z kn:=s' b1.o c0.o dc;have c4:Hq (w8.heap[kn]? =Z (Cl #[v5,q] 120 (0,0))):=(e2.block kn (aL c0.o) (fun e=>p9 e.symm)).trans c0.o;have c8:Hq (Row (fun j=>S j\/w.heap.size<=j) w8 4 1 v8 (ks.length+1) (py ks++[Bl R])):=a7.mono fun j p=>p.elim (fun h=>oL h.1) fun e=>oR (by rw[e];exact b3.o.size);have e7:Hq (Row (fun j=>S j\/w.heap.size<=j) w8 34 3 v5 (ks.length+1) (oJ ks++lB k t g)):=c7.o.congr fun b l=>e2.block b (c7.o.lt b l) (fun e=>I9 c7.o b1.o dc l e.symm);have l4:Hq (Fr S w.heap.size w w8):=b3.o.grown e2 b3.o.size fun b l=>oL (b1.o.2 b l).1;clear a7 e2 c0 c7 b1 b3 l7;simp only[zD];refine kv (X (Z ⟨kn,0,Y⟩)) ?_;refine kv (X (Z ⟨kn,1,Y⟩)) ?_;refine Ks.store rfl _ _ _ rfl kn 1 _ rfl rfl c4.o (by show 1<2;omega) kr (row_one c8.o) #[v5,v8] rfl ?_;intro w9 o7 H2 N H4;have q5:v5.ownBlock≠Z kn:=s' e7.o c4.o dc;have q6:v8.ownBlock≠Z kn:=s' c8.o c4.o dc;have o8:Hq (Row (fun j=>S j\/w.heap.size<=j) w9 34 3 v5 (ks.length+1) (oJ ks++lB k t g)):=e7.o.congr fun b l=>N.o b (fun e=>q5 (by rw[l,e]));have p0:Hq (Row (fun j=>S j\/w.heap.size<=j) w9 4 1 v8 (ks.length+1) (py ks++[Bl R])):=c8.o.congr fun b l=>N.o b (fun e=>q6 (by rw[l,e]));have o6:Hq (Fr S w.heap.size w w9):=l4.o.trans (H2.o _ _ (oL hS));clear H2 N H4 c4 e7 c8 l4;simp only[aD];refine kd (wp_seq ?_);refine kX (kv (Bl R) ?_);refine kv (Bl R) ?_;refine kd (wp_ret ?_);repeat (refine kt ?_)
   refine bodyPost_ret (v:=Bl R) kr rfl ?_;refine⟨_,rfl,rfl,⟨ks++[⟨k,t,g,R⟩],sP,oL hS,?_,v5,v8,o7.o,?_,?_⟩,o6.o⟩
   ·intro x hx
    rcases List.mem_append.1 hx with hx|hx
    ·exact h8 x hx
    ·simp at hx
     rw[hx];exact hR
   ·rw[Uj,ao]
    exact o8.o
   ·rw[T0,ao]
    exact p0.o
theorem NO(k:List UInt8):(si k).2=(lq k).2:=by
 unfold si;by_cases a:k.length=32
 ·rw[if_pos a]
  cases h1:(Dc.mO (le k)).2 with
  |false=>
   cases h2:(lq k).2 with
   |false=>rfl
   |true=>
    obtain⟨p,c,_,b⟩:=Gw.CZ h2;exact absurd b (Dc.JN h1 p c)
  |true=>
   cases h2:(lq k).2 with
   |true=>rfl
   |false=>
    obtain⟨p,c,_,b⟩:=Dc.GK a h1;exact absurd b (Gw.Cy h2 p c)
 ·rw[if_neg a]
  unfold lq;rw[if_neg a]
theorem Ts(k:List UInt8)(w:D):Rt 41 #[sT ⟨k.toArray⟩] w (Tp #[H (tp (si k).1),Bl (si k).2]):=by
 unfold si;by_cases a:k.length=32
 ·rw[if_pos a]
  exact Dc.J9 k a w
 ·rw[if_neg a]
  exact Dc.Ys k a w
theorem RP(n:Int)(k:List UInt8)(kn:Nat)(h:gx 0 n 15=false)(w:D):Rt 129 #[I J n,sT ⟨k.toArray⟩,X (Z ⟨kn,0,Y⟩)] w (Tp #[X Y,I J 2]):=by
 go_enter func129,ntmps129
 refine au ?_;refine pure kr 60 #[I J n,I J 0,I J 15] kr (v:=Bl (gx 0 n 15)) ((qQ 0 n 15 w).mono fun e w' h=>⟨h.1,by rw[h.2];exact Below.refl _ _⟩) ?_;intro w1 a;rw[h];simp only[zD];refine kv (Bl false) ?_;refine kd (wp_seq ?_);refine wp_seq (kX (kv (Bl false) ?_));refine kv (Bl true) ?_;refine kd (wp_cond_true rfl ?_);refine wp_seq (kX (kv (X Y) ?_));refine kv (I J 2) ?_;refine kd (wp_ret ?_);repeat (refine kt ?_)
 refine bodyPost_ret (v:=Tp #[X Y,I J 2]) kr rfl ?_;exact⟨rfl,a⟩
theorem Iv(n:Int)(k:List UInt8)(kn:Nat)(h:gx 0 n 15=true)(w:D):Calls prog 129 #[I J n,sT ⟨k.toArray⟩,X (Z ⟨kn,0,Y⟩)] w fun e w'=>∃v,e=Re v/\(if (lq k).2=true then∃g,v=Tp #[X (Z ⟨g,0,Y⟩),I J 0]/\jh (fun k=>w.heap.size<=k) w' g (St.new n k) kn else v=Tp #[X Y,I J 3])/\O w.heap.size w w':=by
 have b:Hq (∀w,Rt 41 #[sT ⟨k.toArray⟩] w (Tp #[H (tp (si k).1),Bl (si k).2])):=Ts k;rw[NO] at b;obtain⟨p,j⟩:=eX ((si k).1);obtain⟨B,c⟩:=eX ((lq k).2);rw[<-j,<-c] at b;rw[<-c];clear j c;go_enter func129,ntmps129
 refine au ?_;refine pure kr 60 #[I J n,I J 0,I J 15] kr (v:=Bl (gx 0 n 15)) ((qQ 0 n 15 w).mono fun e w' h=>⟨h.1,by rw[h.2];exact Below.refl _ _⟩) ?_;intro w1 d;rw[h];simp only[zD];refine au ?_;refine pure kr 41 #[sT ⟨k.toArray⟩] kr (b.o w1) ?_;intro w2 f;simp only[zD];refine au ?_;refine decl rfl _ rfl (H (tp Dc.t0)) (by rw[Dc.wZ];kernel_rfl) rfl _ _ rfl (tp p) (fun _=>rfl) (fun _=>rfl) (by rw[lE];kernel_rfl) ((lE _).trans (lE _).symm) (Dc.qh _) ?_;intro w3 x r q i;have a:Hq (O w.heap.size w w3):=(tR d f).trans (i.o.mono (Nat.le_trans d.size f.size));clear d f i q r;simp only[zD];refine kv (Bl B) ?_;refine kd (wp_seq ?_);refine wp_seq (kX (kv (Bl B) ?_));cases B with
 |false=>
  refine kv (Bl true) ?_;refine kd (wp_cond_true rfl ?_);refine wp_seq (kX (kv (X Y) ?_));refine kv (I J 3) ?_;refine kd (wp_ret ?_);repeat (refine kt ?_)
  refine bodyPost_ret (v:=Tp #[X Y,I J 3]) kr rfl ?_;exact⟨_,rfl,by rw[if_neg dc],a.o⟩
 |true=>
  refine kv (Bl false) ?_;refine kd (wp_cond_false rfl ?_);refine wp_skip (km ?_);refine wp_seq (kX (kv (I J n) ?_));refine kv (sT ⟨k.toArray⟩) ?_;refine kv (X (Z ⟨kn,0,Y⟩)) ?_;refine kv (H (lF (St.new n k) (.slice none 0 0) kn)) ?_;refine Ks.box rfl _ _ rfl (lF (St.new n k) (.slice none 0 0) kn) rfl ?_;intro w6 g s m l u;simp only[zD];refine kv (X (Z ⟨g,0,Y⟩)) ?_;refine kv (I J 0) ?_;refine kd (wp_ret ?_);repeat (refine kt ?_)
  refine bodyPost_ret (v:=Tp #[X (Z ⟨g,0,Y⟩),I J 0]) kr rfl ?_;have t:w.heap.size<=g:=by rw[s.o];exact a.o.size
  refine⟨_,rfl,?_,a.o.trans (l.o.mono a.o.size)⟩;rw[if_pos dc];exact⟨g,rfl,t,_,m.o,Row.nil _ _ _ _⟩
def pH(s:St)(k:Nat):Array Vl:= #[I J s.floor,I J s.own,I J s.l.length,I J ((held (s.l.take k)).length:Int)]
theorem SS{l:List It}{k:Nat}{y:It}(h:l[k]? =Z y):(held (l.take (k+1))).length=(held (l.take k)).length+(if y.gone then 0 else 1):=by
 obtain⟨b,c⟩:=List.getElem?_eq_some_iff.1 h;unfold held;rw[List.take_succ_eq_append_getElem b,c,List.filter_append,ao];cases a:y.gone<;>simp[a]
def uW(g a b k:Nat)(f:Nat->Vl):Act:={tmps:= #[X (Z ⟨g,0,Y⟩),f 1,X (Z ⟨a,0,Y⟩),X (Z ⟨b,0,Y⟩),I J (k:Int),f 5,f 6,f 7,f 8,f 9,f 10,f 11,f 12,f 13,f 14,f 15,f 16,f 17,f 18,f 19,f 20,f 21,f 22,f 23,f 24,f 25,f 26,f 27,f 28,f 29,f 30,f 31,f 32,f 33,f 34,f 35,f 36,f 37,f 38,f 39,f 40,f 41],defers:=[]}
theorem Fi{s:St}(h:jh S w g s kn)(hn:s.l.length<=100000):Rt 67 #[X (Z ⟨g,0,Y⟩)] w (H (mu s)):=by
 obtain⟨hS,lv,P,b0⟩:=h;have R:Hq (w.heap[g]? =Z (Cl (lF s lv kn) 225 (0,0))):=P;have F:Hq (Row S w 73 5 lv s.l.length (gi s.l)):=b0;have a7:=(aL P);clear P b0;go_enter func67,ntmps67
 refine au ?_;refine Ks.alloc rfl _ rfl (H #[I J 0,I J 0,I J 0,I J 0]) kr #[I J 0,I J 0,I J 0,I J 0] rfl ?_;intro w1 b V z E c6;have c8:w.heap.size<=b:=Nat.le_of_eq V.o.symm;have p:Hq (w1.heap[g]? =Z (Cl (lF s lv kn) 225 (0,0))):=(E.o.block g a7).trans R.o;clear V c6;simp only[zD];refine au ?_;refine Qt.pC 14 kr kr _ rfl 129 rfl #[I J 0,I J 0,I J 0,I J 0] kr ?_;simp only[ak,aE];refine yw (X (Z ⟨g,0,Y⟩)) ?_;refine yw (X (Z ⟨g,0,Y⟩)) ?_;refine yV (X (Z ⟨g,1,Y⟩)) ?_;refine mz rfl _ _ rfl underlying3 rfl g 1 (I J s.floor) rfl (aL p.o) (fy p.o 1 rfl) ?_;simp only[zD];refine yw (X (Z ⟨g,0,Y⟩)) ?_;refine yw (X (Z ⟨g,0,Y⟩)) ?_;refine yV (X (Z ⟨g,2,Y⟩)) ?_;refine mz rfl _ _ rfl underlying3 rfl g 2 (I J s.own) rfl (aL p.o) (fy p.o 2 rfl) ?_;simp only[zD];refine yw (X (Z ⟨g,0,Y⟩)) ?_;refine yw (X (Z ⟨g,0,Y⟩)) ?_;refine yV (X (Z ⟨g,5,Y⟩)) ?_;refine mz rfl _ _ rfl underlying64 rfl g 5 lv rfl (aL p.o) (fy p.o 5 rfl) ?_;simp only[zD];refine kb rfl (I J (s.l.length:Int)) (fun _ _=>by
  rcases F.o.cases with⟨rfl,B,_⟩|⟨d,cap,t,rfl,_⟩
  ·rw[B]
   kernel_rfl
  ·kernel_rfl) ?_
 simp only[zD];refine yV (H (pH s 0)) ?_;refine gh ?_;simp only[ax,aK];intro c w2 M a6 b6;simp only[bI,cw,cz];refine Ks.whole rfl _ _ _ rfl c (pH s 0) rfl rfl b6 kr rfl (by simp[pH,Value.oneCell']) ?_;intro w3 U r u H4;have e2:b<c:=aB (aL z.o) a6;have T:Hq (w3.heap[b]? =_):=(u.o b oM).trans ((M.block b (aL z.o)).trans z.o);have Q:Hq (O w.heap.size w w3):=(tR E M).trans ((r.o (fun _=>False) w.heap.size (oR oM)).below lR (fun _ _ h=>h));clear r u H4 b6 M z E p a6;simp only[aD];refine au ?_;have start:∀a0:Act,a0=uW g b c 0 (fun j=>a0.tmps.getD j undef)->∃(k:Nat)(f:Nat->Vl),a0=uW g b c k f/\k<=s.l.length/\s.l.length=s.l.length-k/\w3.heap[c]? =Z (Cl (pH s k) 129 (0,0))/\w3.heap[b]? =Z (Cl #[I J 0,I J 0,I J 0,I J 0] 129 (0,0))/\O w.heap.size w w3:=fun a0 h=>⟨0,_,h,aF _,rfl,U.o,T.o,Q.o⟩;refine loop (fun m a wr=>∃(k:Nat)(f:Nat->Vl),a=uW g b c k f/\k<=s.l.length/\m=s.l.length-k/\wr.heap[c]? =Z (Cl (pH s k) 129 (0,0))/\wr.heap[b]? =Z (Cl #[I J 0,I J 0,I J 0,I J 0] 129 (0,0))/\O w.heap.size w wr) s.l.length (start _ rfl) ?_;clear start U T Q;rintro m a wr ⟨k,f,rfl,hk,rfl,hT,hR,L⟩;have fin:∀(A:Act)(w':D) q,A=uW g b c q (fun j=>A.tmps.getD j undef)->k<q->q<=s.l.length->w'.heap[c]? =Z (Cl (pH s q) 129 (0,0))->w'.heap[b]? =Z (Cl #[I J 0,I J 0,I J 0,I J 0] 129 (0,0))->O w.heap.size w w'->∃m,m<s.l.length-k/\∃(k:Nat)(f:Nat->Vl),A=uW g b c k f/\k<=s.l.length/\m=s.l.length-k/\w'.heap[c]? =Z (Cl (pH s k) 129 (0,0))/\w'.heap[b]? =Z (Cl #[I J 0,I J 0,I J 0,I J 0] 129 (0,0))/\O w.heap.size w w':=
  fun A w' q h1 h2 h3 h4 K h6=>⟨s.l.length-q,oM,q,_,h1,h3,rfl,h4,K,h6⟩
 have W:Hq _:=fin;clear fin;have v:Hq _:=hT;have G:Hq _:=hR;have x:Hq (O w.heap.size w wr):=L;have HG:Hq (wr.heap[g]? =Z (Cl (lF s lv kn) 225 (0,0))):=(L.block g a7).trans R.o;clear hT hR L;unfold uW;refine au ?_;refine Ks.val rfl (I J (s.l.length:Int)) (by
  rcases F.o.cases with⟨rfl,B,_⟩|⟨d,cap,t,rfl,_⟩
  ·rw[B]
   kernel_rfl
  ·kernel_rfl) ?_
 simp only[zD];refine au ?_;refine wp_cond_split rfl ?_ ?_
 ·intro i
  have i:k<s.l.length:=by have:=of_decide_eq_true i;omega
  obtain⟨y,hy⟩:∃y,s.l[k]? =Z y:=⟨_,ae i⟩;have C:=SS hy;obtain⟨d,cap,t,rfl,e3,N,_,_,_,b1⟩:∃d cap t,lv= .slice (Z ⟨d,0,Y⟩) s.l.length cap/\S d/\w.heap[d]? =Z (Cl t 73 (0,0))/\s.l.length<=cap/\cap<=maxLen/\t.size=cap*5/\t.toList.take (s.l.length*5)=gi s.l:=by
   rcases F.o.cases with⟨_,B,_⟩|h
   ·omega
   ·exact h
  have c4:Hq (w.rangeAt d (k*5) (fF y)):=Row.range qD N b1 hy;have c9:=(aL N);clear N b1;refine wp_skip (km ?_);refine wp_seq (wp_block ?_);refine wp_seq (kX (kv (X (Z ⟨g,0,Y⟩)) ?_));refine kv (X (Z ⟨g,0,Y⟩)) ?_;refine kv (X (Z ⟨g,5,Y⟩)) ?_;refine Ks.cell rfl _ _ rfl underlying64 rfl g 5 _ rfl (fy HG.o 5 rfl) ?_;simp only[zD];refine kv (I J (k:Int)) ?_;refine Ks.idx kr _ _ _ rfl 73 5 underlying64 kr kr d _ cap k rfl rfl i ?_;simp only[zD];refine kv (X (Z ⟨d,k*5+4,Y⟩)) ?_;refine Ks.cell rfl _ _ rfl underlying4 rfl d (k*5+4) (Bl y.gone) rfl (lX c4.o x.o c9 4 _ rfl) ?_;simp only[zD];have K:∀(n:Nat),n<=100000->IntKind.i64.wrap ((n:Int)+1)=((n+1:Nat):Int):=fun n h=>by
   rw[az _ ⟨oM,oM⟩];omega
  have e1:(held (s.l.take k)).length<=100000:=by
   have h1:(held (s.l.take k)).length<=(s.l.take k).length:=List.length_filter_le _ _;rw[List.length_take] at h1;omega
  cases a8:y.gone with
  |true=>
   rw[a8,if_pos rfl] at C;refine kv (Bl false) ?_;refine kd (wp_cond_false rfl ?_);refine wp_skip (mr ?_);refine kX (kv (I J (k:Int)) ?_);refine Ks.val rfl (I J ((k+1:Nat):Int)) (by
    simp[execOp,go_sem];rw[az _ ⟨oM,oM⟩]) ?_
   simp only[zD];refine kv (I J ((k+1:Nat):Int)) ?_;refine kd ?_;have e:pH s (k+1)=pH s k:=by
    unfold pH;rw[C,Nat.add_zero]
   exact W.o _ _ (k+1) rfl oM i (by rw[e];exact v.o) G.o x.o
  |false=>
   rw[a8,if_neg dc] at C;refine kv (Bl true) ?_;refine kd (wp_cond_true rfl ?_);refine kX (kv (X (Z ⟨c,3,Y⟩)) ?_);refine Ks.cell rfl _ _ rfl underlying3 rfl c 3 _ rfl (fy v.o 3 rfl) ?_;simp only[zD];refine Ks.val rfl (I J (((held (s.l.take (k+1))).length:Nat):Int)) (by
    rw[C,<-K _ e1];simp[execOp,go_sem];rfl) ?_
   simp only[zD];refine kv (X (Z ⟨c,3,Y⟩)) ?_;refine Ks.store rfl _ _ _ rfl c 3 _ rfl rfl v.o (by show 3<4;omega) kr rfl (pH s (k+1)) rfl ?_;intro w4 c7 r u H4;have b8:Hq (w4.heap[b]? =_):=(u.o b oM).trans G.o;have b7:Hq (O w.heap.size w w4):=x.o.trans ((r.o (fun _=>False) w.heap.size (oR oM)).below lR (fun _ _ h=>h));simp only[aD];refine Ks.fin (mr ?_);refine kX (kv (I J (k:Int)) ?_);refine Ks.val rfl (I J ((k+1:Nat):Int)) (by
    simp[execOp,go_sem];rw[az _ ⟨oM,oM⟩]) ?_
   simp only[zD];refine kv (I J ((k+1:Nat):Int)) ?_;refine kd ?_;exact W.o _ _ (k+1) rfl oM i c7.o b8.o b7.o
 ·intro i
  obtain rfl:k=s.l.length:=by have:=of_decide_eq_false i;omega
  refine au ?_;have e:pH s s.l.length=mu s:=by
   unfold pH mu;rw[List.take_of_length_le lR]
  rw[e] at v;refine au ?_;refine Ks.row rfl _ _ rfl c rfl v.o underlying129 rfl kr ?_;simp only[zD];refine Ks.whole rfl _ _ _ rfl b (mu s) rfl rfl G.o kr rfl (by simp[mu,Value.oneCell']) ?_;intro w5 c0 r u H4;simp only[aD];refine kd (wp_ret ?_);exact Own.jM results67 rfl b _ (mu s) _ _ rfl c0.o underlying129 rfl kr ⟨rfl,x.o.trans ((r.o (fun _=>False) w.heap.size (oR c8)).below lR (fun _ _ h=>h))⟩
