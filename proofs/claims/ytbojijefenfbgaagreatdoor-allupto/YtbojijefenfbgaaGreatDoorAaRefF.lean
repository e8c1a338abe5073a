/- Walk of the document's gate: Admit. Walk of the document's gate: Close. Lists written full with one mark; what is put behind one leaves it, and all others, as they were. -/
import Derived.Test.YtbojijefenfbgaaGreatDoorAaRefC
open Go.Sem renaming run_bind->aH,run_pure->aR
open Go.Result renaming andThen_ok->ar
open Nat renaming lt_of_lt_of_le->aB,le_trans->ag,zero_le->aF,le_succ->iX,add_mul->dB,mul_comm->bJ,sub_mul_mod->kQ
open List renaming getElem?_eq_some_iff->aQ,take_succ_eq_append_getElem->cR,mem_filter->bK,head?_eq_getElem?->ed,getElem?_eq_getElem->ae,take_succ_cons->ak,take_zero->aE,drop_succ_cons->ax,drop_zero->aK,length_take->aY,ext_getElem?->dw,getElem?_take_of_lt->aO,getElem?_eq_none->bN,length_append->ao,length_map->aS,length_drop->dN,getElem?_append_right->dE,getElem?_drop->gC,getElem?_take->jN,getElem?_append->jr
open Go.IntWalk renaming i64_in->az
open Classical renaming byContradiction->bt
open Array renaming getElem?_toList->dm,length_toList->bw
open Option renaming some->Z,none->Y
open Go.Value renaming int->I,pointer->X,bool->Bl,string->sT,tuple->Tp
open Go.IntKind renaming i64->J
open Go.Obj renaming cells->Cl
open Go.Ending renaming returned->Re
open Go renaming World->D,Value->Vl
open Go.RowKit renaming Below->O
set_option maxHeartbeats 4000000
set_option maxRecDepth 100000
open Go Go.RowKit
open Go.Proofs.YtbojijefenfbgaaGreatDoor
open Ks(ml au pure loop mr pN setL)
open Gw(ga)
variable{B g k kn n sz:Nat}{F:Int}{R:List UInt8->List UInt8->List UInt8->Bool}{S SK:Nat->Prop}{e:TypeId}{f:Nat->Vl}{v:Vl}
namespace Go.Proofs.YtbojijefenfbgaaGreatDoor
open Tryz
namespace Gt
open Mp Bk Tk
section
variable {ops:Array Oper} {rest:List Oper} {o:Oper} {a:Act} {w:D} {Q:Exit->Act->D->Prop}
theorem MD(l:List UInt8)(i j:Nat)(a:i<=j)(b:j<=l.length)(w:D):(Instr.slice 9 (sT ⟨l.toArray⟩) (Z (I J (i:Int))) (Z (I J (j:Int))) Y).run prog w= .ok (sT ⟨((l.drop i).take (j-i)).toArray⟩) w:=by
 rw[run_slice_string w 9 ⟨l.toArray⟩ .i64 .i64 (i:Int) (j:Int) underlying9 oM oM (by show(j:Int)<=(l.length:Int);omega),Int.toNat_natCast,Int.toNat_natCast,Sw.uI]
theorem wE(d:Region.wanted o (yielded ops a.tmps)=true)(x ix:Operand)(c:o.op= .index 9 x ix)(l:List UInt8)(k:Nat)(b:k<l.length)(e:a.eval x=sT ⟨l.toArray⟩)(hi:a.eval ix=I J (k:Int))
  (h:wpList prog ops Q rest (a.put o.dst (I .u8 ((l[k]).toNat:Int))) w):wpList prog ops Q (o::rest) a w:=by
 refine ml d _ ?_ h;have h1:=Dc.tG w ⟨l.toArray⟩ k (by exact b) k rfl;unfold execOp;simp only[c,e,hi,h1,aH,ar,aR];rfl
theorem B3(e:Region.wanted o (yielded ops a.tmps)=true)(x y z:Operand)(d:o.op= .slice 9 x (Z y) (Z z) Y)(l:List UInt8)(i j:Nat)(b:i<=j)(c:j<=l.length)(f:a.eval x=sT ⟨l.toArray⟩)(g:a.eval y=I J (i:Int))(k:a.eval z=I J (j:Int))
  (h:wpList prog ops Q rest (a.put o.dst (sT ⟨((l.drop i).take (j-i)).toArray⟩)) w):wpList prog ops Q (o::rest) a w:=by
 refine ml e _ ?_ h;unfold execOp;have hu:=run_underlying (P:=prog) underlying9 w;simp only[d,f,g,k,Instr.sliceAt,hu,Option.map_some,Option.map_none,MD l i j b c w,aH,ar,aR]
end
theorem jh.cut{w:D}{s:St}(h:jh S w g s kn)(d:w.heap.size<=B):jh (fun k=>S k/\k<B) w g s kn:=by
 have i:=h.lt;obtain⟨e,lv,f,a⟩:=h;exact⟨⟨e,oM⟩,lv,f,a.1,fun b c=>⟨a.2 b c,aB (a.lt b c) d⟩⟩
theorem jV.cut{w:D}{ks:List lS}(h:jV R S w kn ks)(c:w.heap.size<=B):jV R (fun k=>S k/\k<B) w kn ks:=by
 have i:=h.lt;obtain⟨e,d,lv,g,f,h1,h2⟩:=h;exact⟨⟨e,oM⟩,d,lv,g,f,⟨h1.1,fun b a=>⟨h1.2 b a,aB (h1.lt b a) c⟩⟩,⟨h2.1,fun b a=>⟨h2.2 b a,aB (h2.lt b a) c⟩⟩⟩
theorem jV.mono{T:Nat->Prop}{w:D}{ks:List lS}(h:jV R S w kn ks)(a:∀k,S k->T k):jV R T w kn ks:=h.congr a fun _ _ _=>rfl
def Left(S SK:Nat->Prop)(w w':D)(g kn:Nat)(c:St)(n:Nat):Prop:=
 ∃a b ks',(∀j,a j->S j\/w.heap.size<=j)/\(∀j,b j->SK j\/w.heap.size<=j)/\(∀j,a j->¬b j)/\ks'.length<=n+1/\jh a w' g c kn/\jV ga b w' kn ks'/\Fr (fun j=>S j\/SK j) w.heap.size w w'
def uQ(g:Nat)(l:List UInt8)(i:Nat)(f:Nat->Vl):Act:={tmps:= #[X (Z ⟨g,0,Y⟩),sT ⟨l.toArray⟩,f 2,f 3,I J 0,f 5,I J (gX l),I J (lK l),I J (i:Int),f 9,f 10,f 11,f 12,f 13,f 14,f 15,f 16,f 17,f 18,f 19,f 20,f 21,f 22,f 23,f 24,f 25,f 26,f 27,f 28,f 29,f 30,f 31,f 32,f 33,f 34,f 35,f 36,f 37,f 38,f 39,f 40,f 41,f 42,f 43,f 44,f 45,f 46,f 47,f 48,f 49,f 50,f 51,f 52,f 53,f 54,f 55,f 56,f 57,f 58,f 59,f 60,f 61,f 62,f 63,f 64,f 65,f 66,f 67,f 68,f 69,f 70,f 71,f 72,f 73,f 74,f 75,f 76,f 77,f 78,f 79,f 80,f 81,f 82,f 83,f 84,f 85,f 86,f 87,f 88,f 89,f 90,f 91,f 92,f 93,f 94,f 95,f 96,f 97,f 98,f 99,f 100,f 101,f 102,f 103,f 104,f 105,f 106,f 107,f 108,f 109,f 110],defers:=[]}
def tY(l:List It)(p:Int×Int)(k:Nat):Prop:=∀y∈held (l.take k),y.pass≠p
theorem CG{l:List It}{p:Int×Int}{y:It}(h:tY l p k)(b:l[k]? =Z y)(d:¬(y.gone=false/\y.pass=p)):tY l p (k+1):=by
 obtain⟨c,b⟩:=aQ.1 b;intro z a;unfold held at a;rw[cR c,b,List.filter_append,List.mem_append] at a;rcases a with a|a
 ·exact h z a
 ·obtain⟨h1,h2⟩:=bK.1 a
  simp at h1;subst h1;exact fun e=>d ⟨by simpa using h2,e⟩
theorem Qs(g:Nat)(l:List UInt8)(c:l.length≠72\/l.head? ≠Z 84)(w:D):Rt 131 #[X (Z ⟨g,0,Y⟩),sT ⟨l.toArray⟩] w (I J 4):=by
 go_enter func131,ntmps131
 refine wp_seq (kX (kv (I J 0) ?_));refine kd (wp_seq ?_);refine wp_seq (kX (kv (sT ⟨l.toArray⟩) ?_));refine kv (I J (l.length:Int)) ?_;by_cases a:l.length=72
 ·have b:=c.resolve_left (fun x=>x a)
  have d:l[0]'oM≠84:=fun e=>b (by rw[ed,ae oM,e]);refine Ks.val rfl (Bl false) (by simp[execOp,go_sem,a]) ?_;simp only[zD];refine au ?_;refine wE kr _ _ rfl l 0 oM rfl rfl ?_;simp only[zD];refine ml kr (Bl true) (by
   have:(l[0]'oM).toNat≠84:=fun e=>d (UInt8.toNat_inj.1 e);simp[execOp,go_sem];omega) ?_
  simp only[zD];refine kv (Bl true) ?_;refine kd (wp_cond_true rfl ?_);refine wp_seq (kX (kv (I J 4) ?_));refine kd (wp_ret ?_);repeat (refine kt ?_)
  refine bodyPost_ret (v:=I J 4) kr rfl ?_;exact⟨rfl,Below.refl _ _⟩
 ·refine Ks.val rfl (Bl true) (by simp[execOp,go_sem];omega) ?_
  simp only[zD];refine kv (Bl true) ?_;(with_reducible refine ab ?_;refine ab ?_;refine ab ?_);refine kv (Bl true) ?_;refine kd (wp_cond_true rfl ?_);refine wp_seq (kX (kv (I J 4) ?_));refine kd (wp_ret ?_);repeat (refine kt ?_)
  refine bodyPost_ret (v:=I J 4) kr rfl ?_;exact⟨rfl,Below.refl _ _⟩
theorem Ub{w:D}{s:St}{ks:List lS}(h:jh S w g s kn)(hK:jV ga SK w kn ks)(hd:∀j,S j->¬SK j)(hI:Inv s)(hn:ks.length<=20000000000)(l:List UInt8)(hl:l.length=72)(N:l.head? =Z 84):Calls prog 131 #[X (Z ⟨g,0,Y⟩),sT ⟨l.toArray⟩] w fun e w'=>e=Re (I J (nH s l).1)/\Left S SK w w' g kn (nH s l).2 ks.length:=by
 have U:Hq (jh (fun k=>S k/\k<w.heap.size) w g s kn):=h.cut lR;have HK:Hq (jV ga (fun k=>SK k/\k<w.heap.size) w kn ks):=hK.cut lR;have q:Hq (nH s l=_):=show fi ga s l=_ by
  unfold fi;rw[if_neg (by simp[hl,N])]
 have l6:=hI.kB;clear h hK;have e5:(l[0]'oM).toNat=84:=by
  rw[ed,ae oM] at N;injection N with N
  rw[N];rfl
 go_enter func131,ntmps131
 refine wp_seq (kX (kv (I J 0) ?_));refine kd (wp_seq ?_);refine wp_seq (kX (kv (sT ⟨l.toArray⟩) ?_));refine kv (I J (l.length:Int)) ?_;refine Ks.val rfl (Bl false) (by simp[execOp,go_sem,hl]) ?_;simp only[zD];refine au ?_;refine wE kr _ _ rfl l 0 oM rfl rfl ?_;rw[e5];simp only[zD];refine kg (Bl false) ?_;refine kv (Bl false) ?_;refine kd (wp_cond_false rfl ?_);refine wp_skip (km (wp_seq ?_));clear e5;have h9:Hq _:=U.o;obtain⟨_,lv,hg,l1⟩:=U.o;have T:Hq (w.heap[g]? =Z (Cl (lF s lv kn) 225 (0,0))):=hg;clear hg l1 h9;have b8:=(aL T.o);refine Qt.im 12 kr kr ?_;simp only[ak,aE];refine yw (X (Z ⟨g,0,Y⟩)) ?_;refine yw (X (Z ⟨g,0,Y⟩)) ?_;refine yV (X (Z ⟨g,6,Y⟩)) ?_;refine mz rfl _ _ rfl underlying118 rfl g 6 (X (Z ⟨kn,0,Y⟩)) rfl b8 (fy T.o 6 rfl) ?_;simp only[zD];refine yw (X (Z ⟨g,0,Y⟩)) ?_;refine yw (X (Z ⟨g,0,Y⟩)) ?_;refine yV (X (Z ⟨g,3,Y⟩)) ?_;refine mz rfl _ _ rfl underlying9 rfl g 3 (str s.key) rfl b8 (fy T.o 3 rfl) ?_;simp only[zD];refine yV (sT ⟨l.toArray⟩) ?_;refine wO rfl _ _ rfl l 8 oM rfl rfl ?_;simp only[zD];refine yV (sT ⟨l.toArray⟩) ?_;refine wP rfl _ _ rfl l 8 oM rfl rfl ?_;simp only[zD];refine Qt.gh ?_;simp only[ax,aK];intro w1 t;obtain⟨R,hR⟩:=eX (ga s.key (l.take 8) (l.drop 8));rw[<-hR] at q;refine Ks.call rfl 203 #[X (Z ⟨kn,0,Y⟩),str s.key,str (l.take 8),str (l.drop 8)] kr (R:=fun v w'=>v=Bl R/\(∃ks',ks'.length<=ks.length+1/\jV ga (fun j=>(SK j/\j<w.heap.size)\/w1.heap.size<=j) w' kn ks')/\Fr (fun j=>SK j/\j<w.heap.size) w1.heap.size w1 w') (by rw[hR];exact B4 (HK.o.below t) s.key (l.take 8) (l.drop 8) (by rw[aY];omega) hn) ?_;rintro v w2 ⟨rfl,⟨ks',h5,e1⟩,b6⟩;have Q:Hq (Fr (fun j=>S j\/SK j) w.heap.size w w2):=(Fr.kq t lR).trans (b6.mono t.size fun j _ h=>oR h.1);have b0:Hq (jh (fun k=>S k/\k<w.heap.size) w2 g s kn):=U.o.congr (fun _ h=>h) fun k E n=>(b6.block k (aB n t.size) (fun h=>hd k E.1 h.1)).trans (t.block k n);have a8:Hq (jV ga (fun j=>(SK j\/w.heap.size<=j)/\j<w2.heap.size) w2 kn ks'):=(e1.mono fun j c=>c.elim (fun h=>oL h.1) fun h=>oR (ag t.size h)).cut lR;have c4:w.heap.size<=w2.heap.size:=Q.o.size;clear t e1 b6 HK U T hR lv b8;simp only[zD];refine au ?_;have out:∀w',O w2.heap.size w2 w'->Left S SK w w' g kn s ks.length:=fun w' L=>⟨_,_,ks',fun j c=>oL c.1,fun j c=>c.1,fun j c E=>E.1.elim (fun h=>hd j c.1 h) (fun h=>by have:=c.2;omega),h5,b0.o.below L,a8.o.below L,Q.o.calls L c4⟩;have G:Hq _:=out;clear out;refine au ?_;refine B3 kr _ _ _ rfl l 1 3 oM oM rfl rfl rfl ?_;simp only[zD];refine pure kr 204 #[sT ⟨((l.drop 1).take 2).toArray⟩] kr (v:=I J (gX l)) (Bo ((l.drop 1).take 2) (by rw[aY];omega) w2) ?_;intro w3 e2;simp only[zD];refine au ?_;refine B3 kr _ _ _ rfl l 3 7 oM oM rfl rfl rfl ?_;simp only[zD];refine pure kr 204 #[sT ⟨((l.drop 3).take 4).toArray⟩] kr (v:=I J (lK l)) (Bo ((l.drop 3).take 4) (by rw[aY];omega) w3) ?_;intro w4 e3;have r:=tq e2 e3;have c9:Hq (jh (fun k=>S k/\k<w.heap.size) w4 g s kn):=b0.o.below r.o;clear e2 e3;simp only[zD];refine kv (I J (lK l)) ?_;refine kd (wp_seq ?_);refine wp_seq (kX (kv (Bl R) ?_));cases R with
 |false=>
  refine kv (Bl true) ?_;refine kd (wp_cond_true rfl ?_);refine wp_seq (kX (kv (I J 5) ?_));refine kd (wp_ret ?_);repeat (refine kt ?_)
  refine bodyPost_ret (v:=I J 5) kr rfl ?_;rw[q.o,if_pos rfl];exact⟨rfl,G.o w4 r.o⟩
 |true=>
  rw[if_neg dc] at q;obtain⟨W,lv,e7,h6⟩:=c9.o;have p:Hq (w4.heap[g]? =Z (Cl (lF s lv kn) 225 (0,0))):=e7;have F:Hq (Row (fun k=>S k/\k<w.heap.size) w4 73 5 lv s.l.length (gi s.l)):=h6;clear e7 h6;refine au ?_;refine wp_cond_split rfl ?_ ?_
  ·intro u
   have u:=of_decide_eq_true u;refine wp_seq (kX (kv (I J 6) ?_));refine kd (wp_ret ?_);repeat (refine kt ?_)
   refine bodyPost_ret (v:=I J 6) kr rfl ?_;rw[q.o,if_pos u];exact⟨rfl,G.o w4 r.o⟩
  ·intro u
   have u:=of_decide_eq_false u;rw[if_neg u] at q;refine au ?_;have start:∀a0:Act,a0=uQ g l 0 (fun j=>a0.tmps.getD j undef)->w4=w4/\∃(i:Nat)(f:Nat->Vl),a0=uQ g l i f/\i<=s.l.length/\s.l.length=s.l.length-i/\tY s.l (gX l,lK l) i:=fun a0 h=>⟨rfl,0,_,h,aF _,rfl,fun y A=>by simp[held] at A⟩;refine loop (fun m a wr=>wr=w4/\∃(i:Nat)(f:Nat->Vl),a=uQ g l i f/\i<=s.l.length/\m=s.l.length-i/\tY s.l (gX l,lK l) i) s.l.length (start _ rfl) ?_;clear start;rintro m a wr ⟨rfl,i,f,rfl,hi,rfl,a6⟩;have fin:∀(V:Act) B,V=uQ g l B (fun j=>V.tmps.getD j undef)->i<B->B<=s.l.length->tY s.l (gX l,lK l) B->∃m,m<s.l.length-i/\wr=wr/\∃(i:Nat)(f:Nat->Vl),V=uQ g l i f/\i<=s.l.length/\m=s.l.length-i/\tY s.l (gX l,lK l) i:=
    fun V B h1 h2 h3 h4=>⟨s.l.length-B,oM,rfl,B,_,h1,h3,rfl,h4⟩
   have b3:Hq _:=fin;clear fin;unfold uQ;refine au ?_;refine Ks.val rfl (I J (s.l.length:Int)) (by
    rcases F.o.cases with⟨rfl,h0,_⟩|⟨d,cap,H,rfl,_⟩
    ·rw[h0]
     kernel_rfl
    ·kernel_rfl) ?_
   simp only[zD];refine au ?_;refine wp_cond_split rfl ?_ ?_
   ·intro n
    have n:i<s.l.length:=by have:=of_decide_eq_true n;omega
    obtain⟨y,A⟩:∃y,s.l[i]? =Z y:=⟨_,ae n⟩;obtain⟨d,cap,H,rfl,l7,e4,_,_,_,h8⟩:∃d cap H,lv= .slice (Z ⟨d,0,Y⟩) s.l.length cap/\(S d/\d<w.heap.size)/\wr.heap[d]? =Z (Cl H 73 (0,0))/\s.l.length<=cap/\cap<=maxLen/\H.size=cap*5/\H.toList.take (s.l.length*5)=gi s.l:=by
     rcases F.o.cases with⟨_,h0,_⟩|h
     ·omega
     ·exact h
    have b2:Hq (wr.rangeAt d (i*5) (fF y)):=Row.range qD e4 h8 A;clear e4 h8;refine wp_skip (km ?_);refine wp_seq (wp_block ?_);refine wp_seq (kX (kv (X (Z ⟨g,0,Y⟩)) ?_));refine kv (X (Z ⟨g,0,Y⟩)) ?_;refine kv (X (Z ⟨g,5,Y⟩)) ?_;refine Ks.cell rfl _ _ rfl underlying64 rfl g 5 _ rfl (fy p.o 5 rfl) ?_;simp only[zD];refine kv (I J (i:Int)) ?_;refine Ks.idx kr _ _ _ rfl 73 5 underlying64 kr kr d _ cap i rfl rfl n ?_;simp only[zD];refine kv (X (Z ⟨d,i*5+4,Y⟩)) ?_;refine Ks.cell rfl _ _ rfl underlying4 rfl d (i*5+4) (Bl y.gone) rfl (b2.o 4 _ rfl) ?_;simp only[zD];cases e9:y.gone with
    |true=>
     have P:¬(y.gone=false/\y.pass=(gX l,lK l)):=fun h=>by
      rw[e9] at h;cases h.1
     refine kv (Bl false) ?_;refine kv (Bl false) ?_;(with_reducible refine ab ?_;refine ab ?_;refine ab ?_;refine ab ?_;refine ab ?_;refine ab ?_;refine ab ?_;refine ab ?_;refine ab ?_;refine ab ?_);refine kv (Bl false) ?_;refine kv (Bl false) ?_;(with_reducible refine ab ?_;refine ab ?_;refine ab ?_;refine ab ?_;refine ab ?_;refine ab ?_;refine ab ?_;refine ab ?_;refine ab ?_;refine ab ?_);refine kv (Bl false) ?_;refine kd (wp_cond_false rfl ?_);refine wp_skip (mr ?_);refine kX (kv (I J (i:Int)) ?_);refine Ks.val rfl (I J ((i+1:Nat):Int)) (by
      simp[execOp,go_sem];rw[az _ ⟨oM,oM⟩]) ?_
     simp only[zD];refine kv (I J ((i+1:Nat):Int)) ?_;refine kd ?_;exact b3.o _ (i+1) rfl oM n (CG a6 A P)
    |false=>
     refine kv (Bl true) ?_;refine kv (Bl true) ?_;refine kg (X (Z ⟨g,0,Y⟩)) ?_;refine kg (X (Z ⟨g,0,Y⟩)) ?_;refine kg (X (Z ⟨g,5,Y⟩)) ?_;refine pN kr _ _ rfl underlying64 rfl g 5 _ rfl (fy p.o 5 rfl) ?_;simp only[zD];refine kg (I J (i:Int)) ?_;refine Ks.idx kr _ _ _ rfl 73 5 underlying64 kr kr d _ cap i rfl rfl n ?_;simp only[zD];refine kg (X (Z ⟨d,i*5+2,Y⟩)) ?_;refine pN kr _ _ rfl underlying3 rfl d (i*5+2) (I J y.br) rfl (b2.o 2 _ rfl) ?_;simp only[zD];refine kg (I J (gX l)) ?_;by_cases he:y.br=gX l
     ·refine ml kr (Bl true) (by simp[execOp,go_sem,he]) ?_
      simp only[zD];refine kv (Bl true) ?_;refine kv (Bl true) ?_;refine kg (X (Z ⟨g,0,Y⟩)) ?_;refine kg (X (Z ⟨g,0,Y⟩)) ?_;refine kg (X (Z ⟨g,5,Y⟩)) ?_;refine pN kr _ _ rfl underlying64 rfl g 5 _ rfl (fy p.o 5 rfl) ?_;simp only[zD];refine kg (I J (i:Int)) ?_;refine Ks.idx kr _ _ _ rfl 73 5 underlying64 kr kr d _ cap i rfl rfl n ?_;simp only[zD];refine kg (X (Z ⟨d,i*5+3,Y⟩)) ?_;refine pN kr _ _ rfl underlying3 rfl d (i*5+3) (I J y.ba) rfl (b2.o 3 _ rfl) ?_;simp only[zD];refine kg (I J (lK l)) ?_;by_cases hs:y.ba=lK l
      ·refine ml kr (Bl true) (by simp[execOp,go_sem,hs]) ?_
       simp only[zD];refine kv (Bl true) ?_;refine kd (wp_cond_true rfl ?_);refine wp_seq (kX (kv (I J 7) ?_));refine kd (wp_ret ?_);repeat (first|refine kt ?_|refine Ks.mB ?_)
       refine bodyPost_ret (v:=I J 7) kr rfl ?_;have j5:∃x∈held s.l,x.pass=(gX l,lK l):=⟨y,bK.2 ⟨List.mem_of_getElem? A,by simp[e9]⟩,Prod.ext he hs⟩;rw[q.o,if_pos j5];exact⟨rfl,G.o wr r.o⟩
      ·have P:¬(y.gone=false/\y.pass=(gX l,lK l)):=fun h=>hs (congrArg Prod.snd h.2)
       refine ml kr (Bl false) (by simp[execOp,go_sem,hs]) ?_;simp only[zD];refine kv (Bl false) ?_;refine kd (wp_cond_false rfl ?_);refine wp_skip (mr ?_);refine kX (kv (I J (i:Int)) ?_);refine Ks.val rfl (I J ((i+1:Nat):Int)) (by
        simp[execOp,go_sem];rw[az _ ⟨oM,oM⟩]) ?_
       simp only[zD];refine kv (I J ((i+1:Nat):Int)) ?_;refine kd ?_;exact b3.o _ (i+1) rfl oM n (CG a6 A P)
     ·have P:¬(y.gone=false/\y.pass=(gX l,lK l)):=fun h=>he (congrArg Prod.fst h.2)
      refine ml kr (Bl false) (by simp[execOp,go_sem,he]) ?_;simp only[zD];refine kv (Bl false) ?_;refine kv (Bl false) ?_;(with_reducible refine ab ?_;refine ab ?_;refine ab ?_;refine ab ?_;refine ab ?_;refine ab ?_;refine ab ?_;refine ab ?_;refine ab ?_;refine ab ?_);refine kv (Bl false) ?_;refine kd (wp_cond_false rfl ?_);refine wp_skip (mr ?_);refine kX (kv (I J (i:Int)) ?_);refine Ks.val rfl (I J ((i+1:Nat):Int)) (by
       simp[execOp,go_sem];rw[az _ ⟨oM,oM⟩]) ?_
      simp only[zD];refine kv (I J ((i+1:Nat):Int)) ?_;refine kd ?_;exact b3.o _ (i+1) rfl oM n (CG a6 A P)
   ·intro n
    obtain rfl:i=s.l.length:=by have:=of_decide_eq_false n;omega
    have j9:¬∃x∈held s.l,x.pass=(gX l,lK l):=fun⟨x,hx,e⟩=>a6 x (by rw[List.take_of_length_le lR];exact hx) e;rw[if_neg j9] at q;refine au ?_;refine wp_cond_split rfl ?_ ?_
    ·intro z
     have z:=of_decide_eq_true z;refine wp_seq (kX (kv (I J 8) ?_));refine kd (wp_ret ?_);repeat (refine kt ?_)
     refine bodyPost_ret (v:=I J 8) kr rfl ?_;rw[q.o,if_pos z];exact⟨rfl,G.o wr r.o⟩
    ·intro z
     have z:=of_decide_eq_false z;rw[if_neg z] at q;refine au ?_;refine Ks.val rfl (I J (s.own+1)) (by
      have h1:=hI.own;simp[execOp,go_sem];exact az _ ⟨oM,oM⟩) ?_
     simp only[zD];refine au ?_;refine Ks.store rfl _ _ _ rfl g 2 _ rfl rfl p.o (by show 2<7;omega) kr rfl (lF {s with own:=s.own+1} lv kn) rfl ?_;intro w9 c7 H2 H3 H4;have b1:Hq (jh (fun k=>S k/\k<w.heap.size) w9 g {s with own:=s.own+1} kn):=⟨W,lv,c7.o,F.o.congr fun b L=>H3.o b (fun e=>s' F.o p.o dc (by rw[L,e]))⟩;have c8:Hq (jV ga (fun j=>(SK j\/w.heap.size<=j)/\j<w2.heap.size) w9 kn ks'):=(a8.o.below r.o).congr (fun _ h=>h) fun j c _=>H3.o j (fun e=>by
      subst e;exact c.1.elim (fun h=>hd _ W.1 h) (fun h=>by have:=W.2;omega))
     have a7:Hq (Fr (fun j=>S j\/SK j) w.heap.size w w9):=(Q.o.calls r.o c4).trans (H2.o _ _ (oL (oL W.1)));have h7:w2.heap.size<=w9.heap.size:=by
      rw[H4.o];exact r.o.size
     clear H2 H3 H4 c7 p F G c9 b0 a8 Q r;simp only[Act.put];refine au ?_;obtain⟨l5,l4,b7,l2⟩:=b1.o;have p:Hq (w9.heap[g]? =Z (Cl (lF {s with own:=s.own+1} l4 kn) 225 (0,0))):=b7;have c0:=(aL b7);clear b7 l2;refine Qt.im 12 kr kr ?_;simp only[ak,aE];refine yw (X (Z ⟨g,0,Y⟩)) ?_;refine yw (X (Z ⟨g,0,Y⟩)) ?_;refine yw (X (Z ⟨g,0,Y⟩)) ?_;refine yV (X (Z ⟨g,0,Y⟩)) ?_;refine mz rfl _ _ rfl underlying3 rfl g 0 (I J s.number) rfl c0 (fy p.o 0 rfl) ?_;simp only[zD];refine yw (X (Z ⟨g,0,Y⟩)) ?_;refine yw (X (Z ⟨g,0,Y⟩)) ?_;refine yV (X (Z ⟨g,2,Y⟩)) ?_;refine mz rfl _ _ rfl underlying3 rfl g 2 (I J (s.own+1)) rfl c0 (fy p.o 2 rfl) ?_;simp only[zD];refine yw (I J (gX l)) ?_;refine yV (I J (lK l)) ?_;refine yV (lO (s.fresh l)) ?_;refine Qt.gh ?_;simp only[ax,aK];intro C M;have j2:Hq (jh (fun k=>S k/\k<w.heap.size) C g {s with own:=s.own+1} kn):=b1.o.below M;have j0:Hq (jV ga (fun j=>(SK j\/w.heap.size<=j)/\j<w2.heap.size) C kn ks'):=c8.o.below M;have l3:w2.heap.size<=C.heap.size:=ag h7 M.size;have c6:Hq (Fr (fun j=>S j\/SK j) w.heap.size w C):=a7.o.calls M a7.o.size;clear M b1 c8 a7 p h7 c0;refine Ks.call rfl 205 #[X (Z ⟨g,0,Y⟩),lO (s.fresh l)] kr (R:=fun v w'=>v=Tp #[]/\jh (fun k=>(S k/\k<w.heap.size)\/C.heap.size<=k) w' g {s with own:=s.own+1,l:=ins (s.fresh l) s.l} kn/\Fr (fun k=>S k/\k<w.heap.size) C.heap.size C w') ((EA j2.o (s.fresh l) (by show s.l.length<=_;omega)).mono fun e w' h=>⟨_,h.1,rfl,h.2.1,h.2.2⟩) ?_;rintro v w11 ⟨rfl,l0,e6⟩;have j1:Hq (jV ga (fun j=>(SK j\/w.heap.size<=j)/\j<w2.heap.size) w11 kn ks'):=j0.o.congr (fun _ h=>h) fun j c n=>e6.block j n (fun h=>c.1.elim (fun K=>hd j h.1 K) (fun K=>by have:=h.2;omega));simp only[zD];refine kd (wp_seq ?_);refine kX (kv (I J 0) ?_);refine kd (wp_ret ?_);repeat (refine kt ?_)
     refine bodyPost_ret (v:=I J 0) kr rfl ?_;rw[q.o];refine⟨rfl,_,_,ks',fun j c=>c.imp (fun h=>h.1) (fun h=>ag (ag c4 l3) h),fun j c=>c.1,fun j c E=> ?_,h5,l0,j1.o,c6.o.trans (e6.mono c6.o.size fun j _ h=>oL h.1)⟩;rcases c with h|h
     ·exact E.1.elim (fun K=>hd j h.1 K) (fun K=>by have:=h.2;omega)
     ·have:=E.2
      omega
theorem Qw{w:D}{s:St}{ks:List lS}(h:jh S w g s kn)(d:jV ga SK w kn ks)(hd:∀j,S j->¬SK j)(i:Inv s)(k:ks.length<=20000000000)(l:List UInt8):Calls prog 131 #[X (Z ⟨g,0,Y⟩),sT ⟨l.toArray⟩] w fun e w'=>e=Re (I J (nH s l).1)/\Left S SK w w' g kn (nH s l).2 ks.length:=by
 by_cases a:l.length≠72\/l.head? ≠Z 84
 ·refine(Qs g l a w).mono ?_
  rintro e w' ⟨rfl,b⟩;have f:nH s l=(4,s):=if_pos a;rw[f];exact⟨rfl,S,SK,ks,fun j c=>oL c,fun j c=>oL c,hd,iX _,h.below b,d.below b,Fr.kq b lR⟩
 ·have h1:l.length=72:=by
   apply bt;exact fun x=>a (oL x)
  have h2:l.head? =Z 84:=by
   apply bt;exact fun x=>a (oR x)
  exact Ub h d hd i k l h1 h2
theorem L2{b:Array Vl}{L:List It}{i:Nat}(p:L.length=n)(r:n*5<=b.size)(m:b.toList.take (n*5)=gi L)(hi:i<n)(z:It):(setL b (i*5) (fF z)).toList.take (n*5)=gi (L.set i z):=by
 have f:(fF z).length=5:=rfl;have o:i*5+5<=n*5:=oM
 apply dw;intro j;by_cases h:j<n*5
 ·rw[aO h,dm,Ks.zn _ _ _ _ (by rw[f];omega),f]
  have q:j / 5<n:=oM
  have k:j=j / 5*5+j % 5:=oM
  have l:j % 5<5:=Nat.mod_lt _ dc;have d:∀(M:List It)(x:It),M[j / 5]? =Z x->(gi M)[j]? =(fF x)[j % 5]? :=fun M x a=>by
   have:=flat_get fF 5 qD M (j / 5) (j % 5) x a l;rw[<-k] at this;exact this
  by_cases g:i*5<=j/\j<i*5+5
  ·rw[if_pos g]
   have c:j / 5=i:=oM
   rw[d _ z (by rw[c,List.getElem?_set_self oM])];congr 1;omega
  ·rw[if_neg g]
   have c:j / 5≠i:=oM
   have a:L[j / 5]? =Z (L[j / 5]'oM):=ae oM;rw[d _ _ (by rw[List.getElem?_set_ne (fun e=>c e.symm)];exact a),<-d _ _ a,<-m,aO h,dm]
 ·rw[bN (by rw[aY];omega),bN (by rw[Gp,List.length_set];omega)]
def mixed(F:Int)(l:List It)(k:Nat):List It:=(l.take k).map (jn F)++l.drop k
theorem IV(F:Int)(l:List It)(k:Nat):(mixed F l k).length=l.length:=by
 unfold mixed;rw[ao,aS,aY,dN];omega
theorem Pm{l:List It}{y:It}(h:l[k]? =Z y):(mixed F l k)[k]? =Z y:=by
 obtain⟨b,c⟩:=aQ.1 h;have a:((l.take k).map (jn F)).length=k:=by rw[aS,aY];omega
 unfold mixed;rw[dE oM,a,Nat.sub_self,gC,Nat.add_zero];exact h
theorem XV{l:List It}{y:It}(h:l[k]? =Z y):(mixed F l k).set k (jn F y)=mixed F l (k+1):=by
 obtain⟨a,c⟩:=aQ.1 h;have b:((l.take k).map (jn F)).length=k:=by rw[aS,aY];omega
 unfold mixed;rw[List.set_append_right _ _ oM,b,Nat.sub_self,List.drop_eq_getElem_cons a,List.set_cons_zero,cR a,List.map_append,c];simp
theorem S7(F:Int)(l:List It):mixed F l l.length=l.map (jn F):=by simp[mixed]
def uR(g:Nat)(l:List UInt8)(i:Nat)(f:Nat->Vl):Act:={tmps:= #[X (Z ⟨g,0,Y⟩),sT ⟨l.toArray⟩,f 2,f 3,I J 0,f 5,I J (gX l),I J (i:Int),f 8,f 9,f 10,f 11,f 12,f 13,f 14,f 15,f 16,f 17,f 18,f 19,f 20,f 21,f 22,f 23,f 24,f 25,f 26,f 27,f 28,f 29,f 30,f 31,f 32,f 33,f 34,f 35,f 36,f 37,f 38,f 39,f 40,f 41,f 42,f 43,f 44,f 45,f 46,f 47,f 48,f 49,f 50,f 51,f 52,f 53,f 54,f 55,f 56,f 57,f 58,f 59,f 60,f 61,f 62,f 63,f 64,f 65,f 66,f 67,f 68,f 69,f 70,f 71],defers:=[]}
theorem QI(g:Nat)(l:List UInt8)(c:l.length≠67\/l.head? ≠Z 67)(w:D):Rt 132 #[X (Z ⟨g,0,Y⟩),sT ⟨l.toArray⟩] w (I J 4):=by
 go_enter func132,ntmps132
 refine wp_seq (kX (kv (I J 0) ?_));refine kd (wp_seq ?_);refine wp_seq (kX (kv (sT ⟨l.toArray⟩) ?_));refine kv (I J (l.length:Int)) ?_;by_cases a:l.length=67
 ·have b:=c.resolve_left (fun x=>x a)
  have d:l[0]'oM≠67:=fun e=>b (by rw[ed,ae oM,e]);refine Ks.val rfl (Bl false) (by simp[execOp,go_sem,a]) ?_;simp only[zD];refine au ?_;refine wE kr _ _ rfl l 0 oM rfl rfl ?_;simp only[zD];refine ml kr (Bl true) (by
   have:(l[0]'oM).toNat≠67:=fun e=>d (UInt8.toNat_inj.1 e);simp[execOp,go_sem];omega) ?_
  simp only[zD];refine kv (Bl true) ?_;refine kd (wp_cond_true rfl ?_);refine wp_seq (kX (kv (I J 4) ?_));refine kd (wp_ret ?_);repeat (refine kt ?_)
  refine bodyPost_ret (v:=I J 4) kr rfl ?_;exact⟨rfl,Below.refl _ _⟩
 ·refine Ks.val rfl (Bl true) (by simp[execOp,go_sem];omega) ?_
  simp only[zD];refine kv (Bl true) ?_;(with_reducible refine ab ?_;refine ab ?_;refine ab ?_);refine kv (Bl true) ?_;refine kd (wp_cond_true rfl ?_);refine wp_seq (kX (kv (I J 4) ?_));refine kd (wp_ret ?_);repeat (refine kt ?_)
  refine bodyPost_ret (v:=I J 4) kr rfl ?_;exact⟨rfl,Below.refl _ _⟩
theorem Uw{w:D}{s:St}{ks:List lS}(h:jh S w g s kn)(H:jV ga SK w kn ks)(hd:∀j,S j->¬SK j)(hI:Inv s)(hn:ks.length<=20000000000)(l:List UInt8)(hl:l.length=67)(K:l.head? =Z 67):Calls prog 132 #[X (Z ⟨g,0,Y⟩),sT ⟨l.toArray⟩] w fun e w'=>e=Re (I J (mw s l).1)/\Left S SK w w' g kn (mw s l).2 ks.length:=by
 have P:Hq (jh (fun k=>S k/\k<w.heap.size) w g s kn):=h.cut lR;have G:Hq (jV ga (fun k=>SK k/\k<w.heap.size) w kn ks):=H.cut lR;have F:Hq (mw s l=_):=show ki ga s l=_ by
  unfold ki;rw[if_neg (by simp[hl,K])]
 have l6:=hI.kB;clear h H;have e3:(l[0]'oM).toNat=67:=by
  rw[ed,ae oM] at K;injection K with K
  rw[K];rfl
 go_enter func132,ntmps132
 refine wp_seq (kX (kv (I J 0) ?_));refine kd (wp_seq ?_);refine wp_seq (kX (kv (sT ⟨l.toArray⟩) ?_));refine kv (I J (l.length:Int)) ?_;refine Ks.val rfl (Bl false) (by simp[execOp,go_sem,hl]) ?_;simp only[zD];refine au ?_;refine wE kr _ _ rfl l 0 oM rfl rfl ?_;rw[e3];simp only[zD];refine kg (Bl false) ?_;refine kv (Bl false) ?_;refine kd (wp_cond_false rfl ?_);refine wp_skip (km (wp_seq ?_));clear e3;have j0:Hq _:=P.o;obtain⟨_,lv,hg,l4⟩:=P.o;have N:Hq (w.heap[g]? =Z (Cl (lF s lv kn) 225 (0,0))):=hg;clear hg l4 j0;have b2:=(aL N.o);refine Qt.im 12 kr kr ?_;simp only[ak,aE];refine yw (X (Z ⟨g,0,Y⟩)) ?_;refine yw (X (Z ⟨g,0,Y⟩)) ?_;refine yV (X (Z ⟨g,6,Y⟩)) ?_;refine mz rfl _ _ rfl underlying118 rfl g 6 (X (Z ⟨kn,0,Y⟩)) rfl b2 (fy N.o 6 rfl) ?_;simp only[zD];refine yw (X (Z ⟨g,0,Y⟩)) ?_;refine yw (X (Z ⟨g,0,Y⟩)) ?_;refine yV (X (Z ⟨g,3,Y⟩)) ?_;refine mz rfl _ _ rfl underlying9 rfl g 3 (str s.key) rfl b2 (fy N.o 3 rfl) ?_;simp only[zD];refine yV (sT ⟨l.toArray⟩) ?_;refine wO rfl _ _ rfl l 3 oM rfl rfl ?_;simp only[zD];refine yV (sT ⟨l.toArray⟩) ?_;refine wP rfl _ _ rfl l 3 oM rfl rfl ?_;simp only[zD];refine Qt.gh ?_;simp only[ax,aK];intro w1 A;obtain⟨R,hR⟩:=eX (ga s.key (l.take 3) (l.drop 3));rw[<-hR] at F;refine Ks.call rfl 203 #[X (Z ⟨kn,0,Y⟩),str s.key,str (l.take 3),str (l.drop 3)] kr (R:=fun v w'=>v=Bl R/\(∃ks',ks'.length<=ks.length+1/\jV ga (fun j=>(SK j/\j<w.heap.size)\/w1.heap.size<=j) w' kn ks')/\Fr (fun j=>SK j/\j<w.heap.size) w1.heap.size w1 w') (by rw[hR];exact B4 (G.o.below A) s.key (l.take 3) (l.drop 3) (by rw[aY];omega) hn) ?_;rintro v w2 ⟨rfl,⟨ks',e6,e1⟩,b1⟩;have M:Hq (Fr (fun j=>S j\/SK j) w.heap.size w w2):=(Fr.kq A lR).trans (b1.mono A.size fun j _ h=>oR h.1);have a6:Hq (jh (fun k=>S k/\k<w.heap.size) w2 g s kn):=P.o.congr (fun _ h=>h) fun k L p=>(b1.block k (aB p A.size) (fun h=>hd k L.1 h.1)).trans (A.block k p);have W:Hq (jV ga (fun j=>(SK j\/w.heap.size<=j)/\j<w2.heap.size) w2 kn ks'):=(e1.mono fun j c=>c.elim (fun h=>oL h.1) fun h=>oR (ag A.size h)).cut lR;have e9:w.heap.size<=w2.heap.size:=M.o.size;clear A e1 b1 G P N hR lv b2;simp only[zD];refine au ?_;have out:∀w',O w2.heap.size w2 w'->Left S SK w w' g kn s ks.length:=fun w' n=>⟨_,_,ks',fun j c=>oL c.1,fun j c=>c.1,fun j c L=>L.1.elim (fun h=>hd j c.1 h) (fun h=>by have:=c.2;omega),e6,a6.o.below n,W.o.below n,M.o.calls n e9⟩;have a7:Hq _:=out;clear out;refine au ?_;refine B3 kr _ _ _ rfl l 1 3 oM oM rfl rfl rfl ?_;simp only[zD];refine pure kr 204 #[sT ⟨((l.drop 1).take 2).toArray⟩] kr (v:=I J (gX l)) (Bo ((l.drop 1).take 2) (by rw[aY];omega) w2) ?_;intro w3 e2;simp only[zD];refine kv (I J (gX l)) ?_;refine kd ?_;have E:Hq (O w2.heap.size w2 w3):=e2;have c9:Hq (jh (fun k=>S k/\k<w.heap.size) w3 g s kn):=a6.o.below E.o;clear e2;refine wp_seq (wp_seq ?_);refine kX (kv (Bl R) ?_);cases R with
 |false=>
  refine kv (Bl true) ?_;refine kd (wp_cond_true rfl ?_);refine wp_seq (kX (kv (I J 5) ?_));refine kd (wp_ret ?_);repeat (refine kt ?_)
  refine bodyPost_ret (v:=I J 5) kr rfl ?_;rw[F.o,if_pos rfl];exact⟨rfl,a7.o w3 E.o⟩
 |true=>
  rw[if_neg dc] at F;obtain⟨z,lv,e4,e7⟩:=c9.o;have q:Hq (w3.heap[g]? =Z (Cl (lF s lv kn) 225 (0,0))):=e4;have t:Hq (Row (fun k=>S k/\k<w.heap.size) w3 73 5 lv s.l.length (gi s.l)):=e7;clear e4 e7;refine au ?_;refine wp_cond_split rfl ?_ ?_
  ·intro B
   have B:=of_decide_eq_true B;refine wp_seq (kX (kv (I J 6) ?_));refine kd (wp_ret ?_);repeat (refine kt ?_)
   refine bodyPost_ret (v:=I J 6) kr rfl ?_;rw[F.o,if_pos B];exact⟨rfl,a7.o w3 E.o⟩
  ·intro B
   have B:=of_decide_eq_false B;rw[if_neg B] at F;refine au ?_;refine Ks.store rfl _ _ _ rfl g 1 _ rfl rfl q.o (by show 1<7;omega) kr rfl (lF {s with floor:=gX l} lv kn) rfl ?_;intro w5 b8 u r H4;have b3:∀b,lv.ownBlock=Z b->b≠g:=fun b n e=>s' t.o q.o dc (by rw[n,e]);have c7:Hq (Row (fun k=>S k/\k<w.heap.size) w5 73 5 lv s.l.length (gi s.l)):=t.o.congr fun b n=>r.o b (b3 b n);have c4:Hq (jV ga (fun j=>(SK j\/w.heap.size<=j)/\j<w2.heap.size) w5 kn ks'):=(W.o.below E.o).congr (fun _ h=>h) fun j c _=>r.o j (fun e=>by
    subst e;exact c.1.elim (fun h=>hd _ z.1 h) (fun h=>by have:=z.2;omega))
   have b6:Hq (Fr (fun j=>S j\/SK j) w.heap.size w w5):=(M.o.calls E.o e9).trans (u.o _ _ (oL (oL z.1)));clear u r H4 q t a7 c9 a6 W M E;simp only[Act.put];refine au ?_;refine Ks.store rfl _ _ _ rfl g 4 _ rfl rfl b8.o (by show 4<7;omega) kr rfl (lF (s.raised l) lv kn) rfl ?_;intro w6 c0 u r H4;have c8:Hq (Row (fun k=>S k/\k<w.heap.size) w6 73 5 lv s.l.length (gi s.l)):=c7.o.congr fun b n=>r.o b (b3 b n);have c6:Hq (jV ga (fun j=>(SK j\/w.heap.size<=j)/\j<w2.heap.size) w6 kn ks'):=c4.o.congr (fun _ h=>h) fun j c _=>r.o j (fun e=>by
    subst e;exact c.1.elim (fun h=>hd _ z.1 h) (fun h=>by have:=z.2;omega))
   have b7:Hq (Fr (fun j=>S j\/SK j) w.heap.size w w6):=b6.o.trans (u.o _ _ (oL (oL z.1)));clear u r H4 b8 c7 c4 b6;simp only[Act.put];refine au ?_;have start:∀a0:Act,a0=uR g l 0 (fun j=>a0.tmps.getD j undef)->∃(i:Nat)(f:Nat->Vl),a0=uR g l i f/\i<=s.l.length/\s.l.length=s.l.length-i/\w6.heap[g]? =Z (Cl (lF (s.raised l) lv kn) 225 (0,0))/\Row (fun k=>S k/\k<w.heap.size) w6 73 5 lv s.l.length (gi (mixed (gX l) s.l i))/\jV ga (fun j=>(SK j\/w.heap.size<=j)/\j<w2.heap.size) w6 kn ks'/\Fr (fun j=>S j\/SK j) w.heap.size w w6:=fun a0 h=>⟨0,_,h,aF _,rfl,c0.o,c8.o,c6.o,b7.o⟩;refine loop (fun m a wr=>∃(i:Nat)(f:Nat->Vl),a=uR g l i f/\i<=s.l.length/\m=s.l.length-i/\wr.heap[g]? =Z (Cl (lF (s.raised l) lv kn) 225 (0,0))/\Row (fun k=>S k/\k<w.heap.size) wr 73 5 lv s.l.length (gi (mixed (gX l) s.l i))/\jV ga (fun j=>(SK j\/w.heap.size<=j)/\j<w2.heap.size) wr kn ks'/\Fr (fun j=>S j\/SK j) w.heap.size w wr) s.l.length (start _ rfl) ?_;clear start c0 c8 c6 b7;rintro m a wr ⟨i,f,rfl,hi,rfl,hG,hL,H,hF⟩;have fin:∀(Q:Act)(w':D) C,Q=uR g l C (fun j=>Q.tmps.getD j undef)->i<C->C<=s.l.length->w'.heap[g]? =Z (Cl (lF (s.raised l) lv kn) 225 (0,0))->Row (fun k=>S k/\k<w.heap.size) w' 73 5 lv s.l.length (gi (mixed (gX l) s.l C))->jV ga (fun j=>(SK j\/w.heap.size<=j)/\j<w2.heap.size) w' kn ks'->Fr (fun j=>S j\/SK j) w.heap.size w w'->∃m,m<s.l.length-i/\∃(i:Nat)(f:Nat->Vl),Q=uR g l i f/\i<=s.l.length/\m=s.l.length-i/\w'.heap[g]? =Z (Cl (lF (s.raised l) lv kn) 225 (0,0))/\Row (fun k=>S k/\k<w.heap.size) w' 73 5 lv s.l.length (gi (mixed (gX l) s.l i))/\jV ga (fun j=>(SK j\/w.heap.size<=j)/\j<w2.heap.size) w' kn ks'/\Fr (fun j=>S j\/SK j) w.heap.size w w':=
    fun Q w' C h1 h2 h3 h4 h5 h6 h7=>⟨s.l.length-C,oM,C,_,h1,h3,rfl,h4,h5,h6,h7⟩
   have j2:Hq _:=fin;clear fin;have q:Hq (wr.heap[g]? =Z (Cl (lF (s.raised l) lv kn) 225 (0,0))):=hG;have t:Hq (Row (fun k=>S k/\k<w.heap.size) wr 73 5 lv s.l.length (gi (mixed (gX l) s.l i))):=hL;have G:Hq (jV ga (fun j=>(SK j\/w.heap.size<=j)/\j<w2.heap.size) wr kn ks'):=H;have V:Hq (Fr (fun j=>S j\/SK j) w.heap.size w wr):=hF;clear hG hL H hF;unfold uR;refine au ?_;refine Ks.val rfl (I J (s.l.length:Int)) (by
    rcases Row.cases t.o with⟨rfl,h0,_⟩|⟨d,cap,x,rfl,_⟩
    ·rw[h0]
     kernel_rfl
    ·kernel_rfl) ?_
   simp only[zD];refine au ?_;refine wp_cond_split rfl ?_ ?_
   ·intro p
    have p:i<s.l.length:=by have:=of_decide_eq_true p;omega
    obtain⟨y,hy⟩:∃y,s.l[i]? =Z y:=⟨_,ae p⟩;obtain⟨d,cap,x,rfl,U,b0,j9,l0,a8,h8⟩:∃d cap x,lv= .slice (Z ⟨d,0,Y⟩) s.l.length cap/\(S d/\d<w.heap.size)/\wr.heap[d]? =Z (Cl x 73 (0,0))/\s.l.length<=cap/\cap<=maxLen/\x.size=cap*5/\x.toList.take (s.l.length*5)=gi (mixed (gX l) s.l i):=by
     rcases Row.cases t.o with⟨_,h0,_⟩|h
     ·omega
     ·exact h
    have j1:Hq (wr.rangeAt d (i*5) (fF y)):=Row.range qD b0 h8 (Pm hy);have e5:=(aL b0);have l2:d≠g:=b3 d rfl;refine au ?_;refine Qt.im 14 kr kr ?_;simp only[ak,aE];refine yw (X (Z ⟨g,0,Y⟩)) ?_;refine yw (X (Z ⟨g,0,Y⟩)) ?_;refine yV (X (Z ⟨g,5,Y⟩)) ?_;refine mz rfl _ _ rfl underlying64 rfl g 5 _ rfl (aL q.o) (fy q.o 5 rfl) ?_;simp only[zD];refine yw (I J (i:Int)) ?_;refine yw (X (Z ⟨g,0,Y⟩)) ?_;refine yw (X (Z ⟨g,0,Y⟩)) ?_;refine yV (X (Z ⟨g,5,Y⟩)) ?_;refine mz rfl _ _ rfl underlying64 rfl g 5 _ rfl (aL q.o) (fy q.o 5 rfl) ?_;simp only[zD];refine yV (I J (i:Int)) ?_;refine Ks.qc rfl _ _ _ rfl 73 5 underlying64 kr kr d _ cap i rfl rfl p ?_;simp only[zD];refine Qt.um rfl _ _ rfl d (i*5) rfl (fF y) _ e5 j1.o underlying73 rfl kr ?_;simp only[zD];refine yV (I J (gX l)) ?_;refine Qt.ev rfl 206 #[lO y,I J (gX l)] (lO (jn (gX l) y)) (fun _=>kr) (fun w' _=>E7 y (gX l) w') ?_;simp only[zD];refine Qt.gh ?_;simp only[ax,aK];intro w7 T;refine Ks.idx kr _ _ _ rfl 73 5 underlying64 kr kr d _ cap i rfl rfl p ?_;simp only[zD];have l1:w7.heap[d]? =Z (Cl x 73 (0,0)):=(T.block d e5).trans b0;refine Ks.part rfl _ _ _ rfl d (i*5) (fF (jn (gX l) y)) rfl rfl l1 (by rw[qD,a8];omega) kr (by simp[fF,Value.oneCell']) (setL x (i*5) (fF (jn (gX l) y))) rfl ?_;intro w8 h9 u r H4;simp only[Act.put];refine Ks.fin (mr ?_);refine kX (kv (I J (i:Int)) ?_);refine Ks.val rfl (I J ((i+1:Nat):Int)) (by
     simp[execOp,go_sem];rw[az _ ⟨oM,oM⟩]) ?_
    simp only[zD];refine kv (I J ((i+1:Nat):Int)) ?_;refine kd ?_;have l5:Row (fun k=>S k/\k<w.heap.size) w8 73 5 (.slice (Z ⟨d,0,Y⟩) s.l.length cap) s.l.length (gi (mixed (gX l) s.l (i+1))):=by
     refine⟨⟨by rw[Gp,IV],oR ⟨d,cap,_,rfl,aF _,h9.o,j9,l0,by rw[Ks.yS];exact a8,?_⟩⟩,fun b n=> ?_⟩
     ·rw[<-XV hy]
      exact L2 (IV _ _ _) (by rw[a8];omega) h8 p _
     ·injection n with n
      subst n;exact U
    have l3:jV ga (fun j=>(SK j\/w.heap.size<=j)/\j<w2.heap.size) w8 kn ks':=(jV.below G.o T).congr (fun _ h=>h) fun j c _=>r.o j (fun e=>by
     subst e;exact c.1.elim (fun h=>hd _ U.1 h) (fun h=>by have:=U.2;omega))
    have j5:Fr (fun j=>S j\/SK j) w.heap.size w w8:=(Fr.calls V.o T (Fr.size V.o)).trans (u.o _ _ (oL (oL U.1)));exact j2.o _ _ (i+1) rfl oM p ((r.o g (fun e=>l2 e.symm)).trans ((T.block g (aL q.o)).trans q.o)) l5 l3 j5
   ·intro p
    obtain rfl:i=s.l.length:=by have:=of_decide_eq_false p;omega
    refine wp_exit (Ks.oF ?_);refine km (wp_seq ?_);refine kX (kv (I J 0) ?_);refine kd (wp_ret ?_);repeat (refine kt ?_)
    refine bodyPost_ret (v:=I J 0) kr rfl ?_;rw[F.o];rw[S7] at t;refine⟨rfl,fun k=>S k/\k<w.heap.size,fun j=>(SK j\/w.heap.size<=j)/\j<w2.heap.size,ks',fun j c=>oL c.1,fun j c=>c.1,fun j c L=>L.1.elim (fun h=>hd j c.1 h) (fun h=>by have:=c.2;omega),e6,⟨z,lv,q.o,?_⟩,G.o,V.o⟩;show Row _ _ _ _ _ (List.map _ s.l).length _;rw[aS];exact t.o
theorem Ga{w:D}{s:St}{ks:List lS}(h:jh S w g s kn)(d:jV ga SK w kn ks)(hd:∀j,S j->¬SK j)(i:Inv s)(k:ks.length<=20000000000)(l:List UInt8):Calls prog 132 #[X (Z ⟨g,0,Y⟩),sT ⟨l.toArray⟩] w fun e w'=>e=Re (I J (mw s l).1)/\Left S SK w w' g kn (mw s l).2 ks.length:=by
 by_cases a:l.length≠67\/l.head? ≠Z 67
 ·refine(QI g l a w).mono ?_
  rintro e w' ⟨rfl,b⟩;have f:mw s l=(4,s):=if_pos a;rw[f];exact⟨rfl,S,SK,ks,fun j c=>oL c,fun j c=>oL c,hd,iX _,h.below b,d.below b,Fr.kq b lR⟩
 ·have h1:l.length=67:=by
   apply bt;exact fun x=>a (oL x)
  have h2:l.head? =Z 67:=by
   apply bt;exact fun x=>a (oR x)
  exact Uw h d hd i k l h1 h2
end Gt
namespace Fu
def full(f:Nat->Vl)(sz n:Nat):List Vl:=(List.range (n*sz)).map fun j=>f (j % sz)
theorem oX(f:Nat->Vl)(sz n:Nat):(full f sz n).length=n*sz:=by simp[full]
theorem tO{j:Nat}(h:j<n*sz):(full f sz n)[j]? =Z (f (j % sz)):=by simp[full,h]
theorem US(f:Nat->Vl)(sz n m:Nat):full f sz n++full f sz m=full f sz (n+m):=by
 apply dw;intro j;by_cases h:j<n*sz
 ·rw[List.getElem?_append_left (by rw[oX];exact h),tO h,tO (by rw[dB];omega)]
 ·rw[dE (by rw[oX];omega),oX]
  by_cases k:j<(n+m)*sz
  ·rw[tO k,tO (by rw[dB] at k;omega)]
   have e:(j-n*sz) % sz=j % sz:=by
    rw[bJ n sz];exact kQ (by rw[bJ];omega)
   rw[e]
  ·rw[bN (by rw[oX];rw[dB] at k;omega),bN (by rw[oX];omega)]
def Fl(w:D)(e:TypeId)(sz:Nat)(f:Nat->Vl)(v:Vl):Prop:=v= .slice none 0 0\/∃g n cap a,v= .slice (Z ⟨g,0,Y⟩) n cap/\n<=maxLen/\w.heap[g]? =Z (Cl a e (0,0))/\∀j,j<n*sz->a[j]? =Z (f (j % sz))
theorem Fl.congr{w w':D}(h:Fl w e sz f v)(d:∀b,v.ownBlock=Z b->w'.heap[b]? =w.heap[b]?):Fl w' e sz f v:=by
 rcases h with h|⟨g,n,cap,a,rfl,c,h1,h2⟩
 ·exact oL h
 ·exact oR ⟨g,n,cap,a,rfl,c,(d g rfl).trans h1,h2⟩
theorem Fl.lt{w:D}(h:Fl w e sz f v)(b:Nat)(a:v.ownBlock=Z b):b<w.heap.size:=by
 rcases h with rfl|⟨g,n,cap,c,rfl,d,h1,h2⟩
 ·cases a
 ·cases a
  exact(aL h1)
theorem mf{w:D}(h:Row S w e sz v n (full f sz n)):Fl w e sz f v:=by
 rcases h.cases with⟨h,_⟩|⟨g,cap,c,rfl,_,h1,h2,h3,i,d⟩
 ·exact oL h
 ·refine oR ⟨g,n,cap,c,rfl,ag h2 h3,h1,fun j b=> ?_⟩
  have a:=tO (f:=f) b;rw[<-d,aO b] at a;simpa using a
theorem PU{P:Program}(w:D)(t ty e:TypeId)(i:TypeInfo)(z:Vl)(size:Nat)(I:P.underlying t=Z (.slice e))(hi:P.info? e=Z i)(U:i.zero=Z z)(o:i.size=size)(b0:z.cells.size=size)(a8:0<size)
  (S:Nat->Prop) (v:Vl) (n:Nat) (f:Nat->Vl) (q:Row S w e size v n (full f size n)) (a:Addr) (m c:Nat) (G:∀j u,(full f size m)[j]? =Z u->w.cell? (a.add j)=Z u) (h1:∀j,(f j).oneCell'=true) (M:n+m<=maxLen) (O:(n+m)*i.bytes<=140737488355328):
  ∃v' w',(Builtin.append_ #[t,t] ty #[v,.slice (Z a) m c]).run P w= .ok v' w'/\Row (fun k=>S k\/k=w.heap.size) w' e size v' (n+m) (full f size (n+m))/\Row S w' e size v n (full f size n)/\(∀u,Fl w e size f u->Fl w' e size f u)/\w.grownBy w' v.ownBlock:=by
 have K:∀u∈full f size m,u.oneCell'=true:=fun u hu=>by
  simp only[full,List.mem_map] at hu;obtain⟨j,_,rfl⟩:=hu;exact h1 _
 obtain⟨v',w',H,h2,h3,h4,W⟩:=run_append_own_at (P:=P) w 0 t ty e i z size i.bytes I hi U o rfl b0 a8 v n _ q.1 a m c (full f size m) (oX f size m) G K M O (aF _);rw[US] at h2;have a7:Row (fun k=>S k\/k=w.heap.size) w' e size v' (n+m) (full f size (n+m)):=⟨h2,fun k x=>by
  rcases W with d|d
  ·exact oL (q.2 k (by rw[<-d];exact x))
  ·rw[d] at x
   injection x with x
   exact oR x.symm⟩
 suffices hs:∀b,v.ownBlock=Z b->∃h A,w.heap[b]? =Z (Cl h e (0,0))/\w'.heap[b]? =Z (Cl A e (0,0))/\A.size=h.size/\∀j,A[j]? =h[j]? \/(n*size<=j/\A[j]? =Z (f (j % size))) by
  refine⟨v',w',H,a7,?_,fun u hu=> ?_,h3⟩
  ·rcases q.cases with⟨rfl,rfl,d⟩|⟨g,cap,h,rfl,X,d,p,s,F,L⟩
   ·rw[d]
    exact Row.nil _ _ _ _
   ·obtain⟨V,B,r,C,J,E⟩:=hs g rfl
    rw[d] at r;cases r;refine⟨⟨oX f size n,oR ⟨g,cap,B,rfl,aF _,C,p,s,J.trans F,?_⟩⟩,q.2⟩;rw[<-L];apply dw;intro j;rw[jN,jN];split
    ·rcases E j with l|⟨l,_⟩
     ·simpa using l
     ·omega
    ·rfl
  ·rcases hu with rfl|⟨g,k,cap,h,rfl,d,p,s⟩
   ·exact oL rfl
   ·by_cases R:v.ownBlock=Z g
    ·obtain⟨V,B,r,C,J,E⟩:=hs g R
     rw[p] at r;cases r;exact oR ⟨g,k,cap,B,rfl,d,C,fun j hj=>(E j).elim (fun l=>l.trans (s j hj)) fun l=>l.2⟩
    ·exact oR ⟨g,k,cap,h,rfl,d,(h3.block g (aL p) fun l=>R l.symm).trans p,s⟩
 intro b N;rcases q.cases with⟨rfl,_⟩|⟨g,cap,h,rfl,X,d,p,s,F,L⟩
 ·cases N
 cases N;by_cases T:n+m<=cap
 ·have Q:n*i.size+(full f size m).length<=h.size:=by
   rw[oX,F,o,<-dB];exact Nat.mul_le_mul_right _ T
  have y:=run_append_room (P:=P) w t ty e i I hi g n cap h d a m c (full f size m) (by rw[oX,o]) G K T Q;rw[H] at y;cases y;refine⟨h,_,d,setRow_heap w g h _ e _ d,?_,fun j=> ?_⟩
  ·simp only[List.size_toArray,ao,aY,dN,bw]
   omega
  ·rw[o,oX] at Q
   rw[o,oX,List.append_assoc,List.getElem?_toArray,jr];rw[aY,bw,Nat.min_eq_left oM];split
   ·left
    rw[aO (by assumption)];simp
   ·rw[jr,oX]
    split
    ·right
     refine⟨oM,?_⟩;rw[tO oM,show(j-n*size) % size=j % size from by
      rw[bJ n size];exact kQ (by rw[bJ];omega)]
    ·left
     rw[gC,show n*size+m*size+(j-n*size-m*size)=j from by omega];simp
 ·have a6:∀j u,(full f size n)[j]? =Z u->w.cell? ((⟨g,0,Y⟩:Addr).add j)=Z u:=q.1.cells (g:=g) rfl
  have y:=run_append_grow (P:=P) w t ty e i z I hi U ⟨g,0,Y⟩ n cap _ (by rw[oX,o]) a6 a m c (full f size m) (by rw[oX,o]) G oM (by simp only[maxLen] at M;omega) (growslice_fits oM O);rw[H] at y;cases y;exact⟨h,h,d,(Go.heap_alloc_old w.drew _ (aL d)).trans d,rfl,fun j=>oL rfl⟩
theorem Uh{P:Program}{ops:Array Oper}{rest:List Oper}{o:Oper}{a:Act}{w:D}{Q:Exit->Act->D->Prop}(y:o.guard=Y)(s x:Operand)(t:TypeId)(B:o.op= .call {callee:=.builtin .append,args:= #[s,x],argTypes:= #[t,t]})
  (e:TypeId) (z:Vl) (size bytes:Nat) (H:P.underlying t=Z (.slice e)) (h2:(P.info? e).map (fun i=>(i.zero,i.size,i.bytes))=Z (Z z,size,bytes)) (N:z.cells.size=size) (G:0<size)
  (S:Nat->Prop) (v:Vl) (n:Nat) (f:Nat->Vl) (F:a.eval s=v) (C:Row S w e size v n (full f size n)) (m b c:Nat) (I:a.eval x= .slice (Z ⟨b,0,Y⟩) m c) (hu:w.rangeAt b 0 (full f size m)) (h1:∀j,(f j).oneCell'=true) (p:n+m<=maxLen) (r:(n+m)*bytes<=140737488355328)
  (h:∀v' w',Row (fun k=>S k\/k=w.heap.size) w' e size v' (n+m) (full f size (n+m))->Row S w' e size v n (full f size n)->(∀u,Fl w e size f u->Fl w' e size f u)->w.grownBy w' v.ownBlock->wpList P ops Q rest (a.put o.dst v') w'):wpList P ops Q (o::rest) a w:=by
 obtain⟨i,hi,J,L,M⟩:=info_parts h2;refine wpList_plain y fun K q=> ?_;obtain⟨v',w',E,h3,d,g,l⟩:=PU (P:=P) w t o.type e i z size H hi J L N G S v n f C ⟨b,0,Y⟩ m c (fun j u A=>by
  have:=hu j u A;rw[Addr.add_mid];exact this) h1 p (by rw[M];exact r)
 unfold Oper.wp execOp;simp only[B,resolve,invoke,builtin,aH,aR,ar,List.map_toArray,List.map_cons,List.map_nil,F,I,E];exact q _ _ (h v' w' h3 d g l)
