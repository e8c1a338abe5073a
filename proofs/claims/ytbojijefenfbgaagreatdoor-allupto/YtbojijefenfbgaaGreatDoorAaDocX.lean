/- Walk of the document's own reckoning: Pointed, of 32 bytes. The document's point of bytes is the one that has them. Walk of the document's Right. -/
import Derived.Test.YtbojijefenfbgaaGreatDoorAaDocW
import Derived.Test.YtbojijefenfbgaaGreatDoorAaGateA
open Nat renaming lt_of_lt_of_le->aB,le_trans->ag
open Int renaming ofNat_lt->fP,tmod_eq_emod_of_nonneg->cO
open Go.Act renaming put->aD
open List renaming take_succ_cons->ak,take_zero->aE,drop_succ_cons->ax,drop_zero->aK,setIfInBounds_toArray->bI,set_cons_zero->cw,set_cons_succ->cz,length_drop->dN,length_take->aY,length_append->ao
open Array renaming length_toList->bw,getElem?_append->iW
open Option renaming some->Z,none->Y
open Go.Value renaming int->I,pointer->X,agg->H,bool->Bl,string->sT,tuple->Tp
open Go.IntKind renaming i64->J
open Go.Ending renaming returned->Re
open Go renaming World->D
open Go.RowKit renaming Below->O
set_option maxHeartbeats 4000000
set_option maxRecDepth 100000
open Go Go.RowKit
open Go.Proofs.YtbojijefenfbgaaGreatDoor
open Ks(au pure decl whole ml)
open Qt(pC ev gh qj)
variable{l:List UInt8}{o:Bool}
namespace Go.Proofs.YtbojijefenfbgaaGreatDoor
open Tryz
namespace Dc
open Bt Ed
theorem LH(x:Int)(h:0<=x/\x<65536):IntKind.i64.wrap (x.tdiv 32768)=x / 32768:=by
 rw[Int.tdiv_eq_ediv_of_nonneg h.1,wrap64 oM oM]
theorem QK(N:Nat):(nm (N:Int)).setIfInBounds 15 (I J (dg (N:Int) 15 % 32768))=nm ((N % 2^255:Nat):Int):=by
 unfold nm num;rw[Own.IW];refine Own.mn fun j a=> ?_;rw[<-MF N j a];by_cases e:j=15
 ·rw[if_pos e,if_pos e]
 ·rw[if_neg e,if_neg e]
theorem J9(l:List UInt8)(hl:l.length=32)(w:D):Rt 41 #[sT ⟨l.toArray⟩] w (Tp #[H (tp (mO (le l)).1),Bl (mO (le l)).2]):=by
 obtain⟨N,hN⟩:=eX (le l);have n9:Hq (∀w,Rt 38 #[sT ⟨l.toArray⟩] w (H (nm (N:Int)))):=by
  rw[hN];exact GF l hl
 have L:N<65536^16:=by
  rw[hN];exact aB (uB l) (by rw[hl];decide)
 rw[<-hN];clear hN;obtain⟨Oa,hO⟩:=eX (N / 2^255);obtain⟨M,hM⟩:=eX (N % 2^255);have n0:Hq ((nm (N:Int)).setIfInBounds 15 (I J (dg (N:Int) 15 % 32768))=nm (M:Int)):=by
  rw[hM];exact QK N
 have p6:Hq (dg (N:Int) 15 / 32768=(Oa:Int)):=by
  rw[hO];exact MI N L
 have l9:Hq (∀w,Rt 92 #[H (nm (M:Int))] w (Bl (decide (M<P)))):=fun w=>by
  have h:=wT (M:Int) oM (by
   have:M<2^255:=by rw[hM];exact Nat.mod_lt _ dc
   have h2:(2:Nat)^255<=65536^16:=dc
   omega) w
  have e:decide ((M:Int)<pI)=decide (M<P):=by
   rw[vU];congr 1;exact propext fP
  rwa [e] at h
 have E:Hq (mO N=if h:M<P then ug ⟨M,h⟩ (decide (Oa=1)) else(t0,false)):=by
  subst hO hM;rfl
 have j2:Oa=0\/Oa=1:=by
  have h2:(65536:Nat)^16=2*2^255:=dc
  rw[hO];have:N / 2^255<2:=Nat.div_lt_of_lt_mul oM;omega
 clear hO hM L;have o5:=kk N 15;go_enter func41,ntmps41
 refine au ?_;refine Ks.alloc rfl _ rfl (H (tp t0)) (by rw[wZ];kernel_rfl) (tp t0) rfl ?_;intro w1 g Hg b2 e7 p4;simp only[zD];refine kv (Bl false) ?_;refine kd (wp_seq ?_);refine wp_seq (kX (kv (sT ⟨l.toArray⟩) ?_));refine kv (I J (l.length:Int)) ?_;refine Ks.val rfl (Bl false) (by simp[execOp,go_sem,hl]) ?_;simp only[zD];refine au ?_;refine pure kr 38 #[sT ⟨l.toArray⟩] kr (n9.o w1) ?_;intro w2 a8;simp only[zD];refine decl rfl _ rfl (H (num fun _=>0)) oV rfl _ _ rfl (nm (N:Int)) (fun _=>rfl) (fun _=>rfl) (by rw[show(nm (N:Int)).size=16 from kP _];kernel_rfl) ((kP _).trans (kP _).symm) (uL _) ?_;intro w3 a n5 c6 h0;have l6:Hq (ej w3 g t0):=(h0.o.block g (aB (aL b2.o) a8.size)).trans ((a8.block g (aL b2.o)).trans b2.o);have l3:Hq (O w.heap.size w w3):=(tR e7 a8).trans (h0.o.mono (ag e7.o.size a8.size));have W:w.heap.size<=g:=Nat.le_of_eq Hg.o.symm;have p7:g<a:=aB (aB (aL b2.o) a8.size) n5.o;clear a8 b2 e7 h0 p4 Hg n5 n9;simp only[zD];refine kd (wp_seq ?_);refine kX (kv (X (Z ⟨a,15,Y⟩)) ?_);refine Ks.cell rfl _ _ rfl underlying3 rfl a 15 _ rfl (lx c6.o 15 oM) ?_;simp only[zD];refine Ks.val rfl (I J (Oa:Int)) (by simp[execOp,go_sem];rw[LH _ o5,p6.o]) ?_;simp only[zD];refine kv (I J (Oa:Int)) ?_;refine kd (wp_seq ?_);refine kX (kv (X (Z ⟨a,15,Y⟩)) ?_);refine Ks.cell rfl _ _ rfl underlying3 rfl a 15 _ rfl (lx c6.o 15 oM) ?_;simp only[zD];refine Ks.val rfl (I J (dg (N:Int) 15 % 32768)) (by simp[execOp,go_sem];exact cO o5.1) ?_;simp only[zD];refine kv (X (Z ⟨a,15,Y⟩)) ?_;refine Ks.store rfl _ _ _ rfl a 15 _ rfl rfl c6.o (by rw[show(nm (N:Int)).size=16 from kP _];omega) kr rfl (nm (M:Int)) n0.o ?_;intro w4 h7 c d H4;have h8:Hq (ej w4 g t0):=(d.o g oM).trans l6.o;have l1:Hq (O w.heap.size w w4):=l3.o.trans ((c.o (fun _=>False) w.heap.size (oR oM)).below lR (fun _ _ h=>h));clear c6 l6 l3 c d H4 n0;simp only[aD];refine au ?_;refine Ks.row rfl _ _ rfl a rfl h7.o underlying95 rfl (by rw[show(nm (M:Int)).size=16 from kP _];kernel_rfl) ?_;simp only[zD];refine pure kr 92 #[H (nm (M:Int))] kr (l9.o w4) ?_;intro w5 e5;have c8:Hq (ej w5 g t0):=(e5.block g (aL h8.o)).trans h8.o;have l4:=ca e5 h7;have h4:=tq l1 e5;clear e5 h8 h7 l1;simp only[zD];by_cases L:M<P
 ·rw[decide_eq_true L]
  rw[dif_pos L] at E;obtain⟨y,hy⟩:∃y:F,y=⟨M,L⟩:=⟨_,rfl⟩;rw[<-hy] at E;have b6:Hq (ep w5 a y):=by
   show w5.heap[a]? =_;rw[l4.o,mJ,hy]
  clear l4 l9;refine kv (Bl true) ?_;refine kd (wp_seq ?_);refine wp_seq (kX (kv (Bl true) ?_));refine kv (Bl false) ?_;refine kd (wp_cond_false rfl ?_);refine wp_skip (km ?_);refine wp_seq (kX ?_);refine Ks.row rfl _ _ rfl a rfl b6.o underlying95 rfl (by rw[jD];kernel_rfl) ?_;simp only[zD];refine Ks.row rfl _ _ rfl a rfl b6.o underlying95 rfl (by rw[jD];kernel_rfl) ?_;simp only[zD];refine pure kr 93 #[H (rn y),H (rn y)] kr (nh y y w5) ?_;intro w6 o4;simp only[zD];refine decl rfl _ rfl (H (num fun _=>0)) oV rfl _ _ rfl (rn (y*y)) (fun _=>rfl) (fun _=>rfl) (by rw[jD];kernel_rfl) ((kP _).trans (jD _).symm) (qK _) ?_;intro w7 V p5 l7 l2;have c4:=tq o4 l2;have c9:Hq (ej w7 g t0):=(c4.o.block g (aL c8.o)).trans c8.o;have e3:Hq (ep w7 a y):=(c4.o.block a (aL b6.o)).trans b6.o;have h6:=tq h4 c4;have b1:Hq (ep w7 V (y*y)):=l7.o;clear o4 l2 l7 c4 c8 b6 h4 p5;simp only[zD];refine au ?_;refine pC 3 kr kr _ rfl 95 rfl (num fun _=>0) oV ?_;simp only[ak,aE];refine kj rfl _ rfl V (y*y) rfl b1.o ?_;simp only[zD];refine ev rfl 43 #[I J 1] (H (rn 1)) (fun _=>kr) (fun w' _=>pz 1 dc w') ?_;simp only[zD];refine ev rfl 42 #[H (rn (y*y)),H (rn (1))] _ (fun _=>kr) (fun w' _=>tx (y*y) (1) w') ?_;simp only[zD];refine gh ?_;simp only[ax,aK];intro G w8 b8 o6 p2;simp only[bI,cw,cz];refine whole rfl _ _ _ rfl G (rn (y*y-1)) rfl rfl p2 (by rw[jD];kernel_rfl) ((kP _).trans (jD _).symm) (qK _) ?_;intro w9 a7 c d H4;have p8:g<G/\a<G/\V<G:=by
   have h1:=(aL c9.o);have h2:=(aL e3.o);have h3:=(aL b1.o);omega
  have h9:Hq (ej w9 g t0):=(d.o g oM).trans ((b8.block g (aL c9.o)).trans c9.o);have j0:Hq (ep w9 a y):=(d.o a oM).trans ((b8.block a (aL e3.o)).trans e3.o);have l5:Hq (ep w9 V (y*y)):=(d.o V oM).trans ((b8.block V (aL b1.o)).trans b1.o);have h5:Hq (O w.heap.size w w9):=(tR h6 b8).trans ((c.o (fun _=>False) w.heap.size (oR (ag h6.o.size o6))).below lR (fun _ _ h=>h));have a7:Hq (ep w9 G (y*y-1)):=a7.o;clear b8 p2 c d H4 c9 e3 b1 h6 o6;simp only[aD];refine au ?_;refine pC 5 kr kr _ rfl 95 rfl (num fun _=>0) oV ?_;simp only[ak,aE];refine ev rfl 50 #[] (H (rn dD)) (fun _=>kr) (fun w' _=>BX w') ?_;refine kj rfl _ rfl V (y*y) rfl l5.o ?_;simp only[zD];refine ev rfl 93 #[H (rn (dD)),H (rn (y*y))] _ (fun _=>kr) (fun w' _=>nh (dD) (y*y) w') ?_;simp only[zD];refine ev rfl 43 #[I J 1] (H (rn 1)) (fun _=>kr) (fun w' _=>pz 1 dc w') ?_;refine ev rfl 94 #[H (rn (dD*(y*y))),H (rn (1))] _ (fun _=>kr) (fun w' _=>vY (dD*(y*y)) (1) w') ?_;simp only[zD];refine gh ?_;simp only[ax,aK];intro gv q6 b7 o7 p1;simp only[bI,cw,cz];refine whole rfl _ _ _ rfl gv (rn (dD*(y*y)+1)) rfl rfl p1 (by rw[jD];kernel_rfl) ((kP _).trans (jD _).symm) (qK _) ?_;intro w11 e1 c d H4;have p9:G<gv:=by
   have h1:=(aL a7.o);omega
  have c7:Hq (ej w11 g t0):=(d.o g oM).trans ((b7.block g (aL h9.o)).trans h9.o);have e2:Hq (ep w11 a y):=(d.o a oM).trans ((b7.block a (aL j0.o)).trans j0.o);have l8:Hq (ep w11 G (y*y-1)):=(d.o G oM).trans ((b7.block G (aL a7.o)).trans a7.o);have e9:Hq (O w.heap.size w w11):=(tR h5 b7).trans ((c.o (fun _=>False) w.heap.size (oR (ag h5.o.size o7))).below lR (fun _ _ h=>h));have e1:Hq (ep w11 gv (dD*(y*y)+1)):=e1.o;clear b7 p1 c d H4 h9 j0 l5 a7 h5 o7;simp only[aD];refine au ?_;obtain⟨r,hr⟩:=eX (qa ((y*y-1)*inv (dD*(y*y)+1)));have o0:Hq (∀w,Rt 95 #[H (rn ((y*y-1)*inv (dD*(y*y)+1)))] w (Tp #[H (rn r.1),Bl r.2])):=by
   rw[hr];exact NZ _
  have HA:Hq (oY y (decide (Oa=1))=mC r (decide (Oa=1))):=by
   rw[hr];rfl
  clear hr;refine Qt.uO 8 kr kr _ _ rfl rfl 95 rfl (num fun _=>0) oV _ _ rfl (rn r.1) (by rw[jD];kernel_rfl) ((kP _).trans (jD _).symm) (qK _) ?_;simp only[ak,aE];refine kj rfl _ rfl G (y*y-1) rfl l8.o ?_;simp only[zD];refine kj rfl _ rfl gv (dD*(y*y)+1) rfl e1.o ?_;simp only[zD];refine ev rfl 96 #[H (rn (dD*(y*y)+1))] _ (fun _=>kr) (fun w' _=>GY (dD*(y*y)+1) w') ?_;simp only[zD];refine ev rfl 93 #[H (rn (y*y-1)),H (rn (inv (dD*(y*y)+1)))] _ (fun _=>kr) (fun w' _=>nh (y*y-1) (inv (dD*(y*y)+1)) w') ?_;simp only[zD];refine ev rfl 95 #[H (rn ((y*y-1)*inv (dD*(y*y)+1)))] (Tp #[H (rn r.1),Bl r.2]) (fun _=>kr) (fun w' _=>o0.o w') ?_;simp only[zD];refine yw (Tp #[H (rn r.1),Bl r.2]) ?_;refine yw (H (rn r.1)) ?_;refine yV (Bl r.2) ?_;refine gh ⟨fun _=>rfl,fun _=>rfl,?_⟩;intro b j5 o8 p0 e4;have q5:g<b/\a<b:=by
   have h1:=(aL c7.o);have h2:=(aL e2.o);omega
  have q:Hq (ej j5 g t0):=(e4.block g (aL c7.o)).trans c7.o;have s:Hq (ep j5 a y):=(e4.block a (aL e2.o)).trans e2.o;have n:Hq (ep j5 b r.1):=p0;have K:=tq e9 e4;have o9:w.heap.size<=b:=ag e9.o.size o8;clear e4 p0 c7 e2 l8 e1 e9 o8 o0;simp only[bI,cw,cz];refine au ?_;refine Qt.lW kr kr ?_;cases b0:r.2 with
  |false=>
   refine qv (Bl false) ?_;refine qv (Bl true) ?_;refine qv (Bl true) ?_;(with_reducible refine qn ?_;refine qn ?_;refine qn ?_;refine qn ?_;refine qn ?_;refine qn ?_;refine qn ?_);refine qv (Bl true) ?_;refine wpQuiet_nil ?_;intro i f;have m:Hq (ej i g t0):=(f.block g (aL q.o)).trans q.o;have z:Hq (ep i a y):=(f.block a (aL s.o)).trans s.o;have k:Hq (ep i b r.1):=(f.block b (aL n.o)).trans n.o;have t:=tq K f;clear f q s n K;refine km ?_;have u:Hq (mC r (decide (Oa=1))=(0,false)):=if_pos b0;refine au ?_;refine xQ rfl rfl ?_;simp only[zD];refine whole rfl _ _ _ rfl g (tp t0) rfl rfl m.o (by rw[lE];kernel_rfl) rfl (qh _) ?_;intro C j c d H4;simp only[aD];refine kv (Bl false) ?_;refine kd (wp_ret ?_);repeat (refine kt ?_)
   have v:Hq (mO N=(t0,false)):=by
    show mO N=_;rw[E.o,sY,HA.o,u.o];exact if_pos rfl
   rw[v.o];exact sE results41 rfl g t0 false rfl rfl j.o ⟨rfl,t.o.trans ((c.o (fun _=>False) w.heap.size (oR W)).below lR (fun _ _ h=>h))⟩
  |true=>
   refine qv (Bl true) ?_;refine qv (Bl false) ?_;refine qv (Bl false) ?_;refine qv (I J (Oa:Int)) ?_;rcases j2 with j1|j1
   ·subst j1
    refine qv (Bl false) ?_;refine qv (Bl false) ?_;(with_reducible refine qn ?_;refine qn ?_;refine qn ?_);refine qv (Bl false) ?_;refine qv (Bl false) ?_;have c0:¬(decide ((0:Nat)=1)=true/\r.1=0):=fun h=>absurd h.1 dc;have j2:(0:Nat)=0\/(0:Nat)=1:=oL rfl;refine wpQuiet_nil ?_;intro i f;have m:Hq (ej i g t0):=(f.block g (aL q.o)).trans q.o;have z:Hq (ep i a y):=(f.block a (aL s.o)).trans s.o;have k:Hq (ep i b r.1):=(f.block b (aL n.o)).trans n.o;have t:=tq K f;clear f q s n K;refine km (wp_cond_false rfl ?_);refine wp_skip (km ?_);refine wp_seq (wp_seq ?_);refine kX (kv (X (Z ⟨b,0,Y⟩)) ?_);refine Ks.cell rfl _ _ rfl underlying3 rfl b 0 (I J (dg (r.1.val:Int) 0)) rfl (by
     have h:=k.o;unfold ep at h;rw[mJ] at h;exact lx h 0 oM) ?_
    simp only[zD];refine Ks.val rfl (I J (if iq r.1 then 1 else 0)) (by
     have h:=kk r.1.val 0;rw[<-Bs];simp[execOp,go_sem];exact cO h.1) ?_
    simp only[zD];refine kv (I J ((0:Nat):Int)) ?_;by_cases p:iq r.1=decide ((0:Nat)=1)
    ·refine Ks.val rfl (Bl false) (by
      simp at p;simp[execOp,go_sem,p]) ?_
     simp only[zD];refine kd (wp_cond_false rfl ?_);refine wp_skip (km ?_);have u:Hq (mC r (decide ((0:Nat)=1))=(r.1,true)):=by
      show mC _ _=_;unfold mC;rw[if_neg (by rw[b0];decide),if_neg c0,if_pos p]
     have x:Hq (ep i b r.1):=k.o;have U:Hq (ep i a y):=z.o;have j:Hq (ej i g t0):=m.o;have Q:Hq (O w.heap.size w i):=t.o;refine wp_seq (Qt.im 4 kr kr ?_);simp only[ak,aE];refine kj rfl _ rfl b (r.1) rfl x.o ?_;simp only[zD];refine kj rfl _ rfl a y rfl U.o ?_;simp only[zD];refine ev rfl 43 #[I J 1] (H (rn 1)) (fun _=>kr) (fun w' _=>pz 1 dc w') ?_;simp only[zD];refine ue rfl _ rfl ⟨r.1,y,1⟩ kr ?_;simp only[zD];refine gh ?_;simp only[ax,aK];intro a6 A;have S:Hq (ej a6 g t0):=(A.block g (aL j.o)).trans j.o;have R:=tq Q A;refine whole rfl _ _ _ rfl g (tp ⟨r.1,y,1⟩) rfl rfl S.o (by rw[lE];kernel_rfl) ((lE _).trans (lE _).symm) (qh _) ?_;intro j9 T c d H4;simp only[aD];refine kv (Bl true) ?_;refine kd (wp_ret ?_);have v:Hq (mO N=(⟨r.1,y,1⟩,true)):=by
      show mO N=_;rw[E.o,sY,HA.o,u.o];rfl
     rw[v.o];exact sE results41 rfl g ⟨r.1,y,1⟩ true rfl rfl T.o ⟨rfl,R.o.trans ((c.o (fun _=>False) w.heap.size (oR W)).below lR (fun _ _ h=>h))⟩
    ·refine Ks.val rfl (Bl true) (by
      simp at p;simp[execOp,go_sem,p]) ?_
     simp only[zD];refine au ?_;have u:Hq (mC r (decide ((0:Nat)=1))=(0-r.1,true)):=by
      show mC _ _=_;unfold mC;rw[if_neg (by rw[b0];decide),if_neg c0,if_neg p]
     refine Qt.im 3 kr kr ?_;simp only[ak,aE];refine ev rfl 43 #[I J 0] (H (rn 0)) (fun _=>kr) (fun w' _=>pz 0 dc w') ?_;refine kj rfl _ rfl b r.1 rfl k.o ?_;simp only[zD];refine ev rfl 42 #[H (rn (0)),H (rn (r.1))] _ (fun _=>kr) (fun w' _=>tx (0) (r.1) w') ?_;simp only[zD];refine gh ?_;simp only[ax,aK];intro l0 B;have b3:Hq (ep l0 b r.1):=(B.block b (aL k.o)).trans k.o;refine whole rfl _ _ _ rfl b (rn (0-r.1)) rfl rfl b3.o (by rw[jD];kernel_rfl) ((jD _).trans (jD _).symm) (qK _) ?_;intro C x c d H4;have x:Hq (ep C b (0-r.1)):=x.o;have U:Hq (ep C a y):=(d.o a oM).trans ((B.block a (aL z.o)).trans z.o);have j:Hq (ej C g t0):=(d.o g oM).trans ((B.block g (aL m.o)).trans m.o);have Q:Hq (O w.heap.size w C):=(tR t B).trans ((c.o (fun _=>False) w.heap.size (oR o9)).below lR (fun _ _ h=>h));clear B b3 c d H4 k z m t;simp only[aD];refine au ?_;refine Qt.im 4 kr kr ?_;simp only[ak,aE];refine kj rfl _ rfl b (0-r.1) rfl x.o ?_;simp only[zD];refine kj rfl _ rfl a y rfl U.o ?_;simp only[zD];refine ev rfl 43 #[I J 1] (H (rn 1)) (fun _=>kr) (fun w' _=>pz 1 dc w') ?_;simp only[zD];refine ue rfl _ rfl ⟨0-r.1,y,1⟩ kr ?_;simp only[zD];refine gh ?_;simp only[ax,aK];intro a6 A;have S:Hq (ej a6 g t0):=(A.block g (aL j.o)).trans j.o;have R:=tq Q A;refine whole rfl _ _ _ rfl g (tp ⟨0-r.1,y,1⟩) rfl rfl S.o (by rw[lE];kernel_rfl) ((lE _).trans (lE _).symm) (qh _) ?_;intro j9 T c d H4;simp only[aD];refine kv (Bl true) ?_;refine kd (wp_ret ?_);have v:Hq (mO N=(⟨0-r.1,y,1⟩,true)):=by
      show mO N=_;rw[E.o,sY,HA.o,u.o];rfl
     rw[v.o];exact sE results41 rfl g ⟨0-r.1,y,1⟩ true rfl rfl T.o ⟨rfl,R.o.trans ((c.o (fun _=>False) w.heap.size (oR W)).below lR (fun _ _ h=>h))⟩
   ·subst j1
    refine qv (Bl true) ?_;refine qv (Bl true) ?_;refine Qg.row kr _ _ rfl b rfl _ (rn r.1) _ _ n.o underlying95 rfl (by rw[jD];kernel_rfl) ?_;simp only[zD];refine Qg.call kr 43 #[I J 0] (H (rn 0)) (fun _=>kr) (fun w' _=>pz 0 dc w') ?_;simp only[zD];refine Qg.val kr (Bl (decide (r.1=0))) (fun w' _=>Ks.zx _ _ _ _ rfl (rn r.1) (rn 0) rfl rfl kr _ (Io r.1 0 w')) ?_;simp only[zD];by_cases e6:r.1=0
    ·rw[decide_eq_true e6]
     refine qv (Bl true) ?_;refine qv (Bl true) ?_;refine wpQuiet_nil ?_;intro i f;have m:Hq (ej i g t0):=(f.block g (aL q.o)).trans q.o;have z:Hq (ep i a y):=(f.block a (aL s.o)).trans s.o;have k:Hq (ep i b r.1):=(f.block b (aL n.o)).trans n.o;have t:=tq K f;clear f q s n K;refine km ?_;have u:Hq (mC r (decide ((1:Nat)=1))=(0,false)):=by
      show mC _ _=_;unfold mC;rw[if_neg (by rw[b0];decide),if_pos ⟨rfl,e6⟩]
     refine au ?_;refine xQ rfl rfl ?_;simp only[zD];refine whole rfl _ _ _ rfl g (tp t0) rfl rfl m.o (by rw[lE];kernel_rfl) rfl (qh _) ?_;intro C j c d H4;simp only[aD];refine kv (Bl false) ?_;refine kd (wp_ret ?_);repeat (refine kt ?_)
     have v:Hq (mO N=(t0,false)):=by
      show mO N=_;rw[E.o,sY,HA.o,u.o];exact if_pos rfl
     rw[v.o];exact sE results41 rfl g t0 false rfl rfl j.o ⟨rfl,t.o.trans ((c.o (fun _=>False) w.heap.size (oR W)).below lR (fun _ _ h=>h))⟩
    ·rw[decide_eq_false e6]
     refine qv (Bl false) ?_;refine qv (Bl false) ?_;have c0:¬(decide ((1:Nat)=1)=true/\r.1=0):=fun h=>e6 h.2;have j2:(1:Nat)=0\/(1:Nat)=1:=oR rfl;refine wpQuiet_nil ?_;intro i f;have m:Hq (ej i g t0):=(f.block g (aL q.o)).trans q.o;have z:Hq (ep i a y):=(f.block a (aL s.o)).trans s.o;have k:Hq (ep i b r.1):=(f.block b (aL n.o)).trans n.o;have t:=tq K f;clear f q s n K;refine km (wp_cond_false rfl ?_);refine wp_skip (km ?_);refine wp_seq (wp_seq ?_);refine kX (kv (X (Z ⟨b,0,Y⟩)) ?_);refine Ks.cell rfl _ _ rfl underlying3 rfl b 0 (I J (dg (r.1.val:Int) 0)) rfl (by
      have h:=k.o;unfold ep at h;rw[mJ] at h;exact lx h 0 oM) ?_
     simp only[zD];refine Ks.val rfl (I J (if iq r.1 then 1 else 0)) (by
      have h:=kk r.1.val 0;rw[<-Bs];simp[execOp,go_sem];exact cO h.1) ?_
     simp only[zD];refine kv (I J ((1:Nat):Int)) ?_;by_cases p:iq r.1=decide ((1:Nat)=1)
     ·refine Ks.val rfl (Bl false) (by
       simp at p;simp[execOp,go_sem,p]) ?_
      simp only[zD];refine kd (wp_cond_false rfl ?_);refine wp_skip (km ?_);have u:Hq (mC r (decide ((1:Nat)=1))=(r.1,true)):=by
       show mC _ _=_;unfold mC;rw[if_neg (by rw[b0];decide),if_neg c0,if_pos p]
      have x:Hq (ep i b r.1):=k.o;have U:Hq (ep i a y):=z.o;have j:Hq (ej i g t0):=m.o;have Q:Hq (O w.heap.size w i):=t.o;refine wp_seq (Qt.im 4 kr kr ?_);simp only[ak,aE];refine kj rfl _ rfl b (r.1) rfl x.o ?_;simp only[zD];refine kj rfl _ rfl a y rfl U.o ?_;simp only[zD];refine ev rfl 43 #[I J 1] (H (rn 1)) (fun _=>kr) (fun w' _=>pz 1 dc w') ?_;simp only[zD];refine ue rfl _ rfl ⟨r.1,y,1⟩ kr ?_;simp only[zD];refine gh ?_;simp only[ax,aK];intro a6 A;have S:Hq (ej a6 g t0):=(A.block g (aL j.o)).trans j.o;have R:=tq Q A;refine whole rfl _ _ _ rfl g (tp ⟨r.1,y,1⟩) rfl rfl S.o (by rw[lE];kernel_rfl) ((lE _).trans (lE _).symm) (qh _) ?_;intro j9 T c d H4;simp only[aD];refine kv (Bl true) ?_;refine kd (wp_ret ?_);have v:Hq (mO N=(⟨r.1,y,1⟩,true)):=by
       show mO N=_;rw[E.o,sY,HA.o,u.o];rfl
      rw[v.o];exact sE results41 rfl g ⟨r.1,y,1⟩ true rfl rfl T.o ⟨rfl,R.o.trans ((c.o (fun _=>False) w.heap.size (oR W)).below lR (fun _ _ h=>h))⟩
     ·refine Ks.val rfl (Bl true) (by
       simp at p;simp[execOp,go_sem,p]) ?_
      simp only[zD];refine au ?_;have u:Hq (mC r (decide ((1:Nat)=1))=(0-r.1,true)):=by
       show mC _ _=_;unfold mC;rw[if_neg (by rw[b0];decide),if_neg c0,if_neg p]
      refine Qt.im 3 kr kr ?_;simp only[ak,aE];refine ev rfl 43 #[I J 0] (H (rn 0)) (fun _=>kr) (fun w' _=>pz 0 dc w') ?_;refine kj rfl _ rfl b r.1 rfl k.o ?_;simp only[zD];refine ev rfl 42 #[H (rn (0)),H (rn (r.1))] _ (fun _=>kr) (fun w' _=>tx (0) (r.1) w') ?_;simp only[zD];refine gh ?_;simp only[ax,aK];intro l0 B;have b3:Hq (ep l0 b r.1):=(B.block b (aL k.o)).trans k.o;refine whole rfl _ _ _ rfl b (rn (0-r.1)) rfl rfl b3.o (by rw[jD];kernel_rfl) ((jD _).trans (jD _).symm) (qK _) ?_;intro C x c d H4;have x:Hq (ep C b (0-r.1)):=x.o;have U:Hq (ep C a y):=(d.o a oM).trans ((B.block a (aL z.o)).trans z.o);have j:Hq (ej C g t0):=(d.o g oM).trans ((B.block g (aL m.o)).trans m.o);have Q:Hq (O w.heap.size w C):=(tR t B).trans ((c.o (fun _=>False) w.heap.size (oR o9)).below lR (fun _ _ h=>h));clear B b3 c d H4 k z m t;simp only[aD];refine au ?_;refine Qt.im 4 kr kr ?_;simp only[ak,aE];refine kj rfl _ rfl b (0-r.1) rfl x.o ?_;simp only[zD];refine kj rfl _ rfl a y rfl U.o ?_;simp only[zD];refine ev rfl 43 #[I J 1] (H (rn 1)) (fun _=>kr) (fun w' _=>pz 1 dc w') ?_;simp only[zD];refine ue rfl _ rfl ⟨0-r.1,y,1⟩ kr ?_;simp only[zD];refine gh ?_;simp only[ax,aK];intro a6 A;have S:Hq (ej a6 g t0):=(A.block g (aL j.o)).trans j.o;have R:=tq Q A;refine whole rfl _ _ _ rfl g (tp ⟨0-r.1,y,1⟩) rfl rfl S.o (by rw[lE];kernel_rfl) ((lE _).trans (lE _).symm) (qh _) ?_;intro j9 T c d H4;simp only[aD];refine kv (Bl true) ?_;refine kd (wp_ret ?_);have v:Hq (mO N=(⟨0-r.1,y,1⟩,true)):=by
       show mO N=_;rw[E.o,sY,HA.o,u.o];rfl
      rw[v.o];exact sE results41 rfl g ⟨0-r.1,y,1⟩ true rfl rfl T.o ⟨rfl,R.o.trans ((c.o (fun _=>False) w.heap.size (oR W)).below lR (fun _ _ h=>h))⟩
 ·rw[decide_eq_false L]
  rw[dif_neg L] at E;refine au ?_;refine xQ rfl rfl ?_;simp only[zD];refine whole rfl _ _ _ rfl g (tp t0) rfl rfl c8.o (by rw[lE];kernel_rfl) rfl (qh _) ?_;intro w6 p3 c d H4;simp only[aD];refine kv (Bl false) ?_;refine kd (wp_ret ?_);repeat (refine kt ?_)
  rw[E.o];exact sE results41 rfl g t0 false rfl rfl p3.o ⟨rfl,h4.o.trans ((c.o (fun _=>False) w.heap.size (oR W)).below lR (fun _ _ h=>h))⟩
end Dc
namespace Dc
open Bt Ed Gw Sw Cw
theorem yL:(2:Nat)^255=57896044618658097711785492504343953926634992332820282019728792003956564819968:=dc
theorem LF(b:l.length=32){x y:F}(a:T3)(c:gF (x,y))(hD:a=mR x y)(g:y.val=le l % 57896044618658097711785492504343953926634992332820282019728792003956564819968)(d:iq x=o)(f:o=decide (le l / 57896044618658097711785492504343953926634992332820282019728792003956564819968=1)):∃p:Pt,gF p/\a=mR p.1 p.2/\nR p=l:=by
 refine⟨(x,y),c,hD,?_⟩;have e:=EX g (d.trans f) (aB (uB l) (by rw[b];decide));show leB (enc x y) 32=l;rw[e];have:=Br l;rwa [b] at this
theorem PI{y:F}(h:(ug y o).2=true):(oY y o).2=true/\∃x,x=(oY y o).1/\(ug y o).1=mR x y:=by
 rw[sY] at h⊢;generalize oY y o=r at h⊢;cases h2:r.2 with
 |false=>rw[if_pos h2] at h;cases h
 |true=>
  rw[if_neg sP];exact⟨rfl,r.1,rfl,rfl⟩
theorem GK(i:l.length=32)(h:(mO (le l)).2=true):∃p:Pt,gF p/\(mO (le l)).1=mR p.1 p.2/\nR p=l:=by
 obtain⟨N,e⟩:=eX (le l);rw[<-e] at h⊢;unfold mO at h⊢;by_cases b:N % 2^255<P
 ·rw[dif_pos b] at h⊢
  obtain⟨y,f⟩:∃y:F,y=⟨N % 2^255,b⟩:=⟨_,rfl⟩;obtain⟨o,a⟩:∃o:Bool,o=decide (N / 2^255=1):=⟨_,rfl⟩;rw[<-f,<-a] at h⊢;have g:y.val=N % 57896044618658097711785492504343953926634992332820282019728792003956564819968:=by
   have:y.val=N % 2^255:=by rw[f]
   rw[this,yL]
  rw[yL] at a;obtain⟨h2,x,j,hD⟩:=PI h;obtain⟨c,d⟩:=Yz h2;rw[<-j] at c d;rw[e] at g a;exact LF i _ c hD g d a
 ·rw[dif_neg b] at h;cases h
theorem PH{y x:F}(h:(ug y o).2=false)(b:gF (x,y))(a:iq x=o):False:=by
 rw[sY] at h;have h2:(oY y o).2=false:=by
  cases h2:(oY y o).2 with
  |false=>rfl
  |true=>rw[h2,if_neg sP] at h;cases h
 exact Yq h2 x b a
theorem JN(h:(mO (le l)).2=false)(p:Pt)(g:gF p):nR p≠l:=by
 intro e;obtain⟨x,y⟩:=p;have d:le l=enc x y:=by rw[<-e,zv]
 have a:=zw (x,y);obtain⟨N,b⟩:=eX (enc x y);rw[d,<-b] at h;simp only[<-b] at a;unfold mO at h;have h1:N % 2^255=y.val:=by rw[yL];exact a.1
 have c:N % 2^255<P:=by rw[h1];exact y.isLt
 rw[dif_pos c] at h;have i:(⟨N % 2^255,c⟩:F)=y:=Fin.ext h1;have f:decide (N / 2^255=1)=iq x:=by
  rw[yL,a.2];cases iq x<;>rfl
 rw[i,f] at h;exact PH h g rfl
theorem N'{e0:T3}{q:Pt}(d:gF q)(c:oN e0 q)(N:Nat)(b:N<2^256):∃e:T3,(∀w,Calls prog 48 #[H (tp e0),H (nm (N:Int))] w fun a w'=>a=Re (H (tp e))/\O w.heap.size w w')/\oN e (lD q N):=by
 have h:=JW d c N b 256 lR;rw[Nat.sub_self,Nat.pow_zero,Nat.div_one] at h;exact⟨tmul e0 N 256,GS _ N,h⟩
theorem Wv{e f:T3}{p q:Pt}(d:gF p)(g:gF q)(b:oN e p)(c:oN f q):∃s:T3,(∀w,Calls prog 47 #[H (tp e),H (tp f),H (rn dD)] w fun a w'=>a=Re (H (tp s))/\O w.heap.size w w')/\oN s (jS p q):=
 ⟨ui dD e f,EH e f dD,by rw[Qb];exact Df d g b c⟩
theorem Vw(e:T3)(v:F):Ks.setL (tp e) 0 (rn v).toList=tp ⟨v,e.y,e.z⟩:=by
 apply Array.ext_getElem?;intro j;have a:(rn v).toList.length=16:=by rw[bw,jD]
 rw[Ks.zn _ _ _ _ (by rw[a,lE];omega),a,rA,rA];by_cases h:j<16
 ·rw[if_pos oM]
  simp[iW,jD,h]
 ·rw[if_neg oM]
  simp[iW,jD,h]
theorem Vk(p:Pt):(⟨0-p.1,p.2,1⟩:T3)=mR (neg p).1 (neg p).2:=by
 have e:0-p.1= -p.1:=by grind
 show _=(⟨-p.1,p.2,1⟩:T3);rw[e]
theorem Et{ops:Array Oper}{rest:List Oper}{o:Oper}{a:Act}{w:D}{Q:Exit->Act->D->Prop}(c:o.guard=Y)(x y:Operand)(b:o.op= .binOp .add 9 x y 9)(s t:List UInt8)(d:a.eval x=sT ⟨s.toArray⟩)(e:a.eval y=sT ⟨t.toArray⟩)(k:s.length+t.length<=1000000000000)
  (h:wpList prog ops Q rest (a.put o.dst (sT ⟨(s++t).toArray⟩)) w):wpList prog ops Q (o::rest) a w:=by
 refine Ks.val c _ ?_ h;have j:=QB s t;clear h;obtain⟨g,l,ty,pos,f,i⟩:=o;simp only at b;subst b;unfold execOp;simp only[d,e];go_simp
 omega
theorem PR{k t g:List UInt8}(h:¬(k.length=32/\g.length=64)):ga k t g=false:=if_neg h
theorem TE(k t g:List UInt8)(h:¬(k.length=32/\g.length=64))(w:D):Rt 10 #[sT ⟨k.toArray⟩,sT ⟨t.toArray⟩,sT ⟨g.toArray⟩] w (Bl false):=by
 go_enter func10,ntmps10
 refine wp_seq (kX (kv (Bl false) ?_));refine kd (wp_seq ?_);refine wp_seq (kX (kv (sT ⟨k.toArray⟩) ?_));refine kv (I J (k.length:Int)) ?_;by_cases a:k.length=32
 ·have b:g.length≠64:=fun x=>h ⟨a,x⟩
  refine Ks.val rfl (Bl false) (by simp[execOp,go_sem,a]) ?_;simp only[zD];refine kv (Bl false) ?_;refine kg (sT ⟨g.toArray⟩) ?_;refine kg (I J (g.length:Int)) ?_;refine ml kr (Bl true) (by simp[execOp,go_sem];omega) ?_;simp only[zD];refine kv (Bl true) ?_;refine kd (wp_cond_true rfl ?_);refine wp_seq (kX (kv (Bl false) ?_));refine kd (wp_ret ?_);repeat (refine kt ?_)
  refine bodyPost_ret (v:=Bl false) kr rfl ?_;exact⟨rfl,Below.refl _ _⟩
 ·refine Ks.val rfl (Bl true) (by simp[execOp,go_sem];omega) ?_
  simp only[zD];refine kv (Bl true) ?_;(with_reducible refine ab ?_;refine ab ?_;refine ab ?_);refine kv (Bl true) ?_;refine kd (wp_cond_true rfl ?_);refine wp_seq (kX (kv (Bl false) ?_));refine kd (wp_ret ?_);repeat (refine kt ?_)
  refine bodyPost_ret (v:=Bl false) kr rfl ?_;exact⟨rfl,Below.refl _ _⟩
theorem X7(k t g:List UInt8)(hk:k.length=32)(hg:g.length=64)(o7:t.length<=900000000)(w:D):Rt 10 #[sT ⟨k.toArray⟩,sT ⟨t.toArray⟩,sT ⟨g.toArray⟩] w (Bl (ga k t g)):=by
 obtain⟨s,f⟩:=eX (le (g.drop 32));have o6:s<65536^16:=by
  rw[f];exact aB (uB _) (by rw[dN,hg];decide)
 have h7:Hq (∀w,Rt 38 #[sT ⟨(g.drop 32).toArray⟩] w (H (nm (s:Int)))):=by
  rw[f];exact GF (g.drop 32) (by rw[dN];omega)
 have h6:Hq (∀w,Rt 39 #[H (nm (s:Int)),H (nm oI)] w (Bl (decide (s<LL)))):=fun w=>by
  have h:=uX (s:Int) oI oM oM dc dc w;have e:decide ((s:Int)<oI)=decide (s<LL):=by
   rw[A1];congr 1;exact propext fP
  rwa [e] at h
 obtain⟨b,hD⟩:=eX (mO (le k));have h8:Hq (∀w,Rt 41 #[sT ⟨k.toArray⟩] w (Tp #[H (tp b.1),Bl b.2])):=by
  rw[hD];exact J9 k hk
 have y:Hq (ga k t g=true↔_):=TF k t g;go_enter func10,ntmps10
 refine wp_seq (kX (kv (Bl false) ?_));refine kd (wp_seq ?_);refine wp_seq (kX (kv (sT ⟨k.toArray⟩) ?_));refine kv (I J (k.length:Int)) ?_;refine Ks.val rfl (Bl false) (by simp[execOp,go_sem,hk]) ?_;simp only[zD];refine kv (Bl false) ?_;refine kg (sT ⟨g.toArray⟩) ?_;refine kg (I J (g.length:Int)) ?_;refine ml kr (Bl false) (by simp[execOp,go_sem,hg]) ?_;simp only[zD];refine au ?_;refine Gt.Bp kr _ _ rfl g 32 oM rfl rfl ?_;simp only[zD];refine pure kr 38 #[sT ⟨(g.drop 32).toArray⟩] kr (h7.o w) ?_;intro w1 j0;simp only[zD];refine decl rfl _ rfl (H (num fun _=>0)) oV rfl _ _ rfl (nm (s:Int)) (fun _=>rfl) (fun _=>rfl) (by rw[show(nm (s:Int)).size=16 from kP _];kernel_rfl) ((kP _).trans (kP _).symm) (uL _) ?_;intro w2 l n0 P b6;have c4:=tq j0 b6;clear j0 b6 h7 n0;simp only[zD];refine au ?_;refine qj kr kr ?_;refine AN rfl _ rfl l _ rfl P.o ?_;simp only[zD];refine ev rfl 40 #[] (H (nm oI)) (fun _=>kr) (fun w' _=>GD w') ?_;simp only[zD];refine ev rfl 39 #[H (nm (s:Int)),H (nm oI)] (Bl (decide (s<LL))) (fun _=>kr) (fun w' _=>h6.o w') ?_;simp only[zD];refine yV (Bl (decide (s<LL))) ?_;refine gh ?_;intro w3 V;have Q:=ca V P;have r:=tq c4 V;clear V P c4 h6;refine km (wp_seq ?_);refine wp_seq (kX (kv (Bl (decide (s<LL))) ?_));by_cases E:s<LL
 ·rw[decide_eq_true E]
  refine kv (Bl false) ?_;refine kd (wp_cond_false rfl ?_);refine wp_skip (km ?_);refine wp_seq (kX (kv (sT ⟨k.toArray⟩) ?_));refine pure kr 41 #[sT ⟨k.toArray⟩] kr (h8.o w3) ?_;intro w4 W;simp only[zD];refine kv (Tp #[H (tp b.1),Bl b.2]) ?_;refine kv (H (tp b.1)) ?_;refine kv (Bl b.2) ?_;refine decl rfl _ rfl (H (tp t0)) (by rw[wZ];kernel_rfl) rfl _ _ rfl (tp b.1) (fun _=>rfl) (fun _=>rfl) (by rw[lE];kernel_rfl) ((lE _).trans (lE _).symm) (qh _) ?_;intro w5 a h5 a8 b7;have R:=tq W b7;have e4:=ca R Q;have n9:l<a/\w.heap.size<=a:=by
   have h1:=(aL Q.o);have h2:=h5.o;have h3:=W.size;have h4:=r.o.size;omega
  have M:=tq r R;clear W b7 R Q r h5 h8;simp only[zD];refine kv (Bl b.2) ?_;refine kd (wp_seq ?_);refine wp_seq (kX (kv (Bl b.2) ?_));cases h9:b.2 with
  |false=>
   refine kv (Bl true) ?_;refine kd (wp_cond_true rfl ?_);refine wp_seq (kX (kv (Bl false) ?_));refine kd ?_;have N:Hq (ga k t g=false):=by
    show ga k t g=false;cases c:ga k t g with
    |false=>rfl
    |true=>
     obtain⟨_,_,p,m,G,_⟩:=y.o.1 c;exact absurd G (JN (by rw[<-hD];exact h9) p m)
   refine wp_ret ?_;repeat (refine kt ?_)
   refine bodyPost_ret (v:=Bl false) kr rfl ?_;exact⟨by rw[N.o],M.o⟩
  |true=>
   obtain⟨p,m,a6,G⟩:=GK hk (by rw[<-hD];exact h9);rw[<-hD] at a6;have j:Hq (ej w5 a (mR p.1 p.2)):=by
    show w5.heap[a]? =_;rw[a8.o,a6]
   clear a8 hD a6;refine kv (Bl false) ?_;refine kd (wp_cond_false rfl ?_);refine wp_skip (km ?_);refine wp_seq (Qt.im 5 kr kr ?_);simp only[ak,aE];refine ev rfl 43 #[I J 0] (H (rn 0)) (fun _=>kr) (fun w' _=>pz 0 dc w') ?_;refine yV (X (Z ⟨a,0,Y⟩)) ?_;refine qo rfl _ rfl a 0 p.1 rfl j.o.lt (j.o.x) ?_;simp only[zD];refine ev rfl 42 #[H (rn (0)),H (rn (p.1))] _ (fun _=>kr) (fun w' _=>tx (0) (p.1) w') ?_;simp only[zD];refine yV (X (Z ⟨a,0,Y⟩)) ?_;refine gh ?_;simp only[ax,aK];intro w6 A;have b0:Hq (ej w6 a (mR p.1 p.2)):=j.o.below A j.o.lt;have e5:=ca A e4;have b8:=tq M A;clear A j e4 M;refine Ks.part rfl _ _ _ rfl a 0 (rn (0-p.1)).toList rfl (by simp;rfl) b0.o (by rw[bw,jD,lE];omega) (by rw[bw,jD];kernel_rfl) (by simpa using qK (0-p.1)) (tp (mR (neg p).1 (neg p).2)) (by rw[Vw,<-Vk];rfl) ?_;intro w7 b1 i q H4;have e6:Hq (w7.heap[l]? =_):=(q.o l oM).trans e5.o;have c0:Hq (O w.heap.size w w7):=b8.o.trans ((i.o (fun _=>False) w.heap.size (oR n9.2)).below lR (fun _ _ h=>h));have K:Hq (ej w7 a (mR (neg p).1 (neg p).2)):=b1.o;clear i q H4 b0 b1 e5 b8;simp only[aD];refine kd (wp_seq ?_);refine kX (kv (sT ⟨g.toArray⟩) ?_);refine Gt.wF kr _ _ rfl g 32 oM rfl rfl ?_;simp only[zD];refine kv (sT ⟨k.toArray⟩) ?_;refine Et rfl _ _ rfl (g.take 32) k rfl rfl (by rw[aY];omega) ?_;simp only[zD];refine kv (sT ⟨t.toArray⟩) ?_;refine Et rfl _ _ rfl (g.take 32++k) t rfl rfl (by rw[ao,aY];omega) ?_;simp only[zD];refine pure kr 46 #[sT ⟨(g.take 32++k++t).toArray⟩] kr (TA (g.take 32++k++t) (by rw[ao,ao,aY];omega) w7) ?_;intro w8 B;simp only[zD];refine Ks.call rfl 45 #[sT ⟨(Sha.pn (g.take 32++k++t)).toArray⟩] kr (Ny (Sha.pn (g.take 32++k++t)) (Sha.KG _) w8) ?_;rintro v w9 ⟨l2,C⟩;simp only[zD];refine pure kr 44 #[v] kr (l2 w9 bR) ?_;intro o8 U;simp only[zD];obtain⟨n,F⟩:=eX (kN (g.take 32) k t);have o0:le (Sha.pn (g.take 32++k++t)) % LL=n:=by rw[F];rfl
   rw[o0];refine decl rfl _ rfl (H (num fun _=>0)) oV rfl _ _ rfl (nm (n:Int)) (fun _=>rfl) (fun _=>rfl) (by rw[show(nm (n:Int)).size=16 from kP _];kernel_rfl) ((kP _).trans (kP _).symm) (uL _) ?_;intro w11 gn l9 c7 b2;have u:Hq (O w7.heap.size w7 w11):=((tR B C).trans (U.mono (ag B.size C.size))).trans (b2.o.mono (ag (ag B.size C.size) U.size));have c9:=ca u e6;have a7:Hq (ej w11 a (mR (neg p).1 (neg p).2)):=K.o.below u.o K.o.lt;have L:=tq c0 u;clear B C l2 U b2 u e6 K c0 l9;simp only[zD];refine kd (wp_seq ?_);have j5:=Fq m;obtain⟨e1,e7,j9⟩:=OE s (aB o6 dc);obtain⟨e2,e9,l0⟩:=N' j5 (Dd (neg p).1 (neg p).2) n (by rw[F];exact aB (A0 _ _ _) dc);obtain⟨z,h0,l1⟩:=Wv (ox vZ s) (ox j5 n) j9 l0;have l5:Hq _:=e7;have l6:Hq _:=e9;have l7:Hq _:=h0;have c6:Hq _:=Sz l1;obtain⟨d,T⟩:=eX (nR (jS (lD bP s) (lD (neg p) n)));rw[<-T] at c6;clear e7 e9 h0 j9 l0 l1;refine pC 8 kr kr _ rfl 100 rfl ry kr ?_;simp only[ak,aE];refine ev rfl 49 #[] (H (tp (mR bX bY))) (fun _=>kr) (fun w' _=>Mx w') ?_;refine AN rfl _ rfl l _ rfl c9.o ?_;simp only[zD];refine ev rfl 48 #[H (tp (mR bX bY)),H (nm (s:Int))] (H (tp e1)) (fun _=>kr) (fun w' _=>l5.o w') ?_;simp only[zD];refine KS rfl _ rfl a _ rfl a7.o ?_;simp only[zD];refine AN rfl _ rfl gn _ rfl c7.o ?_;simp only[zD];refine ev rfl 48 #[H (tp (mR (neg p).1 (neg p).2)),H (nm (n:Int))] (H (tp e2)) (fun _=>kr) (fun w' _=>l6.o w') ?_;simp only[zD];refine ev rfl 50 #[] (H (rn dD)) (fun _=>kr) (fun w' _=>BX w') ?_;simp only[zD];refine ev rfl 47 #[H (tp e1),H (tp e2),H (rn dD)] (H (tp z)) (fun _=>kr) (fun w' _=>l7.o w') ?_;simp only[zD];refine gh ?_;simp only[ax,aK];intro S o9 j1 j2 l3;simp only[bI,cw,cz];refine whole rfl _ _ _ rfl S (tp z) rfl rfl l3 (by rw[lE];kernel_rfl) (by rw[lE];rfl) (qh _) ?_;intro l4 c8 i q H4;have b3:Hq (O w.heap.size w l4):=(tR L j1).trans ((i.o (fun _=>False) w.heap.size (oR (ag L.o.size j2))).below lR (fun _ _ h=>h));have l8:Hq (ej l4 S z):=c8.o;clear i q H4 j1 l3 L c8 c9 a7 c7 j2;simp only[aD];refine kd (wp_seq ?_);have HV:Hq (ga k t g=decide (d=g.take 32)):=by
    show ga k t g=decide (d=g.take 32);by_cases c:d=g.take 32
    ·rw[decide_eq_true c]
     refine y.o.2 ⟨hg,by rw[<-f];exact E,p,m,G,?_⟩;rw[<-f,<-F,<-T];exact c
    ·rw[decide_eq_false c]
     cases hx:ga k t g with
     |false=>rfl
     |true=>
      obtain⟨_,_,p',o4,o5,he⟩:=y.o.1 hx;obtain rfl:p'=p:=Jt o4 m (o5.trans G.symm);rw[<-f,<-F,<-T] at he;exact absurd he c
   refine qj kr kr ?_;refine KS rfl _ rfl S _ rfl l8.o ?_;simp only[zD];refine ev rfl 51 #[H (tp z)] (sT ⟨d.toArray⟩) (fun _=>kr) (fun w' _=>c6.o w') ?_;simp only[zD];refine yV (sT ⟨g.toArray⟩) ?_;refine Gt.wO rfl _ _ rfl g 32 oM rfl rfl ?_;simp only[zD];refine Qt.kb rfl (Bl (decide (d=g.take 32))) (fun _ _=>by
    simp[execOp,go_sem];rw[Bool.eq_iff_iff];simp) ?_
   simp only[zD];refine yV (Bl (decide (d=g.take 32))) ?_;refine gh ?_;intro p0 n5;refine km (wp_ret ?_);repeat (refine kt ?_)
   refine bodyPost_ret (v:=Bl (decide (d=g.take 32))) kr rfl ?_;exact⟨by rw[HV.o],b3.o.trans (n5.mono b3.o.size)⟩
 ·rw[decide_eq_false E]
  refine kv (Bl true) ?_;refine kd (wp_cond_true rfl ?_);refine wp_seq (kX (kv (Bl false) ?_));refine kd ?_;have N:Hq (ga k t g=false):=by
   show ga k t g=false;cases c:ga k t g with
   |false=>rfl
   |true=>exact absurd (f▸(y.o.1 c).2.1) E
  refine wp_ret ?_;repeat (refine kt ?_)
  refine bodyPost_ret (v:=Bl false) kr rfl ?_;exact⟨by rw[N.o],r.o⟩
theorem LQ(k t g:List UInt8)(a:t.length<=900000000)(w:D):Rt 10 #[sT ⟨k.toArray⟩,sT ⟨t.toArray⟩,sT ⟨g.toArray⟩] w (Bl (ga k t g)):=by
 by_cases h:k.length=32/\g.length=64
 ·exact X7 k t g h.1 h.2 a w
 ·rw[PR h]
  exact TE k t g h w
