/- Walk of posternlaw: the whole script is played. Towards: whatever script is handed in (of bulk at most 1048576), the statement All answers true: gates of the program's and of the document's, made, asked to admit, to close, how they stand, for digests, news and what was let in twice, told and heard, answer the same at every step and at the end, and no list that came out is changed behind its owner's back.
  Conditions: the row's own ('upto': the bulk; 'laid': the program's table of round words starts as its text lays it, tied by the card). The row's facts, one by one. -/
import Derived.Test.YtbojijefenfbgaaGreatDoorAaLwD
import Derived.Test.YtbojijefenfbgaaGreatDoorCards
import Derived.Test.YtbojijefenfbgaaGreatDoorTie
import Derived.ProofKit
import Derived.OpenShut
import Derived.Carry
import Derived.Deep.Slices
import Derived.Deep.DeepHandedRow
import Derived.Lib.LaidTab
open List renaming not_mem_nil->eG,mem_of_getElem?->aJ,getElem?_eq_getElem->ae,length_map->aS,length_cons->bE,getElem?_append_left->fc,getElem?_append_right->dE,mem_map_of_mem->fW,flatMap_cons->eo,getElem_mem->ko,getElem?_of_mem->jt,drop_succ_cons->ax,drop_zero->aK,take_succ_cons->ak,take_zero->aE
open Nat renaming le_refl->bA,le_trans->ag,zero_le->aF,succ_mul->jO
open Go.DataW renaming trod->bz,trod_slice->jX,trod_struct->ea,trod_string->jQ
open Go.Addr renaming add_mid->cM
open Option renaming some->Z,none->Y
open Go.Value renaming int->I,pointer->X,agg->H,bool->Bl,string->sT
open Go.IntKind renaming i64->J
open Go.Obj renaming cells->Cl
open Go.Ending renaming returned->Re
open Go renaming World->D,Value->Vl
open Go.RowKit renaming Below->O
set_option maxHeartbeats 4000000
set_option maxRecDepth 100000
open Go Go.RowKit Go.Proofs.Tryz
open Go.Proofs.YtbojijefenfbgaaGreatDoor
open Gw(qR Fe)
open Ks(au box pure w0 pt lp af gY aq)
open Gt(Sl hE jY fF)
variable{B K N W c i n:Nat}
namespace Go.Proofs.YtbojijefenfbgaaGreatDoor
namespace Gt
open Mp Bk
theorem IL:(Cw.lq qR).2=true:=by
 cases h:(Cw.lq qR).2 with
 |true=>rfl
 |false=>exact absurd ((Gw.Fa Gw.AJ).symm.trans Gw.Vb) (Gw.Cy h _ (Ed.ox Ed.vZ _))
def xG(w:D)(a0:Option Addr)(os:List Sp):Prop:=os=[]\/∃a b,a0=Z ⟨a,b,Y⟩/\∀(i:Nat)(o:Sp),os[i]? =Z o->w.rangeAt a (b+i*9) (tr o)
def xK:Bd:=⟨fun _=>.slice none 0 0,fun _=>.slice none 0 0,fun _=>[],0⟩
theorem ij.start{w w':D}(h:O w.heap.size w w')(m:w.heap.size<=B)(n:w.heap.size<=K)(o:w.heap.size<=W)(h1:B<K)(h2:K<W)
  (c:w'.heap[B]? =Z (Cl (kh xK) 32 (0,0))) (d:w'.heap[K]? =Z (Cl #[.slice none 0 0,.slice none 0 0] 120 (0,0))) (e:w'.heap[W]? =Z (Cl (qM B K (.slice none 0 0)) 123 (0,0))):
  b' w.heap.size w' W B K 0 [] 0:=by
 have q:=(aL c);have r:=(aL d);have s:=(aL e);refine⟨⟨fun b j=>(b=W/\j=1)\/(b=B/\j=2)\/(b=K/\j=4),.slice none 0 0,[],?_,?_,h.size,oL ⟨rfl,rfl⟩,e,⟨fun b j=>b=B/\j=2,xK,⟨fun b i j hi f=>oM,fun b i hi=>oM,⟨rfl,rfl⟩,c,fun k g=>⟨Row.nil _ _ _ _,Row.nil _ _ _ _,fun p a=>(eG a).elim⟩,dc,fun k g=>bA _⟩,fun b i hi=>oR (oL ⟨hi.1,rfl⟩)⟩,Row.nil _ _ _ _,⟨oR (oR ⟨rfl,rfl⟩),fun x l=>by simp at l,_,_,d,Row.nil _ _ _ _,Row.nil _ _ _ _⟩,bA _,bA _,fun i p a=>by simp at a⟩,fun p a=>by simp at a⟩
 ·intro b i j hi f
  omega
 ·intro b i hi
  omega
theorem b'.list{w:D}{ps:List Pr}(h:b' N w W B K c ps n)(b:0<ps.length):∃a cap,w.heap[W]? =Z (Cl (qM B K (.slice (Z ⟨a,0,Y⟩) ps.length cap)) 123 (0,0))/\a<w.heap.size/\∀(i:Nat)(p:Pr),ps[i]? =Z p->w.rangeAt a (i*2) (lP p):=by
 obtain⟨⟨Oa,lv,ks,h⟩,g⟩:=h;obtain⟨a,cap,e,rfl,h2,h3,_,_,_,d⟩:=h.row.cases.resolve_left (fun x=>absurd x.2.1 oM);exact⟨a,cap,h.world,(aL h3),fun i p b=>Row.range (f:=lP) (m:=2) (fun _=>rfl) h3 d b⟩
theorem b'.looks{w:D}{ps:List Pr}(h:b' N w W B K c ps n)(b:c<=6000000000000):Rt 17 #[X (Z ⟨B,0,Y⟩)] w (Bl true):=by
 obtain⟨⟨Oa,lv,ks,h⟩,e⟩:=h;obtain⟨C,d,a,_⟩:=h.book;exact Rz a b
theorem b'.kB{w:D}{ps:List Pr}(h:b' N w W B K c ps n):ps.length<=n:=by
 obtain⟨⟨Oa,lv,ks,h⟩,a⟩:=h;exact h.np
theorem b'.gate{w:D}{ps:List Pr}(h:b' N w W B K c ps n){p:Pr}(a:ps[i]? =Z p):∃S b,gg S w p.x p.s/\jh b w p.y p.s K/\Inv p.s:=by
 obtain⟨⟨Oa,lv,ks,h⟩,d⟩:=h;obtain⟨h1,h2,h3,e⟩:=h.gates i p a;rw[<-d p (aJ a)] at h2;exact⟨_,_,h1,h2,h3⟩
theorem b'.Xu{w:D}{ps:List Pr}(h:b' N w W B K c ps n){p:Pr}(b:ps[i]? =Z p)(f:c<=5790000000000):Calls prog 68 #[X (Z ⟨W,0,Y⟩),H (lP p).toArray] w fun e w'=>∃v,e=Re v/\v=Bl true/\b' N w' W B K (c+130000) ps n/\O N w w':=by
 obtain⟨⟨Oa,lv,ks,h⟩,a⟩:=h;refine(GX h b (a p (aJ b)) f).mono ?_;rintro e w' ⟨d,⟨O',h1⟩,h2⟩;exact⟨_,d,rfl,⟨⟨O',lv,ks,h1⟩,a⟩,h2⟩
theorem b'.Ql{w:D}{ps:List Pr}(h:b' N w W B K c ps n){p:Pr}(b:ps[i]? =Z p)(f:c<=5790000000000):Calls prog 69 #[X (Z ⟨W,0,Y⟩),H (lP p).toArray] w fun e w'=>∃v,e=Re v/\v=Bl true/\b' N w' W B K (c+130000) ps n/\O N w w':=by
 obtain⟨⟨Oa,lv,ks,h⟩,a⟩:=h;refine(Jr h b (a p (aJ b)) f).mono ?_;rintro e w' ⟨d,⟨O',h1⟩,h2⟩;exact⟨_,d,rfl,⟨⟨O',lv,ks,h1⟩,a⟩,h2⟩
theorem R0(w:D)(a0:Option Addr)(cap:Nat)(os:List Sp)(hs:xG w a0 os)(Y:Hs.kc w)(hD:∀o∈os,qO w.heap.size w o)(hn:os.length<=1048576):
  Rt 23 #[.slice a0 os.length cap,I J 9] w (Bl true):=by
 have HS:Hq (xG w a0 os):=hs;have HT:Hq (Hs.kc w):=Y;have HD:Hq (∀o∈os,qO w.heap.size w o):=hD;have h0:0<w.heap.size:=Y.lt;clear hs Y hD;go_enter func23,ntmps23
 refine au ?_;refine kv (H (kh xK)) ?_;refine box rfl _ _ rfl (kh xK) rfl ?_;intro w1 B b1 N M a7;simp only[zD];refine kv (H #[.slice none 0 0,.slice none 0 0]) ?_;refine box rfl _ _ rfl #[.slice none 0 0,.slice none 0 0] rfl ?_;intro w2 K b2 P A a8;simp only[zD];refine kv (H (qM B K (.slice none 0 0))) ?_;refine box rfl _ _ rfl (qM B K (.slice none 0 0)) rfl ?_;intro w3 W b3 a6 C h9;have j:O w.heap.size w w3:=(tR M A).trans (C.o.mono (ag M.o.size A.o.size));have b0:Hq (b' w.heap.size w3 W B K 0 [] 0):=by
  have g:=b1.o;have e2:=b2.o;have e3:=b3.o;have s1:=a7.o;have s2:=a8.o;have l1:=(aL N.o);have l2:=(aL P.o);exact ij.start j oM oM oM oM oM ((C.o.block B oM).trans ((A.o.block B l1).trans N.o)) ((C.o.block K l2).trans P.o) a6.o
 clear N P a6 M A C a7 a8 h9 b1 b2 b3;simp only[zD];refine au ?_;refine pure (w0 rfl) 16 #[] kr (Fe w3) ?_;intro w4 n;simp only[zD];refine Ks.call rfl 64 #[pt W 0,I J 1,sT ⟨qR.toArray⟩] kr (R:=fun v w'=>v=Bl true/\(∃c,b' w.heap.size w' W B K 0 c 1/\c.length=1)/\O w.heap.size w4 w') ((B8 1 qR w4 (b0.o.below n) oM).mono ?_) ?_
 ·rintro e w' ⟨g,⟨c,h1,h2,_⟩,h3⟩
  exact⟨_,g,rfl,⟨c,h1,by rw[h2 ⟨dc,IL⟩];rfl⟩,h3⟩
 rintro _ w5 ⟨rfl,⟨n0,c4,j9⟩,c7⟩;have e7:=(tR j n).trans c7;clear b0 n c7 j;simp only[zD];refine au ?_;refine pure (w0 rfl) 16 #[] kr (Fe w5) ?_;intro w6 V;simp only[zD];refine Ks.call rfl 64 #[pt W 0,I J 2,sT ⟨qR.toArray⟩] kr (R:=fun v w'=>v=Bl true/\(∃c,b' w.heap.size w' W B K 0 c 2/\c.length=2)/\O w.heap.size w6 w') ((B8 2 qR w6 (c4.below V) oM).mono ?_) ?_
 ·rintro e w' ⟨g,⟨c,h1,h2,_⟩,h3⟩
  exact⟨_,g,rfl,⟨c,h1,by rw[h2 ⟨dc,IL⟩,j9]⟩,h3⟩
 rintro _ w7 ⟨rfl,⟨h5,Q,l0⟩,c8⟩;have e9:=(tR e7 V).trans c8;obtain⟨G,gc,h,_,_⟩:=Q.list oM;rw[l0] at h;have E:Hq (w7.heap[W]? =_):=h;clear c4 V c8 e7 h;simp only[zD];refine au ?_;refine lp 129 (fun s:Nat×List Pr=>[(0,.slice a0 os.length cap),(1,I J 9),(4,Bl false),(5,pt W 0),(8,I J (s.1:Int))]) (fun m s wr=>s.1<=os.length/\m=os.length-s.1/\b' w.heap.size wr W B K (4500000*s.1) s.2 (2*s.1+2)/\0<s.2.length/\O w.heap.size w wr) os.length (0,h5) ⟨aF _,rfl,Q,by show 0<h5.length;omega,e9⟩ ?_;clear Q e9 E;rintro m ⟨k,ps⟩ wr f ⟨hk,rfl,a,t,b⟩;dsimp only at hk a t⊢;refine af ?_;refine wp_cond_split rfl ?_ ?_
 ·intro d
  have d:k<os.length:=by have:=of_decide_eq_true d;omega
  obtain⟨o,ho⟩:∃o,os[k]? =Z o:=⟨_,ae d⟩;obtain⟨sb,so,rfl,u⟩:=HS.o.resolve_left (fun e=>by rw[e] at d;simp at d);have X:=u k o ho;have F:Hq (wr.rangeAt sb (so+k*9) (tr o)):=mG X b (block_lt_of_cell (X 0 _ rfl));clear u X;refine au ?_;refine wp_cond_split rfl ?_ ?_
  ·intro _
   refine au ?_;exact⟨os.length-(k+1),(k+1,ps),oM,gY kr,d,rfl,a.nL oM oM,t,b⟩
  ·intro _
   refine au ?_;refine Ks.call rfl 65 #[pt W 0,H (tr o).toArray] kr (R:=fun v w'=>v=Bl true/\Stepped w.heap.size W B K (4500000*k) (2*k+2) ps wr w') ((N4 o wr a oM t oM ((HD.o o (aJ ho)).below lR b) (HT.o.below b h0) h0).mono ?_) ?_
   ·rintro e w' ⟨g,e2⟩
    exact⟨_,g,rfl,e2⟩
   rintro _ w8 ⟨rfl,⟨h6,T,l8⟩,c9⟩;have b7:=b.trans c9;obtain⟨G,gc,h4,_,_⟩:=T.list oM;have l4:Hq (w8.heap[W]? =_):=h4;clear F a c9 h4;simp only[zD];refine au ?_;refine pure (w0 rfl) 17 #[pt B 0] kr (T.looks oM) ?_;intro w9 L;simp only[zD];refine au ?_;exact⟨os.length-(k+1),(k+1,h6),oM,gY kr,d,rfl,(T.below L).nL (by show _<=4500000*(k+1);omega) (by show _<=2*(k+1)+2;omega),by show 0<h6.length;omega,b7.trans (L.mono b7.size)⟩
 ·intro d
  have l9:=a.kB;refine au ?_;refine lp 129 (fun i:Nat=>[(1,I J 9),(4,Bl false),(5,pt W 0),(11,I J (i:Int))]) (fun m i z=>i<=ps.length/\m=ps.length-i/\b' w.heap.size z W B K (4500000*k+260000*i) ps (2*k+2)/\O w.heap.size w z) ps.length 0 ⟨aF _,rfl,a,b⟩ ?_;clear a b;rintro m i z f2 ⟨hi,rfl,a,b⟩;obtain⟨G,gc,h,j5,u⟩:=a.list t;have E:Hq (z.heap[W]? =_):=h;clear h;refine af ?_;refine wp_cond_split rfl ?_ ?_
  ·intro q
   have q:i<ps.length:=by have:=of_decide_eq_true q;omega
   obtain⟨p,r⟩:∃p,ps[i]? =Z p:=⟨_,ae q⟩;have F:Hq (z.rangeAt G (i*2) (lP p)):=u i p r;obtain⟨S,S',e4,e5,hI⟩:=a.gate r;refine au ?_;refine Qt.lW kr kr ?_;refine aq ?_;refine Ks.WQ.mk (Qg.call (w0 rfl) 66 #[pt p.x 0] (H (mu p.s)) (fun _=>kr) (fun w' U=>Fh (e4.below U)) ?_);simp only[zD];refine aq ?_;refine Ks.WQ.mk (Qg.call (w0 rfl) 67 #[pt p.y 0] (H (mu p.s)) (fun _=>kr) (fun w' U=>Fi (e5.below U) (ag hI.kB oM)) ?_);simp only[zD];refine Ks.WQ.o (Ks.vq (v:=Bl false) (w0 rfl) rfl (fun w' _=>Ks.QU _ _ _ _ rfl (mu p.s) (mu p.s) rfl rfl kr true (Jw p.s w')) ?_);refine Ks.WQ.mk ?_;simp only[zD];refine aq ?_;intro w2 l;have b8:=a.below l;have b6:=tR b l;have h7:=ca l E;have h8:Hq (w2.rangeAt G (i*2) (lP p)):=mG F.o l j5;clear E F a b l u e4 e5;refine au ?_;refine Ks.call rfl 68 #[pt W 0,H (lP p).toArray] kr (b8.Xu r oM) ?_;rintro _ w3 ⟨rfl,c0,c6⟩;have j1:=b6.trans c6;obtain⟨j0,l6,j,l7,e6⟩:=c0.list t;have l3:Hq (w3.heap[W]? =_):=j;have l5:Hq (w3.rangeAt j0 (i*2) (lP p)):=e6 i p r;clear h7 h8 b8 b6 c6 j e6;simp only[zD];refine au ?_;refine Ks.call rfl 69 #[pt W 0,H (lP p).toArray] kr (c0.Ql r oM) ?_;rintro _ w4 ⟨rfl,j2,n⟩;simp only[zD];refine au ?_;exact⟨ps.length-(i+1),i+1,oM,gY kr,q,rfl,j2.nL oM lR,j1.trans n⟩
  ·intro q
   refine au ?_;refine pure (w0 rfl) 17 #[pt B 0] kr (a.looks oM) ?_;intro w9 L;simp only[zD];refine au ?_;refine bodyPost_ret (v:=Bl true) kr rfl ?_;exact⟨rfl,b.trans (L.mono b.size)⟩
theorem OA(w:D)(a0:Option Addr)(cap:Nat)(os:List Sp)(c:xG w a0 os)(d:Hs.kc w)(hD:∀o∈os,qO w.heap.size w o)(b:os.length<=1048576):
  Rt 6 #[.slice a0 os.length cap] w (Bl true):=by
 go_enter func6,ntmps6
 refine au ?_;refine pure (w0 rfl) 23 #[.slice a0 os.length cap,I J 9] kr (R0 w a0 cap os c d hD b) ?_;intro w1 a;simp only[zD];refine au ?_;refine bodyPost_ret (v:=Bl true) kr rfl ?_;exact⟨rfl,a⟩
end Gt
end Go.Proofs.YtbojijefenfbgaaGreatDoor
namespace Go.Proofs.YtbojijefenfbgaaGreatDoor.AllP
open Go.ChangeShapes Go.WideShapes Go.ChangeAt Go.RowKit
theorem leaves{P:Program}{a:Machine}{w:D}{t:Trace}(h:aloneAtReturn P a w t):leavingAtReturn P a w t:=by
 obtain⟨⟨h1,h2⟩,h3,b⟩:=h;refine⟨h3,⟨fun g c=>⟨0,?_⟩,h2⟩,b⟩;have:=List.all_eq_true.1 h1 g c;show g.status= .finished;exact eq_of_beq this
theorem Pv{p:Pinned}{s:OpenSpec}{c:OpenClaim}(a:c.leaving=true)(d:c.again=false)(R:c.start= .entering)(Q:c.stops=[])(h:({c with leaving:=false}:OpenClaim).holds p s):c.holds p s:=by
 unfold OpenClaim.holds at h⊢;obtain⟨a1,a2,a3,a4,a5,e,g,o,f,N,g1,g2,r,b1,t,u,b4,b5,k,z,B,C,D,E,G,m,l,q,n1,U,M,L,O,all⟩:=h;refine⟨?_,a2,a3,a4,a5,e,g,o,f,N,g1,g2,r,b1,t,u,b4,b5,k,z,B,C,D,E,G,m,l,q,n1,U,M,L,O,fun os x y Ho enc inj=> ?_⟩
 ·cases c
  simp only at a d;subst a d;exact a1
 ·have A:=all os x y Ho enc inj
  unfold OpenClaim.form at A⊢;simp only[R,Q] at A⊢;intro F;obtain⟨q1,q2,q3,q4,T⟩:=A F;refine⟨q1,q2,q3,q4,fun w tape i P=> ?_⟩;obtain⟨n,v,w',d1,d2,d3,H,⟨j,S,I,J,b⟩,K⟩:=T w tape i P;refine⟨n,v,w',d1,d2,d3,H,⟨j,S,I,J,?_⟩,K⟩;unfold OpenClaim.atReturn at b⊢;rw[a];exact leaves b
theorem own:ownKnob prog.godebug=Y:=kr
theorem laidOut:laidOutB prog=true:=kr
theorem Iq:prog.globalNamed "postern/hash.roundWords" =Z 0:=kr
theorem UT:(prog.globals[0]?).map (·.type)=Z 179:=kr
theorem Uv:prog.cellsOf 179=80:=kr
theorem MC:prog.cellsOf 159=1:=kr
def k2v:List Int:=Sha.K.map un
theorem Rp:(Rows.laid_postern_hash_roundWords:DataW Unit)=Lib.tabData .u64 k2v:=kr
theorem table{W:D}(h:laidMetH prog Rows.allRow.laid W):Hs.kc W:=by
 have h1:laidMetH prog [("postern/hash.roundWords",Rows.laid_postern_hash_roundWords)] W:=h;rw[Rp] at h1;have d:=Lib.tabIs_of_head (rest:=[]) Iq UT underlying179 underlying159 MC Uv h1;intro k a;have c:k<k2v.length:=by unfold k2v;rw[aS,Sha.T6];exact a
 have b:=d.cell Iq k c;rw[b];unfold k2v Sha.se;simp[List.getElem_map,show k<Sha.K.length from a]
theorem Pw{Ho:Type}(d:DataW Ho):1<=Rows.uptoBulk d:=by
 cases d with
 |lit l=>cases l<;>simp[Rows.uptoBulk]
 |_=>simp[Rows.uptoBulk]
theorem Jm{Ho:Type}(l:List (DataW Ho)):l.length<=Rows.uptoBulkAll l:=by
 induction l with
 |nil=>simp
 |cons d r ih=>
  have:=Pw d;simp only[bE,Rows.uptoBulkAll];omega
theorem collect{e:Type}{Q:Nat->e->Prop}:∀(n:Nat),(∀i,i<n->∃a,Q i a)->∃l:List e,l.length=n/\∀(i:Nat)(a:e),l[i]? =Z a->Q i a
 |0,_=>⟨[],rfl,fun i a h=>by simp at h⟩
 |n+1,h=>by
  obtain⟨l,d,j⟩:=collect n fun i hi=>h i oM;obtain⟨a,f⟩:=h n oM;refine⟨l++[a],by simp[d],fun i b c=> ?_⟩;by_cases hi:i<n
  ·rw[fc oM] at c
   exact j i b c
  ·have g:=(lL c)
   simp[d] at g;obtain rfl:i=n:=oM
   rw[dE oM,d,Nat.sub_self] at c;simp at c;rw[<-c];exact f
theorem nine:∀{cs:List Vl},cs.length=9->∃a b c d e f g h i,cs=[a,b,c,d,e,f,g,h,i]
 |[a,b,c,d,e,f,g,h,i],_=>⟨a,b,c,d,e,f,g,h,i,rfl⟩
theorem F6:prog.cellsOf 126=9:=kr
theorem xl:prog.cellsOf 3=1:=kr
theorem EU:prog.cellsOf 9=1:=kr
theorem KK{w:D}{base:Nat}{a:Addr}{cs:List Vl}(h:w.cells? base a n=Z cs):cs.length=n/\∀(j:Nat)(v:Vl),cs[j]? =Z v->w.cell? (a.add j)=Z v:=by
 unfold World.cells? at h;split at h
 ·have b:=mapM_some_length h
  simp at b;refine⟨b,fun j v hv=> ?_⟩;have c:j<n:=by rw[<-b];exact(lL hv)
  have:=mapM_some_get h j j (by simp[c]);rw[this,hv]
 ·cases h
theorem CV{Ho:Type}{l:List (DataW Ho)}{d:DataW Ho}(h:d∈l):Rows.uptoBulk d<=Rows.uptoBulkAll l:=by
 induction l with
 |nil=>cases h
 |cons x r ih=>
  simp only[Rows.uptoBulkAll];rcases List.mem_cons.1 h with rfl|h
  ·omega
  ·have:=ih h
   omega
theorem xz{Ho:Type}{xs:List (DataW Ho×List MemPlace)}{y:DataW Ho×List MemPlace}(h:xs[i]? =Z y):Rows.uptoBulk y.1+1<=Rows.uptoBulk (.agg (xs.map (·.1))):=by
 simp only[Rows.uptoBulk];have:=CV (fW (f:=fun x=>x.1) (aJ h));omega
theorem Jz{c:Type}{f:c->List Vl}{sz:Nat}(b:∀a,(f a).length=sz):∀(l:List c)(j:Nat)(u:Vl),(l.flatMap f)[j]? =Z u->∃i r a,j=i*sz+r/\l[i]? =Z a/\(f a)[r]? =Z u
 |[],j,u,h=>by simp at h
 |x::l,j,u,h=>by
  rw[eo] at h;by_cases d:j<sz
  ·rw[fc (by rw[b];exact d)] at h
   exact⟨0,j,x,oM,rfl,h⟩
  ·rw[dE (by rw[b];omega),b] at h
   obtain⟨i,r,a,h1,h2,h3⟩:=Jz b l (j-sz) u h;exact⟨i+1,r,a,by rw[jO];omega,by simpa using h2,h3⟩
section
variable {Ho:Type} {enc:TypeId×Vl->Ho} {w:D} {base:Nat} {spare:Nat->Bool} {held:Bool} {fuel:Nat} {cs:List Vl} {x:DataW Ho×List MemPlace} {M:Nat}
theorem CI{d:Type}{f:d->List Vl}{sz:Nat}(k:∀a,(f a).length=sz)(K:0<sz){t e:TypeId}(O:prog.underlying t=Z (.slice e))(L:prog.cellsOf e=sz)(Q:d->Prop)(H:∀n cs x,bz enc prog w base spare held n e cs=Z x->Rows.uptoBulk x.1<=M->∃a,cs=f a/\Q a)(h:bz enc prog w base spare held fuel t cs=Z x)(p:Rows.uptoBulk x.1<=M):
  ∃(v:Vl)(l:List d),cs=[v]/\Sl (fun b=>b<w.heap.size) w sz v l.length (l.flatMap f)/\(∀a∈l,Q a)/\l.length<=M:=by
 rcases jX O h with⟨g,A⟩|⟨a,len,cap,o,rest,n,_,g,A,_,V,W,I,G,_⟩
 ·exact⟨_,[],g,⟨sP,Y,0,rfl,fun h=>absurd h sP⟩,fun a C=>(eG C).elim,aF _⟩
 rw[A] at p;simp only[Rows.uptoBulk] at p;have D:=Jm (o.map (·.1));rw[aS,I] at D;obtain⟨l,s,c⟩:=collect (Q:=fun i (y:d)=>(∀(j:Nat)(v:Vl),(f y)[j]? =Z v->w.cell? ((a.add (i*sz)).add j)=Z v)/\Q y) len fun i hi=>by
  have h1:=G i hi;rw[ae oM,Option.bind_eq_some_iff,L] at h1;obtain⟨B,E,F⟩:=h1;have U:=CV (fW (f:=fun x:DataW Ho×List MemPlace=>x.1) (ko (l:=o) (n:=i) oM));obtain⟨y,rfl,m⟩:=H n B _ F oM;exact⟨y,(KK E).2,m⟩
 refine⟨_,l,g,⟨?_,Z a,cap,by rw[s],fun J=> ?_⟩,fun y m=> ?_,oM⟩
 ·clear c s
  induction l with
  |nil=>simp
  |cons y r ih=>rw[eo,List.length_append,k,ih,bE,jO];omega
 ·obtain⟨y0,R⟩:∃y,l[0]? =Z y:=⟨_,ae J⟩
  obtain⟨T,P⟩:∃u,(f y0)[0]? =Z u:=⟨_,ae (by rw[k];exact K)⟩;have q:=(c 0 y0 R).1 0 T P;obtain⟨b,off,S⟩:=a;have N:S=Y:=by simpa [Addr.add] using World.cell?_spot q
  subst N;have z:=block_lt_of_cell q;refine⟨b,off,rfl,?_,?_,fun j u hu=> ?_⟩
  ·simpa [cM] using z
  ·simpa [cM] using z
  ·obtain⟨i,r,y,rfl,h2,h3⟩:=Jz k l j u hu
   have:=(c i y h2).1 r u h3;rw[cM,cM,Nat.add_assoc] at this;exact this
 ·obtain⟨i,hi⟩:=jt m
  exact(c i y hi).2
theorem open_int(h:bz enc prog w base spare held fuel 3 cs=Z x):∃n:Int,cs=[I J n]/\-9223372036854775808<=n/\n<9223372036854775808:=by
 obtain⟨n,e,_,a⟩:=DataW.trod_int underlying3 h;refine⟨n,e,?_⟩;simp[Lit.wf,IntKind.min,IntKind.max,IntKind.signed,IntKind.bits] at a;omega
theorem open_ints(h:bz enc prog w base spare held fuel 25 cs=Z x)(c:Rows.uptoBulk x.1<=M):∃v,∃l:List Int,cs=[v]/\Sl (fun b=>b<w.heap.size) w 1 v l.length (l.map hE)/\l.length<=M:=by
 obtain⟨v,l,h1,h2,_,a⟩:=CI (f:=fun n:Int=>[hE n]) (sz:=1) (fun _=>rfl) oM underlying25 xl (fun _=>True) (fun n cs x h _=>by
  obtain⟨n,e,_⟩:=open_int h;exact⟨n,e,trivial⟩) h c
 rw[<-Gt.IK] at h2;exact⟨v,l,h1,h2,a⟩
theorem three:∀{cs:List Vl},cs.length=3->∃a b c,cs=[a,b,c]
 |[a,b,c],_=>⟨a,b,c,rfl⟩
theorem Wi:∀{cs:List Vl},cs.length=5->∃a b c d e,cs=[a,b,c,d,e]
 |[a,b,c,d,e],_=>⟨a,b,c,d,e,rfl⟩
theorem two:∀{cs:List Vl},cs.length=2->∃a b,cs=[a,b]
 |[a,b],_=>⟨a,b,rfl⟩
theorem F7:prog.cellsOf 213=3:=kr
theorem F4:prog.cellsOf 73=5:=kr
theorem F3:prog.cellsOf 71=2:=kr
theorem F5:prog.cellsOf 66=2:=kr
theorem yy:prog.cellsOf 25=1/\prog.cellsOf 69=1/\prog.cellsOf 64=1/\prog.cellsOf 4=1:=⟨kr,kr,kr,kr⟩
theorem Tl(h:bz enc prog w base spare held fuel 213 cs=Z x)(o:Rows.uptoBulk x.1<=M):∃p:Bk.Sn×Vl,cs=jY p.1 p.2/\Sl (fun b=>b<w.heap.size) w 1 p.2 p.1.more.length (p.1.more.map hE)/\p.1.more.length<=M:=by
 obtain⟨xs,n,_,z,q,u,e⟩:=ea underlying213 h;rw[F7] at q;obtain⟨a,b,c,rfl⟩:=three q;have E:xs.length=3:=u;have d:∀k,k<3->∃y,xs[k]? =Z y:=fun k D=>⟨_,ae oM⟩;obtain⟨y0,z0⟩:=d 0 oM;obtain⟨y1,B⟩:=d 1 oM;obtain⟨y2,r⟩:=d 2 oM;have i:bz enc prog w base spare held n 3 (([a,b,c].drop 0).take (prog.cellsOf 3))=Z y0:=(e 0 _ rfl).trans z0;have j:bz enc prog w base spare held n 3 (([a,b,c].drop 1).take (prog.cellsOf 3))=Z y1:=(e 1 _ rfl).trans B;have m:bz enc prog w base spare held n 25 (([a,b,c].drop 2).take (prog.cellsOf 25))=Z y2:=(e 2 _ rfl).trans r;simp only[xl,yy.1,ax,aK,ak,aE] at i j m;rw[z] at o;dsimp only at o;have C:=xz r;obtain⟨A,e0,_⟩:=open_int i;obtain⟨n1,f,_⟩:=open_int j;obtain⟨v,l,g,s,t⟩:=open_ints (M:=M) m oM;simp only[List.cons.injEq,and_true] at e0 f g;exact⟨(⟨A,n1,l⟩,v),by rw[e0,f,g];rfl,s,t⟩
theorem Ti(h:bz enc prog w base spare held fuel 73 cs=Z x):∃z:Bk.It,cs=fF z:=by
 obtain⟨xs,n,_,_,u,v,g⟩:=ea underlying73 h;rw[F4] at u;obtain⟨a,b,c,d,e,rfl⟩:=Wi u;have E:xs.length=5:=v;have f:∀k,k<5->∃y,xs[k]? =Z y:=fun k D=>⟨_,ae oM⟩;obtain⟨y0,z0⟩:=f 0 oM;obtain⟨y1,B⟩:=f 1 oM;obtain⟨y2,C⟩:=f 2 oM;obtain⟨y3,z3⟩:=f 3 oM;obtain⟨y4,z4⟩:=f 4 oM;have o:bz enc prog w base spare held n 3 (([a,b,c,d,e].drop 0).take (prog.cellsOf 3))=Z y0:=(g 0 _ rfl).trans z0;have p:bz enc prog w base spare held n 3 (([a,b,c,d,e].drop 1).take (prog.cellsOf 3))=Z y1:=(g 1 _ rfl).trans B;have q:bz enc prog w base spare held n 3 (([a,b,c,d,e].drop 2).take (prog.cellsOf 3))=Z y2:=(g 2 _ rfl).trans C;have r:bz enc prog w base spare held n 3 (([a,b,c,d,e].drop 3).take (prog.cellsOf 3))=Z y3:=(g 3 _ rfl).trans z3;have s:bz enc prog w base spare held n 4 (([a,b,c,d,e].drop 4).take (prog.cellsOf 4))=Z y4:=(g 4 _ rfl).trans z4;simp only[xl,yy.2.2.2,ax,aK,ak,aE] at o p q r s;obtain⟨A,e0,_⟩:=open_int o;obtain⟨n1,i,_⟩:=open_int p;obtain⟨n2,j,_⟩:=open_int q;obtain⟨n3,l,_⟩:=open_int r;obtain⟨t,m,_⟩:=DataW.trod_bool underlying4 s;simp only[List.cons.injEq,and_true] at e0 i j l m;exact⟨⟨A,n1,n2,n3,t⟩,by rw[e0,i,j,l,m];rfl⟩
theorem Xd(h:bz enc prog w base spare held fuel 71 cs=Z x)(c:Rows.uptoBulk x.1<=M):∃(F:Int)(v:Vl)(l:List (Bk.Sn×Vl)),cs=[I J F,v]/\Gt.mi (fun b=>b<w.heap.size) w v l/\l.length<=M/\∀q∈l,q.1.more.length<=M:=by
 obtain⟨xs,n,_,B,o,u,m⟩:=ea underlying71 h;rw[F3] at o;obtain⟨a,b,rfl⟩:=two o;have G:xs.length=2:=u;have d:∀k,k<2->∃y,xs[k]? =Z y:=fun k E=>⟨_,ae oM⟩;obtain⟨y0,z0⟩:=d 0 oM;obtain⟨y1,r⟩:=d 1 oM;have i:bz enc prog w base spare held n 3 (([a,b].drop 0).take (prog.cellsOf 3))=Z y0:=(m 0 _ rfl).trans z0;have j:bz enc prog w base spare held n 69 (([a,b].drop 1).take (prog.cellsOf 69))=Z y1:=(m 1 _ rfl).trans r;simp only[xl,yy.2.1,ax,aK,ak,aE] at i j;rw[B] at c;dsimp only at c;have D:=xz r;obtain⟨C,e0,_⟩:=open_int i;obtain⟨v,l,e,s,g,t⟩:=CI (M:=M) (f:=fun p:Bk.Sn×Vl=>jY p.1 p.2) (sz:=3) Gt.qE oM underlying69 F7 _ (fun n cs x h c=>Tl h c) j oM;simp only[List.cons.injEq,and_true] at e0 e;exact⟨C,v,l,by rw[e0,e],⟨s,fun p z=>(g p z).1⟩,t,fun q A=>(g q A).2⟩
theorem Tj(h:bz enc prog w base spare held fuel 66 cs=Z x)(j:Rows.uptoBulk x.1<=M):∃(o:List UInt8)(v:Vl)(l:List Bk.It),cs=[Gt.str o,v]/\Sl (fun b=>b<w.heap.size) w 5 v l.length (Gt.gi l)/\l.length<=M:=by
 obtain⟨xs,n,_,u,p,t,m⟩:=ea underlying66 h;rw[F5] at p;obtain⟨a,b,rfl⟩:=two p;have D:xs.length=2:=t;have c:∀k,k<2->∃y,xs[k]? =Z y:=fun k C=>⟨_,ae oM⟩;obtain⟨y0,z0⟩:=c 0 oM;obtain⟨y1,q⟩:=c 1 oM;have g:bz enc prog w base spare held n 9 (([a,b].drop 0).take (prog.cellsOf 9))=Z y0:=(m 0 _ rfl).trans z0;have i:bz enc prog w base spare held n 64 (([a,b].drop 1).take (prog.cellsOf 64))=Z y1:=(m 1 _ rfl).trans q;simp only[EU,yy.2.2.1,ax,aK,ak,aE] at g i;rw[u] at j;dsimp only at j;have B:=xz q;obtain⟨A,e0,_⟩:=jQ underlying9 g;obtain⟨v,l,d,r,_,s⟩:=CI (M:=M) (f:=fF) (sz:=5) (fun _=>rfl) oM underlying64 F4 (fun _=>True) (fun n cs x h _=>by
  obtain⟨z,e⟩:=Ti h;exact⟨z,e,trivial⟩) i oM
 simp only[List.cons.injEq,and_true] at e0 d;exact⟨A.data.toList,v,l,by rw[e0,d];rfl,r,s⟩
theorem Pz(h:bz enc prog w base spare held fuel 126 cs=Z x)(G:Rows.uptoBulk x.1<=1048576):∃o:Gt.Sp,cs=Gt.tr o/\Gt.qO w.heap.size w o:=by
 obtain⟨xs,n,_,Q,H,O,m⟩:=ea underlying126 h;rw[F6] at H;obtain⟨a,b,c,d,e,f,g,i,j,rfl⟩:=nine H;have a7:xs.length=7:=O;have l:∀k,k<7->∃y,xs[k]? =Z y:=fun k hk=>⟨_,ae oM⟩;obtain⟨y0,z0⟩:=l 0 oM;obtain⟨y1,W⟩:=l 1 oM;obtain⟨y2,X⟩:=l 2 oM;obtain⟨y3,z3⟩:=l 3 oM;obtain⟨y4,z4⟩:=l 4 oM;obtain⟨y5,z5⟩:=l 5 oM;obtain⟨y6,K⟩:=l 6 oM;have z:bz enc prog w base spare held n 3 (([a,b,c,d,e,f,g,i,j].drop 0).take (prog.cellsOf 3))=Z y0:=(m 0 _ rfl).trans z0;have A:bz enc prog w base spare held n 3 (([a,b,c,d,e,f,g,i,j].drop 1).take (prog.cellsOf 3))=Z y1:=(m 1 _ rfl).trans W;have B:bz enc prog w base spare held n 3 (([a,b,c,d,e,f,g,i,j].drop 2).take (prog.cellsOf 3))=Z y2:=(m 2 _ rfl).trans X;have C:bz enc prog w base spare held n 3 (([a,b,c,d,e,f,g,i,j].drop 3).take (prog.cellsOf 3))=Z y3:=(m 3 _ rfl).trans z3;have D:bz enc prog w base spare held n 9 (([a,b,c,d,e,f,g,i,j].drop 4).take (prog.cellsOf 9))=Z y4:=(m 4 _ rfl).trans z4;have E:bz enc prog w base spare held n 71 (([a,b,c,d,e,f,g,i,j].drop 5).take (prog.cellsOf 71))=Z y5:=(m 5 _ rfl).trans z5;have f6:bz enc prog w base spare held n 66 (([a,b,c,d,e,f,g,i,j].drop 7).take (prog.cellsOf 66))=Z y6:=(m 6 _ rfl).trans K;simp only[xl,EU,F3,F5,ax,aK,ak,aE] at z A B C D E f6;rw[Q] at G;dsimp only at G;have Y:=xz z5;have a6:=xz K;obtain⟨R,e0,_⟩:=open_int z;obtain⟨n1,s,w1⟩:=open_int A;obtain⟨n2,t,w2⟩:=open_int B;obtain⟨n3,u,_⟩:=open_int C;obtain⟨U,v,_,w4⟩:=jQ underlying9 D;obtain⟨F,v5,I,p,L,m5,T⟩:=Xd (M:=1048576) E oM;obtain⟨S,V,J,r,N,m6⟩:=Tj (M:=1048576) f6 oM;simp only[List.cons.injEq,and_true] at e0 s t u v p r;refine⟨⟨R,n1,n2,n3,U.data.toList,F,v5,I,S,V,J⟩,?_,L,by show I.length<=1100000;omega,fun q P=>by have:=T q P;omega,N,by show J.length<=1000000000;omega,w1,w2⟩;rw[e0,s,t,u,v,p.1,p.2,r.1,r.2];rfl
end
theorem Uz(Ho:Type)(enc:TypeId×Vl->Ho)(W:D)(base:Nat)(args:Array Vl)(ds w:List (DataW Ho))(I:List MemPlace)
  (F:∀(j:Nat) t v,Tryz.f6.params[j]? =Z t->args[j]? =Z v->Value.okWide prog W .any base t v)
  (B:DataW.Whole enc prog Tryz.f6.params.toList Rows.allSpec.vars false W args.toList ds w I)
  (k:Rows.uptoSmall Ho (ds++w)=true) (K:laidMetH prog Rows.allRow.laid W):
  Calls prog 6 args W fun e W'=>∃v,e=Re v/\Rows.allSpec.post enc prog Tryz.f6 false true false false W args v W':=by
 have g:=B;obtain⟨p,q,A,L,rfl,c0,c6⟩:=B;have z:=A;rw[Tryz.params6] at z F;obtain⟨v0,c8,d0,b6,G,q0,b7,rfl,rfl,y,r0⟩:=trodAll_cons z;obtain⟨rfl,rfl,rfl⟩:=trodAll_nil r0;obtain rfl:args= #[v0]:=by cases args;simp_all
 obtain⟨rfl,rfl⟩:=trodVars_none L;obtain⟨a0,len,cap,rfl⟩:=okWide_slice underlying53 (F 0 53 v0 rfl rfl);have J:=y;obtain⟨fuel,V⟩:=y;clear A;simp only[List.append_nil] at g k;have b1:=table K;have a6:∀x∈G,x.block<W.heap.size:=fun x d=>by simpa using g.lt x d
 unfold Rows.uptoSmall at k;have P:=of_decide_eq_true k;have fin:∀(W':D),O W.heap.size W W'->Rows.allSpec.post enc prog Tryz.f6 false true false false W #[.slice a0 len cap] (Bl true) W':=by
  intro W' E;refine⟨_,_,_,[],G,[],g,?_,?_,rfl,E.frame _,fun h=>by cases h⟩
  ·exact trodAll_mk1 (shut_bool underlying4 true)
  ·exact trodAll_mk1 (Below.trod laidOut kr (of_decide_eq_true kr) J E a6)
 have H:∀ss:List Gt.Sp,len=ss.length->Gt.xG W a0 ss->(∀o∈ss,Gt.qO W.heap.size W o)->ss.length<=1048576->
   Calls prog 6 #[.slice a0 len cap] W fun e W'=>∃v,e=Re v/\Rows.allSpec.post enc prog Tryz.f6 false true false false W #[.slice a0 len cap] v W':=by
  intro ss C hp h1 h2;have u:=fin;rw[C] at u⊢;refine(Gt.OA W a0 cap ss hp b1 h1 h2).mono fun e W' ⟨T,M⟩=> ?_;subst T;exact⟨_,rfl,u W' M⟩
 rcases jX underlying53 V with⟨c,d⟩|⟨a,c7,b3,s,rest,n,_,c,d,_,C,hm,X,U,_⟩
 ·simp[Value.cells] at c
  obtain⟨rfl,rfl,rfl⟩:=c;exact H [] rfl (.inl rfl) sP sP
 ·simp[Value.cells] at c
  obtain⟨rfl,rfl,rfl⟩:=c;simp only[Prod.mk.injEq] at d;obtain⟨rfl,_⟩:=d;simp only[Rows.uptoBulkAll,Rows.uptoBulk] at P;have N:=Jm (s.map (·.1));rw[aS,X] at N;obtain⟨ss,a8,r⟩:=collect (Q:=fun i (o:Gt.Sp)=>(∀(j:Nat)(v:Vl),(Gt.tr o)[j]? =Z v->W.cell? ((a.add (i*9)).add j)=Z v)/\Gt.qO W.heap.size W o) len fun i hi=>by
   have h1:=U i hi;rw[ae oM,Option.bind_eq_some_iff,F6] at h1;obtain⟨cs,R,S⟩:=h1;have b8:=CV (fW (f:=fun x:DataW Ho×List MemPlace=>x.1) (ko (l:=s) (n:=i) oM));obtain⟨o,rfl,m⟩:=Pz S oM;exact⟨o,(KK R).2,m⟩
  refine H ss a8.symm ?_ (fun o m=> ?_) oM
  ·by_cases c4:len=0
   ·exact .inl (List.length_eq_zero_iff.1 oM)
   ·obtain⟨b,off,b2⟩:=a
    obtain⟨o0,a7⟩:∃o,ss[0]? =Z o:=⟨_,ae oM⟩;have b0:b2=Y:=by simpa [Addr.add] using World.cell?_spot ((r 0 o0 a7).1 0 _ rfl)
    subst b0;refine .inr ⟨b,off,rfl,fun i o hi j v hv=> ?_⟩;have:=(r i o hi).1 j v hv;rw[cM,cM] at this;exact this
  ·obtain⟨i,hi⟩:=jt m
   exact(r i o hi).2
noncomputable def CE(os:Os):D:=
 {World.holding prog os ⟨#[],#[],[]⟩ with heap:=(World.holding prog os ⟨#[],#[],[]⟩).heap.modify 0 fun
   |Cl _ t frozen=>Cl (Own.dk 80 qW) t frozen
   |o=>o}
theorem O8(os:Os):laidMet prog Rows.allRow.laid ((CE os).forCall (fun _ _=>0) ⟨#[],#[.slice none 0 0],[]⟩).memory:=
 laidMet_of_run' 8 kr kr
theorem reads(os:Os){Ho:Type}(enc:TypeId×Vl->Ho):∃a,DataW.whole enc prog ((CE os).forCall (fun _ _=>0) ⟨#[],#[.slice none 0 0],[]⟩).memory Tryz.f6.params.toList Rows.allSpec.vars false #[Value.slice none 0 0].toList 8=Z ([.nil],[],a):=
 ⟨[],kr⟩
theorem XS(os:Os)(i:os.Started)(Ho:Type)(enc:TypeId×Vl->Ho)(F:Stop.Interp):
  ReturnsInHanded {} Tryz.checked os 6 .any ((Rows.OpenSpec.upto Rows.allSpec).preRow enc prog Tryz.f6 Rows.allUptoRow.domain false Rows.allUptoRow.laid) (((Rows.OpenSpec.upto Rows.allSpec).at F).post enc prog Tryz.f6 false true false false):=by
 obtain⟨j,h⟩:=reads os enc;refine returnsInHanded_of_row (C:=Tryz.checked) (s:=Rows.OpenSpec.upto Rows.allSpec) own i kr func6
  (witness_row_at (enc:=enc) (C:=Tryz.checked) false (CE os) #[.slice none 0 0] rfl kr kr kr
   (OpenSpec.preRow_of_cond 8 h kr (fun k f=>by cases f;kernel_rfl) kr (O8 os))) ?_
 intro W base args ds b a g d _ e _ c _ _;exact Uz Ho enc W base args ds b a g d (e _ rfl) c
end Go.Proofs.YtbojijefenfbgaaGreatDoor.AllP
namespace Go.Proofs.YtbojijefenfbgaaGreatDoor.AllP
def qB:OpenClaim:={Rows.allUptoRow with leaving:=false}
theorem lT{a b:Bool}(h:a=true)(k:b=true):(a&&b)=true:=by rw[h,k];rfl
theorem k1:(qB.wf (OpenSpec.ofChange (Rows.OpenSpec.upto Rows.allSpec).bare))=true:=kr
theorem k2:(laidOutB Tryz.pinned.checked.prog)=true:=kr
theorem k3:(mapsRowed Tryz.pinned.checked.prog)=true:=kr
theorem k4:(Tryz.f6.params.all (Tryz.pinned.checked.prog.readableRec ·))=true:=kr
theorem k5:(namedTie Tryz.pinned.checked.prog qB.named ((Rows.OpenSpec.upto Rows.allSpec).bare).vars)=true:=kr
theorem k6:((qB.stops==[]))=true:=kr
theorem k7:((Tryz.pinned.checked.prog.stops==[]))=true:=kr
theorem k8:((qB.knobs==[]))=true:=kr
theorem k9:((Tryz.pinned.checked.prog.stopKnobs==[]))=true:=kr
theorem Pg:((qB.inPlace==Tryz.pinned.checked.prog.inPlace 6))=true:=kr
theorem Ph:((qB.unfollowed==Tryz.pinned.checked.prog.unfollowed 6))=true:=kr
theorem Pj:((qB.recurses==Tryz.pinned.checked.prog.recurses 6))=true:=kr
theorem Pk:((qB.named==Tryz.pinned.checked.prog.varsNamed 6))=true:=kr
theorem QX:joinedFacts Tryz.pinned.checked.prog 6 Tryz.f6 (Rows.OpenSpec.upto Rows.allSpec).bare qB=true:=by
 unfold joinedFacts;refine lT ?_ kr;refine lT ?_ kr;refine lT ?_ kr;refine lT ?_ kr;refine lT ?_ kr;refine lT ?_ kr;refine lT ?_ kr;refine lT ?_ kr;refine lT ?_ kr;refine lT ?_ kr;refine lT ?_ kr;refine lT ?_ kr;refine lT ?_ kr;refine lT ?_ kr;refine lT ?_ kr;refine lT ?_ kr;refine lT ?_ kr;refine lT ?_ kr;refine lT ?_ kr;exact(lT (lT (lT (lT (lT (lT (lT (lT (lT (lT (lT (lT k1 k2) k3) k4) k5) k6) k7) k8) k9) Pg) Ph) Pj) Pk)
