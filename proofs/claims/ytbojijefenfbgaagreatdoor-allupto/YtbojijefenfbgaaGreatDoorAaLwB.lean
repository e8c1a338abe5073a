/- The world of a script with a book: its gates, which blocks are whose, and what a turned gate leaves of it. Walks of posternlaw: makes. Walk of the book: ownsInts. A region that draws its order, with an append: operations that read (in worlds of a class A), one that makes a slice (m), the append (m + 1), the others in a row behind them. -/
import Derived.Test.YtbojijefenfbgaaGreatDoorAaBokA
open List renaming flatMap_cons->eo,length_set->eL,getElem?_set_self->dh,getElem?_set_ne->eF
open Nat renaming lt_of_lt_of_le->aB,le_trans->ag,succ_le_succ->kA,le_succ_of_le->kf,le_succ->iX,le_refl->bA,zero_le->aF,zero_add->bC
open Int renaming tmod_eq_emod_of_nonneg->cO,natCast_nonneg->dp
open Go.Region renaming waitsFor->aI
open Option renaming some->Z,none->Y
open Go.Value renaming int->I,pointer->X,agg->H,bool->Bl,string->sT,tuple->Tp
open Go.IntKind renaming i64->J
open Go.Obj renaming cells->Cl
open Go.Ending renaming returned->Re
open Go renaming World->D,Value->Vl
open Go.RowKit renaming Below->O
set_option maxHeartbeats 4000000
set_option maxRecDepth 100000
open Go Go.RowKit
open Go.Proofs.YtbojijefenfbgaaGreatDoor
open Ks(au pure rI uF)
open Cw(lq)
variable{C:Nat->Nat->Prop}{P:Program}{S:Nat->Prop}{i m:Nat}{l:List Oper}
namespace Go.Proofs.YtbojijefenfbgaaGreatDoor
open Tryz
namespace Gt
open Mp Bk Tk
structure Pr where
 x:Nat
 y:Nat
 s:St
 t:St
def lP(p:Pr):List Vl:=[X (Z ⟨p.x,0,Y⟩),X (Z ⟨p.y,0,Y⟩)]
def pG(l:List Pr):List Vl:=l.flatMap lP
theorem PF(l:List Pr)(x:Pr):pG (l++[x])=pG l++lP x:=by simp[pG]
theorem GI(l:List Pr)(i:Nat)(p q:Pr)(h:l[i]? =Z p)(a:q.x=p.x)(b:q.y=p.y):pG (l.set i q)=pG l:=by
 induction l generalizing i with
 |nil=>rfl
 |cons z r ih=>
  cases i with
  |zero=>
   simp at h;subst h;simp[pG,lP,a,b]
  |succ i=>
   simp at h;have:=ih i h;unfold pG at this⊢;rw[List.set_cons_succ,eo,eo,this]
def qM(B K:Nat)(lv:Vl):Array Vl:= #[X (Z ⟨B,0,Y⟩),lv,X (Z ⟨K,0,Y⟩)]
structure ij(Oa:Nat->Nat->Prop)(N:Nat)(w:D)(W B K c:Nat)(ps:List Pr)(n:Nat)(lv:Vl)(ks:List lS):Prop where
 one:∀b i j,Oa b i->Oa b j->i=j
 lt:∀b i,Oa b i->N<=b/\b<w.heap.size
 wN:N<=w.heap.size
 oW:Oa W 1
 world:w.heap[W]? =Z (Cl (qM B K lv) 123 (0,0))
 book:∃C d,lH C w B c d/\∀b i,C b i->Oa b 2
 row:Row (fun b=>Oa b 3) w 132 2 lv ps.length (pG ps)
 known:jV Gw.ga (fun b=>Oa b 4) w K ks
 nk:ks.length<=n
 np:ps.length<=n
 gates:∀i p,ps[i]? =Z p->gg (fun b=>Oa b (5+2*i)) w p.x p.s/\jh (fun b=>Oa b (6+2*i)) w p.y p.t K/\Inv p.s/\Inv p.t
namespace ij
variable {Oa:Nat->Nat->Prop} {N:Nat} {w w':D} {W B K c:Nat} {ps:List Pr} {n:Nat} {lv:Vl} {ks:List lS}
theorem below(h:ij Oa N w W B K c ps n lv ks)(a:O w.heap.size w w'):ij Oa N w' W B K c ps n lv ks:=by
 have f:=a.size;refine⟨h.one,fun b i e=>⟨(h.lt b i e).1,aB (h.lt b i e).2 f⟩,ag h.wN f,h.oW,?_,?_,h.row.below a lR,h.known.below a,h.nk,h.np,fun i p j=> ?_⟩
 ·rw[a.block W (h.lt W 1 h.oW).2];exact h.world
 ·obtain⟨C,d,h1,h2⟩:=h.book
  exact⟨C,d,h1.below a,h2⟩
 ·obtain⟨h1,h2,h3,g⟩:=h.gates i p j
  exact⟨h1.below a,h2.below a,h3,g⟩
theorem more(h:ij Oa N w W B K c ps n lv ks)(a:n<=m):ij Oa N w W B K c ps m lv ks:=
 ⟨h.one,h.lt,h.wN,h.oW,h.world,h.book,h.row,h.known,ag h.nk a,ag h.np a,h.gates⟩
theorem rQ(h:ij Oa N w W B K c ps n lv ks){U:Nat->Prop}(a:Fr U w.heap.size w w')(hU:∀b,U b->∃i,Oa b i):O N w w':=
 a.below h.wN fun k d hu=>by
  obtain⟨i,hi⟩:=hU k hu;have:=(h.lt k i hi).1;omega
theorem AL(h:ij Oa N w W B K c ps n lv ks){p:Pr}(r:ps[i]? =Z p){o:St}(A:Inv o)(y:Fr (fun b=>Oa b (5+2*i)) w.heap.size w w')(D:gg (fun b=>Oa b (5+2*i)\/w.heap.size<=b) w' p.x o):
  ∃O',ij O' N w' W B K c (ps.set i {p with s:=o}) n lv ks/\∀b j,O' b j->Oa b j\/w.heap.size<=b:=by
 have t:=y.size;have H:=h.wN;refine⟨fun b j=>Oa b j\/(w.heap.size<=b/\b<w'.heap.size/\j=5+2*i),?_,fun b j a=>a.imp id And.left⟩;have l:∀b j,Oa b j->j≠5+2*i->w'.heap[b]? =w.heap[b]? :=fun b j v f=>y.block b (h.lt b j v).2 fun u=>f (h.one b j _ v u);have z:(ps.set i {p with s:=o}).length=ps.length:=eL;refine⟨?_,?_,ag h.wN t,oL h.oW,?_,?_,?_,?_,h.nk,by rw[z];exact h.np,?_⟩
 ·rintro b j k (h1|⟨h1,h2,h3⟩) (g|⟨g,F,G⟩)
  ·exact h.one b j k h1 g
  ·exact absurd (h.lt b j h1).2 oM
  ·exact absurd (h.lt b k g).2 oM
  ·omega
 ·rintro b j (h1|⟨h1,h2,h3⟩)
  ·exact⟨(h.lt b j h1).1,aB (h.lt b j h1).2 t⟩
  ·exact⟨oM,h2⟩
 ·rw[l W 1 h.oW oM];exact h.world
 ·obtain⟨C,d,h1,h2⟩:=h.book
  exact⟨C,d,h1.congr t fun b j f=>l b 2 (h2 b j f) oM,fun b j f=>oL (h2 b j f)⟩
 ·rw[z,GI ps i p {p with s:=o} r rfl rfl]
  exact(h.row.congr fun b a=>l b 3 (h.row.2 b a) oM).mono fun b a=>oL a
 ·exact h.known.congr (fun b a=>oL a) fun b a _=>l b 4 a oM
 ·intro j q m
  by_cases f:j=i
  ·subst f
   have E:j<ps.length:=(lL r);rw[dh E] at m;injection m with m
   subst m;obtain⟨h1,h2,h3,g⟩:=h.gates j p r;exact⟨(D.cut lR).congr (fun b a=>a.1.elim oL fun u=>oR ⟨u,a.2,rfl⟩) (fun _ _ _=>rfl),h2.congr (fun b a=>oL a) (fun b a _=>l b _ a oM),A,g⟩
  ·rw[eF (fun e=>f e.symm)] at m
   obtain⟨h1,h2,h3,g⟩:=h.gates j q m;exact⟨h1.congr (fun b a=>oL a) (fun b a _=>l b _ a oM),h2.congr (fun b a=>oL a) (fun b a _=>l b _ a oM),h3,g⟩
theorem AM(h:ij Oa N w W B K c ps n lv ks){p:Pr}(A:ps[i]? =Z p){v:St}(O:Inv v)(T:m<=n)(Q:Left (fun b=>Oa b (6+2*i)) (fun b=>Oa b 4) w w' p.y K v m):
  ∃O' ks',ij O' N w' W B K c (ps.set i {p with t:=v}) (n+1) lv ks'/\∀b j,O' b j->Oa b j\/w.heap.size<=b:=by
 obtain⟨H,I,ks',J,L,E,M,R,P,F⟩:=Q;have D:=F.size;have V:=h.wN;refine⟨fun b j=>Oa b j\/(w.heap.size<=b/\b<w'.heap.size/\((H b/\j=6+2*i)\/(I b/\j=4))),ks',?_,fun b j a=>a.imp id And.left⟩;have r:∀b j,Oa b j->j≠6+2*i->j≠4->w'.heap[b]? =w.heap[b]? :=fun b j x l S=>F.block b (h.lt b j x).2 fun g=>g.elim (fun g=>l (h.one b j _ x g)) (fun g=>S (h.one b j _ x g));have G:(ps.set i {p with t:=v}).length=ps.length:=eL;refine⟨?_,?_,ag h.wN D,oL h.oW,?_,?_,?_,?_,ag M (kA T),by rw[G];exact kf h.np,?_⟩
 ·rintro b j k (h1|⟨h1,h2,h3⟩) (o|⟨o,U,u⟩)
  ·exact h.one b j k h1 o
  ·exact absurd (h.lt b j h1).2 oM
  ·exact absurd (h.lt b k o).2 oM
  ·rcases h3 with⟨h3,e⟩|⟨h3,e⟩<;>rcases u with⟨u,f⟩|⟨u,f⟩
   ·omega
   ·exact absurd u (E b h3)
   ·exact absurd h3 (E b u)
   ·omega
 ·rintro b j (h1|⟨h1,h2,h3⟩)
  ·exact⟨(h.lt b j h1).1,aB (h.lt b j h1).2 D⟩
  ·exact⟨oM,h2⟩
 ·rw[r W 1 h.oW oM oM];exact h.world
 ·obtain⟨C,d,h1,h2⟩:=h.book
  exact⟨C,d,h1.congr D fun b j l=>r b 2 (h2 b j l) oM oM,fun b j l=>oL (h2 b j l)⟩
 ·rw[G,GI ps i p {p with t:=v} A rfl rfl]
  exact(h.row.congr fun b a=>r b 3 (h.row.2 b a) oM oM).mono fun b a=>oL a
 ·refine(P.cut lR).congr (fun b a=> ?_) (fun _ _ _=>rfl)
  by_cases z:b<w.heap.size
  ·exact(L b a.1).elim oL fun g=>absurd g oM
  ·exact oR ⟨oM,a.2,oR ⟨a.1,rfl⟩⟩
 ·intro j q s
  by_cases l:j=i
  ·subst l
   have z:j<ps.length:=(lL A);rw[dh z] at s;injection s with s
   subst s;obtain⟨h1,h2,h3,o⟩:=h.gates j p A;refine⟨h1.congr (fun b a=>oL a) (fun b a _=>r b _ a oM oM),(R.cut lR).congr (fun b a=> ?_) (fun _ _ _=>rfl),h3,O⟩;by_cases z:b<w.heap.size
   ·exact(J b a.1).elim oL fun g=>absurd g oM
   ·exact oR ⟨oM,a.2,oL ⟨a.1,rfl⟩⟩
  ·rw[eF (fun e=>l e.symm)] at s
   obtain⟨h1,h2,h3,o⟩:=h.gates j q s;exact⟨h1.congr (fun b a=>oL a) (fun b a _=>r b _ a oM oM),h2.congr (fun b a=>oL a) (fun b a _=>r b _ a oM oM),h3,o⟩
theorem push(h:ij Oa N w W B K c ps n lv ks){p:Pr}{z S2:Nat->Prop}(m:gg z w p.x p.s)(R:jh S2 w p.y p.t K)(L:Inv p.s)(M:Inv p.t)(h1:∀b,z b->N<=b/\b<w.heap.size/\∀i,¬Oa b i)(h2:∀b,S2 b->N<=b/\b<w.heap.size/\∀i,¬Oa b i)(H:∀b,z b->¬S2 b)
  (D:Fr (fun b=>Oa b 1\/Oa b 3) w.heap.size w w') {G:Vl} (Q:w'.heap[W]? =Z (Cl (qM B K G) 123 (0,0))) (F:Row (fun b=>Oa b 3\/w.heap.size<=b) w' 132 2 G (ps.length+1) (pG ps++lP p)):
  ∃O',ij O' N w' W B K c (ps++[p]) (n+1) G ks:=by
 have v:=D.size;have S:=h.wN;refine⟨fun b j=>Oa b j\/(z b/\j=5+2*ps.length)\/(S2 b/\j=6+2*ps.length)\/(w.heap.size<=b/\b<w'.heap.size/\j=3),?_⟩;have A:∀b j,Oa b j->j≠1->j≠3->w'.heap[b]? =w.heap[b]? :=fun b j r o O=>D.block b (h.lt b j r).2 fun m=>m.elim (fun m=>o (h.one b j _ r m)) (fun m=>O (h.one b j _ r m));have I:∀b,b<w.heap.size->(∀i,¬Oa b i)->w'.heap[b]? =w.heap[b]? :=fun b l r=>D.block b l fun m=>m.elim (r 1) (r 3);have E:(ps++[p]).length=ps.length+1:=by simp
 refine⟨?_,?_,ag h.wN v,oL h.oW,Q,?_,?_,?_,kf h.nk,by rw[E];exact kA h.np,?_⟩
 ·rintro b j k (a|⟨a,e⟩|⟨a,e⟩|⟨a,e,f⟩) (c|⟨c,g⟩|⟨c,g⟩|⟨c,g,i⟩)
  ·exact h.one b j k a c
  ·exact absurd a ((h1 b c).2.2 j)
  ·exact absurd a ((h2 b c).2.2 j)
  ·exact absurd (h.lt b j a).2 oM
  ·exact absurd c ((h1 b a).2.2 k)
  ·omega
  ·exact absurd c (H b a)
  ·exact absurd (h1 b a).2.1 oM
  ·exact absurd c ((h2 b a).2.2 k)
  ·exact absurd a (H b c)
  ·omega
  ·exact absurd (h2 b a).2.1 oM
  ·exact absurd (h.lt b k c).2 oM
  ·exact absurd (h1 b c).2.1 oM
  ·exact absurd (h2 b c).2.1 oM
  ·omega
 ·rintro b j (a|⟨a,e⟩|⟨a,e⟩|⟨a,e,f⟩)
  ·exact⟨(h.lt b j a).1,aB (h.lt b j a).2 v⟩
  ·exact⟨(h1 b a).1,aB (h1 b a).2.1 v⟩
  ·exact⟨(h2 b a).1,aB (h2 b a).2.1 v⟩
  ·exact⟨oM,e⟩
 ·obtain⟨C,d,h1,h2⟩:=h.book
  exact⟨C,d,h1.congr v fun b j o=>A b 2 (h2 b j o) oM oM,fun b j o=>oL (h2 b j o)⟩
 ·rw[E,PF]
  exact⟨F.1,fun b l=>(F.2 b l).elim oL fun x=>oR (oR (oR ⟨x,F.lt b l,rfl⟩))⟩
 ·exact h.known.congr (fun b l=>oL l) fun b l _=>A b 4 l oM oM
 ·intro j q u
  by_cases o:j=ps.length
  ·subst o
   rw[List.getElem?_append_right lR,Nat.sub_self] at u;simp at u;subst u;exact⟨m.congr (fun b l=>oR (oL ⟨l,rfl⟩)) (fun b l _=>I b (h1 b l).2.1 (h1 b l).2.2),R.congr (fun b l=>oR (oR (oL ⟨l,rfl⟩))) (fun b l _=>I b (h2 b l).2.1 (h2 b l).2.2),L,M⟩
  ·have P:j<ps.length:=by
    have:=(lL u);rw[E] at this;omega
   rw[List.getElem?_append_left P] at u;obtain⟨h1,h2,h3,J⟩:=h.gates j q u;exact⟨h1.congr (fun b l=>oL l) (fun b l _=>A b _ l oM oM),h2.congr (fun b l=>oL l) (fun b l _=>A b _ l oM oM),h3,J⟩
theorem own(h:ij Oa N w W B K c ps n lv ks)(k:∀b i,C b i->Oa b 2)(o:∀b,S b->N<=b/\∀i,¬Oa b i){c':Nat}(v:kU C S w w' B c'):
  ∃O',ij O' N w' W B K c' ps n lv ks/\(∀b i,O' b i->Oa b i\/w.heap.size<=b\/S b)/\Fr (fun b=>Oa b 2\/S b) w.heap.size w w':=by
 obtain⟨m,s,k1,k2,k3,k4⟩:=v;have r:=k4.size;have D:=h.wN;have l:∀b j,Oa b j->j≠2->w'.heap[b]? =w.heap[b]? :=fun b j g u=>k4.block b (h.lt b j g).2 fun f=>f.elim (fun⟨i,hi⟩=>u (h.one b _ _ g (k b i hi))) fun x=>(o b x).2 j g;have q:∀b i j,m b i->Oa b j->j=2:=fun b i j hi g=>by
  rcases k3 b i hi with x|x|x
  ·exact h.one b _ _ g (k b i x)
  ·exact absurd (h.lt b j g).2 oM
  ·exact absurd g ((o b x).2 j)
 refine⟨fun b j=>Oa b j\/(j=2/\∃i,m b i),⟨?_,?_,ag h.wN r,oL h.oW,?_,⟨m,s,k1,fun b i hi=>oR ⟨rfl,i,hi⟩⟩,?_,?_,h.nk,h.np,?_⟩,?_,?_⟩
 ·rintro b i j (a|⟨a,x,f⟩) (e|⟨e,y,A⟩)
  ·exact h.one b i j a e
  ·exact(q b y i A a).trans e.symm
  ·exact a.trans (q b x j f e).symm
  ·omega
 ·rintro b i (a|⟨a,x,f⟩)
  ·exact⟨(h.lt b i a).1,aB (h.lt b i a).2 r⟩
  ·refine⟨?_,k1.lt b x f⟩
   rcases k3 b x f with y|y|y
   ·exact(h.lt b _ (k b x y)).1
   ·omega
   ·exact(o b y).1
 ·rw[l W 1 h.oW oM];exact h.world
 ·exact(h.row.congr fun b d=>l b 3 (h.row.2 b d) oM).mono fun b d=>oL d
 ·exact h.known.congr (fun b d=>oL d) fun b d _=>l b 4 d oM
 ·intro i p z
  obtain⟨h1,h2,h3,t⟩:=h.gates i p z;exact⟨h1.congr (fun b d=>oL d) (fun b d _=>l b _ d oM),h2.congr (fun b d=>oL d) (fun b d _=>l b _ d oM),h3,t⟩
 ·rintro b i (a|⟨a,x,f⟩)
  ·exact oL a
  ·exact(k3 b x f).elim (fun y=>oL (a▸k b x y)) Or.inr
 ·exact k4.mono lR fun b _ d=>d.elim (fun⟨i,hi⟩=>oL (k b i hi)) Or.inr
end ij
theorem JG{W B K:Nat}{lv:Vl}(num:Int)(k:List UInt8)(c:Int)(w:D)
  (a:w.heap[W]? =Z (Cl (qM B K lv) 123 (0,0)))
  (h:∀w,Rt 35 #[I J num,sT ⟨k.toArray⟩] w (Tp #[X Y,I J c]))
  (i:∀w,Rt 129 #[I J num,sT ⟨k.toArray⟩,X (Z ⟨K,0,Y⟩)] w (Tp #[X Y,I J c])):
  Rt 64 #[X (Z ⟨W,0,Y⟩),I J num,sT ⟨k.toArray⟩] w (Bl true):=by
 have e:Hq (w.heap[W]? =Z (Cl (qM B K lv) 123 (0,0))):=a;have f:=(aL a);clear a;go_enter func64,ntmps64
 refine au ?_;refine pure kr 35 #[I J num,sT ⟨k.toArray⟩] kr (h w) ?_;intro w1 b;simp only[zD];refine au ?_;refine Ks.cell rfl _ _ rfl underlying118 rfl W 2 (X (Z ⟨K,0,Y⟩)) rfl (fy ((b.block W f).trans e.o) 2 rfl) ?_;simp only[zD];refine pure kr 129 #[I J num,sT ⟨k.toArray⟩,X (Z ⟨K,0,Y⟩)] kr (i w1) ?_;intro w2 d;simp only[zD];refine kv (Tp #[X Y,I J c]) ?_;refine kv (X Y) ?_;refine kv (I J c) ?_;refine kv (X Y) ?_;refine kv (I J c) ?_;refine kd (wp_seq ?_);refine wp_seq (kX (kv (I J c) ?_));refine pure kr 22 #[I J c] kr (Gw.tv c w2) ?_;intro w3 g;simp only[zD];refine kv (I J c) ?_;refine Ks.val rfl (Bl false) (by simp[execOp,go_sem]) ?_;simp only[zD];refine kv (Bl false) ?_;refine kg (X Y) ?_;refine kg (Bl true) ?_;refine kg (X Y) ?_;refine kg (Bl true) ?_;refine kg (Bl false) ?_;refine kv (Bl false) ?_;refine kd (wp_cond_false rfl ?_);refine wp_skip (km ?_);refine wp_seq (wp_seq ?_);refine kX (kv (X Y) ?_);refine kv (Bl false) ?_;refine kd (wp_cond_false rfl ?_);refine wp_skip (km ?_);refine wp_seq (kX (kv (Bl true) ?_));refine kd (wp_ret ?_);repeat (refine kt ?_)
 refine bodyPost_ret (v:=Bl true) kr rfl ?_;exact⟨rfl,(tR b d).trans (g.mono (ag b.size d.size))⟩
theorem FA:(prog.info? 132).map (fun i=>(i.zero,i.size,i.bytes))=Z (Z (H #[X Y,X Y]),2,16):=kr
theorem S3{Oa:Nat->Nat->Prop}{N W B K c:Nat}{ps:List Pr}{n:Nat}{lv:Vl}{ks:List lS}(num:Int)(k:List UInt8)(a:gx 0 num 15=true)(u:(lq k).2=true)(w:D)
  (h:ij Oa N w W B K c ps n lv ks) (hn:n<=10000000000):
  Calls prog 64 #[X (Z ⟨W,0,Y⟩),I J num,sT ⟨k.toArray⟩] w fun e w'=>e=Re (Bl true)/\(∃O' b7 p,ij O' N w' W B K c (ps++[p]) (n+1) b7 ks/\p.s=p.t)/\O N w w':=by
 have b2:k.length<=281474976710656:=by
  unfold lq at u;split at u
  ·omega
  ·simp at u
 have l:Hq (ij Oa N w W B K c ps n lv ks):=h;have b8:=h.np;clear h;go_enter func64,ntmps64
 refine au ?_;refine Ks.call rfl 35 #[I J num,sT ⟨k.toArray⟩] kr (RT num k a u b2 w) ?_;rintro v1 w1 ⟨⟨f,rfl,T⟩,m⟩;simp only[zD];refine au ?_;refine Ks.cell rfl _ _ rfl underlying118 rfl W 2 (X (Z ⟨K,0,Y⟩)) rfl (fy (l.o.below m).world 2 rfl) ?_;simp only[zD];refine Ks.call rfl 129 #[I J num,sT ⟨k.toArray⟩,X (Z ⟨K,0,Y⟩)] kr (Iv num k K a w1) ?_;rintro v2 w2 ⟨hv,q⟩;rw[if_pos u] at hv;obtain⟨gy,rfl,U⟩:=hv;simp only[zD];refine kv (Tp #[X (Z ⟨gy,0,Y⟩),I J 0]) ?_;refine kv (X (Z ⟨gy,0,Y⟩)) ?_;refine kv (I J 0) ?_;refine kv (X (Z ⟨gy,0,Y⟩)) ?_;refine kv (I J 0) ?_;refine kd (wp_seq ?_);refine wp_seq (kX (kv (I J 0) ?_));refine pure kr 22 #[I J 0] kr (Gw.tv 0 w2) ?_;intro w3 r;have HX:Hq (gg (fun b=>w.heap.size<=b/\b<w1.heap.size) w3 f (St.new num k)):=((T.cut lR).below q).below r;have HY:Hq (jh (fun b=>w1.heap.size<=b/\b<w2.heap.size) w3 gy (St.new num k) K):=(U.cut lR).below r;have d:Hq (ij Oa N w3 W B K c ps n lv ks):=((l.o.below m).below q).below r;have a6:Hq (O w.heap.size w w3):=(tR m q).trans (r.mono (ag m.size q.size));have c0:=m.size;have c4:=q.size;have c6:=r.size;clear m q r T U;simp only[zD];refine kv (I J 0) ?_;refine kv (Bl false) ?_;refine kv (Bl false) ?_;refine kg (X (Z ⟨f,0,Y⟩)) ?_;refine kg (Bl false) ?_;refine kg (X (Z ⟨gy,0,Y⟩)) ?_;refine kg (Bl false) ?_;refine kg (Bl false) ?_;refine kv (Bl false) ?_;refine kd (wp_cond_false rfl ?_);refine wp_skip (km ?_);refine wp_seq (wp_seq ?_);refine kX (kv (X (Z ⟨gy,0,Y⟩)) ?_);refine kv (Bl true) ?_;refine kd (wp_cond_true rfl ?_);refine kX (kv (X (Z ⟨W,0,Y⟩)) ?_);refine kv (X (Z ⟨W,0,Y⟩)) ?_;refine kv (X (Z ⟨W,0,Y⟩)) ?_;refine kv (X (Z ⟨W,1,Y⟩)) ?_;refine Ks.cell rfl _ _ rfl underlying121 rfl W 1 lv rfl (fy d.o.world 1 rfl) ?_;simp only[zD];refine kv (X (Z ⟨f,0,Y⟩)) ?_;refine kv (X (Z ⟨gy,0,Y⟩)) ?_;refine kv (H #[X (Z ⟨f,0,Y⟩),X (Z ⟨gy,0,Y⟩)]) ?_;refine Ks.single rfl 121 132 _ rfl (H #[X (Z ⟨f,0,Y⟩),X (Z ⟨gy,0,Y⟩)]) (H #[X Y,X Y]) rfl #[X (Z ⟨f,0,Y⟩),X (Z ⟨gy,0,Y⟩)] 2 16 underlying121 FA dc dc kr ?_;intro w4 b4 b0 P g;have y:Hq (Row (fun b=>Oa b 3) w4 132 2 lv ps.length (pG ps)):=(d.o.below g.o).row;have C:Hq (w4.heap[W]? =Z (Cl (qM B K lv) 123 (0,0))):=(d.o.below g.o).world;clear b0;simp only[zD];refine re rfl _ _ _ rfl 132 (H #[X Y,X Y]) 2 16 underlying121 FA rfl dc dc _ _ ps.length (pG ps) rfl y.o 1 b4 1 [X (Z ⟨f,0,Y⟩),X (Z ⟨gy,0,Y⟩)] rfl (fun j c A=>(cell_of_row w4 b4 j _ _ _ P.o).trans (by simpa using A)) rfl (fun c A=>by
  simp at A;rcases A with rfl|rfl<;>rfl) oM ?_
 intro v5 w5 S E;have b3:lv.ownBlock≠Z W:=fun e=>absurd (d.o.one W _ _ (y.o.2 W e) d.o.oW) dc;have z:Hq (Row (fun b=>Oa b 3\/w3.heap.size<=b) w5 132 2 v5 (ps.length+1) (pG ps++lP ⟨f,gy,St.new num k,St.new num k⟩)):=S.mono fun b a=>a.elim oL fun e=>oR (by rw[e];exact g.o.size);have Q:Hq (w5.heap[W]? =Z (Cl (qM B K lv) 123 (0,0))):=(E.block W (aL C.o) (fun e=>b3 e.symm)).trans C.o;have L:Hq (Fr (fun b=>Oa b 1\/Oa b 3) w3.heap.size w3 w5):=(Fr.kq g.o lR).grown E g.o.size fun b a=>oL (oR (y.o.2 b a));clear S E y C P g;simp only[zD];refine au ?_;refine Ks.store rfl _ _ _ rfl W 1 _ rfl rfl Q.o (by show 1<3;omega) kr (row_one z.o) (qM B K v5) rfl ?_;intro w9 a8 F G V;have b6:v5.ownBlock≠Z W:=fun e=>(z.o.2 W e).elim (fun x=>absurd (d.o.one W _ _ x d.o.oW) dc) (fun x=>absurd (d.o.lt W 1 d.o.oW).2 oM);have a7:Hq (Row (fun b=>Oa b 3\/w3.heap.size<=b) w9 132 2 v5 (ps.length+1) (pG ps++lP ⟨f,gy,St.new num k,St.new num k⟩)):=z.o.congr fun b a=>G.o b (fun e=>b6 (by rw[a,e]));have M:Hq (Fr (fun b=>Oa b 1\/Oa b 3) w3.heap.size w3 w9):=L.o.trans (F.o _ _ (oL (oL d.o.oW)));clear F G V Q z L;simp only[Act.put];refine kd (wp_seq ?_);refine kX (kv (Bl true) ?_);refine kd (wp_ret ?_);repeat (refine kt ?_)
 refine bodyPost_ret (v:=Bl true) kr rfl ?_;have R:0<=num/\num<=15:=tJ a;have hB:O N w w3:=a6.o.mono l.o.wN;have c7:=l.o.wN;obtain⟨O',b1⟩:=d.o.push (p:=⟨f,gy,St.new num k,St.new num k⟩) HX.o HY.o (Inv.new R) (Inv.new R) (fun b a=>⟨oM,oM,fun i hi=>absurd (l.o.lt b i hi).2 oM⟩) (fun b a=>⟨oM,oM,fun i hi=>absurd (l.o.lt b i hi).2 oM⟩) (fun b a=>oM) M.o a8.o a7.o;exact⟨rfl,⟨O',_,_,b1,rfl⟩,hB.trans (d.o.rQ M.o fun b a=>a.elim (fun x=>⟨_,x⟩) (fun x=>⟨_,x⟩))⟩
def b'(N:Nat)(w:D)(W B K c:Nat)(ps:List Pr)(n:Nat):Prop:=(∃Oa lv ks,ij Oa N w W B K c ps n lv ks)/\∀p∈ps,p.s=p.t
theorem b'.below{N:Nat}{w w':D}{W B K c:Nat}{ps:List Pr}{n:Nat}(h:b' N w W B K c ps n)(a:O w.heap.size w w'):b' N w' W B K c ps n:=by
 obtain⟨⟨Oa,lv,ks,h⟩,b⟩:=h;exact⟨⟨Oa,lv,ks,h.below a⟩,b⟩
def made(num:Int)(k:List UInt8):Prop:=gx 0 num 15=true/\(lq k).2=true
theorem B8{N W B K c:Nat}{ps:List Pr}{n:Nat}(num:Int)(k:List UInt8)(w:D)(h:b' N w W B K c ps n)(o:n<=10000000000):
  Calls prog 64 #[X (Z ⟨W,0,Y⟩),I J num,sT ⟨k.toArray⟩] w fun e w'=>e=Re (Bl true)/\(∃i,b' N w' W B K c i (n+1)/\(made num k->i.length=ps.length+1)/\ps.length<=i.length)/\O N w w':=by
 obtain⟨⟨Oa,lv,ks,h⟩,f⟩:=h;by_cases b:gx 0 num 15=true
 ·by_cases d:(lq k).2=true
  ·refine(S3 num k b d w h o).mono ?_
   rintro e w' ⟨h1,⟨O',r,p,h2,h3⟩,l⟩;refine⟨h1,⟨ps++[p],⟨⟨O',r,ks,h2⟩,?_⟩,fun _=>sP,sP⟩,l⟩;intro q a;rcases List.mem_append.1 a with a|a
   ·exact f q a
   ·simp at a
    rw[a];exact h3
  ·have m:(lq k).2=false:=by simpa using d
   refine(JG num k 3 w h.world (fun w=>RQ num k b m w) (fun w=>(Iv num k K b w).mono ?_)).mono ?_
   ·rintro e w' ⟨v,h1,h2,h3⟩
    rw[if_neg d] at h2;exact⟨by rw[h1,h2],h3⟩
   ·rintro e w' ⟨h1,h2⟩
    exact⟨h1,⟨ps,⟨⟨Oa,lv,ks,(h.below h2).more (iX n)⟩,f⟩,fun g=>absurd g.2 d,bA _⟩,h2.mono h.wN⟩
 ·have j:gx 0 num 15=false:=by simpa using b
  refine(JG num k 2 w h.world (fun w=>RS num k j w) (fun w=>RP num k K j w)).mono ?_;rintro e w' ⟨h1,h2⟩;exact⟨h1,⟨ps,⟨⟨Oa,lv,ks,(h.below h2).more (iX n)⟩,f⟩,fun g=>absurd g.1 b,bA _⟩,h2.mono h.wN⟩
def rH(c:Int)(m:Nat):Nat:=if c<0 then(-(c+1)).toNat % m else c.toNat % m
theorem JM{c:Int}(h:0<m):rH c m<m:=by
 unfold rH;split<;>exact Nat.mod_lt _ h
theorem Fz(c:Int)(m:Nat)(e: -9223372036854775808<=c/\c<9223372036854775808)(f:0<m)(w:D):Rt 130 #[I J c,I J (m:Int)] w (I J (rH c m:Int)):=by
 go_enter func130,ntmps130
 refine wp_seq (kX (kv (I J 0) ?_));refine kd (wp_seq ?_);refine wp_seq (kX (kv (I J c) ?_));by_cases a:c<0
 ·refine Ks.val rfl (Bl true) (by simp[execOp,go_sem,a]) ?_
  simp only[zD];refine kd (wp_cond_true rfl ?_);refine kX (kv (I J c) ?_);refine Ks.val rfl (I J (c+1)) (by
   simp[execOp,go_sem];exact Dc.wrap64 oM oM) ?_
  simp only[zD];refine Ks.val rfl (I J (-(c+1))) (by
   simp[execOp,go_sem];exact Dc.wrap64 oM oM) ?_
  simp only[zD];refine Ks.v (I J (-(c+1))) ?_;simp only[Act.put,List.setIfInBounds_toArray,List.set_cons_zero];refine au ?_;obtain⟨d,hd⟩:∃d:Nat,(d:Int)= -(c+1):=⟨(-(c+1)).toNat,oM⟩;have hv:rH c m=d % m:=by
   unfold rH;rw[if_pos a,<-hd];rfl
  rw[<-hd];refine au ?_;have b:((d:Int).tmod (m:Int))=((d % m:Nat):Int):=by simp[cO (dp d)]
  refine Ks.val rfl (I J ((d % m:Nat):Int)) (by
   simp[execOp,go_sem,b];omega) ?_
  simp only[zD];refine kv (I J ((d % m:Nat):Int)) ?_;refine kd (wp_ret ?_);repeat (refine kt ?_)
  refine bodyPost_ret (v:=I J ((d % m:Nat):Int)) kr rfl ?_;exact⟨by rw[hv],Below.refl _ _⟩
 ·refine Ks.val rfl (Bl false) (by simp[execOp,go_sem,a]) ?_
  simp only[zD];refine au ?_;obtain⟨d,rfl⟩:∃d:Nat,c=(d:Int):=⟨c.toNat,oM⟩;have hv:rH d m=d % m:=by
   unfold rH;rw[if_neg a];rfl
  refine au ?_;have b:((d:Int).tmod (m:Int))=((d % m:Nat):Int):=by simp[cO (dp d)]
  refine Ks.val rfl (I J ((d % m:Nat):Int)) (by
   simp[execOp,go_sem,b];omega) ?_
  simp only[zD];refine kv (I J ((d % m:Nat):Int)) ?_;refine kd (wp_ret ?_);repeat (refine kt ?_)
  refine bodyPost_ret (v:=I J ((d % m:Nat):Int)) kr rfl ?_;exact⟨by rw[hv],Below.refl _ _⟩
end Gt
namespace Gt
open Mp Bk Fu
theorem xY{o:Oper}{a:Act}{w:D}{x y:Operand}{m n:Int}(b:o.op= .binOp .sub 3 x y 3)(c:a.eval x=I J m)(d:a.eval y=I J n)(e: -9223372036854775808<=m-n/\m-n<=9223372036854775807):(execOp a.eval o).run prog w= .ok (.value (I J (m-n))) w:=by
 unfold execOp;rw[b];dsimp only;rw[c,d];simp[go_sem];rw[IntWalk.i64_in _ ⟨oM,oM⟩]
theorem L9:(prog.info? 25).map (fun i=>(i.zero,i.size,i.bytes))=Z (Z (.slice none 0 0),1,24):=kr
theorem rR(k:Nat)(m:Int)(j:Nat):(fT k m j).oneCell'=true:=by
 unfold fT;split<;>first|rfl|(split<;>rfl)
theorem X2{w:D}{B c:Nat}{d:Bd}(h:lH C w B c d)(v:Vl)(n:Nat)(xs:List Vl)(hr:Row S w 3 1 v n xs)(A:∀b j,S b->¬C b j)(hn:n<=1000000000)(hc:c<=5800000000000):
  Calls prog 215 #[X (Z ⟨B,0,Y⟩),v] w fun e w'=>e=Re (Tp #[])/\kU C S w w' B (c+4):=by
 obtain⟨m,K⟩:=eX (d.next-1);have c7:=h.next;have e9:=h.kB 0 oM;obtain⟨p,cap,rfl,_⟩:=Row.form hr;have z:Hq (lH C w B c d):=h;have HB:Hq (w.heap[B]? =Z (Cl (kh d) 32 (0,0))):=h.book;have W:¬S B:=fun x=>A B 2 x h.oB;have Q:Hq (Row S w 3 1 (.slice p n cap) n xs):=hr;clear h hr;go_enter func215,ntmps215
 refine au ?_;refine(Ks.vb (v:=I J m) (Ks.w0 rfl) rfl (by rw[K];exact xY rfl rfl rfl oM) ?_).o;refine Ks.WL.mk ?_;simp only[zD];refine Ks.al ?_;refine Ks.store rfl _ _ _ rfl B 10 _ rfl rfl HB.o (by show 10<11;omega) kr rfl (kh {d with next:=m}) rfl ?_;intro w1 a8 r y H4;have b6:nA S w1 3 1 (.slice p n cap) n (fT 0 m) 0:=nA.start (Q.o.congr fun b a=>y.o b fun e=>W (e▸Q.o.2 b a)) _;have l:Fr (fun b=>b=B\/S b) w.heap.size w w1:=r.o _ _ (oL (oL rfl));clear HB Q r y H4;simp only[Act.put];refine au ?_;refine Ks.lp 71 (fun i:Nat=>[(0,Ks.pt B 0),(1,.slice p n cap),(4,I J m),(5,I J (i:Int))]) (fun k i wr=>i<=n/\k=n-i/\nA S wr 3 1 (.slice p n cap) n (fT 0 m) i/\Fr (fun b=>b=B\/S b) w.heap.size w wr/\wr.heap[B]? =Z (Cl (kh {d with next:=m}) 32 (0,0))) n 0 ⟨aF _,rfl,b6,l,a8.o⟩ ?_;clear b6 l a8;rintro k i wr f ⟨hi,rfl,hF,s,V⟩;refine Ks.af ?_;refine wp_cond_split rfl ?_ ?_
 ·intro t
  have t:i<n:=by have:=of_decide_eq_true t;omega
  obtain⟨g,cp,b3,e,b7,hg,h0,c7⟩:=hF.at oM;cases e;refine au ?_;have e5:i*1<b3.size:=oM
  refine Ks.store rfl _ _ _ rfl g (i*1) _ rfl rfl hg e5 kr rfl (Ks.setL b3 (i*1) [I J m]) rfl ?_;intro w2 HG r y H4;simp only[Act.put];refine au ?_;exact⟨n-(i+1),i+1,oM,Ks.gY kr,t,rfl,c7 w2 _ HG.o rfl (fun j hj=>by cases Nat.lt_one_iff.1 hj;rfl) t,s.trans (r.o _ _ (oL (oR b7))),(y.o B fun e=>W (e▸b7)).trans V⟩
 ·intro t
  obtain rfl:i=n:=by have:=of_decide_eq_false t;omega
  have e2:=hF.done;clear hF;refine au ?_;refine rI rfl rfl 25 3 1 _ _ _ rfl rfl (I J 0) (fT 0 m) 1 8 underlying25 qC dc dc kr rfl S _ i (fun _=>rfl) (fun _=>rfl) e2 (rR 0 m) (by unfold maxLen;omega) oM ?_;intro u1 v1 w1 M c4 _ l;obtain⟨p1,R,rfl,_⟩:=Row.form M;simp only[zD];refine au ?_;refine rI rfl rfl 25 3 2 _ _ _ rfl rfl (I J 0) (fT 0 m) 1 8 underlying25 qC dc dc kr rfl S _ i (fun _=>rfl) (fun _=>rfl) c4 (rR 0 m) (by unfold maxLen;omega) oM ?_;intro u2 v2 w2 N c6 c8 F;obtain⟨p2,T,rfl,_⟩:=Row.form N;simp only[zD];refine au ?_;refine rI rfl rfl 25 3 3 _ _ _ rfl rfl (I J 0) (fT 0 m) 1 8 underlying25 qC dc dc kr rfl S _ i (fun _=>rfl) (fun _=>rfl) c6 (rR 0 m) (by unfold maxLen;omega) oM ?_;intro u3 v3 w3 O H a7 G;obtain⟨p3,U,rfl,_⟩:=Row.form O;simp only[zD];have E:∀b,(Value.slice p i cap).ownBlock=Z b->S b:=H.2;have s0:=s.size;have s1:=l.size;have s2:=F.size;have s3:=G.size;have P:Hq (Fr (fun b=>b=B\/S b) w.heap.size w w3):=((s.trans (l.mono s0 fun b _ x=>oR (E b x))).trans (F.mono oM fun b _ x=>oR (E b x))).trans (G.mono oM fun b _ x=>oR (E b x));have b0:Hq (w3.heap[B]? =Z (Cl (kh {d with next:=m}) 32 (0,0))):=by
   have q:∀{u v:D},Fr (fun j=>(Value.slice p i cap).ownBlock=Z j) u.heap.size u v->u.heap[B]? =Z (Cl (kh {d with next:=m}) 32 (0,0))->v.heap[B]? =Z (Cl (kh {d with next:=m}) 32 (0,0)):=fun s h=>(s.block B (aL h) fun x=>W (E B x)).trans h;exact q G (q F (q l V))
  have HN:Hq (∀u∈ [.slice p i cap,.slice p1 (i+1) R,.slice p2 (i+2) T,.slice p3 (i+3) U],Fl w3 (eT 0) (rq 0) (fT 0 (d.next-1)) u/\∀b,u.ownBlock=Z b->S b\/w.heap.size<=b):=by
   rw[<-K];intro u hu;simp only[List.mem_cons,List.not_mem_nil,or_false] at hu;rcases hu with rfl|rfl|rfl|rfl
   ·exact⟨mf H,fun b a=>oL (H.2 b a)⟩
   ·exact⟨a7 _ (c8 _ (mf M)),fun b a=>(M.2 b a).imp id fun x=>oM⟩
   ·exact⟨a7 _ (mf N),fun b a=>(N.2 b a).imp id fun x=>oM⟩
   ·exact⟨mf O,fun b a=>(O.2 b a).imp id fun x=>oM⟩
  clear l F G s V M N O c4 c6 H c8 a7 e2;have e7:=(z.o.vx (k:=0) oM A P.o).1;refine au ?_;refine uF rfl rfl 24 25 4 _ _ _ rfl rfl (.slice none 0 0) #[.slice p i cap,.slice p1 (i+1) R,.slice p2 (i+2) T,.slice p3 (i+3) U] 1 24 underlying24 L9 dc dc kr rfl _ (d.v 0) (d.L 0).length ((d.L 0).map Prod.fst) (fun _=>rfl) (fun _=>rfl) e7 rfl (by simp[Value.oneCell']) (by unfold maxLen;omega) oM ?_;intro u4 vs w4 c9 a6;have b1:Hq (w4.heap[B]? =Z (Cl (kh {d with next:=m}) 32 (0,0))):=z.o.xH (k:=0) oM b0.o a6;clear b0;simp only[zD];refine au ?_;refine Ks.store rfl _ _ _ rfl B 0 _ rfl rfl b1.o (by show 0<11;omega) kr c9.one (kh {d with next:=m,v:=fun j=>if j=0 then vs else d.v j}) rfl ?_;intro w5 b2 r y H4;have b8:=r.o (fun b=>b=B) w4.heap.size (oL rfl);have e6:=z.o.xI (k:=0) oM A P.o a6 b8;simp only[Act.put];refine au ?_;refine uF rfl rfl 25 3 4 _ _ _ rfl rfl (I J 0) #[I J m,I J m,I J m,I J m] 1 8 underlying25 qC dc dc kr rfl _ (d.m 0) (d.L 0).length ((d.L 0).map fun p=>hE p.2) (fun _=>rfl) (fun _=>rfl) e6 rfl (by simp[Value.oneCell']) (by unfold maxLen;omega) oM ?_;intro u6 ms w6 e1 c0;have e3:Hq (w6.heap[B]? =Z _):=z.o.xJ (k:=0) oM b2.o c0;clear b2 b1;simp only[zD];refine au ?_;refine Ks.store rfl _ _ _ rfl B 1 _ rfl rfl e3.o (by show 1<11;omega) kr e1.one (kh (d.set 0 vs ms (d.next-1) [.slice p i cap,.slice p1 (i+1) R,.slice p2 (i+2) T,.slice p3 (i+3) U])) (by rw[<-K];rfl) ?_;intro w7 e4 G2 G3 G4;simp only[Act.put];refine au ?_;refine bodyPost_end (v:=Tp #[]) kr rfl ?_;exact⟨rfl,z.o.fin (k:=0) oM A (by exact bA 4) P.o HN.o c9 a6 b8 (by rw[<-K];exact e1) c0 (G2.o _ _ (oL rfl)) e4.o⟩
end Gt
namespace Qt
def Reads(P:Program)(ops:Array Oper)(A:D->Prop)(a:Nat->Vl)(F:(Nat->Vl)->Act):List Oper->Nat->Prop
 |[],_=>True
 |o::l,k=>(∀U w',A w'->(∀j,aI .any ops k j=true->U j=a j)->(execOp (F U).eval o).run P w'= .ok (.value (a k)) w')/\Reads P ops A a F l (k+1)
theorem Reads.get{P:Program}{ops:Array Oper}{A:D->Prop}{a:Nat->Vl}{F:(Nat->Vl)->Act}:∀(l:List Oper)(k:Nat),Reads P ops A a F l k->∀i o,l[i]? =Z o->∀U w',A w'->(∀j,aI .any ops (k+i) j=true->U j=a j)->(execOp (F U).eval o).run P w'= .ok (.value (a (k+i))) w'
 |[],_,_,i,o,h=>by simp at h
 |c::l,k,⟨h1,h2⟩,i,o,h=>by
  cases i with
  |zero=>
   obtain rfl:c=o:=by simpa using h
   exact h1
  |succ i=>
   intro U w' b hd;have:=Reads.get l (k+1) h2 i o (by simpa using h) U w' b (fun j d=>hd j (by rwa [show k+(i+1)=k+1+i by omega]));rwa [show k+(i+1)=k+1+i by omega]
theorem Ot{id:Nat}{Q:Exit->Act->D->Prop}{a:Act}{w:D}(m:Nat)(p:Nat->Vl)(A G:D->Prop)(S:Nat->Prop)(n R2:Vl->D->Prop)(L:P.follows .mixedOrders=true)(s:sa l.toArray (m+2)=true)(y:aI .any l.toArray (m+1) m=true)
  (B:A {w with drawn:=w.drawn+1}) (F:G {w with drawn:=w.drawn+1}) (C:∀u v,A u->O u.heap.size u v->A v) (E:∀u v,A u->Fr S u.heap.size u v->A v) (H:∀u v,G u->O u.heap.size u v->G v) (I:∀x u v,A u->n x u->Fr S u.heap.size u v->n x v)
  (z:Reads P l.toArray A p (fun U=>gu U (l.take (m+2)) 0 a) (l.take m) 0)
  (h1:∀o,l[m]? =Z o->∀U w',A w'->(∀j,j<m->aI .any l.toArray m j=true->U j=p j)->oE P w' n ((execOp (gu U (l.take (m+2)) 0 a).eval o).run P w'))
  (h2:∀o,l[m+1]? =Z o->∀U w',A w'->G w'->(∀j,j<m->aI .any l.toArray (m+1) j=true->U j=p j)->n (U m) w'->sI P (fun u v=>Fr S u.heap.size u v) w' R2 ((execOp (gu U (l.take (m+2)) 0 a).eval o).run P w'))
  (K:∀U w',A w'->(∀j,j<m->U j=p j)->R2 (U (m+1)) w'->wpList P l.toArray Q (l.drop (m+2)) (gu U (l.take (m+2)) 0 a) w'):(Code.region id l.toArray true).wp P Q a w:=by
 have J:∀i j,i<m+2->aI .any l.toArray i j=true->j<i:=fun i j hi d=>back (Ce s) hi d;refine G5 (m:=m+1) (T:=fun i u v=>if i=m then O u.heap.size u v else if i=m+1 then Fr S u.heap.size u v else v=u) (G:=fun b w'=>A w'/\(b=false->G w')) (m+2) (fun j x u=>if j=m then n x u else if j=m+1 then R2 x u else x=p j) ⟨B,fun _=>F⟩ L ?_ ?_ s ?_ ?_ oM ?_
 ·intro i b u v hi ⟨g1,g2⟩ c
  by_cases e:i=m
  ·rw[if_pos e] at c
   exact⟨C u v g1 c,fun x=>H u v (g2 x) c⟩
  ·rw[if_neg e,if_neg hi] at c
   rw[c];exact⟨g1,g2⟩
 ·intro u v ⟨g1,g2⟩ c
  rw[if_neg oM,if_pos rfl] at c;exact⟨E u v g1 c,fun x=>by cases x⟩
 ·intro i j x u v hi d M k b t ⟨g1,g2⟩ g c
  by_cases e:i=m
  ·subst e
   rw[if_neg M] at g⊢;by_cases f:j=i+1
   ·subst f
    rw[y] at k;cases k
   ·rw[if_neg f] at g⊢
    exact g
  ·rw[if_neg e] at c
   by_cases f:i=m+1
   ·rw[if_pos f] at c
    by_cases r:j=m
    ·rw[if_pos r] at g⊢
     exact I x u v g1 g c
    ·rw[if_neg r,if_neg oM] at g⊢
     exact g
   ·rw[if_neg f] at c
    rw[c];exact g
 ·intro i o hi q U w' b t ⟨g1,g2⟩ hd
  by_cases e:i=m
  ·subst e
   simp only[if_pos];refine oE.Ib (h1 o q U w' g1 fun j d k=> ?_) fun _ h=>h;have:=hd j oM k;rwa [if_neg oM,if_neg oM] at this
  ·by_cases f:i=m+1
   ·subst f
    simp only[if_neg e,if_pos];refine h2 o q U w' g1 (g2 (t rfl)) (fun j d k=> ?_) ?_
    ·have:=hd j oM k
     rwa [if_neg oM,if_neg oM] at this
    ·have:=hd m oM y
     rwa [if_pos rfl] at this
   ·simp only[if_neg e,if_neg f]
    have h3:=Reads.get (l.take m) 0 z i o (by rw[List.getElem?_take_of_lt oM];exact q) U w' g1 (fun j d=>by
     rw[bC] at d;have N:=J i j hi d;have:=hd j oM d;rwa [if_neg oM,if_neg oM] at this)
    rw[bC] at h3;rw[h3];exact⟨rfl,rfl⟩
 ·intro U w' ⟨g1,_⟩ hd
  refine K U w' g1 (fun j d=> ?_) ?_
  ·have:=hd j oM
   rwa [if_neg oM,if_neg oM] at this
  ·have:=hd (m+1) oM
   rwa [if_neg oM,if_pos rfl] at this
theorem J1{id:Nat}{Q:Exit->Act->D->Prop}{a:Act}{w:D}(m:Nat)(f:Nat->Vl)(A:D->Prop)(hm:P.follows .mixedOrders=true)(X:sa l.toArray (m+2)=true)(hw:aI .any l.toArray (m+1) m=true)
  (t e:TypeId) (k:Nat) (z:Vl) (cs:Array Vl) (sz C:Nat) (hu:P.underlying t=Z (.slice e)) (h2:(P.info? e).map (fun i=>(i.zero,i.size,i.bytes))=Z (Z z,sz,C)) (b7:¬k*sz>2^24) (R:¬k*sz=0) (c6:z.cells.size=sz) (S:Nat->Prop) (sv:Vl) (n:Nat) (xs:List Vl) (K:Row S w e sz sv n xs) (hl:cs.size=k*sz) (h1:∀c∈cs.toList,c.oneCell'=true) (V:n+k<=maxLen) (d:(n+k)*C<=140737488355328)
  (W:A w) (H:∀u v,w.heap.size<=u.heap.size->A u->Fr (fun b=>sv.ownBlock=Z b) u.heap.size u v->A v)
  (T:Reads P l.toArray A f (fun U=>gu U (l.take (m+2)) 0 a) (l.take m) 0)
  (o1:Oper) (b0:l[m]? =Z o1) (ps:Array (Nat×Operand)) (b2:o1.op= .buildSlice t k ps) (hf:∀U,(∀j,j<m->aI .any l.toArray m j=true->U j=f j)->∃vs,(ps.map fun(i,x)=>(i,(gu U (l.take (m+2)) 0 a).eval x)).toList=vs/\Instr.fill (fun i=>Z (i*sz,sz)) ((Array.range (k*sz)).map (z.cells[· % z.cells.size]!)) vs=Z cs)
  (o2:Oper) (b1:l[m+1]? =Z o2) (s y:Operand) (b3:o2.op= .call {callee:=.builtin .append,args:= #[s,y],argTypes:= #[t,t]}) (hs:∀U,(∀j,j<m->aI .any l.toArray (m+1) j=true->U j=f j)->(gu U (l.take (m+2)) 0 a).eval s=sv/\(gu U (l.take (m+2)) 0 a).eval y=U m)
  (a8:∀U w',A w'->(∀j,j<m->U j=f j)->Row (fun j=>S j\/w.heap.size<=j) w' e sz (U (m+1)) (n+k) (xs++cs.toList)->Fr (fun j=>sv.ownBlock=Z j) w.heap.size w w'->wpList P l.toArray Q (l.drop (m+2)) (gu U (l.take (m+2)) 0 a) w'):(Code.region id l.toArray true).wp P Q a w:=by
 have M:∀{S:Nat->Prop}{u v:D},O u.heap.size u v->Fr S u.heap.size u v:=fun h=>Fr.kq h lR;have hd:O w.heap.size w {w with drawn:=w.drawn+1}:=⟨rfl,rfl,rfl,bA _,fun _ _=>rfl⟩;refine Ot m f (fun w'=>w.heap.size<=w'.heap.size/\A w') (fun w'=>O w.heap.size w w') (fun b=>sv.ownBlock=Z b) (fun u w'=>∃b,u= .slice (Z ⟨b,0,Y⟩) k k/\w.heap.size<=b/\w'.heap[b]? =Z (Cl cs e (0,0))) (fun u w'=>Row (fun j=>S j\/w.heap.size<=j) w' e sz u (n+k) (xs++cs.toList)/\Fr (fun j=>sv.ownBlock=Z j) w.heap.size w w') hm X hw ⟨bA _,H w _ lR W (M hd)⟩ hd (fun u v h d=>⟨ag h.1 d.size,H u v h.1 h.2 (M d)⟩) (fun u v h d=>⟨ag h.1 d.size,H u v h.1 h.2 d⟩) (fun u v h d=>h.trans (d.mono h.size)) ?_ ?_ ?_ ?_ ?_
 ·rintro x u v ⟨c8,_⟩ ⟨b,rfl,h3,F⟩ d
  refine⟨b,rfl,h3,(d.block b (aL F) fun e=> ?_).trans F⟩;have:=K.lt b e;omega
 ·have q:∀(B:List Oper) k,Reads P l.toArray A f (fun U=>gu U (l.take (m+2)) 0 a) B k->Reads P l.toArray (fun w'=>w.heap.size<=w'.heap.size/\A w') f (fun U=>gu U (l.take (m+2)) 0 a) B k:=by
   intro B;induction B with
   |nil=>exact fun _ _=>trivial
   |cons o B ih=>exact fun k h=>⟨fun U w' g hd=>h.1 U w' g.2 hd,ih _ h.2⟩
  exact q _ _ T
 ·intro o J U w' g hU
  obtain rfl:o1=o:=Option.some.inj (b0.symm.trans J);obtain⟨vs,G,E⟩:=hf U hU;exact Gw.xA t e k ps b2 cs z sz C hu h2 b7 R vs G E ⟨w'.heap.size,rfl,g.1,heap_alloc_new _ _⟩
 ·rintro o J U w' g I hU ⟨b,a6,c7,a7⟩
  obtain rfl:o2=o:=Option.some.inj (b1.symm.trans J);obtain⟨G,E⟩:=hs U hU;rw[a6] at E;have b6:=K.below I lR;obtain⟨i,hi,b8,c0,c4⟩:=info_parts h2;obtain⟨v',w2,hr,h3,F,h5,r⟩:=run_append_own_at (P:=P) w' 0 t o2.type e i z sz C hu hi b8 c0 c4 c6 (Nat.pos_of_ne_zero fun e=>R (by rw[e,Nat.mul_zero])) sv n xs b6.1 ⟨b,0,Y⟩ k k cs.toList (by simpa using hl) (fun j u p=>by
   rw[Addr.add_mid,bC];exact(cell_of_row w' b j _ _ _ a7).trans (by simpa using p)) h1 V d (aF _)
  unfold execOp;simp only[b3,resolve,invoke,builtin,Sem.run_bind,Sem.run_pure,Result.andThen_ok,List.map_toArray,List.map_cons,List.map_nil,G,E,hr];have N:Fr (fun b=>sv.ownBlock=Z b) w'.heap.size w' w2:=(Fr.refl _ _ w').grown F lR fun k hk=>oL hk;refine⟨⟨⟨h3,fun j p=> ?_⟩,(Fr.kq I lR).trans (N.mono I.size fun _ _ h=>h)⟩,N⟩;rcases r with r|r
  ·exact oL (K.2 j (by rw[<-r];exact p))
  ·rw[r] at p
   injection p with p
   exact oR (by rw[<-p];exact g.1)
 ·intro U w' g hU L
  exact a8 U w' g.2 hU L.1 L.2
