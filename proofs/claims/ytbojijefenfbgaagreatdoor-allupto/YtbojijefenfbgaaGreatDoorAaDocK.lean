/- Walk of the document's Sum. (Laid by wip/gen/docsum.py.) Walks of the document's Base, Times. -/
import Derived.Test.YtbojijefenfbgaaGreatDoorAaDocG
open Nat renaming le_trans->ag,le_of_lt->cA
open Go.World renaming alloc->bU
open Option renaming some->Z,none->Y
open Go.Value renaming int->I,pointer->X,agg->H
open Go.IntKind renaming i64->J
open Go.Obj renaming cells->Cl
open Go renaming World->D
open Go.RowKit renaming Below->O
set_option maxHeartbeats 4000000
set_option maxRecDepth 100000
open Go Go.RowKit
open Go.Proofs.YtbojijefenfbgaaGreatDoor
open Qt(ev gh rh pC)
open Fw(hJ)
variable{W:D}{a:Act}{o:Oper}
namespace Go.Proofs.YtbojijefenfbgaaGreatDoor
open Tryz
namespace Dc
open Bt Ed
theorem xF(w:D){ops:Array Oper}{rest:List Oper}{a:Act}{Q:Exit->Act->D->Prop}(c:o.guard=Y)(d:o.op=Op.alloc 100)
  (b:wpList prog ops Q rest (a.put o.dst (X (Z ⟨w.heap.size,0,Y⟩))) (w.alloc (Cl ry 100))):wpList prog ops Q (o::rest) a w:=
 Own.nJ w c 100 d _ Qa b
def ui(d:F)(p q:T3):T3:=⟨p.z*q.z*((p.z*q.z*(p.z*q.z)-d*(p.x*q.x*(p.y*q.y)))*((p.x+p.y)*(q.x+q.y)-p.x*q.x-p.y*q.y)),p.z*q.z*((p.z*q.z*(p.z*q.z)+d*(p.x*q.x*(p.y*q.y)))*(p.y*q.y+p.x*q.x)),(p.z*q.z*(p.z*q.z)-d*(p.x*q.x*(p.y*q.y)))*(p.z*q.z*(p.z*q.z)+d*(p.x*q.x*(p.y*q.y)))⟩
theorem Qb(p q:T3):ui dD p q=pX p q:=rfl
noncomputable abbrev S4(w:D)(p q:T3)(d:F):D:=(((w.alloc (Cl (tp p) 100)).alloc (Cl (tp q) 100)).alloc (Cl (rn d) 95)).alloc (Cl ry 100)
theorem VX(w:D)(p q:T3)(d:F):ej (S4 w p q d) w.heap.size p:=(tW rfl).1
theorem VY(w:D)(p q:T3)(d:F):ej (S4 w p q d) (w.heap.size+1) q:=(tW rfl).2.1
theorem VW(w:D)(p q:T3)(d:F):ep (S4 w p q d) (w.heap.size+1+1) d:=(tW rfl).2.2.1
theorem VZ(w:D)(p q:T3)(d:F):ej (S4 w p q d) (w.heap.size+1+1+1) t0:=.zero (tW rfl).2.2.2.1
theorem VV(w:D)(p q:T3)(d:F):O w.heap.size w (S4 w p q d):=(tW rfl).2.2.2.2
theorem EH(p q:T3)(d:F)(w:D):Rt 47 #[H (tp p),H (tp q),H (rn d)] w (H (tp (ui d p q))):=by
 have C:Hq (ej (S4 w p q d) (w.heap.size) (p)):=VX w p q d;have E:Hq (ej (S4 w p q d) (w.heap.size+1) (q)):=VY w p q d;have l7:Hq (ep (S4 w p q d) (w.heap.size+1+1) (d)):=VW w p q d;have l8:Hq (ej (S4 w p q d) (w.heap.size+1+1+1) t0):=VZ w p q d;have n0:Hq (O w.heap.size w (S4 w p q d)):=VV w p q d;go_enter func47,ntmps47
 go_wp2_with (first|refine xF _ rfl rfl ?_|refine Qt.xk 5 _ rfl 95 rfl (num fun _=>0) oV rfl ?_)
 rename_i Kq u4;refine yw (X (Z ⟨w.heap.size,32,Y⟩)) ?_;refine qo rfl _ rfl (w.heap.size) 32 ((p).z) rfl C.o.lt C.o.z ?_;simp only[zD];refine yw (X (Z ⟨w.heap.size+1,32,Y⟩)) ?_;refine qo rfl _ rfl (w.heap.size+1) 32 ((q).z) rfl E.o.lt E.o.z ?_;simp only[zD];refine ev rfl 93 #[H (rn ((p).z)),H (rn ((q).z))] _ (fun _=>kr) (fun w' _=>nh ((p).z) ((q).z) w') ?_;simp only[zD];skip
 refine gh ?_;intro b1 wa1 c a i;have c:O (S4 w p q d).heap.size (S4 w p q d) wa1:=by first|exact c|exact c.mono sP
 have a:(S4 w p q d).heap.size<=b1:=by first|exact a|exact ag sP a
 refine ny rfl rfl b1 (((p).z)*((q).z)) rfl rfl c a i ?_;intro w1 h e;have b:Hq (O (S4 w p q d).heap.size (S4 w p q d) w1):=e;have t:Hq (ep w1 b1 (((p).z)*((q).z))):=h;have Ab:Hq (w.heap.size≠b1):=by have h1:=C.o.lt;have h2:=a;show _≠_;omega
 have Ai:Hq (w.heap.size+1≠b1):=by have h1:=E.o.lt;have h2:=a;show _≠_;omega
 have z1:Hq (w.heap.size+1+1≠b1):=by have h1:=l7.o.lt;have h2:=a;show _≠_;omega
 have vm:Hq (w.heap.size+1+1+1≠b1):=by have h1:=l8.o.lt;have h2:=a;show _≠_;omega
 have u5:Hq (w.heap.size<=b1):=ag n0.o.size a;have Q:Hq (ej w1 (w.heap.size) (p)):=C.o.below b.o C.o.lt;have R:Hq (ej w1 (w.heap.size+1) (q)):=E.o.below b.o E.o.lt;have P:Hq (ep w1 (w.heap.size+1+1) (d)):=l7.o.below b.o l7.o.lt;have S:Hq (ej w1 (w.heap.size+1+1+1) t0):=l8.o.below b.o l8.o.lt;have n5:=tq n0 b;clear h e i a c b;simp only[zD];refine Qt.done (u4 _ _ ?_);refine wp_seq (rh 3 _ rfl 95 rfl (num fun _=>0) oV rfl ?_);refine kj rfl _ rfl (b1) (((p).z)*((q).z)) rfl t.o ?_;refine kj rfl _ rfl (b1) (((p).z)*((q).z)) rfl t.o ?_;refine ev rfl 93 #[H (rn (((p).z)*((q).z))),H (rn (((p).z)*((q).z)))] _ (fun _=>kr) (fun w' _=>nh (((p).z)*((q).z)) (((p).z)*((q).z)) w') ?_;simp only[zD];skip
 refine gh ?_;intro f wa2 c a i;have c:O (w1).heap.size (w1) wa2:=by first|exact c|exact c.mono sP
 have a:(w1).heap.size<=f:=by first|exact a|exact ag sP a
 refine ny rfl rfl f ((((p).z)*((q).z))*(((p).z)*((q).z))) rfl rfl c a i ?_;intro w2 h e;have b:Hq (O (w1).heap.size (w1) w2):=e;have U:Hq (ep w2 f ((((p).z)*((q).z))*(((p).z)*((q).z)))):=h;have Ac:Hq (w.heap.size≠f):=by have h1:=Q.o.lt;have h2:=a;show _≠_;omega
 have Aj:Hq (w.heap.size+1≠f):=by have h1:=R.o.lt;have h2:=a;show _≠_;omega
 have z6:Hq (w.heap.size+1+1≠f):=by have h1:=P.o.lt;have h2:=a;show _≠_;omega
 have x2:Hq (b1≠f):=by have h1:=t.o.lt;have h2:=a;show _≠_;omega
 have vn:Hq (w.heap.size+1+1+1≠f):=by have h1:=S.o.lt;have h2:=a;show _≠_;omega
 have u6:Hq (w.heap.size<=f):=ag n5.o.size a;have u:Hq (ej w2 (w.heap.size) (p)):=Q.o.below b.o Q.o.lt;have v:Hq (ej w2 (w.heap.size+1) (q)):=R.o.below b.o R.o.lt;have V:Hq (ep w2 (w.heap.size+1+1) (d)):=P.o.below b.o P.o.lt;have T:Hq (ep w2 (b1) (((p).z)*((q).z))):=t.o.below b.o t.o.lt;have W:Hq (ej w2 (w.heap.size+1+1+1) t0):=S.o.below b.o S.o.lt;have n9:=tq n5 b;clear h e i a c b;simp only[zD];refine Qt.done (wp_seq (rh 5 _ rfl 95 rfl (num fun _=>0) oV rfl ?_));refine yw (X (Z ⟨w.heap.size,0,Y⟩)) ?_;refine qo rfl _ rfl (w.heap.size) 0 ((p).x) rfl u.o.lt u.o.x ?_;simp only[zD];refine yw (X (Z ⟨w.heap.size+1,0,Y⟩)) ?_;refine qo rfl _ rfl (w.heap.size+1) 0 ((q).x) rfl v.o.lt v.o.x ?_;simp only[zD];refine ev rfl 93 #[H (rn ((p).x)),H (rn ((q).x))] _ (fun _=>kr) (fun w' _=>nh ((p).x) ((q).x) w') ?_;simp only[zD];skip
 refine gh ?_;intro g wa3 c a i;have c:O (w2).heap.size (w2) wa3:=by first|exact c|exact c.mono sP
 have a:(w2).heap.size<=g:=by first|exact a|exact ag sP a
 refine ny rfl rfl g (((p).x)*((q).x)) rfl rfl c a i ?_;intro w3 h e;have b:Hq (O (w2).heap.size (w2) w3):=e;have a8:Hq (ep w3 g (((p).x)*((q).x))):=h;have Ad:Hq (w.heap.size≠g):=by have h1:=u.o.lt;have h2:=a;show _≠_;omega
 have Ak:Hq (w.heap.size+1≠g):=by have h1:=v.o.lt;have h2:=a;show _≠_;omega
 have z7:Hq (w.heap.size+1+1≠g):=by have h1:=V.o.lt;have h2:=a;show _≠_;omega
 have x3:Hq (b1≠g):=by have h1:=T.o.lt;have h2:=a;show _≠_;omega
 have x8:Hq (f≠g):=by have h1:=U.o.lt;have h2:=a;show _≠_;omega
 have vo:Hq (w.heap.size+1+1+1≠g):=by have h1:=W.o.lt;have h2:=a;show _≠_;omega
 have u9:Hq (w.heap.size<=g):=ag n9.o.size a;have A:Hq (ej w3 (w.heap.size) (p)):=u.o.below b.o u.o.lt;have B:Hq (ej w3 (w.heap.size+1) (q)):=v.o.below b.o v.o.lt;have b0:Hq (ep w3 (w.heap.size+1+1) (d)):=V.o.below b.o V.o.lt;have a6:Hq (ep w3 (b1) (((p).z)*((q).z))):=T.o.below b.o T.o.lt;have a7:Hq (ep w3 (f) ((((p).z)*((q).z))*(((p).z)*((q).z)))):=U.o.below b.o U.o.lt;have c0:Hq (ej w3 (w.heap.size+1+1+1) t0):=W.o.below b.o W.o.lt;have o0:=tq n9 b;clear h e i a c b;simp only[zD];refine Qt.done (wp_seq (rh 5 _ rfl 95 rfl (num fun _=>0) oV rfl ?_));refine yw (X (Z ⟨w.heap.size,16,Y⟩)) ?_;refine qo rfl _ rfl (w.heap.size) 16 ((p).y) rfl A.o.lt A.o.y ?_;simp only[zD];refine yw (X (Z ⟨w.heap.size+1,16,Y⟩)) ?_;refine qo rfl _ rfl (w.heap.size+1) 16 ((q).y) rfl B.o.lt B.o.y ?_;simp only[zD];refine ev rfl 93 #[H (rn ((p).y)),H (rn ((q).y))] _ (fun _=>kr) (fun w' _=>nh ((p).y) ((q).y) w') ?_;simp only[zD];skip
 refine gh ?_;intro b4 wa4 c a i;have c:O (w3).heap.size (w3) wa4:=by first|exact c|exact c.mono sP
 have a:(w3).heap.size<=b4:=by first|exact a|exact ag sP a
 refine ny rfl rfl b4 (((p).y)*((q).y)) rfl rfl c a i ?_;intro w4 h e;have b:Hq (O (w3).heap.size (w3) w4):=e;have J:Hq (ep w4 b4 (((p).y)*((q).y))):=h;have Ae:Hq (w.heap.size≠b4):=by have h1:=A.o.lt;have h2:=a;show _≠_;omega
 have Al:Hq (w.heap.size+1≠b4):=by have h1:=B.o.lt;have h2:=a;show _≠_;omega
 have z8:Hq (w.heap.size+1+1≠b4):=by have h1:=b0.o.lt;have h2:=a;show _≠_;omega
 have x4:Hq (b1≠b4):=by have h1:=a6.o.lt;have h2:=a;show _≠_;omega
 have x9:Hq (f≠b4):=by have h1:=a7.o.lt;have h2:=a;show _≠_;omega
 have y5:Hq (g≠b4):=by have h1:=a8.o.lt;have h2:=a;show _≠_;omega
 have vp:Hq (w.heap.size+1+1+1≠b4):=by have h1:=c0.o.lt;have h2:=a;show _≠_;omega
 have v7:Hq (w.heap.size<=b4):=ag o0.o.size a;have c7:Hq (ej w4 (w.heap.size) (p)):=A.o.below b.o A.o.lt;have c8:Hq (ej w4 (w.heap.size+1) (q)):=B.o.below b.o B.o.lt;have I:Hq (ep w4 (w.heap.size+1+1) (d)):=b0.o.below b.o b0.o.lt;have c4:Hq (ep w4 (b1) (((p).z)*((q).z))):=a6.o.below b.o a6.o.lt;have c6:Hq (ep w4 (f) ((((p).z)*((q).z))*(((p).z)*((q).z)))):=a7.o.below b.o a7.o.lt;have G:Hq (ep w4 (g) (((p).x)*((q).x))):=a8.o.below b.o a8.o.lt;have c9:Hq (ej w4 (w.heap.size+1+1+1) t0):=c0.o.below b.o c0.o.lt;have o4:=tq o0 b;clear h e i a c b;simp only[zD];refine Qt.done (wp_seq (pC 5 kr kr _ rfl 95 rfl (num fun _=>0) oV ?_));refine kj rfl _ rfl (w.heap.size+1+1) (d) rfl I.o ?_;refine kj rfl _ rfl (g) (((p).x)*((q).x)) rfl G.o ?_;refine kj rfl _ rfl (b4) (((p).y)*((q).y)) rfl J.o ?_;refine ev rfl 93 #[H (rn (((p).x)*((q).x))),H (rn (((p).y)*((q).y)))] _ (fun _=>kr) (fun w' _=>nh (((p).x)*((q).x)) (((p).y)*((q).y)) w') ?_;simp only[zD];refine ev rfl 93 #[H (rn (d)),H (rn ((((p).x)*((q).x))*(((p).y)*((q).y))))] _ (fun _=>kr) (fun w' _=>nh (d) ((((p).x)*((q).x))*(((p).y)*((q).y))) w') ?_;simp only[zD];skip
 refine gh ?_;intro b5 wa5 c a i;have c:O (w4).heap.size (w4) wa5:=by first|exact c|exact c.mono sP
 have a:(w4).heap.size<=b5:=by first|exact a|exact ag sP a
 refine ny rfl rfl b5 ((d)*((((p).x)*((q).x))*(((p).y)*((q).y)))) rfl rfl c a i ?_;intro w5 h e;have b:Hq (O (w4).heap.size (w4) w5):=e;have L:Hq (ep w5 b5 ((d)*((((p).x)*((q).x))*(((p).y)*((q).y))))):=h;have Ah:Hq (w.heap.size≠b5):=by have h1:=c7.o.lt;have h2:=a;show _≠_;omega
 have Ao:Hq (w.heap.size+1≠b5):=by have h1:=c8.o.lt;have h2:=a;show _≠_;omega
 have zV:Hq (w.heap.size+1+1≠b5):=by have h1:=I.o.lt;have h2:=a;show _≠_;omega
 have x7:Hq (b1≠b5):=by have h1:=c4.o.lt;have h2:=a;show _≠_;omega
 have y2:Hq (f≠b5):=by have h1:=c6.o.lt;have h2:=a;show _≠_;omega
 have y9:Hq (g≠b5):=by have h1:=G.o.lt;have h2:=a;show _≠_;omega
 have zY:Hq (b4≠b5):=by have h1:=J.o.lt;have h2:=a;show _≠_;omega
 have vv:Hq (w.heap.size+1+1+1≠b5):=by have h1:=c9.o.lt;have h2:=a;show _≠_;omega
 have x1:Hq (w.heap.size<=b5):=ag o4.o.size a;have e5:Hq (ej w5 (w.heap.size) (p)):=c7.o.below b.o c7.o.lt;have e6:Hq (ej w5 (w.heap.size+1) (q)):=c8.o.below b.o c8.o.lt;have e3:Hq (ep w5 (w.heap.size+1+1) (d)):=I.o.below b.o I.o.lt;have e1:Hq (ep w5 (b1) (((p).z)*((q).z))):=c4.o.below b.o c4.o.lt;have K:Hq (ep w5 (f) ((((p).z)*((q).z))*(((p).z)*((q).z)))):=c6.o.below b.o c6.o.lt;have e2:Hq (ep w5 (g) (((p).x)*((q).x))):=G.o.below b.o G.o.lt;have e4:Hq (ep w5 (b4) (((p).y)*((q).y))):=J.o.below b.o J.o.lt;have e7:Hq (ej w5 (w.heap.size+1+1+1) t0):=c9.o.below b.o c9.o.lt;have o5:=tq o4 b;clear h e i a c b;simp only[zD];refine Qt.done (wp_seq (rh 3 _ rfl 95 rfl (num fun _=>0) oV rfl ?_));refine kj rfl _ rfl (f) ((((p).z)*((q).z))*(((p).z)*((q).z))) rfl K.o ?_;refine kj rfl _ rfl (b5) ((d)*((((p).x)*((q).x))*(((p).y)*((q).y)))) rfl L.o ?_;refine ev rfl 42 #[H (rn ((((p).z)*((q).z))*(((p).z)*((q).z)))),H (rn ((d)*((((p).x)*((q).x))*(((p).y)*((q).y)))))] _ (fun _=>kr) (fun w' _=>tx ((((p).z)*((q).z))*(((p).z)*((q).z))) ((d)*((((p).x)*((q).x))*(((p).y)*((q).y)))) w') ?_;simp only[zD];skip
 refine gh ?_;intro k wa6 c a i;have c:O (w5).heap.size (w5) wa6:=by first|exact c|exact c.mono sP
 have a:(w5).heap.size<=k:=by first|exact a|exact ag sP a
 refine ny rfl rfl k (((((p).z)*((q).z))*(((p).z)*((q).z)))-((d)*((((p).x)*((q).x))*(((p).y)*((q).y))))) rfl rfl c a i ?_;intro w6 h e;have b:Hq (O (w5).heap.size (w5) w6):=e;have h6:Hq (ep w6 k (((((p).z)*((q).z))*(((p).z)*((q).z)))-((d)*((((p).x)*((q).x))*(((p).y)*((q).y)))))):=h;have Af:Hq (w.heap.size≠k):=by have h1:=e5.o.lt;have h2:=a;show _≠_;omega
 have Am:Hq (w.heap.size+1≠k):=by have h1:=e6.o.lt;have h2:=a;show _≠_;omega
 have zT:Hq (w.heap.size+1+1≠k):=by have h1:=e3.o.lt;have h2:=a;show _≠_;omega
 have x5:Hq (b1≠k):=by have h1:=e1.o.lt;have h2:=a;show _≠_;omega
 have y0:Hq (f≠k):=by have h1:=K.o.lt;have h2:=a;show _≠_;omega
 have y7:Hq (g≠k):=by have h1:=e2.o.lt;have h2:=a;show _≠_;omega
 have zW:Hq (b4≠k):=by have h1:=e4.o.lt;have h2:=a;show _≠_;omega
 have z':Hq (b5≠k):=by have h1:=L.o.lt;have h2:=a;show _≠_;omega
 have vr:Hq (w.heap.size+1+1+1≠k):=by have h1:=e7.o.lt;have h2:=a;show _≠_;omega
 have v8:Hq (w.heap.size<=k):=ag o5.o.size a;have h7:Hq (ej w6 (w.heap.size) (p)):=e5.o.below b.o e5.o.lt;have h8:Hq (ej w6 (w.heap.size+1) (q)):=e6.o.below b.o e6.o.lt;have h4:Hq (ep w6 (w.heap.size+1+1) (d)):=e3.o.below b.o e3.o.lt;have e9:Hq (ep w6 (b1) (((p).z)*((q).z))):=e1.o.below b.o e1.o.lt;have M:Hq (ep w6 (f) ((((p).z)*((q).z))*(((p).z)*((q).z)))):=K.o.below b.o K.o.lt;have h0:Hq (ep w6 (g) (((p).x)*((q).x))):=e2.o.below b.o e2.o.lt;have h5:Hq (ep w6 (b4) (((p).y)*((q).y))):=e4.o.below b.o e4.o.lt;have N:Hq (ep w6 (b5) ((d)*((((p).x)*((q).x))*(((p).y)*((q).y))))):=L.o.below b.o L.o.lt;have h9:Hq (ej w6 (w.heap.size+1+1+1) t0):=e7.o.below b.o e7.o.lt;have o6:=tq o5 b;clear h e i a c b;simp only[zD];refine Qt.done (wp_seq (rh 3 _ rfl 95 rfl (num fun _=>0) oV rfl ?_));refine kj rfl _ rfl (f) ((((p).z)*((q).z))*(((p).z)*((q).z))) rfl M.o ?_;refine kj rfl _ rfl (b5) ((d)*((((p).x)*((q).x))*(((p).y)*((q).y)))) rfl N.o ?_;refine ev rfl 94 #[H (rn ((((p).z)*((q).z))*(((p).z)*((q).z)))),H (rn ((d)*((((p).x)*((q).x))*(((p).y)*((q).y)))))] _ (fun _=>kr) (fun w' _=>vY ((((p).z)*((q).z))*(((p).z)*((q).z))) ((d)*((((p).x)*((q).x))*(((p).y)*((q).y)))) w') ?_;simp only[zD];skip
 refine gh ?_;intro l wa7 c a i;have c:O (w6).heap.size (w6) wa7:=by first|exact c|exact c.mono sP
 have a:(w6).heap.size<=l:=by first|exact a|exact ag sP a
 refine ny rfl rfl l (((((p).z)*((q).z))*(((p).z)*((q).z)))+((d)*((((p).x)*((q).x))*(((p).y)*((q).y))))) rfl rfl c a i ?_;intro w7 h e;have b:Hq (O (w6).heap.size (w6) w7):=e;have l1:Hq (ep w7 l (((((p).z)*((q).z))*(((p).z)*((q).z)))+((d)*((((p).x)*((q).x))*(((p).y)*((q).y)))))):=h;have Ag:Hq (w.heap.size≠l):=by have h1:=h7.o.lt;have h2:=a;show _≠_;omega
 have An:Hq (w.heap.size+1≠l):=by have h1:=h8.o.lt;have h2:=a;show _≠_;omega
 have zU:Hq (w.heap.size+1+1≠l):=by have h1:=h4.o.lt;have h2:=a;show _≠_;omega
 have x6:Hq (b1≠l):=by have h1:=e9.o.lt;have h2:=a;show _≠_;omega
 have y1:Hq (f≠l):=by have h1:=M.o.lt;have h2:=a;show _≠_;omega
 have y8:Hq (g≠l):=by have h1:=h0.o.lt;have h2:=a;show _≠_;omega
 have zX:Hq (b4≠l):=by have h1:=h5.o.lt;have h2:=a;show _≠_;omega
 have Aa:Hq (b5≠l):=by have h1:=N.o.lt;have h2:=a;show _≠_;omega
 have zZ:Hq (k≠l):=by have h1:=h6.o.lt;have h2:=a;show _≠_;omega
 have vt:Hq (w.heap.size+1+1+1≠l):=by have h1:=h9.o.lt;have h2:=a;show _≠_;omega
 have x0:Hq (w.heap.size<=l):=ag o6.o.size a;have n:Hq (ej w7 (w.heap.size) (p)):=h7.o.below b.o h7.o.lt;have r:Hq (ej w7 (w.heap.size+1) (q)):=h8.o.below b.o h8.o.lt;have j5:Hq (ep w7 (w.heap.size+1+1) (d)):=h4.o.below b.o h4.o.lt;have j0:Hq (ep w7 (b1) (((p).z)*((q).z))):=e9.o.below b.o e9.o.lt;have j1:Hq (ep w7 (f) ((((p).z)*((q).z))*(((p).z)*((q).z)))):=M.o.below b.o M.o.lt;have j2:Hq (ep w7 (g) (((p).x)*((q).x))):=h0.o.below b.o h0.o.lt;have j9:Hq (ep w7 (b4) (((p).y)*((q).y))):=h5.o.below b.o h5.o.lt;have l2:Hq (ep w7 (b5) ((d)*((((p).x)*((q).x))*(((p).y)*((q).y))))):=N.o.below b.o N.o.lt;have l0:Hq (ep w7 (k) (((((p).z)*((q).z))*(((p).z)*((q).z)))-((d)*((((p).x)*((q).x))*(((p).y)*((q).y)))))):=h6.o.below b.o h6.o.lt;have l3:Hq (ej w7 (w.heap.size+1+1+1) t0):=h9.o.below b.o h9.o.lt;have o7:=tq o6 b;clear h e i a c b;simp only[zD];refine Qt.done (wp_seq (pC 11 kr kr _ rfl 95 rfl (num fun _=>0) oV ?_));refine yw (X (Z ⟨w.heap.size,0,Y⟩)) ?_;refine qo rfl _ rfl (w.heap.size) 0 ((p).x) rfl n.o.lt n.o.x ?_;simp only[zD];refine yw (X (Z ⟨w.heap.size,16,Y⟩)) ?_;refine qo rfl _ rfl (w.heap.size) 16 ((p).y) rfl n.o.lt n.o.y ?_;simp only[zD];refine ev rfl 94 #[H (rn ((p).x)),H (rn ((p).y))] _ (fun _=>kr) (fun w' _=>vY ((p).x) ((p).y) w') ?_;simp only[zD];refine yw (X (Z ⟨w.heap.size+1,0,Y⟩)) ?_;refine qo rfl _ rfl (w.heap.size+1) 0 ((q).x) rfl r.o.lt r.o.x ?_;simp only[zD];refine yw (X (Z ⟨w.heap.size+1,16,Y⟩)) ?_;refine qo rfl _ rfl (w.heap.size+1) 16 ((q).y) rfl r.o.lt r.o.y ?_;simp only[zD];refine ev rfl 94 #[H (rn ((q).x)),H (rn ((q).y))] _ (fun _=>kr) (fun w' _=>vY ((q).x) ((q).y) w') ?_;simp only[zD];refine ev rfl 93 #[H (rn (((p).x)+((p).y))),H (rn (((q).x)+((q).y)))] _ (fun _=>kr) (fun w' _=>nh (((p).x)+((p).y)) (((q).x)+((q).y)) w') ?_;simp only[zD];skip
 refine gh ?_;intro j wa8 c a i;have c:O (w7).heap.size (w7) wa8:=by first|exact c|exact c.mono sP
 have a:(w7).heap.size<=j:=by first|exact a|exact ag sP a
 refine ny rfl rfl j ((((p).x)+((p).y))*(((q).x)+((q).y))) rfl rfl c a i ?_;intro w8 h e;have b:Hq (O (w7).heap.size (w7) w8):=e;have l6:Hq (ep w8 j ((((p).x)+((p).y))*(((q).x)+((q).y)))):=h;have s5:Hq (w.heap.size≠j):=by have h1:=n.o.lt;have h2:=a;show _≠_;omega
 have s6:Hq (w.heap.size+1≠j):=by have h1:=r.o.lt;have h2:=a;show _≠_;omega
 have r7:Hq (w.heap.size+1+1≠j):=by have h1:=j5.o.lt;have h2:=a;show _≠_;omega
 have q9:Hq (b1≠j):=by have h1:=j0.o.lt;have h2:=a;show _≠_;omega
 have r5:Hq (f≠j):=by have h1:=j1.o.lt;have h2:=a;show _≠_;omega
 have r6:Hq (g≠j):=by have h1:=j2.o.lt;have h2:=a;show _≠_;omega
 have r8:Hq (b4≠j):=by have h1:=j9.o.lt;have h2:=a;show _≠_;omega
 have s4:Hq (b5≠j):=by have h1:=l2.o.lt;have h2:=a;show _≠_;omega
 have r9:Hq (k≠j):=by have h1:=l0.o.lt;have h2:=a;show _≠_;omega
 have s0:Hq (l≠j):=by have h1:=l1.o.lt;have h2:=a;show _≠_;omega
 have s7:Hq (w.heap.size+1+1+1≠j):=by have h1:=l3.o.lt;have h2:=a;show _≠_;omega
 have q8:Hq (w.heap.size<=j):=ag o7.o.size a;have p4:Hq (ej w8 (w.heap.size) (p)):=n.o.below b.o n.o.lt;have p5:Hq (ej w8 (w.heap.size+1) (q)):=r.o.below b.o r.o.lt;have p0:Hq (ep w8 (w.heap.size+1+1) (d)):=j5.o.below b.o j5.o.lt;have o8:Hq (ep w8 (b1) (((p).z)*((q).z))):=j0.o.below b.o j0.o.lt;have o9:Hq (ep w8 (f) ((((p).z)*((q).z))*(((p).z)*((q).z)))):=j1.o.below b.o j1.o.lt;have l4:Hq (ep w8 (g) (((p).x)*((q).x))):=j2.o.below b.o j2.o.lt;have l5:Hq (ep w8 (b4) (((p).y)*((q).y))):=j9.o.below b.o j9.o.lt;have p3:Hq (ep w8 (b5) ((d)*((((p).x)*((q).x))*(((p).y)*((q).y))))):=l2.o.below b.o l2.o.lt;have p1:Hq (ep w8 (k) (((((p).z)*((q).z))*(((p).z)*((q).z)))-((d)*((((p).x)*((q).x))*(((p).y)*((q).y)))))):=l0.o.below b.o l0.o.lt;have p2:Hq (ep w8 (l) (((((p).z)*((q).z))*(((p).z)*((q).z)))+((d)*((((p).x)*((q).x))*(((p).y)*((q).y)))))):=l1.o.below b.o l1.o.lt;have p6:Hq (ej w8 (w.heap.size+1+1+1) t0):=l3.o.below b.o l3.o.lt;have q6:=tq o7 b;clear h e i a c b;simp only[zD];refine Qt.done (wp_seq (Qt.im 5 kr kr ?_));refine kj rfl _ rfl (j) ((((p).x)+((p).y))*(((q).x)+((q).y))) rfl l6.o ?_;refine kj rfl _ rfl (g) (((p).x)*((q).x)) rfl l4.o ?_;refine ev rfl 42 #[H (rn ((((p).x)+((p).y))*(((q).x)+((q).y)))),H (rn (((p).x)*((q).x)))] _ (fun _=>kr) (fun w' _=>tx ((((p).x)+((p).y))*(((q).x)+((q).y))) (((p).x)*((q).x)) w') ?_;simp only[zD];refine kj rfl _ rfl (b4) (((p).y)*((q).y)) rfl l5.o ?_;refine ev rfl 42 #[H (rn (((((p).x)+((p).y))*(((q).x)+((q).y)))-(((p).x)*((q).x)))),H (rn (((p).y)*((q).y)))] _ (fun _=>kr) (fun w' _=>tx (((((p).x)+((p).y))*(((q).x)+((q).y)))-(((p).x)*((q).x))) (((p).y)*((q).y)) w') ?_;simp only[zD];skip
 refine gh ?_;intro l9 e;have b:Hq (O (w8).heap.size (w8) l9):=by first|exact e|exact e.mono sP
 have s:Hq (ep l9 (j) ((((p).x)+((p).y))*(((q).x)+((q).y)))):=l6.o.below b.o l6.o.lt;refine rP rfl _ _ rfl (j) ((((((p).x)+((p).y))*(((q).x)+((q).y)))-(((p).x)*((q).x)))-(((p).y)*((q).y))) _ (jD _) rfl rfl s.o ?_;obtain⟨w9,m⟩:=eX (l9.setRow (j) (rn ((((((p).x)+((p).y))*(((q).x)+((q).y)))-(((p).x)*((q).x)))-(((p).y)*((q).y)))));rw[<-m];have u0:Hq (ep w9 (j) ((((((p).x)+((p).y))*(((q).x)+((q).y)))-(((p).x)*((q).x)))-(((p).y)*((q).y)))):=by rw[m];exact ep.setRow s.o _
 have DR:Hq (ej w9 (w.heap.size) (p)):=by rw[m];exact(p4.o.below b.o p4.o.lt).other s5.o _
 have DS:Hq (ej w9 (w.heap.size+1) (q)):=by rw[m];exact(p5.o.below b.o p5.o.lt).other s6.o _
 have DP:Hq (ep w9 (w.heap.size+1+1) (d)):=by rw[m];exact(p0.o.below b.o p0.o.lt).other r7.o _
 have p7:Hq (ep w9 (b1) (((p).z)*((q).z))):=by rw[m];exact(o8.o.below b.o o8.o.lt).other q9.o _
 have DO:Hq (ep w9 (f) ((((p).z)*((q).z))*(((p).z)*((q).z)))):=by rw[m];exact(o9.o.below b.o o9.o.lt).other r5.o _
 have s8:Hq (ep w9 (g) (((p).x)*((q).x))):=by rw[m];exact(l4.o.below b.o l4.o.lt).other r6.o _
 have s9:Hq (ep w9 (b4) (((p).y)*((q).y))):=by rw[m];exact(l5.o.below b.o l5.o.lt).other r8.o _
 have DQ:Hq (ep w9 (b5) ((d)*((((p).x)*((q).x))*(((p).y)*((q).y))))):=by rw[m];exact(p3.o.below b.o p3.o.lt).other s4.o _
 have p8:Hq (ep w9 (k) (((((p).z)*((q).z))*(((p).z)*((q).z)))-((d)*((((p).x)*((q).x))*(((p).y)*((q).y)))))):=by rw[m];exact(p1.o.below b.o p1.o.lt).other r9.o _
 have p9:Hq (ep w9 (l) (((((p).z)*((q).z))*(((p).z)*((q).z)))+((d)*((((p).x)*((q).x))*(((p).y)*((q).y)))))):=by rw[m];exact(p2.o.below b.o p2.o.lt).other s0.o _
 have q5:Hq (ej w9 (w.heap.size+1+1+1) (t0)):=by rw[m];exact(p6.o.below b.o p6.o.lt).other s7.o _
 have q7:Hq (O w.heap.size w w9):=by rw[m];exact(tR q6 b).trans ((hJ _ _ _).mono q8.o)
 clear e b s m;simp only[Act.put];refine Qt.done (wp_seq (Qt.im 16 kr kr ?_));refine kj rfl _ rfl (b1) (((p).z)*((q).z)) rfl p7.o ?_;refine kj rfl _ rfl (k) (((((p).z)*((q).z))*(((p).z)*((q).z)))-((d)*((((p).x)*((q).x))*(((p).y)*((q).y))))) rfl p8.o ?_;refine kj rfl _ rfl (j) ((((((p).x)+((p).y))*(((q).x)+((q).y)))-(((p).x)*((q).x)))-(((p).y)*((q).y))) rfl u0.o ?_;refine ev rfl 93 #[H (rn (((((p).z)*((q).z))*(((p).z)*((q).z)))-((d)*((((p).x)*((q).x))*(((p).y)*((q).y)))))),H (rn ((((((p).x)+((p).y))*(((q).x)+((q).y)))-(((p).x)*((q).x)))-(((p).y)*((q).y))))] _ (fun _=>kr) (fun w' _=>nh (((((p).z)*((q).z))*(((p).z)*((q).z)))-((d)*((((p).x)*((q).x))*(((p).y)*((q).y))))) ((((((p).x)+((p).y))*(((q).x)+((q).y)))-(((p).x)*((q).x)))-(((p).y)*((q).y))) w') ?_;simp only[zD];refine ev rfl 93 #[H (rn (((p).z)*((q).z))),H (rn ((((((p).z)*((q).z))*(((p).z)*((q).z)))-((d)*((((p).x)*((q).x))*(((p).y)*((q).y)))))*((((((p).x)+((p).y))*(((q).x)+((q).y)))-(((p).x)*((q).x)))-(((p).y)*((q).y)))))] _ (fun _=>kr) (fun w' _=>nh (((p).z)*((q).z)) ((((((p).z)*((q).z))*(((p).z)*((q).z)))-((d)*((((p).x)*((q).x))*(((p).y)*((q).y)))))*((((((p).x)+((p).y))*(((q).x)+((q).y)))-(((p).x)*((q).x)))-(((p).y)*((q).y)))) w') ?_;simp only[zD];refine kj rfl _ rfl (b1) (((p).z)*((q).z)) rfl p7.o ?_;refine kj rfl _ rfl (l) (((((p).z)*((q).z))*(((p).z)*((q).z)))+((d)*((((p).x)*((q).x))*(((p).y)*((q).y))))) rfl p9.o ?_;refine kj rfl _ rfl (b4) (((p).y)*((q).y)) rfl s9.o ?_;refine kj rfl _ rfl (g) (((p).x)*((q).x)) rfl s8.o ?_;refine ev rfl 94 #[H (rn (((p).y)*((q).y))),H (rn (((p).x)*((q).x)))] _ (fun _=>kr) (fun w' _=>vY (((p).y)*((q).y)) (((p).x)*((q).x)) w') ?_;simp only[zD];refine ev rfl 93 #[H (rn (((((p).z)*((q).z))*(((p).z)*((q).z)))+((d)*((((p).x)*((q).x))*(((p).y)*((q).y)))))),H (rn ((((p).y)*((q).y))+(((p).x)*((q).x))))] _ (fun _=>kr) (fun w' _=>nh (((((p).z)*((q).z))*(((p).z)*((q).z)))+((d)*((((p).x)*((q).x))*(((p).y)*((q).y))))) ((((p).y)*((q).y))+(((p).x)*((q).x))) w') ?_;simp only[zD];refine ev rfl 93 #[H (rn (((p).z)*((q).z))),H (rn ((((((p).z)*((q).z))*(((p).z)*((q).z)))+((d)*((((p).x)*((q).x))*(((p).y)*((q).y)))))*((((p).y)*((q).y))+(((p).x)*((q).x)))))] _ (fun _=>kr) (fun w' _=>nh (((p).z)*((q).z)) ((((((p).z)*((q).z))*(((p).z)*((q).z)))+((d)*((((p).x)*((q).x))*(((p).y)*((q).y)))))*((((p).y)*((q).y))+(((p).x)*((q).x)))) w') ?_;simp only[zD];refine kj rfl _ rfl (k) (((((p).z)*((q).z))*(((p).z)*((q).z)))-((d)*((((p).x)*((q).x))*(((p).y)*((q).y))))) rfl p8.o ?_;refine kj rfl _ rfl (l) (((((p).z)*((q).z))*(((p).z)*((q).z)))+((d)*((((p).x)*((q).x))*(((p).y)*((q).y))))) rfl p9.o ?_;refine ev rfl 93 #[H (rn (((((p).z)*((q).z))*(((p).z)*((q).z)))-((d)*((((p).x)*((q).x))*(((p).y)*((q).y)))))),H (rn (((((p).z)*((q).z))*(((p).z)*((q).z)))+((d)*((((p).x)*((q).x))*(((p).y)*((q).y))))))] _ (fun _=>kr) (fun w' _=>nh (((((p).z)*((q).z))*(((p).z)*((q).z)))-((d)*((((p).x)*((q).x))*(((p).y)*((q).y))))) (((((p).z)*((q).z))*(((p).z)*((q).z)))+((d)*((((p).x)*((q).x))*(((p).y)*((q).y))))) w') ?_;simp only[zD];refine ue rfl _ rfl (ui d p q) kr ?_;simp only[zD];refine gh ?_;intro wz e;have b:Hq (O (w9).heap.size (w9) wz):=e;have s:Hq (ej wz (w.heap.size+1+1+1) t0):=q5.o.below b.o q5.o.lt;refine tb rfl _ _ rfl (w.heap.size+1+1+1) (ui d p q) t0 rfl rfl s.o ?_;simp only[Act.put];refine Qt.done ?_;go_wp2_with fail
 exact wq results47 rfl (w.heap.size+1+1+1) (ui d p q) rfl (s.o.setRow _) ⟨rfl,Fw.oT q7.o b.o _ oM _⟩
end Dc
namespace Dc
open Bt Ed Cw
theorem GM(w:D):Rt 43 #[I J 1] w (H (rn 1)):=pz 1 dc w
theorem Md(w:D):Rt 43 #[I J 0] w (H (rn 0)):=pz 0 dc w
theorem Mx(w:D):Rt 49 #[] w (H (tp (mR bX bY))):=by
 have e:Hq (rn bX= #[I J 54554,I J 36645,I J 11616,I J 51542,I J 42930,I J 38181,I J 51040,I J 26924,I J 56412,I J 64982,I J 57905,I J 49316,I J 21502,I J 52590,I J 14035,I J 8553]):=by
  show _=_;rw[mJ,uK];exact lJ (of_decide_eq_true kr)
 have f:Hq (rn bY= #[I J 26200,I J 26214,I J 26214,I J 26214,I J 26214,I J 26214,I J 26214,I J 26214,I J 26214,I J 26214,I J 26214,I J 26214,I J 26214,I J 26214,I J 26214,I J 26214]):=by
  show _=_;rw[mJ,uK];exact lJ (of_decide_eq_true kr)
 obtain⟨x,h⟩:=eX bX;rw[<-h] at e⊢;clear h;obtain⟨y,i⟩:=eX bY;rw[<-i] at f⊢;clear i;go_enter func49,ntmps49
 refine wp_seq (wp_region_list ?_);refine xF _ rfl rfl ?_;simp only[Act.put,List.setIfInBounds_toArray,List.set_cons_zero];refine Qt.done ?_;refine wp_seq (wp_region_list ?_);refine Own.qz rfl 95 _ rfl (rn x) (by rw[e.o];kernel_rfl) ?_;refine mx _ rfl rfl ?_;simp only[zD];refine wm rfl _ _ rfl _ x rfl rfl ?_;simp only[Act.put];refine Qt.done ?_;refine wp_seq (wp_region_list ?_);refine Own.qz rfl 95 _ rfl (rn y) (by rw[f.o];kernel_rfl) ?_;refine mx _ rfl rfl ?_;simp only[zD];refine wm rfl _ _ rfl _ y rfl rfl ?_;simp only[Act.put];refine Qt.done (wp_seq ?_);simp only[World.size_alloc];generalize g:bU _ _=w0;have a:=tV g;have c:Hq (ej w0 w.heap.size t0):=.zero a.1;have l:Hq (ep w0 (w.heap.size+1) x):=a.2.1;have m:Hq (ep w0 (w.heap.size+1+1) y):=a.2.2.1;have j:Hq _:=a.2.2.2;clear g a;refine Qt.im 4 kr kr ?_;refine kj rfl _ rfl (w.heap.size+1) x rfl l.o ?_;refine kj rfl _ rfl (w.heap.size+1+1) y rfl m.o ?_;refine ev rfl 43 #[I J 1] (H (rn 1)) (fun _=>kr) (fun w' _=>GM w') ?_;simp only[zD];refine ue rfl _ rfl (mR x y) kr ?_;simp only[zD];refine gh ?_;intro w1 b;have d:Hq (ej w1 w.heap.size t0):=c.o.below b c.o.lt;have k:=tq j b;clear b;refine tb rfl _ _ rfl w.heap.size (mR x y) t0 rfl rfl d.o ?_;go_wp2_with fail
 exact wq results49 rfl w.heap.size (mR x y) rfl (d.o.setRow _) ⟨rfl,k.o.trans ((hJ _ _ _).mono lR)⟩
theorem wG{ops:Array Oper}{rest:List Oper}{Q:Exit->Act->D->Prop}(c:o.guard=Y)(x y:Operand)(d:o.op= .store 95 x y)(v:F)(f:a.eval y=H (rn v))(w:D)(g:Nat->Int)(b:W=w.alloc (Cl (num g) 95))
  (e:a.eval x=X (Z ⟨w.heap.size,0,Y⟩))
  (h:wpList prog ops Q rest (a.put o.dst undef) (w.alloc (Cl (rn v) 95))):wpList prog ops Q (o::rest) a W:=by
 subst b;exact wm c x y d g v e f h
theorem Wj{ops:Array Oper}{rest:List Oper}{w:D}{Q:Exit->Act->D->Prop}(d:o.guard=Y)(b:Array (Nat×Operand))(f:o.op= .build 100 b)(e:T3)(c:(b.map fun(i,x)=>(i,a.eval x)).toList=[(0,H (rn e.x)),(1,H (rn e.y)),(2,H (rn e.z))])
  (h:wpList prog ops Q rest (a.put o.dst (H (tp e))) w):wpList prog ops Q (o::rest) a w:=
 Own.qz d 100 b f (tp e) (by rw[c];exact Jl e.x e.y e.z) h
theorem Vm{ops:Array Oper}{rest:List Oper}{a:Act}{w:D}{Q:Exit->Act->D->Prop}(b:o.guard=Y)(x y:Operand)(c:o.op= .store 100 x y)(v:T3)
  (d:a.eval x=X (Z ⟨w.heap.size,0,Y⟩)) (e:a.eval y=H (tp v))
  (h:wpList prog ops Q rest (a.put o.dst undef) (w.alloc (Cl (tp v) 100))):wpList prog ops Q (o::rest) a (w.alloc (Cl ry 100)):=
 Own.qy b 100 x y c ry (tp v) 100 d e (by rw[lE];kernel_rfl) (by rw[lE];rfl) (qh v) h
theorem Fs{ops:Array Oper}{rest:List Oper}{Q:Exit->Act->D->Prop}(c:o.guard=Y)(x y:Operand)(d:o.op= .store 100 x y)(v:T3)(f:a.eval y=H (tp v))(w:D)(b:W=w.alloc (Cl ry 100))
  (e:a.eval x=X (Z ⟨w.heap.size,0,Y⟩))
  (h:wpList prog ops Q rest (a.put o.dst undef) (w.alloc (Cl (tp v) 100))):wpList prog ops Q (o::rest) a W:=by
 subst b;exact Vm c x y d v e f h
noncomputable def tmul(p:T3)(N:Nat):Nat->T3
 |0=>mR 0 1
 |d+1=>if N / 2^(255-d) % 2=1 then pX (pX (tmul p N d) (tmul p N d)) p else pX (tmul p N d) (tmul p N d)
theorem JW{e:T3}{p:Pt}(a:gF p)(h:oN e p)(N:Nat)(g:N<2^256)(d:Nat)(hd:d<=256):oN (tmul e N d) (lD p (N / 2^(256-d))):=by
 induction d with
 |zero=>
  rw[Nat.div_eq_of_lt g];exact Dd 0 1
 |succ d ih=>
  have h1:=ih oM;have h2:=Df (ox a _) (ox a _) h1 h1;rw[<-C2 a,<-Nat.two_mul] at h2;have c:256-d=255-d+1:=oM
  have f:256-(d+1)=255-d:=oM
  have h3:=B2 N (255-d);rw[<-c] at h3;rw[f,h3,tmul];by_cases b:N / 2^(255-d) % 2=1
  ·rw[if_pos b,b]
   exact Df (ox a _) a h2 h
  ·rw[if_neg b,show N / 2^(255-d) % 2=0 by omega]
   exact h2
theorem GS(p:T3)(N:Nat)(w:D):Rt 48 #[H (tp p),H (nm (N:Int))] w (H (tp (tmul p N 256))):=by
 have b2:Hq (∀w,Rt 50 #[] w (H (rn dD))):=BX;have j1:Hq (∀w,Rt 43 #[I J 0] w (H (rn 0))):=Md;have b3:Hq (∀w,Rt 43 #[I J 1] w (H (rn 1))):=GM;have b6:Hq (∀p q w,Rt 47 #[H (tp p),H (tp q),H (rn dD)] w (H (tp (pX p q)))):=fun p q w=>EH p q dD w;obtain⟨h,hD⟩:=eX dD;rw[<-hD] at b2 b6;clear hD;go_enter func48,ntmps48
 go_wp2_with (refine xF _ rfl rfl ?_)
 generalize m:bU _ _=w0;obtain⟨g,hg⟩:=eX w.heap.size;have a:=tV m;rw[<-hg] at a⊢;have K:Hq (ej w0 g p):=a.1;have e7:Hq _:=a.2.1;have a8:Hq (ej w0 (g+1+1) t0):=.zero a.2.2.1;have e1:Hq _:=a.2.2.2;have HG:Hq (w.heap.size<=g):=Nat.le_of_eq hg.symm;clear hg m a;refine(b2.o _).mono ?_;rintro e w1 ⟨rfl,F⟩;have c7:Hq (ej w1 g p):=K.o.below F K.o.lt;have e9:=ca F e7;have b0:Hq (ej w1 (g+1+1) t0):=a8.o.below F a8.o.lt;have e2:Hq (O g w w1):=e1.o.trans (F.mono (cA K.o.lt));clear F K e7 a8 e1 b2;obtain⟨f,c0⟩:=eX w1.heap.size;have l3:g+1+1<f:=by
  rw[c0];exact b0.o.lt
 go_wp2_with (first|refine mx _ rfl rfl ?_|refine wG rfl _ _ rfl h rfl _ _ rfl rfl ?_)
 generalize m:bU _ _=w2;have a:=nZ m;rw[<-c0] at a⊢;have L:Hq (ej w2 g p):=c7.o.below a.2 oM;have h4:Hq (w2.heap[g+1]? =_):=(a.2.block _ oM).trans e9.o;have b1:Hq (ej w2 (g+1+1) t0):=b0.o.below a.2 oM;have a6:Hq (ep w2 f h):=a.1;have e3:Hq (O g w w2):=e2.o.trans (a.2.mono oM);clear m a c0 c7 e9 b0 e2;refine(j1.o _).mono ?_;rintro e w3 ⟨rfl,j⟩;go_wp2_with fail
 refine(b3.o _).mono ?_;rintro e w4 ⟨rfl,b7⟩;go_wp2_with fail
 refine(b3.o _).mono ?_;rintro e w5 ⟨rfl,k⟩;have t:O w2.heap.size w2 w5:=(tR j b7).trans (k.mono (ag j.size b7.size));have M:Hq (ej w5 g p):=L.o.below t L.o.lt;have S:=ca t h4;have U:Hq (ej w5 (g+1+1) t0):=b1.o.below t b1.o.lt;have B:Hq (ep w5 f h):=a6.o.below t a6.o.lt;have P:Hq (O g w w5):=e3.o.trans (t.mono (cA L.o.lt));clear j b7 k t L h4 b1 a6 e3 j1 b3;obtain⟨b,c4⟩:=eX w5.heap.size;have l4:f<b:=by
  rw[c4];exact B.o.lt
 go_wp2_with (first|refine Wj rfl _ rfl (mR 0 1) kr ?_|refine xF _ rfl rfl ?_|refine Fs rfl _ _ rfl (mR 0 1) rfl _ rfl rfl ?_)
 generalize m:bU _ _=w6;have a:=nZ m;rw[<-c4] at a⊢;have c9:Hq (ej w6 g p):=M.o.below a.2 oM;have h6:Hq (w6.heap[g+1]? =_):=(a.2.block _ oM).trans S.o;have j0:Hq (ej w6 (g+1+1) t0):=U.o.below a.2 oM;have e6:Hq (ep w6 f h):=B.o.below a.2 oM;have h8:Hq (ej w6 b (tmul p N 0)):=a.1;have l:Hq (O g w w6):=P.o.trans (a.2.mono oM);clear m a c4 M S U B P;go_loopw [7] (fun i y=>∃d:Nat,d<=256/\i=I J (255-(d:Int))/\ej y g p/\y.heap[g+1]? =Z (Cl (nm (N:Int)) 95 (0,0))/\ej y (g+1+1) t0/\ep y f h/\ej y b (tmul p N d)/\O g w y) (fun i _=>(intOf i+1).toNat)
 case atStart=>exact⟨0,oM,rfl,c9.o,h6.o,j0.o,e6.o,h8.o,l.o⟩
 case round=>
  clear c9 h6 j0 e6 h8 l;rename D=>V
  obtain⟨d,hd,rfl,ha,he,hr,l0,ho,hb⟩:=hrel;have G:Hq (ej V g p):=ha;have HE:Hq _:=he;have E:Hq (ej V (g+1+1) t0):=hr;have Q:Hq (ep V f h):=l0;have n:Hq (ej V b (tmul p N d)):=ho;have W:Hq _:=hb;clear ha he hr l0 ho hb;by_cases l2:d=256
  ·subst l2
   obtain⟨v,hv⟩:=eX (tmul p N 256);rw[<-hv] at n;have Hv:Hq _:=hv;clear hv;go_wp2_with (first|refine uY rfl _ rfl b v rfl n.o ?_|refine tb rfl _ _ rfl (g+1+1) v t0 rfl rfl E.o ?_)
   exact wq results48 rfl (g+1+1) v rfl (E.o.setRow v) ⟨by rw[Hv.o],(W.o.trans ((hJ _ _ _).mono oM)).mono HG.o⟩
  ·obtain⟨i,hi⟩:=eX (255-d)
   have ei:(255:Int)-(d:Int)=(i:Int):=oM
   rw[ei];have x:Hq (tmul p N (d+1)=if N / 2^i % 2=1 then pX (pX (tmul p N d) (tmul p N d)) p else pX (tmul p N d) (tmul p N d)):=by rw[hi];rfl
   obtain⟨v,hv⟩:=eX (tmul p N d);rw[<-hv] at n x;have Hi:Hq (i=255-d):=hi;have l5:i<256:=oM
   clear hv hi ei;go_wp2_with (first|refine uY rfl _ rfl b v rfl n.o ?_|refine qH rfl _ rfl f h rfl Q.o ?_)
   refine(b6.o _ _ _).mono ?_;rintro e w3 ⟨rfl,j⟩;have c8:Hq (ej w3 g p):=G.o.below j G.o.lt;have h5:=ca j HE;have h9:Hq (ej w3 (g+1+1) t0):=E.o.below j E.o.lt;have e5:Hq (ep w3 f h):=Q.o.below j Q.o.lt;have a7:Hq (ej w3 b v):=n.o.below j n.o.lt;have e4:Hq (O g w w3):=W.o.trans (j.mono (cA G.o.lt));clear j G HE E Q n W;obtain⟨u,hu⟩:=eX (pX v v);rw[<-hu] at x⊢;clear hu;have s:Hq (O b w3 (w3.setRow b (tp u))):=hJ _ _ _;have r:Hq (ej (w3.setRow b (tp u)) g p):=c8.o.below s.o oM;have R:Hq ((w3.setRow b (tp u)).heap[g+1]? =_):=(s.o.block _ oM).trans h5.o;have T:Hq (ej (w3.setRow b (tp u)) (g+1+1) t0):=h9.o.below s.o oM;have A:Hq (ep (w3.setRow b (tp u)) f h):=e5.o.below s.o oM;have C:Hq (ej (w3.setRow b (tp u)) b u):=a7.o.setRow u;have X:Hq (O g w (w3.setRow b (tp u))):=e4.o.trans (s.o.mono oM);obtain⟨w4,c6⟩:=eX (w3.setRow b (tp u));rw[<-c6] at r R T A C X;have j2:Hq _:=c6;clear c6 s c8 h5 h9 e5 e4;have hc:w4.cell? ⟨g+1,i / 16,Y⟩=Z (I J (dg (N:Int) (i / 16))):=lx R.o (i / 16) oM;have j9:=kk (N:Int) (i / 16);have b8:=Bm N i;obtain⟨c,j5⟩:=eX (dg (N:Int) (i / 16));rw[<-j5] at hc j9 b8;clear j5;have l1:(c / 2^(i % 16)).tmod 2=((N / 2^i % 2:Nat):Int):=by
    rw[Int.tmod_eq_emod_of_nonneg (Int.ediv_nonneg j9.1 (Int.le_of_lt (Int.pow_pos dc))),b8]
   clear b8;by_cases h1:N / 2^i % 2=1
   ·rw[if_pos h1] at x
    rw[h1] at l1;clear h1;go_wp2_with (first|(refine tb rfl _ _ rfl b u v rfl rfl a7.o ?_;rw[<-j2.o])|refine uY rfl _ rfl b u rfl C.o ?_|refine uY rfl _ rfl g p rfl r.o ?_|refine qH rfl _ rfl f h rfl A.o ?_)
    refine(b6.o _ _ _).mono ?_;rintro e w5 ⟨rfl,k⟩;rw[<-x.o];have M:Hq (ej w5 g p):=r.o.below k r.o.lt;have S:=ca k R;have U:Hq (ej w5 (g+1+1) t0):=T.o.below k T.o.lt;have B:Hq (ep w5 f h):=A.o.below k A.o.lt;have h7:Hq (ej w5 b u):=C.o.below k C.o.lt;have P:Hq (O g w w5):=X.o.trans (k.mono (cA r.o.lt));clear k;obtain⟨z,hz⟩:=eX (tmul p N (d+1));rw[<-hz];have Hz:Hq _:=hz;clear hz;go_wp2_with (refine tb rfl _ _ rfl b z u rfl rfl h7.o ?_)
    have l:O b w5 (w5.setRow b (tp z)):=hJ _ _ _;have hi:=Hi.o;refine⟨⟨d+1,oM,by congr 1;omega,M.o.below l oM,(l.block _ oM).trans S.o,U.o.below l oM,B.o.below l oM,by rw[<-Hz.o];exact h7.o.setRow z,P.o.trans (l.mono oM)⟩,?_⟩;show((i:Int)-1+1).toNat<((i:Int)+1).toNat;omega
   ·rw[if_neg h1] at x
    have a:N / 2^i % 2=0:=oM
    rw[a] at l1;clear h1 a;go_wp2_with (refine tb rfl _ _ rfl b u v rfl rfl a7.o ?_;rw[<-j2.o])
    have hi:=Hi.o;refine⟨⟨d+1,oM,by congr 1;omega,r.o,R.o,T.o,A.o,by rw[x.o];exact C.o,X.o⟩,?_⟩;show((i:Int)-1+1).toNat<((i:Int)+1).toNat;omega
