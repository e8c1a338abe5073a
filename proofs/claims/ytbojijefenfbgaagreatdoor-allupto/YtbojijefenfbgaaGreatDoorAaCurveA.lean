/- Walks of the program's curve: points; affine, Neg, fromQuotients. Walks of the program's curve: fromQuotients, Add, Double. (Laid by wip/gen/curveb.py.) Walks of the program's curve: Zero, Base, multiples. -/
import Derived.Test.YtbojijefenfbgaaGreatDoorAaFieldF
open Classical renaming choose->eS,choose_spec->et
open Array renaming length_toList->bw,getElem?_append_left->bD,getElem?_append_right->di
open Go.RowKit.Below renaming refl->ai,heap_setCell->aC
open Nat renaming le_trans->ag
open Option renaming some->Z,none->Y
open Go.Value renaming int->I,pointer->X,agg->H
open Go.IntKind renaming u64->Uq
open Go.Obj renaming cells->Cl
open Go.Ending renaming returned->Re
open Go renaming World->D,Value->Vl
open Go.RowKit renaming Below->O
set_option maxHeartbeats 4000000
set_option maxRecDepth 100000
open Go Go.RowKit
open Go.Proofs.YtbojijefenfbgaaGreatDoor
open Qt(Lex ev gh pC rh Dh)
open Own(jM dk oU rb mn jI nv mX)
open Ed(mq rX dD quot mh)
variable{W w w':D}{a:Act}{b k:Nat}{o:Oper}
namespace Go.Proofs.YtbojijefenfbgaaGreatDoor
open Tryz
namespace Cw
open Fw
theorem EC:∃f:Ed.E->Array Vl,∀e,f e=fw e.x++fw e.y++fw e.z++fw e.t:=⟨_,fun _=>rfl⟩
noncomputable def pw:Ed.E->Array Vl:=eS EC
theorem rz(e:Ed.E):pw e=fw e.x++fw e.y++fw e.z++fw e.t:=et EC e
theorem sW(x:Ed.F):∃a b c d:Vl,fw x= #[a,b,c,d]/\a.oneCell'=true/\b.oneCell'=true/\c.oneCell'=true/\d.oneCell'=true:=by
 rw[nK];exact⟨_,_,_,_,rfl,rfl,rfl,rfl,rfl⟩
theorem nx(e:Ed.E):(pw e).size=16:=by rw[rz];simp[lQ]
theorem uZ(e:Ed.E):(pw e).all (·.oneCell')=true:=by
 rw[rz];simp only[Array.all_append,wC,Bool.and_self]
theorem Un(x y z t:Ed.F):prog.built 163 [(0,H (fw x)),(1,H (fw y)),(2,H (fw z)),(3,H (fw t))]=Z (pw ⟨x,y,z,t⟩):=by
 rw[rz];obtain⟨a0,a1,a2,a3,a,_⟩:=sW x;obtain⟨d,b1,e,f,b,_⟩:=sW y;obtain⟨c0,g,h,i,c,_⟩:=sW z;obtain⟨d0,d1,d2,d3,hd,_⟩:=sW t;simp only[a,b,c,hd];kernel_rfl
def oA:Array Vl:= #[I Uq 0,I Uq 0,I Uq 0,I Uq 0,I Uq 0,I Uq 0,I Uq 0,I Uq 0,I Uq 0,I Uq 0,I Uq 0,I Uq 0,I Uq 0,I Uq 0,I Uq 0,I Uq 0]
def e0:Ed.E:=⟨0,0,0,0⟩
theorem zG:pw e0=oA:=by rw[rz];simp only[e0,wU];rfl
def fb(w:D)(b:Nat)(e:Ed.E):Prop:=w.heap[b]? =Z (Cl (pw e) 163 (0,0))
theorem fb.lt{e:Ed.E}(h:fb w b e):b<w.heap.size:=(aL h)
theorem fb.below{e:Ed.E}(h:fb w b e)(a:O k w w')(c:b<k):fb w' b e:=(a.block b c).trans h
theorem fb.zero(h:w.heap[b]? =Z (Cl oA 163 (0,0))):fb w b e0:=by unfold fb;rw[zG];exact h
theorem fb.setRow{w:D}{b:Nat}{e:Ed.E}(h:fb w b e)(f:Ed.E):fb (w.setRow b (pw f)) b f:=setRow_heap _ _ _ _ _ _ h
theorem fb.range{e:Ed.E}(h:fb w b e)(off:Nat)(v:Ed.F)(hv:∀j,j<4->(pw e)[off+j]? =(fw v)[j]?):w.rangeAt b off (fw v).toList:=fun j u hu=>by
 have a:j<4:=by
  have:=(lL hu);rw[bw,lQ] at this;exact this
 rw[cell_of_row w b (off+j) _ _ _ h,hv j a];simpa using hu
theorem fb.x{w:D}{b:Nat}{e:Ed.E}(h:fb w b e):w.rangeAt b 0 (fw e.x).toList:=h.range 0 e.x fun j a=>by
 rw[rz,bD (by simp[lQ];omega),bD (by simp[lQ];omega),bD (by simp[lQ];omega)];congr 1;omega
theorem fb.y{w:D}{b:Nat}{e:Ed.E}(h:fb w b e):w.rangeAt b 4 (fw e.y).toList:=h.range 4 e.y fun j a=>by
 rw[rz,bD (by simp[lQ];omega),bD (by simp[lQ];omega),di (by simp[lQ])];congr 1;simp[lQ]
theorem fb.z{w:D}{b:Nat}{e:Ed.E}(h:fb w b e):w.rangeAt b 8 (fw e.z).toList:=h.range 8 e.z fun j a=>by
 rw[rz,bD (by simp[lQ];omega),di (by simp[lQ])];congr 1;simp[lQ]
theorem fb.t{w:D}{b:Nat}{e:Ed.E}(h:fb w b e):w.rangeAt b 12 (fw e.t).toList:=h.range 12 e.t fun j a=>by
 rw[rz,di (by simp[lQ])];congr 1;simp[lQ]
theorem mL{K:Act->Prop}{l:List Oper}(d:o.guard=Y)(x:Operand)(e:o.op= .load 161 x)(b off:Nat)(v:Ed.F)(g:a.eval x=X (Z ⟨b,off,Y⟩))(c:b<W.heap.size)(f:W.rangeAt b off (fw v).toList)
  (h:Lex prog W K l (a.put o.dst (H (fw v)))):Lex prog W K (o::l) a:=
 Qt.um d 161 x e b off g (fw v).toList _ c f underlying161 rfl (by rw[bw,lQ];kernel_rfl) h
theorem Ci{W:D}{K:Act->Prop}{l:List Oper}(d:o.guard=Y)(b:Array (Nat×Operand))(f:o.op= .build 163 b)(e:Ed.E)(c:(b.map fun(i,x)=>(i,a.eval x)).toList=[(0,H (fw e.x)),(1,H (fw e.y)),(2,H (fw e.z)),(3,H (fw e.t))])
  (h:Lex prog W K l (a.put o.dst (H (pw e)))):Lex prog W K (o::l) a:=by
 refine Qt.kb d (H (pw e)) (fun w' _=> ?_) h;have g:=run_build (P:=prog) w' 163 (b.map fun(i,x)=>(i,a.eval x)) (pw e) (by rw[c];exact Un e.x e.y e.z e.t);unfold execOp;simp only[f,Sem.run_bind,Sem.run_pure,Result.andThen_ok,g]
theorem pA{ops:Array Oper}{rest:List Oper}{Q:Exit->Act->D->Prop}(d:o.guard=Y)(x y:Operand)(e:o.op= .store 163 x y)(b:Nat)(v hQ:Ed.E)(f:a.eval x=X (Z ⟨b,0,Y⟩))(g:a.eval y=H (pw v))(c:fb w b hQ)
  (h:wpList prog ops Q rest (a.put o.dst undef) (w.setRow b (pw v))):wpList prog ops Q (o::rest) a w:=
 wpList_store_row d 163 x y e b (pw v) f g 163 (pw hQ) c (by rw[nx];kernel_rfl) ((nx _).trans (nx _).symm) (uZ v) h
theorem Fg{ops:Array Oper}{rest:List Oper}{Q:Exit->Act->D->Prop}(d:o.guard=Y)(x:Operand)(e:o.op= .load 163 x)(b:Nat)(v:Ed.E)(f:a.eval x=X (Z ⟨b,0,Y⟩))(c:fb w b v)
  (h:wpList prog ops Q rest (a.put o.dst (H (pw v))) w):wpList prog ops Q (o::rest) a w:=
 wpList_load_row d 163 x e b f 163 (pw v) (0,0) _ c underlying163 rfl (by rw[nx];kernel_rfl) h
theorem ya{K:Act->Prop}{l:List Oper}(d:o.guard=Y)(x:Operand)(e:o.op= .load 163 x)(b:Nat)(v:Ed.E)(f:a.eval x=X (Z ⟨b,0,Y⟩))(c:fb W b v)
  (h:Lex prog W K l (a.put o.dst (H (pw v)))):Lex prog W K (o::l) a:=
 Qt.nn d 163 x e b f 163 (pw v) (0,0) _ c underlying163 rfl (by rw[nx];kernel_rfl) h
theorem sr{b:Func}{p:Tmp}(h:b.results= #[.cell p 163]){post:Ending->D->Prop}(hd:a.defers=[])(g:Nat)(v:Ed.E)(d:a.tmps.getD p undef=X (Z ⟨g,0,Y⟩))(c:fb w g v)(e:post (Re (H (pw v))) w):
  bodyPost prog b post .ret a w:=
 jM h hd g 163 (pw v) (0,0) _ d c underlying163 rfl (by rw[nx];kernel_rfl) e
noncomputable abbrev V2(w:D)(e:Ed.E):D:=(w.alloc (Cl (pw e) 163)).alloc (Cl oA 163)
theorem Il(w:D)(e:Ed.E):fb (V2 w e) w.heap.size e:=fb.below (jv w _ _ rfl) ((ai (w.heap.size+1) _).alloc sP _) oM
theorem AV(w:D)(e:Ed.E):fb (V2 w e) (w.heap.size+1) e0:=.zero (jv _ _ _ sP)
theorem Im(w:D)(e:Ed.E):O w.heap.size w (V2 w e):=((ai _ _).alloc lR _).alloc sP _
noncomputable abbrev U3(w:D)(x y:Ed.F):D:=((w.alloc (Cl (fw x) 161)).alloc (Cl (fw y) 161)).alloc (Cl oA 163)
theorem Ij(w:D)(x y:Ed.F):b' (U3 w x y) w.heap.size x:=b'.below (jv w _ _ rfl) (((ai (w.heap.size+1) _).alloc sP _).alloc sP _) oM
theorem Ik(w:D)(x y:Ed.F):b' (U3 w x y) (w.heap.size+1) y:=b'.below (jv _ _ _ sP) ((ai (w.heap.size+2) _).alloc sP _) oM
theorem Ii(w:D)(x y:Ed.F):fb (U3 w x y) (w.heap.size+1+1) e0:=.zero (jv _ _ _ sP)
theorem V0(w:D)(x y:Ed.F):O w.heap.size w (U3 w x y):=(((ai _ _).alloc lR _).alloc sP _).alloc (by simp;omega) _
theorem CS(x y:Ed.F)(w:D):
  Rt 156 #[H (fw x),H (fw y)] w (H (pw (mq x y))):=by
 go_enter func156,ntmps156
 go_wp2_with fail
 refine Qt.im 7 kr kr ?_;refine iv rfl _ rfl (w.heap.size) (x) rfl (Ij w x y) ?_;refine iv rfl _ rfl (w.heap.size+1) (y) rfl (Ik w x y) ?_;refine ev rfl 227 #[] (H (fw 1)) (fun _=>kr) (fun w' _=>yb w') ?_;refine iv rfl _ rfl (w.heap.size) (x) rfl (Ij w x y) ?_;refine iv rfl _ rfl (w.heap.size+1) (y) rfl (Ik w x y) ?_;refine ev rfl 179 #[H (fw (x)),H (fw (y))] _ (fun _=>kr) (fun w' _=>mK (x) (y) w') ?_;simp only[zD];refine Ci rfl _ rfl (mq x y) kr ?_;simp only[zD];refine gh ?_;intro w1 c;have a:Hq (O (U3 w x y).heap.size (U3 w x y) w1):=c;clear c;have b:Hq (fb w1 (w.heap.size+1+1) e0):=(Ii w x y).below a.o (Ii w x y).lt;refine pA rfl _ _ rfl (w.heap.size+1+1) (mq x y) e0 rfl rfl b.o ?_;go_wp2_with fail
 exact sr results156 rfl (w.heap.size+1+1) (mq x y) rfl (b.o.setRow _) ⟨rfl,oT (V0 w x y) a.o _ oM _⟩
theorem Vj(p:Ed.E)(w:D):
  Rt 112 #[H (pw p)] w (H (pw (rX p))):=by
 have a:=Il w p;go_enter func112,ntmps112
 go_wp2_with fail
 refine Qt.im 11 kr kr ?_;refine yw (X (Z ⟨w.heap.size,0,Y⟩)) ?_;refine mL rfl _ rfl w.heap.size 0 p.x rfl a.lt a.x ?_;refine ev rfl 177 #[H (fw (p.x))] _ (fun _=>kr) (fun w' _=>uD (p.x) w') ?_;refine yw (X (Z ⟨w.heap.size,4,Y⟩)) ?_;refine mL rfl _ rfl w.heap.size 4 p.y rfl a.lt a.y ?_;simp only[zD];refine yw (X (Z ⟨w.heap.size,8,Y⟩)) ?_;refine mL rfl _ rfl w.heap.size 8 p.z rfl a.lt a.z ?_;refine yw (X (Z ⟨w.heap.size,12,Y⟩)) ?_;refine mL rfl _ rfl w.heap.size 12 p.t rfl a.lt a.t ?_;refine ev rfl 177 #[H (fw (p.t))] _ (fun _=>kr) (fun w' _=>uD (p.t) w') ?_;simp only[zD];refine Ci rfl _ rfl (rX p) kr ?_;simp only[zD];refine gh ?_;intro w1 d;have b:Hq (O (V2 w p).heap.size (V2 w p) w1):=d;clear d;have c:Hq (fb w1 (w.heap.size+1) e0):=(AV w p).below b.o (AV w p).lt;refine pA rfl _ _ rfl (w.heap.size+1) (rX p) e0 rfl rfl c.o ?_;go_wp2_with fail
 exact sr results112 rfl (w.heap.size+1) (rX p) rfl (c.o.setRow _) ⟨rfl,oT (Im w p) b.o _ oM _⟩
theorem Wz(w:D):Rt 239 #[] w (H (fw (dD+dD))):=by
 rw[uT (dD+dD) 16993941304535871833 63073048630374742 1841551078520508720 2596001775599221991 dc dc dc dc dc];go_enter func239,ntmps239
 go_wp2_with fail
 exact jM results239 rfl w.heap.size 161 _ (0,0) _ rfl (heap_alloc_new _ _) underlying161 rfl kr ⟨rfl,(ai _ _).alloc lR _⟩
theorem UP(w:D):Rt 228 #[] w (H (fw dD)):=by
 rw[uT dD 8496970652267935907 31536524315187371 10144147576115030168 5909686906226998899 dc dc dc dc dc];go_enter func228,ntmps228
 go_wp2_with fail
 exact jM results228 rfl w.heap.size 161 _ (0,0) _ rfl (heap_alloc_new _ _) underlying161 rfl kr ⟨rfl,(ai _ _).alloc lR _⟩
noncomputable abbrev V3(w:D)(e f:Ed.E):D:=((w.alloc (Cl (pw e) 163)).alloc (Cl (pw f) 163)).alloc (Cl oA 163)
theorem V'(w:D)(e f:Ed.E):fb (V3 w e f) w.heap.size e:=fb.below (jv w _ _ rfl) (((ai (w.heap.size+1) _).alloc sP _).alloc sP _) oM
theorem Wb(w:D)(e f:Ed.E):fb (V3 w e f) (w.heap.size+1) f:=fb.below (jv _ _ _ sP) ((ai (w.heap.size+2) _).alloc sP _) oM
theorem Wc(w:D)(e f:Ed.E):fb (V3 w e f) (w.heap.size+1+1) e0:=.zero (jv _ _ _ sP)
theorem Wa(w:D)(e f:Ed.E):O w.heap.size w (V3 w e f):=(((ai _ _).alloc lR _).alloc sP _).alloc (by simp;omega) _
theorem fb.other{c:Nat}{e:Ed.E}(h:fb w b e)(a:b≠c)(cs:Array Vl):fb (w.setRow c cs) b e:=by
 unfold fb at*;rw[<-h];show(Array.modify _ _ _)[b]? =_;rw[Array.getElem?_modify,if_neg (Ne.symm a)]
noncomputable abbrev U5(w:D)(x y z t:Ed.F):D:=((((w.alloc (Cl (fw x) 161)).alloc (Cl (fw y) 161)).alloc (Cl (fw z) 161)).alloc (Cl (fw t) 161)).alloc (Cl oA 163)
theorem V7(w:D)(x y z t:Ed.F):b' (U5 w x y z t) w.heap.size x:=b'.below (jv w _ _ rfl) (((((ai (w.heap.size+1) _).alloc sP _).alloc sP _).alloc sP _).alloc sP _) oM
theorem V8(w:D)(x y z t:Ed.F):b' (U5 w x y z t) (w.heap.size+1) y:=b'.below (jv _ _ _ sP) ((((ai (w.heap.size+2) _).alloc sP _).alloc sP _).alloc sP _) oM
theorem V9(w:D)(x y z t:Ed.F):b' (U5 w x y z t) (w.heap.size+1+1) z:=b'.below (jv _ _ _ sP) (((ai (w.heap.size+3) _).alloc sP _).alloc sP _) oM
theorem V6(w:D)(x y z t:Ed.F):b' (U5 w x y z t) (w.heap.size+1+1+1) t:=b'.below (jv _ _ _ sP) ((ai (w.heap.size+4) _).alloc sP _) oM
theorem V5(w:D)(x y z t:Ed.F):fb (U5 w x y z t) (w.heap.size+1+1+1+1) e0:=.zero (jv _ _ _ sP)
theorem V4(w:D)(x y z t:Ed.F):O w.heap.size w (U5 w x y z t):=(((((ai _ _).alloc lR _).alloc sP _).alloc (by simp;omega) _).alloc (by simp;omega) _).alloc (by simp;omega) _
theorem FB(x y z t:Ed.F)(w:D):
  Rt 238 #[H (fw x),H (fw y),H (fw z),H (fw t)] w (H (pw (quot x y z t))):=by
 have b:Hq _:=V7 w x y z t;have c:Hq _:=V8 w x y z t;have d:Hq _:=V9 w x y z t;have e:Hq _:=V6 w x y z t;have f:Hq (fb (U5 w x y z t) (w.heap.size+1+1+1+1) e0):=V5 w x y z t;have i:Hq _:=V4 w x y z t;go_enter func238,ntmps238
 go_wp2_with fail
 rename_i l j;refine Qt.im 13 kr kr ?_;refine iv rfl _ rfl (w.heap.size) (x) rfl b.o ?_;refine iv rfl _ rfl (w.heap.size+1) (y) rfl c.o ?_;refine ev rfl 179 #[H (fw (x)),H (fw (y))] _ (fun _=>kr) (fun w' _=>mK (x) (y) w') ?_;simp only[zD];refine iv rfl _ rfl (w.heap.size+1+1) (z) rfl d.o ?_;refine iv rfl _ rfl (w.heap.size+1+1+1) (t) rfl e.o ?_;refine ev rfl 179 #[H (fw (z)),H (fw (t))] _ (fun _=>kr) (fun w' _=>mK (z) (t) w') ?_;simp only[zD];refine iv rfl _ rfl (w.heap.size+1) (y) rfl c.o ?_;refine iv rfl _ rfl (w.heap.size+1+1) (z) rfl d.o ?_;refine ev rfl 179 #[H (fw (y)),H (fw (z))] _ (fun _=>kr) (fun w' _=>mK (y) (z) w') ?_;simp only[zD];refine iv rfl _ rfl (w.heap.size) (x) rfl b.o ?_;refine iv rfl _ rfl (w.heap.size+1+1+1) (t) rfl e.o ?_;refine ev rfl 179 #[H (fw (x)),H (fw (t))] _ (fun _=>kr) (fun w' _=>mK (x) (t) w') ?_;simp only[zD];refine Ci rfl _ rfl (quot x y z t) kr ?_;simp only[zD];refine gh ?_;intro h k;have g:Hq (O (U5 w x y z t).heap.size (U5 w x y z t) h):=k;have a:Hq (fb h (w.heap.size+1+1+1+1) e0):=f.o.below g.o f.o.lt;refine pA rfl _ _ rfl (w.heap.size+1+1+1+1) (quot x y z t) e0 rfl rfl a.o ?_;simp only[Act.put];refine Qt.done (j _ _ ?_);go_wp2_with fail
 exact sr results238 rfl (w.heap.size+1+1+1+1) (quot x y z t) rfl (a.o.setRow _) ⟨rfl,oT i.o g.o _ oM _⟩
theorem Ej(p q:Ed.E)(w:D):
  Rt 176 #[H (pw p),H (pw q)] w (H (pw (Ed.oP p q))):=by
 have l:Hq (fb (V3 w p q) (w.heap.size) (p)):=V' w p q;have m:Hq (fb (V3 w p q) (w.heap.size+1) (q)):=Wb w p q;have Q:Hq (fb (V3 w p q) (w.heap.size+1+1) e0):=Wc w p q;have B:Hq _:=Wa w p q;go_enter func176,ntmps176
 go_wp2_with fail
 rename_i Kq e4;refine pC 11 kr kr _ rfl 161 rfl lM kr ?_;refine yw (X (Z ⟨w.heap.size,4,Y⟩)) ?_;refine mL rfl _ rfl (w.heap.size) 4 ((p).y) rfl l.o.lt l.o.y ?_;simp only[zD];refine yw (X (Z ⟨w.heap.size,0,Y⟩)) ?_;refine mL rfl _ rfl (w.heap.size) 0 ((p).x) rfl l.o.lt l.o.x ?_;simp only[zD];refine ev rfl 226 #[H (fw ((p).y)),H (fw ((p).x))] _ (fun _=>kr) (fun w' _=>qX ((p).y) ((p).x) w') ?_;simp only[zD];refine yw (X (Z ⟨w.heap.size+1,4,Y⟩)) ?_;refine mL rfl _ rfl (w.heap.size+1) 4 ((q).y) rfl m.o.lt m.o.y ?_;simp only[zD];refine yw (X (Z ⟨w.heap.size+1,0,Y⟩)) ?_;refine mL rfl _ rfl (w.heap.size+1) 0 ((q).x) rfl m.o.lt m.o.x ?_;simp only[zD];refine ev rfl 226 #[H (fw ((q).y)),H (fw ((q).x))] _ (fun _=>kr) (fun w' _=>qX ((q).y) ((q).x) w') ?_;simp only[zD];refine ev rfl 179 #[H (fw (((p).y)-((p).x))),H (fw (((q).y)-((q).x)))] _ (fun _=>kr) (fun w' _=>mK (((p).y)-((p).x)) (((q).y)-((q).x)) w') ?_;simp only[zD];skip
 refine gh ?_;intro b1 wa1 c a h;have c:O (V3 w p q).heap.size (V3 w p q) wa1:=by first|exact c|exact c.mono sP
 have a:(V3 w p q).heap.size<=b1:=by first|exact a|exact ag sP a
 refine mH rfl rfl b1 ((((p).y)-((p).x))*(((q).y)-((q).x))) rfl rfl c a h ?_;intro w1 g d;have b:Hq _:=d;have F:Hq (b' w1 b1 ((((p).y)-((p).x))*(((q).y)-((q).x)))):=g;have h5:Hq (w.heap.size≠b1):=by have h1:=l.o.lt;have h2:=a;show _≠_;omega
 have h8:Hq (w.heap.size+1≠b1):=by have h1:=m.o.lt;have h2:=a;show _≠_;omega
 have j1:Hq (w.heap.size+1+1≠b1):=by have h1:=Q.o.lt;have h2:=a;show _≠_;omega
 have e5:Hq _:=ag B.o.size a;have j:Hq (fb w1 (w.heap.size) (p)):=l.o.below b.o l.o.lt;have k:Hq (fb w1 (w.heap.size+1) (q)):=m.o.below b.o m.o.lt;have G:Hq (fb w1 (w.heap.size+1+1) e0):=Q.o.below b.o Q.o.lt;have C:Hq _:=B.o.trans (b.o.mono B.o.size);clear g d h a c b;simp only[zD];refine Qt.done (e4 _ _ ?_);refine wp_seq (pC 11 kr kr _ rfl 161 rfl lM kr ?_);refine yw (X (Z ⟨w.heap.size,4,Y⟩)) ?_;refine mL rfl _ rfl (w.heap.size) 4 ((p).y) rfl j.o.lt j.o.y ?_;simp only[zD];refine yw (X (Z ⟨w.heap.size,0,Y⟩)) ?_;refine mL rfl _ rfl (w.heap.size) 0 ((p).x) rfl j.o.lt j.o.x ?_;simp only[zD];refine ev rfl 229 #[H (fw ((p).y)),H (fw ((p).x))] _ (fun _=>kr) (fun w' _=>rD ((p).y) ((p).x) w') ?_;simp only[zD];refine yw (X (Z ⟨w.heap.size+1,4,Y⟩)) ?_;refine mL rfl _ rfl (w.heap.size+1) 4 ((q).y) rfl k.o.lt k.o.y ?_;simp only[zD];refine yw (X (Z ⟨w.heap.size+1,0,Y⟩)) ?_;refine mL rfl _ rfl (w.heap.size+1) 0 ((q).x) rfl k.o.lt k.o.x ?_;simp only[zD];refine ev rfl 229 #[H (fw ((q).y)),H (fw ((q).x))] _ (fun _=>kr) (fun w' _=>rD ((q).y) ((q).x) w') ?_;simp only[zD];refine ev rfl 179 #[H (fw (((p).y)+((p).x))),H (fw (((q).y)+((q).x)))] _ (fun _=>kr) (fun w' _=>mK (((p).y)+((p).x)) (((q).y)+((q).x)) w') ?_;simp only[zD];skip
 refine gh ?_;intro e wa2 c a h;have c:O (w1).heap.size (w1) wa2:=by first|exact c|exact c.mono sP
 have a:(w1).heap.size<=e:=by first|exact a|exact ag sP a
 refine mH rfl rfl e ((((p).y)+((p).x))*(((q).y)+((q).x))) rfl rfl c a h ?_;intro w2 g d;have b:Hq _:=d;have J:Hq (b' w2 e ((((p).y)+((p).x))*(((q).y)+((q).x)))):=g;have h6:Hq (w.heap.size≠e):=by have h1:=j.o.lt;have h2:=a;show _≠_;omega
 have h9:Hq (w.heap.size+1≠e):=by have h1:=k.o.lt;have h2:=a;show _≠_;omega
 have e9:Hq (b1≠e):=by have h1:=F.o.lt;have h2:=a;show _≠_;omega
 have j2:Hq (w.heap.size+1+1≠e):=by have h1:=G.o.lt;have h2:=a;show _≠_;omega
 have e6:Hq _:=ag C.o.size a;have r:Hq (fb w2 (w.heap.size) (p)):=j.o.below b.o j.o.lt;have s:Hq (fb w2 (w.heap.size+1) (q)):=k.o.below b.o k.o.lt;have I:Hq (b' w2 (b1) ((((p).y)-((p).x))*(((q).y)-((q).x)))):=F.o.below b.o F.o.lt;have K:Hq (fb w2 (w.heap.size+1+1) e0):=G.o.below b.o G.o.lt;have R:Hq _:=C.o.trans (b.o.mono C.o.size);clear g d h a c b;simp only[zD];refine Qt.done (wp_seq (pC 7 kr kr _ rfl 161 rfl lM kr ?_));refine yw (X (Z ⟨w.heap.size,12,Y⟩)) ?_;refine mL rfl _ rfl (w.heap.size) 12 ((p).t) rfl r.o.lt r.o.t ?_;simp only[zD];refine ev rfl 239 #[] (H (fw (dD+dD))) (fun _=>kr) (fun w' _=>Wz w') ?_;simp only[zD];refine ev rfl 179 #[H (fw ((p).t)),H (fw (dD+dD))] _ (fun _=>kr) (fun w' _=>mK ((p).t) (dD+dD) w') ?_;simp only[zD];refine yw (X (Z ⟨w.heap.size+1,12,Y⟩)) ?_;refine mL rfl _ rfl (w.heap.size+1) 12 ((q).t) rfl s.o.lt s.o.t ?_;simp only[zD];refine ev rfl 179 #[H (fw (((p).t)*(dD+dD))),H (fw ((q).t))] _ (fun _=>kr) (fun w' _=>mK (((p).t)*(dD+dD)) ((q).t) w') ?_;simp only[zD];skip
 refine gh ?_;intro f wa3 c a h;have c:O (w2).heap.size (w2) wa3:=by first|exact c|exact c.mono sP
 have a:(w2).heap.size<=f:=by first|exact a|exact ag sP a
 refine mH rfl rfl f ((((p).t)*(dD+dD))*((q).t)) rfl rfl c a h ?_;intro w3 g d;have b:Hq _:=d;have N:Hq (b' w3 f ((((p).t)*(dD+dD))*((q).t))):=g;have h7:Hq (w.heap.size≠f):=by have h1:=r.o.lt;have h2:=a;show _≠_;omega
 have j0:Hq (w.heap.size+1≠f):=by have h1:=s.o.lt;have h2:=a;show _≠_;omega
 have h0:Hq (b1≠f):=by have h1:=I.o.lt;have h2:=a;show _≠_;omega
 have h4:Hq (e≠f):=by have h1:=J.o.lt;have h2:=a;show _≠_;omega
 have j5:Hq (w.heap.size+1+1≠f):=by have h1:=K.o.lt;have h2:=a;show _≠_;omega
 have e7:Hq (w.heap.size<=f):=ag R.o.size a;have u:Hq (fb w3 (w.heap.size) (p)):=r.o.below b.o r.o.lt;have v:Hq (fb w3 (w.heap.size+1) (q)):=s.o.below b.o s.o.lt;have L:Hq (b' w3 (b1) ((((p).y)-((p).x))*(((q).y)-((q).x)))):=I.o.below b.o I.o.lt;have M:Hq (b' w3 (e) ((((p).y)+((p).x))*(((q).y)+((q).x)))):=J.o.below b.o J.o.lt;have P:Hq (fb w3 (w.heap.size+1+1) e0):=K.o.below b.o K.o.lt;have S:=tq R b;clear g d h a c b;simp only[zD];refine Qt.done (wp_seq (rh 5 _ rfl 161 rfl lM kr rfl ?_));refine yw (X (Z ⟨w.heap.size,8,Y⟩)) ?_;refine mL rfl _ rfl (w.heap.size) 8 ((p).z) rfl u.o.lt u.o.z ?_;simp only[zD];refine yw (X (Z ⟨w.heap.size+1,8,Y⟩)) ?_;refine mL rfl _ rfl (w.heap.size+1) 8 ((q).z) rfl v.o.lt v.o.z ?_;simp only[zD];refine ev rfl 179 #[H (fw ((p).z)),H (fw ((q).z))] _ (fun _=>kr) (fun w' _=>mK ((p).z) ((q).z) w') ?_;simp only[zD];skip
 refine gh ?_;intro b4 wa4 c a h;have c:O (w3).heap.size (w3) wa4:=by first|exact c|exact c.mono sP
 have a:(w3).heap.size<=b4:=by first|exact a|exact ag sP a
 refine mH rfl rfl b4 (((p).z)*((q).z)) rfl rfl c a h ?_;intro w4 g d;have b:Hq (O (w3).heap.size (w3) w4):=d;have A:Hq (b' w4 b4 (((p).z)*((q).z))):=g;have e1:Hq (w.heap.size≠b4):=by have h1:=u.o.lt;have h2:=a;show _≠_;omega
 have e2:Hq (w.heap.size+1≠b4):=by have h1:=v.o.lt;have h2:=a;show _≠_;omega
 have c7:Hq (b1≠b4):=by have h1:=L.o.lt;have h2:=a;show _≠_;omega
 have c8:Hq (e≠b4):=by have h1:=M.o.lt;have h2:=a;show _≠_;omega
 have c9:Hq (f≠b4):=by have h1:=N.o.lt;have h2:=a;show _≠_;omega
 have e3:Hq (w.heap.size+1+1≠b4):=by have h1:=P.o.lt;have h2:=a;show _≠_;omega
 have c6:Hq (w.heap.size<=b4):=ag S.o.size a;have W:Hq (fb w4 (w.heap.size) (p)):=u.o.below b.o u.o.lt;have a6:Hq (fb w4 (w.heap.size+1) (q)):=v.o.below b.o v.o.lt;have T:Hq (b' w4 (b1) ((((p).y)-((p).x))*(((q).y)-((q).x)))):=L.o.below b.o L.o.lt;have U:Hq (b' w4 (e) ((((p).y)+((p).x))*(((q).y)+((q).x)))):=M.o.below b.o M.o.lt;have V:Hq (b' w4 (f) ((((p).t)*(dD+dD))*((q).t))):=N.o.below b.o N.o.lt;have a7:Hq (fb w4 (w.heap.size+1+1) e0):=P.o.below b.o P.o.lt;have c0:=tq S b;clear g d h a c b;simp only[zD];refine Qt.done (wp_seq (Dh 3 ?_));refine iv rfl _ rfl (b4) (((p).z)*((q).z)) rfl A.o ?_;refine iv rfl _ rfl (b4) (((p).z)*((q).z)) rfl A.o ?_;refine ev rfl 229 #[H (fw (((p).z)*((q).z))),H (fw (((p).z)*((q).z)))] _ (fun _=>kr) (fun w' _=>rD (((p).z)*((q).z)) (((p).z)*((q).z)) w') ?_;simp only[zD];skip
 refine gh ?_;intro wa5 d;have b:Hq (O (w4).heap.size (w4) wa5):=by first|exact d|exact d.mono sP
 have n:Hq (b' wa5 (b4) (((p).z)*((q).z))):=A.o.below b.o A.o.lt;refine oy rfl _ _ rfl (b4) ((((p).z)*((q).z))+(((p).z)*((q).z))) (((p).z)*((q).z)) rfl rfl n.o ?_;obtain⟨w5,i⟩:=eX (wa5.setRow (b4) (fw ((((p).z)*((q).z))+(((p).z)*((q).z)))));rw[<-i];have b7:Hq (b' w5 (b4) ((((p).z)*((q).z))+(((p).z)*((q).z)))):=by rw[i];exact n.o.setRow _
 have j9:Hq (fb w5 (w.heap.size) (p)):=by rw[i];exact(W.o.below b.o W.o.lt).other e1.o _
 have l0:Hq (fb w5 (w.heap.size+1) (q)):=by rw[i];exact(a6.o.below b.o a6.o.lt).other e2.o _
 have a8:Hq (b' w5 (b1) ((((p).y)-((p).x))*(((q).y)-((q).x)))):=by rw[i];exact(T.o.below b.o T.o.lt).other c7.o _
 have b0:Hq (b' w5 (e) ((((p).y)+((p).x))*(((q).y)+((q).x)))):=by rw[i];exact(U.o.below b.o U.o.lt).other c8.o _
 have b6:Hq (b' w5 (f) ((((p).t)*(dD+dD))*((q).t))):=by rw[i];exact(V.o.below b.o V.o.lt).other c9.o _
 have b8:Hq (fb w5 (w.heap.size+1+1) (e0)):=by rw[i];exact(a7.o.below b.o a7.o.lt).other e3.o _
 have c4:Hq (O w.heap.size w w5):=by rw[i];exact(tR c0 b).trans ((hJ _ _ _).mono c6.o)
 clear d b n i;simp only[Act.put];refine Qt.done (wp_seq (Qt.im 13 kr kr ?_));refine iv rfl _ rfl (e) ((((p).y)+((p).x))*(((q).y)+((q).x))) rfl b0.o ?_;refine iv rfl _ rfl (b1) ((((p).y)-((p).x))*(((q).y)-((q).x))) rfl a8.o ?_;refine ev rfl 226 #[H (fw ((((p).y)+((p).x))*(((q).y)+((q).x)))),H (fw ((((p).y)-((p).x))*(((q).y)-((q).x))))] _ (fun _=>kr) (fun w' _=>qX ((((p).y)+((p).x))*(((q).y)+((q).x))) ((((p).y)-((p).x))*(((q).y)-((q).x))) w') ?_;simp only[zD];refine iv rfl _ rfl (b4) ((((p).z)*((q).z))+(((p).z)*((q).z))) rfl b7.o ?_;refine iv rfl _ rfl (f) ((((p).t)*(dD+dD))*((q).t)) rfl b6.o ?_;refine ev rfl 226 #[H (fw ((((p).z)*((q).z))+(((p).z)*((q).z)))),H (fw ((((p).t)*(dD+dD))*((q).t)))] _ (fun _=>kr) (fun w' _=>qX ((((p).z)*((q).z))+(((p).z)*((q).z))) ((((p).t)*(dD+dD))*((q).t)) w') ?_;simp only[zD];refine iv rfl _ rfl (b4) ((((p).z)*((q).z))+(((p).z)*((q).z))) rfl b7.o ?_;refine iv rfl _ rfl (f) ((((p).t)*(dD+dD))*((q).t)) rfl b6.o ?_;refine ev rfl 229 #[H (fw ((((p).z)*((q).z))+(((p).z)*((q).z)))),H (fw ((((p).t)*(dD+dD))*((q).t)))] _ (fun _=>kr) (fun w' _=>rD ((((p).z)*((q).z))+(((p).z)*((q).z))) ((((p).t)*(dD+dD))*((q).t)) w') ?_;simp only[zD];refine iv rfl _ rfl (e) ((((p).y)+((p).x))*(((q).y)+((q).x))) rfl b0.o ?_;refine iv rfl _ rfl (b1) ((((p).y)-((p).x))*(((q).y)-((q).x))) rfl a8.o ?_;refine ev rfl 229 #[H (fw ((((p).y)+((p).x))*(((q).y)+((q).x)))),H (fw ((((p).y)-((p).x))*(((q).y)-((q).x))))] _ (fun _=>kr) (fun w' _=>rD ((((p).y)+((p).x))*(((q).y)+((q).x))) ((((p).y)-((p).x))*(((q).y)-((q).x))) w') ?_;simp only[zD];refine ev rfl 238 #[H (fw (((((p).y)+((p).x))*(((q).y)+((q).x)))-((((p).y)-((p).x))*(((q).y)-((q).x))))),H (fw (((((p).z)*((q).z))+(((p).z)*((q).z)))-((((p).t)*(dD+dD))*((q).t)))),H (fw (((((p).z)*((q).z))+(((p).z)*((q).z)))+((((p).t)*(dD+dD))*((q).t)))),H (fw (((((p).y)+((p).x))*(((q).y)+((q).x)))+((((p).y)-((p).x))*(((q).y)-((q).x)))))] (H (pw (quot (((((p).y)+((p).x))*(((q).y)+((q).x)))-((((p).y)-((p).x))*(((q).y)-((q).x)))) (((((p).z)*((q).z))+(((p).z)*((q).z)))-((((p).t)*(dD+dD))*((q).t))) (((((p).z)*((q).z))+(((p).z)*((q).z)))+((((p).t)*(dD+dD))*((q).t))) (((((p).y)+((p).x))*(((q).y)+((q).x)))+((((p).y)-((p).x))*(((q).y)-((q).x))))))) (fun _=>kr) (fun w' _=>FB (((((p).y)+((p).x))*(((q).y)+((q).x)))-((((p).y)-((p).x))*(((q).y)-((q).x)))) (((((p).z)*((q).z))+(((p).z)*((q).z)))-((((p).t)*(dD+dD))*((q).t))) (((((p).z)*((q).z))+(((p).z)*((q).z)))+((((p).t)*(dD+dD))*((q).t))) (((((p).y)+((p).x))*(((q).y)+((q).x)))+((((p).y)-((p).x))*(((q).y)-((q).x)))) w') ?_;simp only[zD];skip
 refine gh ?_;intro wz d;have b:Hq (O (w5).heap.size (w5) wz):=by first|exact d|exact d.mono sP
 have n:Hq (fb wz (w.heap.size+1+1) e0):=b8.o.below b.o b8.o.lt;refine pA rfl _ _ rfl (w.heap.size+1+1) (Ed.oP p q) e0 rfl rfl n.o ?_;simp only[Act.put];refine Qt.done ?_;go_wp2_with fail
 exact sr results176 rfl (w.heap.size+1+1) (Ed.oP p q) rfl (n.o.setRow _) ⟨rfl,oT c4.o b.o _ oM _⟩
theorem yr(p:Ed.E)(w:D):
  Rt 175 #[H (pw p)] w (H (pw (mh p))):=by
 have q:Hq (fb (V2 w p) (w.heap.size) (p)):=Il w p;have T:Hq (fb (V2 w p) (w.heap.size+1) e0):=AV w p;have A:Hq _:=Im w p;go_enter func175,ntmps175
 go_wp2_with (refine Qt.xk 3 _ rfl 161 rfl lM kr rfl ?_)
 rename_i Kq e4;refine yw (X (Z ⟨w.heap.size,0,Y⟩)) ?_;refine mL rfl _ rfl (w.heap.size) 0 ((p).x) rfl q.o.lt q.o.x ?_;simp only[zD];refine ev rfl 224 #[H (fw ((p).x))] _ (fun _=>kr) (fun w' _=>ra ((p).x) w') ?_;simp only[zD];skip
 refine gh ?_;intro b1 wa1 c a h;have c:O (V2 w p).heap.size (V2 w p) wa1:=by first|exact c|exact c.mono sP
 have a:(V2 w p).heap.size<=b1:=by first|exact a|exact ag sP a
 refine mH rfl rfl b1 (((p).x)*((p).x)) rfl rfl c a h ?_;intro w1 g d;have b:Hq _:=d;have G:Hq (b' w1 b1 (((p).x)*((p).x))):=g;have j1:Hq (w.heap.size≠b1):=by have h1:=q.o.lt;have h2:=a;show _≠_;omega
 have l0:Hq (w.heap.size+1≠b1):=by have h1:=T.o.lt;have h2:=a;show _≠_;omega
 have e5:Hq _:=ag A.o.size a;have m:Hq (fb w1 (w.heap.size) (p)):=q.o.below b.o q.o.lt;have I:Hq (fb w1 (w.heap.size+1) e0):=T.o.below b.o T.o.lt;have B:Hq _:=A.o.trans (b.o.mono A.o.size);clear g d h a c b;simp only[zD];refine Qt.done (e4 _ _ ?_);refine wp_seq (rh 3 _ rfl 161 rfl lM kr rfl ?_);refine yw (X (Z ⟨w.heap.size,4,Y⟩)) ?_;refine mL rfl _ rfl (w.heap.size) 4 ((p).y) rfl m.o.lt m.o.y ?_;simp only[zD];refine ev rfl 224 #[H (fw ((p).y))] _ (fun _=>kr) (fun w' _=>ra ((p).y) w') ?_;simp only[zD];skip
 refine gh ?_;intro f wa2 c a h;have c:O (w1).heap.size (w1) wa2:=by first|exact c|exact c.mono sP
 have a:(w1).heap.size<=f:=by first|exact a|exact ag sP a
 refine mH rfl rfl f (((p).y)*((p).y)) rfl rfl c a h ?_;intro w2 g d;have b:Hq _:=d;have K:Hq (b' w2 f (((p).y)*((p).y))):=g;have j2:Hq (w.heap.size≠f):=by have h1:=m.o.lt;have h2:=a;show _≠_;omega
 have h0:Hq (b1≠f):=by have h1:=G.o.lt;have h2:=a;show _≠_;omega
 have l1:Hq (w.heap.size+1≠f):=by have h1:=I.o.lt;have h2:=a;show _≠_;omega
 have e6:Hq _:=ag B.o.size a;have n:Hq (fb w2 (w.heap.size) (p)):=m.o.below b.o m.o.lt;have J:Hq (b' w2 (b1) (((p).x)*((p).x))):=G.o.below b.o G.o.lt;have L:Hq (fb w2 (w.heap.size+1) e0):=I.o.below b.o I.o.lt;have C:Hq _:=B.o.trans (b.o.mono B.o.size);clear g d h a c b;simp only[zD];refine Qt.done (wp_seq (rh 3 _ rfl 161 rfl lM kr rfl ?_));refine yw (X (Z ⟨w.heap.size,8,Y⟩)) ?_;refine mL rfl _ rfl (w.heap.size) 8 ((p).z) rfl n.o.lt n.o.z ?_;simp only[zD];refine ev rfl 224 #[H (fw ((p).z))] _ (fun _=>kr) (fun w' _=>ra ((p).z) w') ?_;simp only[zD];skip
 refine gh ?_;intro e wa3 c a h;have c:O (w2).heap.size (w2) wa3:=by first|exact c|exact c.mono sP
 have a:(w2).heap.size<=e:=by first|exact a|exact ag sP a
 refine mH rfl rfl e (((p).z)*((p).z)) rfl rfl c a h ?_;intro w3 g d;have b:Hq _:=d;have r:Hq (b' w3 e (((p).z)*((p).z))):=g;have c7:Hq (w.heap.size≠e):=by have h1:=n.o.lt;have h2:=a;show _≠_;omega
 have c4:Hq (b1≠e):=by have h1:=J.o.lt;have h2:=a;show _≠_;omega
 have c6:Hq (f≠e):=by have h1:=K.o.lt;have h2:=a;show _≠_;omega
 have c8:Hq (w.heap.size+1≠e):=by have h1:=L.o.lt;have h2:=a;show _≠_;omega
 have c0:Hq _:=ag C.o.size a;have a6:Hq (fb w3 (w.heap.size) (p)):=n.o.below b.o n.o.lt;have V:Hq (b' w3 (b1) (((p).x)*((p).x))):=J.o.below b.o J.o.lt;have W:Hq (b' w3 (f) (((p).y)*((p).y))):=K.o.below b.o K.o.lt;have a7:Hq (fb w3 (w.heap.size+1) e0):=L.o.below b.o L.o.lt;have b7:Hq _:=C.o.trans (b.o.mono C.o.size);clear g d h a c b;simp only[zD];refine Qt.done (wp_seq (Dh 3 ?_));refine iv rfl _ rfl (e) (((p).z)*((p).z)) rfl r.o ?_;refine iv rfl _ rfl (e) (((p).z)*((p).z)) rfl r.o ?_;refine ev rfl 229 #[H (fw (((p).z)*((p).z))),H (fw (((p).z)*((p).z)))] _ (fun _=>kr) (fun w' _=>rD (((p).z)*((p).z)) (((p).z)*((p).z)) w') ?_;simp only[zD];skip
 refine gh ?_;intro wa4 d;have b:Hq (O (w3).heap.size (w3) wa4):=by first|exact d|exact d.mono sP
 have l:Hq (b' wa4 (e) (((p).z)*((p).z))):=r.o.below b.o r.o.lt;refine oy rfl _ _ rfl (e) ((((p).z)*((p).z))+(((p).z)*((p).z))) (((p).z)*((p).z)) rfl rfl l.o ?_;obtain⟨w4,j⟩:=eX (wa4.setRow (e) (fw ((((p).z)*((p).z))+(((p).z)*((p).z)))));rw[<-j];have M:Hq (b' w4 (e) ((((p).z)*((p).z))+(((p).z)*((p).z)))):=by rw[j];exact l.o.setRow _
 have k:Hq (fb w4 (w.heap.size) (p)):=by rw[j];exact(a6.o.below b.o a6.o.lt).other c7.o _
 have s:Hq (b' w4 (b1) (((p).x)*((p).x))):=by rw[j];exact(V.o.below b.o V.o.lt).other c4.o _
 have t:Hq (b' w4 (f) (((p).y)*((p).y))):=by rw[j];exact(W.o.below b.o W.o.lt).other c6.o _
 have N:Hq (fb w4 (w.heap.size+1) (e0)):=by rw[j];exact(a7.o.below b.o a7.o.lt).other c8.o _
 have F:Hq (O w.heap.size w w4):=by rw[j];exact(tR b7 b).trans ((hJ _ _ _).mono c0.o)
 clear d b l j;simp only[Act.put];refine Qt.done (wp_seq (pC 10 kr kr _ rfl 161 rfl lM kr ?_));refine yw (X (Z ⟨w.heap.size,0,Y⟩)) ?_;refine mL rfl _ rfl (w.heap.size) 0 ((p).x) rfl k.o.lt k.o.x ?_;simp only[zD];refine yw (X (Z ⟨w.heap.size,4,Y⟩)) ?_;refine mL rfl _ rfl (w.heap.size) 4 ((p).y) rfl k.o.lt k.o.y ?_;simp only[zD];refine ev rfl 229 #[H (fw ((p).x)),H (fw ((p).y))] _ (fun _=>kr) (fun w' _=>rD ((p).x) ((p).y) w') ?_;simp only[zD];refine ev rfl 224 #[H (fw (((p).x)+((p).y)))] _ (fun _=>kr) (fun w' _=>ra (((p).x)+((p).y)) w') ?_;simp only[zD];refine iv rfl _ rfl (b1) (((p).x)*((p).x)) rfl s.o ?_;refine ev rfl 226 #[H (fw ((((p).x)+((p).y))*(((p).x)+((p).y)))),H (fw (((p).x)*((p).x)))] _ (fun _=>kr) (fun w' _=>qX ((((p).x)+((p).y))*(((p).x)+((p).y))) (((p).x)*((p).x)) w') ?_;simp only[zD];refine iv rfl _ rfl (f) (((p).y)*((p).y)) rfl t.o ?_;refine ev rfl 226 #[H (fw (((((p).x)+((p).y))*(((p).x)+((p).y)))-(((p).x)*((p).x)))),H (fw (((p).y)*((p).y)))] _ (fun _=>kr) (fun w' _=>qX (((((p).x)+((p).y))*(((p).x)+((p).y)))-(((p).x)*((p).x))) (((p).y)*((p).y)) w') ?_;simp only[zD];skip
 refine gh ?_;intro b5 wa5 c a h;have c:O (w4).heap.size (w4) wa5:=by first|exact c|exact c.mono sP
 have a:(w4).heap.size<=b5:=by first|exact a|exact ag sP a
 refine mH rfl rfl b5 ((((((p).x)+((p).y))*(((p).x)+((p).y)))-(((p).x)*((p).x)))-(((p).y)*((p).y))) rfl rfl c a h ?_;intro w5 g d;have b:Hq (O (w4).heap.size (w4) w5):=d;have Q:Hq (b' w5 b5 ((((((p).x)+((p).y))*(((p).x)+((p).y)))-(((p).x)*((p).x)))-(((p).y)*((p).y)))):=g;have j5:Hq (w.heap.size≠b5):=by have h1:=k.o.lt;have h2:=a;show _≠_;omega
 have h4:Hq (b1≠b5):=by have h1:=s.o.lt;have h2:=a;show _≠_;omega
 have h6:Hq (f≠b5):=by have h1:=t.o.lt;have h2:=a;show _≠_;omega
 have h8:Hq (e≠b5):=by have h1:=M.o.lt;have h2:=a;show _≠_;omega
 have l2:Hq (w.heap.size+1≠b5):=by have h1:=N.o.lt;have h2:=a;show _≠_;omega
 have e7:Hq _:=ag F.o.size a;have R:Hq (fb w5 (w.heap.size) (p)):=k.o.below b.o k.o.lt;have u:Hq (b' w5 (b1) (((p).x)*((p).x))):=s.o.below b.o s.o.lt;have v:Hq (b' w5 (f) (((p).y)*((p).y))):=t.o.below b.o t.o.lt;have P:Hq (b' w5 (e) ((((p).z)*((p).z))+(((p).z)*((p).z)))):=M.o.below b.o M.o.lt;have S:Hq (fb w5 (w.heap.size+1) e0):=N.o.below b.o N.o.lt;have U:Hq _:=F.o.trans (b.o.mono F.o.size);clear g d h a c b;simp only[zD];refine Qt.done (wp_seq (rh 3 _ rfl 161 rfl lM kr rfl ?_));refine iv rfl _ rfl (f) (((p).y)*((p).y)) rfl v.o ?_;refine iv rfl _ rfl (b1) (((p).x)*((p).x)) rfl u.o ?_;refine ev rfl 226 #[H (fw (((p).y)*((p).y))),H (fw (((p).x)*((p).x)))] _ (fun _=>kr) (fun w' _=>qX (((p).y)*((p).y)) (((p).x)*((p).x)) w') ?_;simp only[zD];skip
 refine gh ?_;intro i wa6 c a h;have c:O (w5).heap.size (w5) wa6:=by first|exact c|exact c.mono sP
 have a:(w5).heap.size<=i:=by first|exact a|exact ag sP a
 refine mH rfl rfl i ((((p).y)*((p).y))-(((p).x)*((p).x))) rfl rfl c a h ?_;intro w6 g d;have b:Hq _:=d;have a8:Hq _:=g;have j9:Hq (w.heap.size≠i):=by have h1:=R.o.lt;have h2:=a;show _≠_;omega
 have h5:Hq (b1≠i):=by have h1:=u.o.lt;have h2:=a;show _≠_;omega
 have h7:Hq (f≠i):=by have h1:=v.o.lt;have h2:=a;show _≠_;omega
 have h9:Hq (e≠i):=by have h1:=P.o.lt;have h2:=a;show _≠_;omega
 have j0:Hq (b5≠i):=by have h1:=Q.o.lt;have h2:=a;show _≠_;omega
 have l3:Hq (w.heap.size+1≠i):=by have h1:=S.o.lt;have h2:=a;show _≠_;omega
 have e9:Hq _:=ag U.o.size a;have l4:Hq _:=R.o.below b.o R.o.lt;have c9:Hq _:=u.o.below b.o u.o.lt;have e1:Hq _:=v.o.below b.o v.o.lt;have e2:Hq (b' w6 (e) ((((p).z)*((p).z))+(((p).z)*((p).z)))):=P.o.below b.o P.o.lt;have e3:Hq (b' w6 (b5) ((((((p).x)+((p).y))*(((p).x)+((p).y)))-(((p).x)*((p).x)))-(((p).y)*((p).y)))):=Q.o.below b.o Q.o.lt;have b0:Hq (fb w6 (w.heap.size+1) e0):=S.o.below b.o S.o.lt;have b8:=tq U b;clear g d h a c b;simp only[zD];refine Qt.done (wp_seq (Qt.im 10 kr kr ?_));refine iv rfl _ rfl (b5) ((((((p).x)+((p).y))*(((p).x)+((p).y)))-(((p).x)*((p).x)))-(((p).y)*((p).y))) rfl e3.o ?_;refine iv rfl _ rfl (i) ((((p).y)*((p).y))-(((p).x)*((p).x))) rfl a8.o ?_;refine iv rfl _ rfl (e) ((((p).z)*((p).z))+(((p).z)*((p).z))) rfl e2.o ?_;refine ev rfl 226 #[H (fw ((((p).y)*((p).y))-(((p).x)*((p).x)))),H (fw ((((p).z)*((p).z))+(((p).z)*((p).z))))] _ (fun _=>kr) (fun w' _=>qX ((((p).y)*((p).y))-(((p).x)*((p).x))) ((((p).z)*((p).z))+(((p).z)*((p).z))) w') ?_;simp only[zD];refine iv rfl _ rfl (i) ((((p).y)*((p).y))-(((p).x)*((p).x))) rfl a8.o ?_;refine iv rfl _ rfl (b1) (((p).x)*((p).x)) rfl c9.o ?_;refine iv rfl _ rfl (f) (((p).y)*((p).y)) rfl e1.o ?_;refine ev rfl 229 #[H (fw (((p).x)*((p).x))),H (fw (((p).y)*((p).y)))] _ (fun _=>kr) (fun w' _=>rD (((p).x)*((p).x)) (((p).y)*((p).y)) w') ?_;simp only[zD];refine ev rfl 177 #[H (fw ((((p).x)*((p).x))+(((p).y)*((p).y))))] _ (fun _=>kr) (fun w' _=>uD ((((p).x)*((p).x))+(((p).y)*((p).y))) w') ?_;simp only[zD];refine ev rfl 238 #[H (fw ((((((p).x)+((p).y))*(((p).x)+((p).y)))-(((p).x)*((p).x)))-(((p).y)*((p).y)))),H (fw (((((p).y)*((p).y))-(((p).x)*((p).x)))-((((p).z)*((p).z))+(((p).z)*((p).z))))),H (fw ((((p).y)*((p).y))-(((p).x)*((p).x)))),H (fw (0-((((p).x)*((p).x))+(((p).y)*((p).y)))))] (H (pw (quot ((((((p).x)+((p).y))*(((p).x)+((p).y)))-(((p).x)*((p).x)))-(((p).y)*((p).y))) (((((p).y)*((p).y))-(((p).x)*((p).x)))-((((p).z)*((p).z))+(((p).z)*((p).z)))) ((((p).y)*((p).y))-(((p).x)*((p).x))) (0-((((p).x)*((p).x))+(((p).y)*((p).y))))))) (fun _=>kr) (fun w' _=>FB ((((((p).x)+((p).y))*(((p).x)+((p).y)))-(((p).x)*((p).x)))-(((p).y)*((p).y))) (((((p).y)*((p).y))-(((p).x)*((p).x)))-((((p).z)*((p).z))+(((p).z)*((p).z)))) ((((p).y)*((p).y))-(((p).x)*((p).x))) (0-((((p).x)*((p).x))+(((p).y)*((p).y)))) w') ?_;simp only[zD];skip
 refine gh ?_;intro wz d;have b:Hq (O (w6).heap.size (w6) wz):=by first|exact d|exact d.mono sP
 have l:Hq (fb wz (w.heap.size+1) e0):=b0.o.below b.o b0.o.lt;refine pA rfl _ _ rfl (w.heap.size+1) (mh p) e0 rfl rfl l.o ?_;simp only[Act.put];refine Qt.done ?_;go_wp2_with fail
 exact sr results175 rfl (w.heap.size+1) (mh p) rfl (l.o.setRow _) ⟨rfl,oT b8.o b.o _ oM _⟩
end Cw
namespace Ed
def bX:F:=⟨15112221349535400772501151409588531511454012693041857206046113283949847762202,dc⟩
def bY:F:=⟨46316835694926478169428394003475163141307993866256225615783033603165251855960,dc⟩
def bP:Pt:=(bX,bY)
theorem vZ:gF bP:=by unfold gF On bP;decide
def oQ(p:E):Nat->E
 |0=>pf
 |n+1=>oP (oQ p n) p
theorem CB:lI pf zero:=zs 0 1
theorem UG{e:E}{p:Pt}(a:gF p)(b:lI e p)(n:Nat):lI (oQ e n) (lD p n):=by
 induction n with
 |zero=>exact CB
 |succ n ih=>exact C0 (ox a n) a ih b
end Ed
namespace Cw
open Fw
theorem Ue(w:D):Rt 156 #[H #[I Uq 0,I Uq 0,I Uq 0,I Uq 0],H (fw 1)] w (H (pw Ed.pf)):=by
 have h:=CS 0 1 w;rwa [wU] at h
noncomputable abbrev Z1(w:D):D:=w.alloc (Cl oA 163)
theorem vS(w:D):fb (Z1 w) w.heap.size e0:=.zero (jv _ _ _ rfl)
theorem vR(w:D):O w.heap.size w (Z1 w):=(ai _ _).alloc lR _
theorem FP(w:D):Rt 174 #[] w (H (pw Ed.pf)):=by
 go_enter func174,ntmps174
 go_wp2_with fail
 refine(yb _).mono ?_;rintro e w1 ⟨rfl,d⟩;have c:Hq (O (Z1 w).heap.size (Z1 w) w1):=d;clear d;go_wp2_with fail
 refine(Ue _).mono ?_;rintro e w2 ⟨rfl,f⟩;have b:Hq (O (Z1 w).heap.size (Z1 w) w2):=c.o.trans (f.mono c.o.size);clear f;have a:Hq (fb w2 w.heap.size e0):=(vS w).below b.o (vS w).lt;go_wp2_with (refine pA rfl _ _ rfl w.heap.size Ed.pf e0 rfl rfl a.o ?_)
 exact sr results174 rfl w.heap.size Ed.pf rfl (a.o.setRow _) ⟨rfl,oT (vR w) b.o _ oM _⟩
theorem Uf(w:D):Rt 156 #[H #[I Uq 14507833142362363162,I Uq 7578651490590762930,I Uq 13881468655802702940,I Uq 2407515759118799870],H #[I Uq 7378697629483820632,I Uq 7378697629483820646,I Uq 7378697629483820646,I Uq 7378697629483820646]] w (H (pw (mq Ed.bX Ed.bY))):=by
 have h:=CS Ed.bX Ed.bY w;rw[uT Ed.bX 14507833142362363162 7578651490590762930 13881468655802702940 2407515759118799870 dc dc dc dc dc,uT Ed.bY 7378697629483820632 7378697629483820646 7378697629483820646 7378697629483820646 dc dc dc dc dc] at h;exact h
theorem My(w:D):Rt 111 #[] w (H (pw (mq Ed.bX Ed.bY))):=by
 go_enter func111,ntmps111
 go_wp2_with fail
 refine(Uf _).mono ?_;rintro e w2 ⟨rfl,c⟩;have b:Hq (O (Z1 w).heap.size (Z1 w) w2):=c;clear c;have a:Hq (fb w2 w.heap.size e0):=(vS w).below b.o (vS w).lt;go_wp2_with (refine pA rfl _ _ rfl w.heap.size (mq Ed.bX Ed.bY) e0 rfl rfl a.o ?_)
 exact sr results111 rfl w.heap.size (mq Ed.bX Ed.bY) rfl (a.o.setRow _) ⟨rfl,oT (vR w) b.o _ oM _⟩
noncomputable def tc(f:Nat->Ed.E)(j:Nat):Vl:=((pw (f (j / 16)))[j % 16]?).getD undef
theorem FG:∃g:(Nat->Ed.E)->Array Vl,∀f,g f=dk 256 (tc f):=⟨_,fun _=>rfl⟩
noncomputable def mF:(Nat->Ed.E)->Array Vl:=eS FG
theorem td(f:Nat->Ed.E):mF f=dk 256 (tc f):=et FG f
theorem sS(f:Nat->Ed.E):(mF f).size=256:=by rw[td];exact oU _ _
def ej(w:D)(b:Nat)(f:Nat->Ed.E):Prop:=w.heap[b]? =Z (Cl (mF f) 276 (0,0))
theorem ej.row{f:Nat->Ed.E}(h:ej w b f):w.heap[b]? =Z (Cl (dk 256 (tc f)) 276 (0,0)):=by rw[<-td];exact h
theorem ej.lt{f:Nat->Ed.E}(h:ej w b f):b<w.heap.size:=(aL h)
theorem ej.below{f:Nat->Ed.E}(h:ej w b f)(a:O k w w')(c:b<k):ej w' b f:=(a.block b c).trans h
theorem NP(e:Ed.E)(j:Nat)(h:j<16):(pw e)[j]? =Z (((pw e)[j]?).getD undef):=by
 have:j<(pw e).size:=by rw[nx];exact h
 simp[this]
theorem N8(f:Nat->Ed.E)(j:Nat):(tc f j).oneCell'=true:=by
 unfold tc;have h:=NP (f (j / 16)) (j % 16) oM;have h1:=Array.all_eq_true_iff_forall_mem.1 (uZ (f (j / 16))) _ (Array.mem_of_getElem? h);exact h1
theorem GQ(f:Nat->Ed.E):(mF f).all (·.oneCell')=true:=by rw[td];exact rb fun j _=>N8 f j
theorem EB(j:Nat)(h:j<16):((pw e0)[j]?).getD undef=I Uq 0:=by
 rw[zG];rcases j with _|_|_|_|_|_|_|_|_|_|_|_|_|_|_|_|j<;>first|rfl|omega
theorem P7:Tryz.zeroCells276=mF (fun _=>e0):=by
 have h:Tryz.zeroCells276=dk 256 (fun _=>I Uq 0):=kr
 rw[h,td];exact mn fun j _=>(EB (j % 16) oM).symm
theorem ej.zero(h:w.heap[b]? =Z (Cl Tryz.zeroCells276 276 (0,0))):ej w b (fun _=>e0):=by unfold ej;rw[<-P7];exact h
theorem ej.range{f:Nat->Ed.E}(h:ej w b f)(i:Nat)(hi:i<16):w.rangeAt b (16*i) (pw (f i)).toList:=fun j v hv=>by
 have a:j<16:=by
  have:=(lL hv);rw[bw,nx] at this;exact this
 rw[jI h.row (16*i+j) oM];unfold tc;rw[show(16*i+j) / 16=i by omega,show(16*i+j) % 16=j by omega];have h2:(pw (f i))[j]? =Z v:=by simpa using hv
 rw[h2];rfl
theorem ej.there{w:D}{b:Nat}{f:Nat->Ed.E}(h:ej w b f)(i:Nat)(hi:i<16):w.there b (16*i) 16:=fun j a=>
 ⟨by rw[jI h.row (16*i+j) oM];rfl,nv h.row _⟩
theorem I'{g n:Nat}{t:TypeId}(vs:List Vl):∀(o:Nat)(w:D)(f:Nat->Vl),w.heap[g]? =Z (Cl (dk n f) t (0,0))->
  (w.setCells g o vs).heap[g]? =Z (Cl (dk n (fun j=>if o<=j/\j<o+vs.length then(vs[j-o]?).getD undef else f j)) t (0,0)):=by
 induction vs with
 |nil=>
  intro o w f h;rw[show(fun j=>if o<=j/\j<o+([]:List Vl).length then(([]:List Vl)[j-o]?).getD undef else f j)=f from funext fun j=>if_neg sP];exact h
 |cons v vs ih=>
  intro o w f h;have h1:=ih (o+1) _ _ (mX h o v);rw[show(w.setCells g o (v::vs))=(w.setCell ⟨g,o,Y⟩ v).setCells g (o+1) vs from rfl,h1];congr 2;refine mn fun j _=> ?_;by_cases e:j=o
  ·subst e
   rw[if_neg oM,if_pos rfl,if_pos sP];simp
  ·by_cases a:o+1<=j/\j<o+1+vs.length
   ·rw[if_pos a,if_pos (by simp;omega),show j-o=(j-(o+1))+1 by omega]
    simp
   ·rw[if_neg a,if_neg e,if_neg (by simp;omega)]
theorem Dj{B:Nat}(c:B<=b)(vs:List Vl):∀(o:Nat)(a w:D),O B a w->O B a (w.setCells b o vs):=by
 induction vs with
 |nil=>intro o a w h;exact h
 |cons v vs ih=>intro o a w h;exact ih (o+1) a _ (h.setCell c v)
def ux(f:Nat->Ed.E)(i:Nat)(e:Ed.E):Nat->Ed.E:=fun k=>if k=i then e else f k
theorem ej.set{f:Nat->Ed.E}(h:ej w b f)(i:Nat)(_hi:i<16)(e:Ed.E):ej (w.setCells b (16*i) (pw e).toList) b (ux f i e):=by
 have d:=h.row;have h2:=I' (pw e).toList (16*i) w (tc f) d;unfold ej;rw[td,h2];refine congrArg (fun c=>Z (Obj.cells c 276 (0,0))) ?_;refine mn fun j g=> ?_;rw[bw,nx];unfold tc ux;by_cases a:16*i<=j/\j<16*i+16
 ·rw[if_pos a,if_pos oM,show j-16*i=j % 16 by omega]
  simp
 ·rw[if_neg a,if_neg oM]
theorem fb.setCells{w:D}{b c o:Nat}{e:Ed.E}(h:fb w b e)(a:b≠c)(vs:List Vl):fb (w.setCells c o vs) b e:=by
 induction vs generalizing w o with
 |nil=>exact h
 |cons v vs ih=>
  refine ih (w:=w.setCell ⟨c,o,Y⟩ v) (o:=o+1) ?_;unfold fb at*;rw[aC _ _ _ _ (by exact a)];exact h
theorem ej.setCells{w:D}{b c o:Nat}{f:Nat->Ed.E}(h:ej w b f)(a:b≠c)(vs:List Vl):ej (w.setCells c o vs) b f:=by
 induction vs generalizing w o with
 |nil=>exact h
 |cons v vs ih=>
  refine ih (w:=w.setCell ⟨c,o,Y⟩ v) (o:=o+1) ?_;unfold ej at*;rw[aC _ _ _ _ (by exact a)];exact h
