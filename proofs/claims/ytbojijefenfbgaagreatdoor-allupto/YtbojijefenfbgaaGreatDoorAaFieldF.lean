/- The program's words of the field as elements of F: Add, Sub, Mul. Walks of the program's field over F: Square, Neg, squares, join, power, Inverse, Root. Walks of the program's field over F: power, Inverse. Walks of the program's field over F: Inverse, Root. Walk of the program's field over F: Root. -/
import Derived.Test.YtbojijefenfbgaaGreatDoorAaShort
import Derived.Test.YtbojijefenfbgaaGreatDoorAaQGuard
import Derived.Test.YtbojijefenfbgaaGreatDoorAaNt
import Derived.ChangeKeysEq
open Go.RowKit.Below renaming refl->ai
open BitVec renaming eq_of_toNat_eq->de,ofNat->aA,toNat_ofNat->bH
open Nat renaming le_trans->ag,two_pow_pos->kJ,mod_eq_of_lt->aP
open Option renaming some->Z,none->Y
open Go.Value renaming int->I,pointer->X,agg->H,bool->Bl,tuple->Tp
open Go.IntKind renaming i64->J,u64->Uq
open Go.Obj renaming cells->Cl
open Go.Ending renaming returned->Re
open Go renaming World->D,Value->Vl
open Go.RowKit renaming Below->O
set_option maxHeartbeats 4000000
set_option maxRecDepth 100000
open Go Go.RowKit
open Go.Proofs.YtbojijefenfbgaaGreatDoor
open Own(jM nJ)
open Ed(F gp oc rM vk e8 inv iI pZ qx)
open Qt(BW Di tD Lex pC ev gh)
variable{W w:D}{a:Act}{b n:Nat}{fn:Func}{o os:Oper}{p:Tmp}{post:Ending->D->Prop}{x y:Operand}
namespace Go.Proofs.YtbojijefenfbgaaGreatDoor
open Tryz
namespace Fw
open Bt
attribute [local go_sem] va xt xr xp xu
attribute [local go_sem] UV.ni UV.nX UV.ot UV.nM UV.nj UV.mW UV.mE UV.mZ UV.nY UV.om UV.nW rL sO Ch
theorem T'(a:Q)(n:BitVec 64)(w:D):
  Calls prog 242 #[I Uq 0,I Uq 0,I Uq 0,I Uq 0,I Uq (un a.a0),I Uq (un a.a1),I Uq (un a.a2),I Uq (un a.a3),I Uq (un n)] w
   fun e w'=>e=Re (Tp #[I Uq (un (r0 zQ a n)),I Uq (un (r1 zQ a n)),I Uq (un (r2 zQ a n)),I Uq (un (r3 zQ a n)),I Uq (un (r4 zQ a n))])/\w'=w:=xv zQ a n w
theorem Sx(p a:Q)(w:D):
  Calls prog 242 #[I Uq (un p.a0),I Uq (un p.a1),I Uq (un p.a2),I Uq (un p.a3),I Uq (un a.a0),I Uq (un a.a1),I Uq (un a.a2),I Uq (un a.a3),I Uq 38] w
   fun e w'=>e=Re (Tp #[I Uq (un (r0 p a 38#64)),I Uq (un (r1 p a 38#64)),I Uq (un (r2 p a 38#64)),I Uq (un (r3 p a 38#64)),I Uq (un (r4 p a 38#64))])/\w'=w:=xv p a 38#64 w
def Ip(b d e a c:BitVec 64):Q:=⟨b+19#64*(c<<<1|||a>>>63)+bv false,d+bv (carry b (19#64*(c<<<1|||a>>>63)) false),e+bv (carry d 0#64 (carry b (19#64*(c<<<1|||a>>>63)) false)),(a&&&9223372036854775807#64)+bv (carry e 0#64 (carry d 0#64 (carry b (19#64*(c<<<1|||a>>>63)) false)))⟩
theorem Q0(a b:Q):Ip (t0 a b) (t1 a b) (t2 a b) (t3 a b) (t4 a b)=vT a b:=rfl
theorem below_drewN(k:Nat)(w:D)(n:Nat):O k w (w.drewN n):=⟨rfl,rfl,rfl,Nat.le_refl _,fun _ _=>rfl⟩
theorem EG(x:BitVec 64):un x / (9223372036854775808:Int)=un (x>>>(63:Nat)):=UV.mE x 63
attribute [local go_sem] EG
theorem Wt(x:BitVec 64):IntKind.u64.wrap (un x*2)=un (x<<<1):=UV.mZ x 1
theorem RM(a b:Q)(w:D):
  Calls prog 179 #[H a.cells,H b.cells] w fun e w'=>∃r:Q,e=Re (H r.cells)/\r.num=(a.num*b.num) % PP/\O w.heap.size w w':=by
 have k:Hq _:=(JH a b).2;have m:Hq _:=(JH a b).1;unfold Q.cells;go_enter func179,ntmps179
 go_wp2_with fail
 refine wp_region_quiet_lit kr kr ?_;repeat (first|go_big_quiet_step (fail)|quiet_step (fail))
 refine wpQuiet_nil ?_;intro _ p;obtain⟨nq,q⟩:=p;subst q;go_wp2_with fail
 refine(T' a b.a0 _).mono ?_;rintro e w1 ⟨rfl,rfl⟩;go_wp2_with fail
 refine(xv (q1 a b) a b.a1 _).mono ?_;rintro e w1 ⟨rfl,rfl⟩;go_wp2_with fail
 refine(xv (q2 a b) a b.a2 _).mono ?_;rintro e w1 ⟨rfl,rfl⟩;go_wp2_with fail
 refine(xv (q3 a b) a b.a3 _).mono ?_;rintro e w1 ⟨rfl,rfl⟩;go_wp2_with fail
 refine(Sx (lw a b) (q4 a b) _).mono ?_;rintro e w1 ⟨rfl,rfl⟩;have c:Hq _:=Q0 a b;unfold t0 t1 t2 t3 t4 at c;generalize r0 (lw a b) (q4 a b) 38#64=s at c⊢;generalize r1 (lw a b) (q4 a b) 38#64=t at c⊢;generalize r2 (lw a b) (q4 a b) 38#64=u at c⊢;generalize r3 (lw a b) (q4 a b) 38#64=i at c⊢;generalize r4 (lw a b) (q4 a b) 38#64=j at c⊢;have n:=zt i;have h1:=Wt j;go_wp2_with fail
 refine(KF (Ip s t u i j) (by rw[c.o];exact m.o) _).mono ?_;rintro e w1 ⟨r,rfl,h,g⟩;have l:Hq _:=h;have d:Hq _:=g;clear h g n h1;have f:Hq (w1.heap[w.heap.size+1+1]? =Z (Cl lM 161 (0,0))):=(d.o.block _ (by simp[World.drewN])).trans (by
  have:=heap_alloc_new ((w.alloc (Cl a.cells 161)).alloc (Cl b.cells 161)) (Cl lM 161);simp only[World.size_alloc] at this;exact this)
 go_wp2_with (refine wpList_store_row rfl 161 _ _ rfl (w.heap.size+1+1) r.cells rfl rfl 161 lM f.o kr rfl r.cells_one ?_)
 refine jM results179 rfl (w.heap.size+1+1) 161 r.cells (0,0) _ rfl (setRow_heap _ _ _ _ _ _ f.o) underlying161 rfl kr ⟨r,rfl,by rw[l.o,c.o,k.o],?_⟩;have h3:O w.heap.size w ((((w.alloc (Cl a.cells 161)).alloc (Cl b.cells 161)).alloc (Cl lM 161)).drewN nq):=((((ai _ _).alloc lR _).alloc sP _).alloc (by simp;omega) _).trans (below_drewN _ _ nq);exact(tR h3 d).trans ((hJ _ _ _).mono oM)
theorem Q.QV{a b:Q}(h:a.num=b.num):a=b:=by
 obtain⟨a0,a1,a2,a3⟩:=a;obtain⟨c,b1,d,e⟩:=b;unfold Q.num at h;simp only at h;have j:=a0.isLt;have k:=a1.isLt;have i2:=a2.isLt;have l:=c.isLt;have m:=b1.isLt;have n:=d.isLt;have e0:a0=c:=de oM;have f:a1=b1:=de oM;have g:a2=d:=de oM;have i:a3=e:=de oM;rw[e0,f,g,i]
def nq(n:Nat):Q:=⟨aA 64 n,aA 64 (n / 18446744073709551616),aA 64 (n / 340282366920938463463374607431768211456),aA 64 (n / 6277101735386680763835789423207666416102355444464034512896)⟩
theorem qI(h:n<115792089237316195423570985008687907853269984665640564039457584007913129639936):(nq n).num=n:=by
 unfold nq Q.num;simp only[bH];omega
theorem sq{q:Q}(h:q.num=n):q=nq n:=Q.QV (by rw[qI (by have:=qJ q;omega),h])
theorem Es:∃f:F->Array Vl,∀x,f x=(nq x.val).cells:=⟨_,fun _=>rfl⟩
noncomputable def fw:F->Array Vl:=Classical.choose Es
theorem nK(x:F):fw x=(nq x.val).cells:=Classical.choose_spec Es x
theorem pa(x:F):(nq x.val).num=x.val:=qI (Nat.lt_trans x.isLt dc)
theorem wC(x:F):(fw x).all (·.oneCell')=true:=by rw[nK];exact(nq x.val).cells_one
theorem lQ(x:F):(fw x).size=4:=by rw[nK];rfl
theorem rD(x y:F)(w:D):
  Rt 229 #[H (fw x),H (fw y)] w (H (fw (x+y))):=by
 rw[nK,nK,nK];refine(Qp (nq x.val) (nq y.val) (by rw[pa];exact x.isLt) (by rw[pa];exact y.isLt) w).mono fun e w' ⟨r,c,a,b⟩=>⟨?_,b⟩;rw[pa,pa] at a;rw[c,sq a];rfl
theorem qX(x y:F)(w:D):
  Rt 226 #[H (fw x),H (fw y)] w (H (fw (x-y))):=by
 rw[nK,nK,nK];refine(Mh (nq x.val) (nq y.val) (by rw[pa];exact x.isLt) (by rw[pa];exact y.isLt) w).mono fun e w' ⟨r,d,a,c⟩=>⟨?_,c⟩;rw[pa,pa] at a;have f:=y.isLt;have b:(x-y).val=(x.val+PP-y.val) % PP:=by
  show(PP-y.val+x.val) % PP=_;have g:y.val<PP:=f;congr 1;omega
 rw[d,sq a,<-b]
theorem mK(x y:F)(w:D):
  Rt 179 #[H (fw x),H (fw y)] w (H (fw (x*y))):=by
 rw[nK,nK,nK];refine(RM (nq x.val) (nq y.val) w).mono fun e w' ⟨r,c,a,b⟩=>⟨?_,b⟩;rw[pa,pa] at a;rw[c,sq a];rfl
end Fw
namespace Fw
open Bt
def b'(w:D)(b:Nat)(x:F):Prop:=w.heap[b]? =Z (Cl (fw x) 161 (0,0))
theorem b'.lt{x:F}(h:b' w b x):b<w.heap.size:=(aL h)
theorem b'.below{w':D}{x:F}(h:b' w b x){k:Nat}(a:O k w w')(c:b<k):b' w' b x:=(a.block b c).trans h
theorem wU:fw 0=lM:=by rw[nK];rfl
theorem b'.zero(h:w.heap[b]? =Z (Cl lM 161 (0,0))):b' w b 0:=by unfold b';rw[wU];exact h
theorem Vz(x:F)(w:D):
  Rt 226 #[H #[I Uq 0,I Uq 0,I Uq 0,I Uq 0],H (fw x)] w (H (fw (0-x))):=by
 have h:=qX 0 x w;rwa [wU] at h
theorem jv(w:D)(o:Obj)(b:Nat)(a:b=w.heap.size):(w.alloc o).heap[b]? =Z o:=by rw[a];exact heap_alloc_new w o
theorem b'.setRow{w:D}{b:Nat}{x:F}(h:b' w b x)(y:F):b' (w.setRow b (fw y)) b y:=setRow_heap _ _ _ _ _ _ h
noncomputable abbrev W2(w:D)(x:F):D:=(w.alloc (Cl (fw x) 161)).alloc (Cl lM 161)
noncomputable abbrev W3(w:D)(x y:F):D:=((w.alloc (Cl (fw x) 161)).alloc (Cl (fw y) 161)).alloc (Cl lM 161)
theorem rT(w:D)(x:F):b' (W2 w x) w.heap.size x:=b'.below (jv w _ _ rfl) ((ai (w.heap.size+1) _).alloc sP _) oM
theorem rl(w:D)(x:F):b' (W2 w x) (w.heap.size+1) 0:=.zero (jv _ _ _ sP)
theorem t'(w:D)(x:F):O w.heap.size w (W2 w x):=((ai _ _).alloc lR _).alloc sP _
theorem AW(w:D)(x y:F):b' (W3 w x y) w.heap.size x:=b'.below (jv w _ _ rfl) (((ai (w.heap.size+1) _).alloc sP _).alloc sP _) oM
theorem vQ(w:D)(x y:F):b' (W3 w x y) (w.heap.size+1) y:=b'.below (jv _ _ _ sP) ((ai (w.heap.size+2) _).alloc sP _) oM
theorem xN(w:D)(x y:F):b' (W3 w x y) (w.heap.size+1+1) 0:=.zero (jv _ _ _ sP)
theorem AX(w:D)(x y:F):O w.heap.size w (W3 w x y):=(((ai _ _).alloc lR _).alloc sP _).alloc (by simp;omega) _
theorem oT{w1:D}(h:O w.heap.size w W)(h1:O W.heap.size W w1)(b:Nat)(a:w.heap.size<=b)(cs:Array Vl):O w.heap.size w (w1.setRow b cs):=
 (tR h h1).trans ((hJ w1 b cs).mono a)
theorem k'{ops:Array Oper}{rest:List Oper}{Q:Exit->Act->D->Prop}(d:o.guard=Y)(x:Operand)(e:o.op= .load 161 x)(b:Nat)(v:F)(f:a.eval x=X (Z ⟨b,0,Y⟩))(c:b' w b v)
  (h:wpList prog ops Q rest (a.put o.dst (H (fw v))) w):wpList prog ops Q (o::rest) a w:=
 wpList_load_row d 161 x e b f 161 (fw v) (0,0) _ c underlying161 rfl (by rw[lQ];kernel_rfl) h
theorem oy{ops:Array Oper}{rest:List Oper}{Q:Exit->Act->D->Prop}(d:o.guard=Y)(x y:Operand)(e:o.op= .store 161 x y)(b:Nat)(v hQ:F)(f:a.eval x=X (Z ⟨b,0,Y⟩))(g:a.eval y=H (fw v))(c:b' w b hQ)
  (h:wpList prog ops Q rest (a.put o.dst undef) (w.setRow b (fw v))):wpList prog ops Q (o::rest) a w:=
 wpList_store_row d 161 x y e b (fw v) f g 161 (fw hQ) c (by rw[lQ];kernel_rfl) ((lQ _).trans (lQ _).symm) (wC v) h
theorem uH(h:fn.results= #[.cell p 161])(hd:a.defers=[])(g:Nat)(v:F)(c:a.tmps.getD p undef=X (Z ⟨g,0,Y⟩))(b:b' w g v)(d:post (Re (H (fw v))) w):
  bodyPost prog fn post .ret a w:=
 jM h hd g 161 (fw v) (0,0) _ c b underlying161 rfl (by rw[lQ];kernel_rfl) d
theorem wK{ops:Array Oper}{Q:Act->Prop}{rest:List Oper}(d:o.guard=Y)(x:Operand)(e:o.op= .load 161 x)(b:Nat)(v:F)(f:a.eval x=X (Z ⟨b,0,Y⟩))(c:b' w b v)
  (h:wpQuiet prog ops (BW w) Q rest (a.put o.dst (H (fw v)))):wpQuiet prog ops (BW w) Q (o::rest) a:=
 Qt.Vo d 161 x e b f 161 (fw v) (0,0) _ c underlying161 rfl (by rw[lQ];kernel_rfl) h
theorem ra(x:F)(w:D):
  Rt 224 #[H (fw x)] w (H (fw (x*x))):=by
 go_enter func224,ntmps224
 go_wp2_with (refine k' rfl _ rfl w.heap.size x rfl (rT w x) ?_)
 refine(mK x x _).mono ?_;rintro e w1 ⟨rfl,c⟩;have a:Hq (O (W2 w x).heap.size (W2 w x) w1):=c;clear c;have b:Hq (b' w1 (w.heap.size+1) 0):=(rl w x).below a.o (rl w x).lt;go_wp2_with (refine oy rfl _ _ rfl (w.heap.size+1) (x*x) 0 rfl rfl b.o ?_)
 exact uH results224 rfl (w.heap.size+1) (x*x) rfl (b.o.setRow _) ⟨rfl,oT (t' w x) a.o _ oM _⟩
theorem uD(x:F)(w:D):
  Rt 177 #[H (fw x)] w (H (fw (0-x))):=by
 go_enter func177,ntmps177
 go_wp2_with (refine k' rfl _ rfl w.heap.size x rfl (rT w x) ?_)
 refine(Vz x _).mono ?_;rintro e w1 ⟨rfl,c⟩;have a:Hq (O (W2 w x).heap.size (W2 w x) w1):=c;clear c;have b:Hq (b' w1 (w.heap.size+1) 0):=(rl w x).below a.o (rl w x).lt;go_wp2_with (refine oy rfl _ _ rfl (w.heap.size+1) (0-x) 0 rfl rfl b.o ?_)
 exact uH results177 rfl (w.heap.size+1) (0-x) rfl (b.o.setRow _) ⟨rfl,oT (t' w x) a.o _ oM _⟩
theorem Q1(x:F)(k:Nat):gp x (2^k)*gp x (2^k)=gp x (2^(k+1)):=by
 rw[<-oc,Nat.pow_succ];congr 1;omega
theorem b'.other{c:Nat}{x:F}(h:b' w b x)(a:b≠c)(cs:Array Vl):b' (w.setRow c cs) b x:=by
 unfold b' at*;rw[<-h];show(Array.modify _ _ _)[b]? =_;rw[Array.getElem?_modify,if_neg (Ne.symm a)]
theorem Jc(x:F)(n:Nat)(r:n<=1000)(w:D):
  Rt 241 #[H (fw x),I J n] w (H (fw (gp x (2^n)))):=by
 go_enter func241,ntmps241
 go_wp2_with fail
 go_loopw [6] (fun i f=>∃k:Nat,k<=n/\i=I J (k:Int)/\b' f w.heap.size (gp x (2^k))/\b' f (w.heap.size+1) 0/\O w.heap.size w f) (fun i _=>n-(intOf i).toNat)
 case atStart=>exact⟨0,oM,rfl,by rw[Nat.pow_zero,rM];exact rT w x,rl w x,t' w x⟩
 case round=>
  rename D=>b
  obtain⟨k,p,rfl,h,m,j⟩:=hrel;have a:Hq (b' b w.heap.size (gp x (2^k))):=h;have d:Hq (b' b (w.heap.size+1) 0):=m;have g:Hq (O w.heap.size w b):=j;clear h m j;by_cases q:k<n
  ·go_wp2_with (first
    |(go_at_call 224;refine(ra (gp x (2^k)) _).mono ?_;rintro e w2 ⟨rfl,l⟩;rw[Q1] at*;have c:Hq (O b.heap.size b w2):=l;clear l)
    |refine k' rfl _ rfl w.heap.size (gp x (2^k)) rfl a.o ?_
    |refine oy rfl _ _ rfl w.heap.size (gp x (2^(k+1))) (gp x (2^k)) rfl rfl (a.o.below c.o a.o.lt) ?_)
   exact⟨⟨k+1,oM,by go_num,(a.o.below c.o a.o.lt).setRow _,(d.o.below c.o d.o.lt).other oM _,oT g.o c.o _ lR _⟩,by simp[intOf];omega⟩
  ·obtain rfl:k=n:=by omega
   go_wp2_with (first
    |refine k' rfl _ rfl w.heap.size (gp x (2^k)) rfl a.o ?_
    |refine oy rfl _ _ rfl (w.heap.size+1) (gp x (2^k)) 0 rfl rfl d.o ?_)
   exact uH results241 rfl (w.heap.size+1) (gp x (2^k)) rfl (d.o.setRow _) ⟨rfl,g.o.trans ((hJ _ _ _).mono oM)⟩
theorem E'(x y:F)(n:Nat)(d:n<=1000)(w:D):
  Rt 273 #[H (fw x),I J n,H (fw y)] w (H (fw (gp x (2^n)*y))):=by
 go_enter func273,ntmps273
 go_wp2_with fail
 refine Di 5 kr kr ?_;refine wK rfl _ rfl w.heap.size x rfl (AW w x y) ?_;refine Qt.ED rfl _ (fun _ _=>rfl) ?_;refine tD rfl 241 #[H (fw x),I J n] _ (fun _=>kr) (fun w' _=>Jc x n d w') ?_;refine wK rfl _ rfl (w.heap.size+1) y rfl (vQ w x y) ?_;refine tD rfl 179 #[H (fw (gp x (2^n))),H (fw y)] _ (fun _=>kr) (fun w' _=>mK _ y w') ?_;refine wpQuiet_nil ?_;intro w1 c;have a:Hq (O (W3 w x y).heap.size (W3 w x y) w1):=c;clear c;have b:Hq (b' w1 (w.heap.size+1+1) 0):=(xN w x y).below a.o (xN w x y).lt;refine oy rfl _ _ rfl (w.heap.size+1+1) (gp x (2^n)*y) 0 rfl rfl b.o ?_;go_wp2_with fail
 exact uH results273 rfl (w.heap.size+1+1) (gp x (2^n)*y) rfl (b.o.setRow _) ⟨rfl,oT (AX w x y) a.o _ oM _⟩
theorem Bq{ops:Array Oper}{rest:List Oper}{c:Oper}{a:Act}{w:D}{Q:Exit->Act->D->Prop}(f:c.guard=Y)(e:c.op= .alloc 161)(g:os.guard=Y)(i:os.op= .store 161 x y)(v:F)
  (j:∀b,(a.put c.dst (X (Z ⟨b,0,Y⟩))).eval x=X (Z ⟨b,0,Y⟩)) (k:∀b,(a.put c.dst (X (Z ⟨b,0,Y⟩))).eval y=H (fw v))
  (h:∀w2 b,w.heap.size<=b->b' w2 b v->O w.heap.size w w2->wpList prog ops Q rest ((a.put c.dst (X (Z ⟨b,0,Y⟩))).put os.dst undef) w2):wpList prog ops Q (c::os::rest) a w:=by
 refine nJ _ f 161 e lM kr ?_;have d:b' (w.alloc (Cl lM 161)) w.heap.size 0:=.zero (jv _ _ _ rfl);refine oy g x y i w.heap.size v 0 (j _) (k _) d ?_;exact h _ _ lR (d.setRow v) (((ai _ _).alloc lR _).trans (hJ _ _ _))
theorem Fc{ops:Array Oper}{rest:List Oper}{w:D}{Q:Exit->Act->D->Prop}(i:o.guard=Y)(f:FuncId)(args:Array Vl)(v:Vl)(hv:∀w',(execOp a.eval o).run prog w'= .ok (.enter f args) w')
  (d:Calls prog f args w fun e w'=>e=Re v/\O w.heap.size w w') (h:∀w',O w.heap.size w w'->wpList prog ops Q rest (a.put o.dst v) w'):wpList prog ops Q (o::rest) a w:=by
 refine wpList_plain i fun K b=> ?_;unfold Oper.wp;rw[hv w];exact d.mono fun e w' ⟨g,c⟩=>by subst g;exact b _ _ (h w' c)
theorem ny{ops:Array Oper}{rest:List Oper}{d c os:Oper}{w:D}{Q:Exit->Act->D->Prop}{x y:Operand}(m:d.guard=Y)(f:FuncId)(args:Array Vl)(v:F)(hv:∀w',(execOp a.eval d).run prog w'= .ok (.enter f args) w')
  (l:Calls prog f args w fun e w'=>e=Re (H (fw v))/\O w.heap.size w w')
  (n:c.guard=Y) (j:c.op= .alloc 161) (o:os.guard=Y) (q:os.op= .store 161 x y)
  (r:∀b,((a.put d.dst (H (fw v))).put c.dst (X (Z ⟨b,0,Y⟩))).eval x=X (Z ⟨b,0,Y⟩)) (s:∀b,((a.put d.dst (H (fw v))).put c.dst (X (Z ⟨b,0,Y⟩))).eval y=H (fw v))
  (h:∀w2 b,w.heap.size<=b->b' w2 b v->O w.heap.size w w2->wpList prog ops Q rest (((a.put d.dst (H (fw v))).put c.dst (X (Z ⟨b,0,Y⟩))).put os.dst undef) w2):wpList prog ops Q (d::c::os::rest) a w:=
 Fc m f args _ hv l fun _w1 g=>Bq n j o q v r s fun w2 b p i k=>h w2 b (ag g.size p) i (tR g k)
def gd(x:F)(n:Nat):F:=gp x (2^n-1)
theorem Py(x:F):gd x 1=x:=rM x
theorem Th(x:F)(m n:Nat):gp (gd x m) (2^n)*gd x n=gd x (m+n):=by
 unfold gd;rw[vk,<-oc];congr 1;have h1:0<2^n:=kJ n;have h2:0<2^m:=kJ m;rw[Nat.sub_mul,Nat.one_mul,Nat.pow_add];have h3:2^n<=2^m*2^n:=Nat.le_mul_of_pos_left _ h2;omega
theorem qZ(x:F)(m n:Nat)(a:n<=1000)(w:D):
  Rt 273 #[H (fw (gd x m)),I J n,H (fw (gd x n))] w (H (fw (gd x (m+n)))):=by
 rw[<-Th];exact E' (gd x m) (gd x n) n a w
theorem SX(x:F)(w:D):
  Rt 273 #[H (fw (gd x 250)),I J 2,H (fw (gd x 1))] w (H (fw (gp x e8))):=by
 have h:=E' (gd x 250) (gd x 1) 2 dc w;have e:gp (gd x 250) (2^2)*gd x 1=gp x e8:=by
  unfold gd;rw[vk,<-oc];congr 1
 rw[e] at h;exact h
theorem R4(x:F)(w:D):
  Rt 240 #[H (fw (gd x 1))] w (H (fw (gp x e8))):=by
 have s:Hq (b' (W2 w (gd x 1)) w.heap.size (gd x 1)):=rT w (gd x 1);have f:Hq (b' (W2 w (gd x 1)) (w.heap.size+1) 0):=rl w (gd x 1);have HB:Hq (O w.heap.size w (W2 w (gd x 1))):=t' w (gd x 1);go_enter func240,ntmps240
 go_wp2_with (first|refine k' rfl _ rfl w.heap.size (gd x 1) rfl s.o ?_|refine ny rfl 273 #[H (fw (gd x 1)),I J 1,H (fw (gd x 1))] (gd x 2) (fun _=>kr) (qZ x 1 1 dc _) rfl rfl rfl rfl (fun _=>rfl) (fun _=>rfl) ?_)
 intro w2 b2 c b a;have h4:Hq (b' w2 b2 (gd x 2)):=b;have M:Hq (O (W2 w (gd x 1)).heap.size (W2 w (gd x 1)) w2):=a.mono sP;clear b a;have y:Hq (b' w2 w.heap.size (gd x 1)):=s.o.below M.o s.o.lt;have X:Hq (b' w2 (w.heap.size+1) 0):=f.o.below M.o f.o.lt;have c7:=tq HB M;go_wp2_with (first|refine k' rfl _ rfl w.heap.size (gd x 1) rfl y.o ?_|refine k' rfl _ rfl b2 (gd x 2) rfl h4.o ?_|refine ny rfl 273 #[H (fw (gd x 2)),I J 2,H (fw (gd x 2))] (gd x 4) (fun _=>kr) (qZ x 2 2 dc _) rfl rfl rfl rfl (fun _=>rfl) (fun _=>rfl) ?_)
 intro w4 b4 c b a;have h8:Hq (b' w4 b4 (gd x 4)):=b;have P:Hq (O _ _ w4):=a;clear b a;have B:Hq (b' w4 w.heap.size (gd x 1)):=y.o.below P.o y.o.lt;have a7:Hq (b' w4 (w.heap.size+1) 0):=X.o.below P.o X.o.lt;have e2:=tq c7 P;go_wp2_with (first|refine k' rfl _ rfl w.heap.size (gd x 1) rfl B.o ?_|refine k' rfl _ rfl b4 (gd x 4) rfl h8.o ?_|refine ny rfl 273 #[H (fw (gd x 4)),I J 1,H (fw (gd x 1))] (gd x 5) (fun _=>kr) (qZ x 4 1 dc _) rfl rfl rfl rfl (fun _=>rfl) (fun _=>rfl) ?_)
 intro w5 b5 c b a;have j0:Hq (b' w5 b5 (gd x 5)):=b;have Q:Hq (O _ _ w5):=a;clear b a;have E:Hq (b' w5 w.heap.size (gd x 1)):=B.o.below Q.o B.o.lt;have b0:Hq (b' w5 (w.heap.size+1) 0):=a7.o.below Q.o a7.o.lt;have e4:=tq e2 Q;go_wp2_with (first|refine k' rfl _ rfl w.heap.size (gd x 1) rfl E.o ?_|refine k' rfl _ rfl b5 (gd x 5) rfl j0.o ?_|refine ny rfl 273 #[H (fw (gd x 5)),I J 5,H (fw (gd x 5))] (gd x 10) (fun _=>kr) (qZ x 5 5 dc _) rfl rfl rfl rfl (fun _=>rfl) (fun _=>rfl) ?_)
 intro p d c b a;have S:Hq (b' p d (gd x 10)):=b;have L:Hq (O _ _ p):=a;clear b a;have u:Hq (b' p w.heap.size (gd x 1)):=E.o.below L.o E.o.lt;have V:Hq (b' p (w.heap.size+1) 0):=b0.o.below L.o b0.o.lt;have c4:=tq e4 L;go_wp2_with (first|refine k' rfl _ rfl w.heap.size (gd x 1) rfl u.o ?_|refine k' rfl _ rfl d (gd x 10) rfl S.o ?_|refine ny rfl 273 #[H (fw (gd x 10)),I J 10,H (fw (gd x 10))] (gd x 20) (fun _=>kr) (qZ x 10 10 dc _) rfl rfl rfl rfl (fun _=>rfl) (fun _=>rfl) ?_)
 intro h b6 c b a;have h5:Hq (b' h b6 (gd x 20)):=b;have l:Hq (O _ _ h):=a;clear b a;have z:Hq (b' h w.heap.size (gd x 1)):=u.o.below l.o u.o.lt;have t:Hq (b' h d (gd x 10)):=S.o.below l.o S.o.lt;have Y:Hq (b' h (w.heap.size+1) 0):=V.o.below l.o V.o.lt;have c8:=tq c4 l;go_wp2_with (first|refine k' rfl _ rfl w.heap.size (gd x 1) rfl z.o ?_|refine k' rfl _ rfl d (gd x 10) rfl t.o ?_|refine k' rfl _ rfl b6 (gd x 20) rfl h5.o ?_|refine ny rfl 273 #[H (fw (gd x 20)),I J 20,H (fw (gd x 20))] (gd x 40) (fun _=>kr) (qZ x 20 20 dc _) rfl rfl rfl rfl (fun _=>rfl) (fun _=>rfl) ?_)
 intro j c0 c b a;have h9:Hq (b' j c0 (gd x 40)):=b;have n:Hq (O _ _ j):=a;clear b a;have C:Hq (b' j w.heap.size (gd x 1)):=z.o.below n.o z.o.lt;have e6:Hq (b' j d (gd x 10)):=t.o.below n.o t.o.lt;have a8:Hq (b' j (w.heap.size+1) 0):=Y.o.below n.o Y.o.lt;have e3:=tq c8 n;go_wp2_with (first|refine k' rfl _ rfl w.heap.size (gd x 1) rfl C.o ?_|refine k' rfl _ rfl d (gd x 10) rfl e6.o ?_|refine k' rfl _ rfl c0 (gd x 40) rfl h9.o ?_|refine ny rfl 273 #[H (fw (gd x 40)),I J 10,H (fw (gd x 10))] (gd x 50) (fun _=>kr) (qZ x 40 10 dc _) rfl rfl rfl rfl (fun _=>rfl) (fun _=>rfl) ?_)
 intro r e c b a;have T:Hq (b' r e (gd x 50)):=b;have R:Hq (O _ _ r):=a;clear b a;have G:Hq (b' r w.heap.size (gd x 1)):=C.o.below R.o C.o.lt;have b1:Hq (b' r (w.heap.size+1) 0):=a8.o.below R.o a8.o.lt;have e5:=tq e3 R;go_wp2_with (first|refine k' rfl _ rfl w.heap.size (gd x 1) rfl G.o ?_|refine k' rfl _ rfl e (gd x 50) rfl T.o ?_|refine ny rfl 273 #[H (fw (gd x 50)),I J 50,H (fw (gd x 50))] (gd x 100) (fun _=>kr) (qZ x 50 50 dc _) rfl rfl rfl rfl (fun _=>rfl) (fun _=>rfl) ?_)
 intro g b3 c b a;have h0:Hq (b' g b3 (gd x 100)):=b;have k:Hq (O _ _ g):=a;clear b a;have v:Hq (b' g w.heap.size (gd x 1)):=G.o.below k.o G.o.lt;have K:Hq (b' g e (gd x 50)):=T.o.below k.o T.o.lt;have W:Hq (b' g (w.heap.size+1) 0):=b1.o.below k.o b1.o.lt;have c6:=tq e5 k;go_wp2_with (first|refine k' rfl _ rfl w.heap.size (gd x 1) rfl v.o ?_|refine k' rfl _ rfl e (gd x 50) rfl K.o ?_|refine k' rfl _ rfl b3 (gd x 100) rfl h0.o ?_|refine ny rfl 273 #[H (fw (gd x 100)),I J 100,H (fw (gd x 100))] (gd x 200) (fun _=>kr) (qZ x 100 100 dc _) rfl rfl rfl rfl (fun _=>rfl) (fun _=>rfl) ?_)
 intro i b7 c b a;have h6:Hq (b' i b7 (gd x 200)):=b;have m:Hq (O _ _ i):=a;clear b a;have A:Hq (b' i w.heap.size (gd x 1)):=v.o.below m.o v.o.lt;have e9:Hq (b' i e (gd x 50)):=K.o.below m.o K.o.lt;have Z:Hq (b' i (w.heap.size+1) 0):=W.o.below m.o W.o.lt;have c9:=tq c6 m;go_wp2_with (first|refine k' rfl _ rfl w.heap.size (gd x 1) rfl A.o ?_|refine k' rfl _ rfl e (gd x 50) rfl e9.o ?_|refine k' rfl _ rfl b7 (gd x 200) rfl h6.o ?_|refine ny rfl 273 #[H (fw (gd x 200)),I J 50,H (fw (gd x 50))] (gd x 250) (fun _=>kr) (qZ x 200 50 dc _) rfl rfl rfl rfl (fun _=>rfl) (fun _=>rfl) ?_)
 intro q b8 c b a;have h7:Hq (b' q b8 (gd x 250)):=b;have N:Hq (O _ _ q):=a;clear b a;have e7:Hq (b' q w.heap.size (gd x 1)):=A.o.below N.o A.o.lt;have a6:Hq (b' q (w.heap.size+1) 0):=Z.o.below N.o Z.o.lt;have e1:=tq c9 N;go_wp2_with (first|refine k' rfl _ rfl w.heap.size (gd x 1) rfl e7.o ?_|refine k' rfl _ rfl b8 (gd x 250) rfl h7.o ?_|refine Fc rfl 273 #[H (fw (gd x 250)),I J 2,H (fw (gd x 1))] _ (fun _=>kr) (SX x _) ?_)
 intro we a;have U:Hq (O _ _ we):=a;clear a;have f:Hq (b' we (w.heap.size+1) 0):=a6.o.below U.o a6.o.lt;go_wp2_with (refine oy rfl _ _ rfl (w.heap.size+1) (gp x e8) 0 rfl rfl f.o ?_)
 exact uH results240 rfl (w.heap.size+1) (gp x e8) rfl (f.o.setRow _) ⟨rfl,oT e1.o U.o _ oM _⟩
theorem GH(x:F)(w:D):
  Rt 240 #[H (fw x)] w (H (fw (gp x e8))):=by
 have h:=R4 x w;rwa [Py] at h
theorem inv_eq(x p:F)(c:p=gp x e8):gp p (2^3)*x*(x*x)=inv x:=by
 subst c;have a:x*x=gp x 2:=by rw[show(2:Nat)=1+1 from rfl,oc,rM]
 have b:gp (gp x e8) (2^3)*x=gp x (e8*2^3+1):=by rw[oc,rM,vk]
 rw[a,b,<-oc];unfold inv;congr 1
theorem TO(x:F)(w:D):
  Rt 241 #[H (fw x),I J 3] w (H (fw (gp x (2^3)))):=Jc x 3 dc w
theorem SV(x:F)(w:D):
  Rt 178 #[H (fw x)] w (H (fw (inv x))):=by
 obtain⟨p,a⟩:=eX (gp x e8);obtain⟨s,b⟩:=eX (gp p (2^3));have g:Hq (∀w,Rt 240 #[H (fw x)] w (H (fw p))):=by rw[a];exact GH x
 have h:Hq (∀w,Rt 241 #[H (fw p),I J 3] w (H (fw s))):=by rw[b];exact TO p
 have f:Hq (s*x*(x*x)=inv x):=by rw[b];exact inv_eq x p a
 clear a b;go_enter func178,ntmps178
 go_wp2_with fail
 refine Di 8 kr kr ?_;refine wK rfl _ rfl w.heap.size x rfl (rT w x) ?_;refine tD rfl 240 #[H (fw x)] (H (fw p)) (fun _=>kr) (fun w' _=>g.o w') ?_;refine tD rfl 241 #[H (fw p),I J 3] (H (fw s)) (fun _=>kr) (fun w' _=>h.o w') ?_;refine wK rfl _ rfl w.heap.size x rfl (rT w x) ?_;refine tD rfl 179 #[H (fw s),H (fw x)] _ (fun _=>kr) (fun w' _=>mK _ x w') ?_;refine wK rfl _ rfl w.heap.size x rfl (rT w x) ?_;refine tD rfl 224 #[H (fw x)] _ (fun _=>kr) (fun w' _=>ra x w') ?_;refine tD rfl 179 #[H (fw (s*x)),H (fw (x*x))] _ (fun _=>kr) (fun w' _=>mK _ _ w') ?_;simp only[zD];refine wpQuiet_nil ?_;intro w1 e;have c:Hq (O (W2 w x).heap.size (W2 w x) w1):=e;clear e;have d:Hq (b' w1 (w.heap.size+1) 0):=(rl w x).below c.o (rl w x).lt;refine oy rfl _ _ rfl (w.heap.size+1) (s*x*(x*x)) 0 rfl rfl d.o ?_;rw[f.o];go_wp2_with fail
 exact uH results178 rfl (w.heap.size+1) (inv x) rfl (d.o.setRow _) ⟨rfl,oT (t' w x) c.o _ oM _⟩
theorem iv{K:Act->Prop}{l:List Oper}(d:o.guard=Y)(x:Operand)(e:o.op= .load 161 x)(b:Nat)(v:F)(f:a.eval x=X (Z ⟨b,0,Y⟩))(c:b' W b v)
  (h:Lex prog W K l (a.put o.dst (H (fw v)))):Lex prog W K (o::l) a:=
 Qt.nn d 161 x e b f 161 (fw v) (0,0) _ c underlying161 rfl (by rw[lQ];kernel_rfl) h
theorem mH{ops:Array Oper}{rest:List Oper}{w0 w:D}{Q:Exit->Act->D->Prop}(d:os.guard=Y)(f:os.op= .store 161 x y)(b:Nat)(v:F)(i:a.eval x=X (Z ⟨b,0,Y⟩))(j:a.eval y=H (fw v))
  (g:O w0.heap.size w0 w) (e:w0.heap.size<=b) (c:w.heap[b]? =Z (Cl lM 161 (0,0)))
  (h:∀w2,b' w2 b v->O w0.heap.size w0 w2->wpList prog ops Q rest (a.put os.dst undef) w2):wpList prog ops Q (os::rest) a w:=
 oy d x y f b v 0 i j (.zero c) (h _ ((b'.zero c).setRow v) (g.trans ((hJ _ _ _).mono e)))
theorem UJ(w:D)(xs k:Array Vl)(f g:Nat->BitVec 64)(l:List Nat)(c:∀i∈l,xs[i]? =Z (I Uq (un (f i))))(d:∀i∈l,k[i]? =Z (I Uq (un (g i)))):
  (Op.eqItems 9999 159 1 xs k l).run prog w= .ok (l.all fun i=>decide (f i=g i)) w:=by
 induction l with
 |nil=>simp[Op.eqItems]
 |cons i l ih=>
  have ih:=ih (fun j b=>c j (by simp[b])) (fun j b=>d j (by simp[b]));have m:=run_part_plain (P:=prog) w (e:=159) kr (c i sP);have n:=run_part_plain (P:=prog) w (e:=159) kr (d i sP);have o:=run_equalIn_int (P:=prog) (w:=w) 9998 159 .u64 .u64 (un (f i)) (un (g i)) underlying159;simp only[Op.eqItems,Nat.mul_one,Sem.run_bind,m,n,o,Result.andThen_ok];by_cases h:f i=g i
  ·have a:(un (f i)==un (g i))=true:=by rw[h];simp
   rw[a];simp only[Bool.not_true,Bool.false_eq_true,if_false,ih,List.all_cons,h,decide_true,Bool.true_and]
  ·have a:(un (f i)==un (g i))=false:=by
    rw[beq_eq_false_iff_ne];exact fun p=>h (UV.Oe p)
   rw[a];simp[h]
theorem JA{p:Nat->Prop}(a:p 0)(h1:p 1)(h2:p 2)(h3:p 3):∀i∈ [0,1,2,3],p i:=by simp[a,h1,h2,h3]
theorem eq_q(a b:Q)(w:D):Sem.run prog (Op.equalIn 10000 161 (H a.cells) (H b.cells)) w= .ok (decide (a.a0=b.a0)&&(decide (a.a1=b.a1)&&(decide (a.a2=b.a2)&&decide (a.a3=b.a3)))) w:=by
 obtain⟨i,hi⟩:=Option.isSome_iff_exists.1 (show(prog.info? 159).isSome=true by kernel_rfl);have h1:=run_equalIn_array (P:=prog) w 9999 (t:=161) (e:=159) (n:=4) a.cells b.cells underlying161 hi;rw[h1,show prog.cellsOf 159=1 by kernel_rfl,show List.range 4=[0,1,2,3] from rfl];rw[UJ w a.cells b.cells (fun i=>match i with|0=>a.a0|1=>a.a1|2=>a.a2|_=>a.a3) (fun i=>match i with|0=>b.a0|1=>b.a1|2=>b.a2|_=>b.a3) [0,1,2,3] (JA rfl rfl rfl rfl) (JA rfl rfl rfl rfl)];simp only[List.all_cons,List.all_nil,Bool.and_true]
theorem NF{x y:F}(h:nq x.val=nq y.val):x=y:=Fin.ext (by rw[<-pa x,<-pa y,h])
theorem Wh(x y:F)(w:D):Sem.run prog (Op.equalIn 10000 161 (H (fw x)) (H (fw y))) w= .ok (decide (x=y)) w:=by
 rw[nK,nK,eq_q];congr 1;by_cases h:x=y
 ·subst h;simp
 ·have c:nq x.val≠nq y.val:=fun i=>h (NF i)
  rw[decide_eq_false h];generalize nq x.val=a at c;generalize nq y.val=b at c;obtain⟨a0,a1,a2,a3⟩:=a;obtain⟨f,b1,g,j⟩:=b;simp only[ne_eq,Q.mk.injEq,not_and] at c;simp only[Bool.and_eq_false_iff,decide_eq_false_iff_not];by_cases e0:a0=f
  ·by_cases d:a1=b1
   ·by_cases e:a2=g
    ·exact .inr (.inr (.inr (c e0 d e)))
    ·exact .inr (.inr (.inl e))
   ·exact .inr (.inl d)
  ·exact .inl e0
theorem Cg{ops:Array Oper}{rest:List Oper}{Q:Exit->Act->D->Prop}(d:o.guard=Y)(x y:Operand)(e:o.op= .store 161 x y)(b:Nat)(hQ:F)(f:a.eval x=X (Z ⟨b,0,Y⟩))(g:a.eval y=H lM)(c:b' w b hQ)
  (h:wpList prog ops Q rest (a.put o.dst undef) (w.setRow b (fw 0))):wpList prog ops Q (o::rest) a w:=oy d x y e b 0 hQ f (by rw[wU];exact g) c h
theorem yO(n:Nat)(h:n<18446744073709551616):un (aA 64 n)=(n:Int):=UV.zq n h
theorem uT(x:F)(a0 a1 a2 a3:Nat)(h:x.val=a0+18446744073709551616*a1+340282366920938463463374607431768211456*a2+6277101735386680763835789423207666416102355444464034512896*a3)(a:a0<18446744073709551616)(h1:a1<18446744073709551616)(h2:a2<18446744073709551616)(h3:a3<18446744073709551616):
  fw x= #[I Uq (a0:Int),I Uq (a1:Int),I Uq (a2:Int),I Uq (a3:Int)]:=by
 have e:nq x.val=⟨aA 64 a0,aA 64 a1,aA 64 a2,aA 64 a3⟩:=by
  refine(sq (q:=⟨aA 64 a0,aA 64 a1,aA 64 a2,aA 64 a3⟩) ?_).symm;unfold Q.num;simp only[bH,aP (show a0<2^64 from a),aP (show a1<2^64 from h1),aP (show a2<2^64 from h2),aP (show a3<2^64 from h3)];omega
 rw[nK,e];unfold Q.cells;simp only[yO _ a,yO _ h1,yO _ h2,yO _ h3]
theorem LW(w:D):Rt 268 #[] w (H (fw iI)):=by
 rw[uT iI 14190309331451158704 3405592160176694392 3120150775007532967 3135389899092516619 dc dc dc dc dc];go_enter func268,ntmps268
 go_wp2_with fail
 exact jM results268 rfl w.heap.size 161 _ (0,0) _ rfl (heap_alloc_new _ _) underlying161 rfl kr ⟨rfl,(ai _ _).alloc lR _⟩
theorem yb(w:D):Rt 227 #[] w (H (fw 1)):=by
 rw[uT 1 1 0 0 0 dc dc dc dc dc];go_enter func227,ntmps227
 go_wp2_with fail
 exact jM results227 rfl w.heap.size 161 _ (0,0) _ rfl (heap_alloc_new _ _) underlying161 rfl kr ⟨rfl,(ai _ _).alloc lR _⟩
theorem sF{q:Tmp}(h:fn.results= #[.cell p 161,.tmp q])(hd:a.defers=[])(g:Nat)(v:F)(b:Bool)(e:a.tmps.getD p undef=X (Z ⟨g,0,Y⟩))(j:a.tmps.getD q undef=Bl b)(c:b' w g v)(i:post (Re (Tp #[H (fw v),Bl b])) w):
  bodyPost prog fn post .ret a w:=by
 refine bodyPost_ret (v:=Tp #[H (fw v),Bl b]) ?_ hd i;have d:=run_loadVar_row (P:=prog) w g 161 161 (fw v) (0,0) _ c underlying161 rfl (by rw[lQ];kernel_rfl);have f:a.tmps[p]?.getD undef=X (Z ⟨g,0,Y⟩):=by simpa using e
 have k:a.tmps[q]?.getD undef=Bl b:=by simpa using j
 simp[results,h,f,k,asAddr,d]
attribute [local go_sem] Wh
theorem N0(u v:F)(w:D):
  Rt 225 #[H (fw u),H (fw v)] w (Tp #[H (fw (pZ u v).1),Bl (pZ u v).2]):=by
 obtain⟨r,J⟩:=eX (Ed.pY u v);obtain⟨s,K⟩:=eX (gp (u*(v*v*v*(v*v*v)*v)) e8);have a6:Hq (u*(v*v*v)*s=r):=by rw[J,K];rfl
 have Z:Hq (∀w,Rt 240 #[H (fw (u*(v*v*v*(v*v*v)*v)))] w (H (fw s))):=by rw[K];exact GH _
 have hF:Hq (pZ u v=qx u v r):=by rw[J];rfl
 rw[hF.o];clear J K;go_enter func225,ntmps225
 go_wp2_with fail
 refine pC 4 kr kr _ rfl 161 rfl lM kr ?_;refine iv rfl _ rfl (w.heap.size+1) (v) rfl (vQ w u v) ?_;refine ev rfl 224 #[H (fw (v))] _ (fun _=>kr) (fun w' _=>ra (v) w') ?_;refine iv rfl _ rfl (w.heap.size+1) (v) rfl (vQ w u v) ?_;refine ev rfl 179 #[H (fw (v*v)),H (fw (v))] _ (fun _=>kr) (fun w' _=>mK (v*v) (v) w') ?_;simp only[zD];refine gh ?_;intro t w1 h g d;refine mH rfl rfl t (v*v*v) rfl rfl h g d ?_;intro w2 c f;have a:Hq (O (W3 w u v).heap.size (W3 w u v) w2):=f;have k:Hq (b' w2 w.heap.size u):=(AW w u v).below a.o (AW w u v).lt;have b:Hq (b' w2 (w.heap.size+1) v):=(vQ w u v).below a.o (vQ w u v).lt;have j:Hq (b' w2 (w.heap.size+1+1) 0):=(xN w u v).below a.o (xN w u v).lt;have y:Hq (b' w2 t (v*v*v)):=c;have p:Hq (O w.heap.size w w2):=(AX w u v).trans (a.o.mono (AX w u v).size);clear c f d g a h;simp only[zD];go_wp2_with fail
 refine pC 4 kr kr _ rfl 161 rfl lM kr ?_;refine iv rfl _ rfl (t) (v*v*v) rfl y.o ?_;refine ev rfl 224 #[H (fw (v*v*v))] _ (fun _=>kr) (fun w' _=>ra (v*v*v) w') ?_;refine iv rfl _ rfl (w.heap.size+1) (v) rfl b.o ?_;refine ev rfl 179 #[H (fw (v*v*v*(v*v*v))),H (fw (v))] _ (fun _=>kr) (fun w' _=>mK (v*v*v*(v*v*v)) (v) w') ?_;simp only[zD];refine gh ?_;intro I w3 h g d;refine mH rfl rfl I (v*v*v*(v*v*v)*v) rfl rfl h g d ?_;intro w4 c f;have a:Hq (O w2.heap.size w2 w4):=f;have q:Hq (b' w4 w.heap.size u):=k.o.below a.o k.o.lt;have G:Hq (b' w4 (w.heap.size+1) v):=b.o.below a.o b.o.lt;have C:Hq (b' w4 (w.heap.size+1+1) 0):=j.o.below a.o j.o.lt;have M:Hq (b' w4 t (v*v*v)):=y.o.below a.o y.o.lt;have N:Hq (b' w4 I (v*v*v*(v*v*v)*v)):=c;have R:=tq p a;clear c f d g a h k b j y p;simp only[zD];go_wp2_with fail
 refine pC 8 kr kr _ rfl 161 rfl lM kr ?_;refine iv rfl _ rfl (w.heap.size) (u) rfl q.o ?_;refine iv rfl _ rfl (t) (v*v*v) rfl M.o ?_;refine ev rfl 179 #[H (fw (u)),H (fw (v*v*v))] _ (fun _=>kr) (fun w' _=>mK (u) (v*v*v) w') ?_;simp only[zD];refine iv rfl _ rfl (w.heap.size) (u) rfl q.o ?_;refine iv rfl _ rfl (I) (v*v*v*(v*v*v)*v) rfl N.o ?_;refine ev rfl 179 #[H (fw (u)),H (fw (v*v*v*(v*v*v)*v))] _ (fun _=>kr) (fun w' _=>mK (u) (v*v*v*(v*v*v)*v) w') ?_;simp only[zD];refine ev rfl 240 #[H (fw (u*(v*v*v*(v*v*v)*v)))] (H (fw s)) (fun _=>kr) (fun w' _=>Z.o w') ?_;refine ev rfl 179 #[H (fw (u*(v*v*v))),H (fw (s))] _ (fun _=>kr) (fun w' _=>mK (u*(v*v*v)) (s) w') ?_;rw[a6.o];simp only[zD];refine gh ?_;intro l w5 h g d;refine mH rfl rfl l r rfl rfl h g d ?_;intro w5 c f;have a:Hq (O w4.heap.size w4 w5):=f;have k:Hq (b' w5 w.heap.size u):=q.o.below a.o q.o.lt;have b:Hq (b' w5 (w.heap.size+1) v):=G.o.below a.o G.o.lt;have j:Hq (b' w5 (w.heap.size+1+1) 0):=C.o.below a.o C.o.lt;have z:Hq (b' w5 l r):=c;have p:=tq R a;clear c f d g a h q G C M R N;simp only[zD];go_wp2_with fail
 refine Qt.qj kr kr ?_;refine iv rfl _ rfl (w.heap.size+1) (v) rfl b.o ?_;refine iv rfl _ rfl (l) (r) rfl z.o ?_;refine ev rfl 224 #[H (fw (r))] _ (fun _=>kr) (fun w' _=>ra (r) w') ?_;refine ev rfl 179 #[H (fw (v)),H (fw (r*r))] _ (fun _=>kr) (fun w' _=>mK (v) (r*r) w') ?_;simp only[zD];refine gh ?_;intro w6 S;have a:Hq (O w5.heap.size w5 w6):=S;have E:Hq (b' w6 w.heap.size u):=k.o.below a.o k.o.lt;have a7:Hq (b' w6 (w.heap.size+1) v):=b.o.below a.o b.o.lt;have m:Hq (b' w6 (w.heap.size+1+1) 0):=j.o.below a.o j.o.lt;have B:Hq (b' w6 l r):=z.o.below a.o z.o.lt;have A:=tq p a;clear S a k b j z p;by_cases h1:v*(r*r)=u
 ·have W:Hq (qx u v r=(r,true)):=if_pos h1
  have d1:=decide_eq_true h1;have L:Hq _:=h1;clear h1;go_wp2_with (first|refine k' rfl _ rfl w.heap.size u rfl E.o ?_|refine k' rfl _ rfl l r rfl B.o ?_|refine oy rfl _ _ rfl (w.heap.size+1+1) r 0 rfl rfl m.o ?_)
  exact sF results225 rfl (w.heap.size+1+1) r true rfl rfl (m.o.setRow _) ⟨by rw[W.o],A.o.trans ((hJ _ _ _).mono oM)⟩
 ·have d1:=decide_eq_false h1
  by_cases h2:v*(r*r)=0-u
  ·have X:Hq (qx u v r=(r*iI,true)):=(if_neg h1).trans (if_pos h2)
   have d2:=decide_eq_true h2;have L:Hq _:=h1;have U:Hq _:=h2;clear h1 h2;go_wp2_with (first|refine k' rfl _ rfl w.heap.size u rfl E.o ?_|(go_at_call 177;refine(uD u _).mono ?_;rintro e w7 ⟨rfl,x⟩;have i:Hq (O w6.heap.size w6 w7):=x;clear x))
   have V:Hq (b' w7 l r):=B.o.below i.o B.o.lt;have n:Hq (b' w7 (w.heap.size+1+1) 0):=m.o.below i.o m.o.lt;refine Qt.im 3 kr kr ?_;refine iv rfl _ rfl (l) (r) rfl V.o ?_;refine ev rfl 268 #[] (H (fw iI)) (fun _=>kr) (fun w' _=>LW w') ?_;refine ev rfl 179 #[H (fw (r)),H (fw (iI))] _ (fun _=>kr) (fun w' _=>mK (r) (iI) w') ?_;simp only[zD];refine gh ?_;intro w8 T;have P:Hq (O w7.heap.size w7 w8):=T;clear T;have Q:Hq (b' w8 (w.heap.size+1+1) 0):=n.o.below P.o n.o.lt;refine oy rfl _ _ rfl (w.heap.size+1+1) (r*iI) 0 rfl rfl Q.o ?_;go_wp2_with fail
   exact sF results225 rfl (w.heap.size+1+1) (r*iI) true rfl rfl (Q.o.setRow _) ⟨by rw[X.o],((tR A i).trans (P.o.mono (ag A.o.size i.o.size))).trans ((hJ _ _ _).mono oM)⟩
  ·have Y:Hq (qx u v r=(0,false)):=(if_neg h1).trans (if_neg h2)
   have d2:=decide_eq_false h2;have L:Hq _:=h1;have U:Hq _:=h2;clear h1 h2;go_wp2_with (first|refine k' rfl _ rfl w.heap.size u rfl E.o ?_|(go_at_call 177;refine(uD u _).mono ?_;rintro e w7 ⟨rfl,x⟩;have i:Hq (O w6.heap.size w6 w7):=x;have n:Hq (b' w7 (w.heap.size+1+1) 0):=m.o.below i.o m.o.lt;clear x)|refine Cg rfl _ _ rfl (w.heap.size+1+1) 0 rfl rfl n.o ?_)
   exact sF results225 rfl (w.heap.size+1+1) 0 false rfl rfl (n.o.setRow _) ⟨by rw[Y.o],(tR A i).trans ((hJ _ _ _).mono oM)⟩
