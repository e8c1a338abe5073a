/- Drawn regions whose operations bear guards. Words of 64 bits as Go's uint64 values: each operation of the model on them is the operation on BitVec 64. math/bits' Add64, Sub64 (the model's own entries) and Mul64 (its Go text), over words of 64 bits. Walks of the program's field: settle, Add, Sub, Neg, addRow, Mul. Walks of the program's field: Add, Sub, Neg. Walks of the program's field: addRow, Mul. The arithmetic of the program's Mul: rows of words, what stands beyond bit 255 brought back 19 times. -/
import Derived.Test.YtbojijefenfbgaaGreatDoorAaShort
import Derived.Test.YtbojijefenfbgaaGreatDoorAaQJ
import Derived.Test.YtbojijefenfbgaaGreatDoorProg
import Derived.Laws.Externs
import Derived.Laws.MathBits
import Derived.Shelf.Spec.BitsCarry
import Derived.Shelf.Bits.Mul64
import Derived.KernelRfl
import Derived.BigQuiet
open Go.Region renaming wanted->ah
open BitVec renaming ofNat->aA,toNat_ofNat->bH,toNat_add->dq,toNat_mul->eY,toNat_sub->gD,toNat_xor->jH,toNat_and->dr,toNat_or->gT,toNat_ushiftRight->eR,toNat_shiftLeft->iN,add_zero->fj
open Nat renaming mod_eq_of_lt->aP,shiftRight_eq_div_pow->fh,shiftLeft_eq->dP,and_two_pow_sub_one_eq_mod->er,add_mul->dB,mul_assoc->dU,mul_add->fk,mul_left_comm->ek,add_mul_mod_self_left->iO
open Go.IntKind renaming u64->bl,wrap_u64->cN
open Go.Sem renaming run->cW
open Go.Lib renaming half_mul_le->iw
open Option renaming some->Z,none->Y
open Go.Value renaming int->I,pointer->X,agg->H,tuple->Tp
open Go.IntKind renaming u64->Uq
open Go.Obj renaming cells->Cl
open Go.Ending renaming returned->Re
open Go renaming World->D,Value->Vl
open Go.RowKit renaming Below->O
set_option maxHeartbeats 4000000
open Go Go.RowKit
variable{b:Act}
namespace Go.Proofs.YtbojijefenfbgaaGreatDoor
open Tryz
abbrev Rt(f:FuncId)(x:Array Vl)(w:D)(v:Vl):Prop:=Calls Tryz.prog f x w fun e w'=>e=Re v/\O w.heap.size w w'
namespace Qg
open Qt
variable {P:Program} {ops:Array Oper} {w:D} {Q:Act->Prop} {rest:List Oper} {o:Oper} {a:Act}
theorem off(b:ah o (yielded ops a.tmps)=false)(h:wpQuiet P ops (BW w) Q rest (a.put o.dst undef)):wpQuiet P ops (BW w) Q (o::rest) a:=by
 unfold wpQuiet;rw[if_neg (by rw[b];decide)];exact h
theorem val(b:ah o (yielded ops a.tmps)=true)(v:Vl)(hv:∀w',O w.heap.size w w'->(execOp a.eval o).run P w'= .ok (.value v) w')(h:wpQuiet P ops (BW w) Q rest (a.put o.dst v)):wpQuiet P ops (BW w) Q (o::rest) a:=by
 unfold wpQuiet;rw[if_pos b];refine⟨v,fun w' c=> ?_,h⟩;unfold Oper.quietAt;rw[hv w' c];exact⟨rfl,rfl⟩
theorem call(j:ah o (yielded ops a.tmps)=true)(f:FuncId)(args:Array Vl)(v:Vl)(hv:∀w',(execOp a.eval o).run P w'= .ok (.enter f args) w')(g:∀w',O w.heap.size w w'->Calls P f args w' fun e c=>e=Re v/\O w'.heap.size w' c)(h:wpQuiet P ops (BW w) Q rest (a.put o.dst v)):wpQuiet P ops (BW w) Q (o::rest) a:=by
 unfold wpQuiet;rw[if_pos j];refine⟨v,fun w' b=> ?_,h⟩;unfold Oper.quietAt;rw[hv w'];exact⟨rfl,(g w' b).mono fun e c ⟨i,d⟩=>⟨i,Below.trans b (d.mono (Below.size b))⟩⟩
theorem row(f:ah o (yielded ops a.tmps)=true)(ty:TypeId)(x:Operand)(e:o.op= .load ty x)(g:Nat)(j:a.eval x=X (Z ⟨g,0,Y⟩))(t:TypeId)(cs:Array Vl)(fr:Nat×Nat)(d:TypeDesc)(b:w.heap[g]? =Z (Cl cs t fr))
  (hu:P.underlying ty=Z d) (hd:(match d with| .struct _| .array _ _=>true|_=>false)=true) (hi:(P.info? ty).map (·.size)=Z cs.size)
  (h:wpQuiet P ops (BW w) Q rest (a.put o.dst (H cs))):wpQuiet P ops (BW w) Q (o::rest) a:=by
 refine val f (H cs) (fun w' i=> ?_) h;have c:g<w.heap.size:=(aL b);unfold execOp;simp only[e,j,Instr.loadAt,Instr.sureAddr,Sem.run_bind,Sem.run_pure,Result.andThen_ok,run_loadVar_row w' g t ty cs fr d ((i.block g c).trans b) hu hd hi]
end Qg
theorem qv{P:Program}{ops:Array Oper}{Q:Act->Prop}{rest:List Oper}{o:Oper}{a:Act}{w:D}(x:Vl)(h:wpQuiet P ops (Qt.BW w) Q rest b)(d:ah o (yielded ops a.tmps)=true:=by kernel_rfl)(hv:∀w',O w.heap.size w w'->(execOp a.eval o).run P w'= .ok (.value x) w':=by intro _ _;kernel_rfl)(c:a.put o.dst x=b:=by simp only[zD];first|done|rfl|fail):wpQuiet P ops (Qt.BW w) Q (o::rest) a:=by subst c;exact Qg.val d x hv h
theorem qn{P:Program}{ops:Array Oper}{Q:Act->Prop}{rest:List Oper}{o:Oper}{a:Act}{w:D}(h:wpQuiet P ops (Qt.BW w) Q rest b)(d:ah o (yielded ops a.tmps)=false:=by kernel_rfl)(c:a.put o.dst undef=b:=by simp only[zD];first|done|rfl|fail):wpQuiet P ops (Qt.BW w) Q (o::rest) a:=by subst c;exact Qg.off d h
def un(x:BitVec 64):Int:=(x.toNat:Int)
namespace UV
theorem wu(x:BitVec 64):0<=un x:=by unfold un;omega
theorem zq(n:Nat)(h:n<18446744073709551616):un (aA 64 n)=(n:Int):=by
 unfold un;rw[bH];rw[aP oM]
theorem yN(n:Nat):bl.wrap (n:Int)=un (aA 64 n):=by
 unfold un;rw[cN,bH];rfl
theorem nW(x:BitVec 64):bl.wrap (un x)=un x:=by
 unfold un;rw[cN];have:=x.isLt;omega
theorem ni(x y:BitVec 64):bl.wrap (un x+un y)=un (x+y):=by
 unfold un;rw[cN,dq];rfl
theorem nX(x y:BitVec 64):bl.wrap (un x*un y)=un (x*y):=by
 unfold un;rw[cN,eY];rfl
theorem ot(x y:BitVec 64):bl.wrap (un x-un y)=un (x-y):=by
 unfold un;rw[cN,gD];have:=x.isLt;have:=y.isLt;omega
theorem nM(x y:BitVec 64):bits .xor .u64 (un x) (un y)=un (x^^^y):=by
 unfold un;rw[bits_xor_u64_nat _ _ x.isLt y.isLt,jH]
theorem nj(x y:BitVec 64):bits .and .u64 (un x) (un y)=un (x&&&y):=by
 unfold un;rw[bits_and_u64_nat _ _ x.isLt y.isLt,dr]
theorem mW(x y:BitVec 64):bits .or .u64 (un x) (un y)=un (x|||y):=by
 unfold un;rw[bits_or_u64_nat _ _ x.isLt y.isLt,gT]
theorem mE(x:BitVec 64)(n:Nat):un x / 2^n=un (x>>>n):=by
 unfold un;rw[eR,fh,Int.natCast_ediv];simp
theorem mZ(x:BitVec 64)(n:Nat):bl.wrap (un x*2^n)=un (x<<<n):=by
 unfold un;rw[cN,iN,dP];have:((x.toNat:Int)*2^n)=((x.toNat*2^n:Nat):Int):=by simp
 rw[this];rfl
theorem nY(x:BitVec 64):bits .xor .u64 18446744073709551615 (un x)=un (~~~ x):=by
 unfold un;have:=bits_xor_u64_nat 18446744073709551615 x.toNat oM x.isLt;rw[show((18446744073709551615:Nat):Int)=18446744073709551615 from rfl] at this;rw[this];have h: ~~~ x=aA 64 18446744073709551615^^^x:=by
  rw[show aA 64 18446744073709551615=BitVec.allOnes 64 from rfl,BitVec.allOnes_xor]
 rw[h,jH];rfl
theorem om(x:BitVec 64):bits .xor .u64 bl.max (un x)=un (~~~ x):=by rw[show bl.max=18446744073709551615 from rfl,nY]
theorem Jg(n:Nat)(x:BitVec 64):bl.wrap ((OfNat.ofNat n:Int)*un x)=un (aA 64 n*x):=by
 unfold un;rw[cN,eY,bH];show((n:Int)*(x.toNat:Int)) % 18446744073709551616=_;rw[Nat.mod_mul_mod];have:((n:Int)*(x.toNat:Int))=((n*x.toNat:Nat):Int):=by simp
 rw[this];rfl
theorem Oe{x y:BitVec 64}(h:un x=un y):x=y:=by
 unfold un at h;exact BitVec.eq_of_toNat_eq oM
end UV
namespace Bt
def bv(b:Bool):BitVec 64:=if b then 1#64 else 0#64
theorem CW(b:Bool):(bv b).toNat=if b then 1 else 0:=by cases b<;>rfl
theorem qV(b:Bool):(bv b).toNat<=1:=by cases b<;>decide
def carry(x y:BitVec 64)(b:Bool):Bool:=decide (18446744073709551616<=x.toNat+y.toNat+(bv b).toNat)
def borrow(x y:BitVec 64)(b:Bool):Bool:=decide (x.toNat<y.toNat+(bv b).toNat)
theorem me(x y:BitVec 64)(b:Bool):(x+y+bv b).toNat+18446744073709551616*(bv (carry x y b)).toNat=x.toNat+y.toNat+(bv b).toNat:=by
 have h1:=x.isLt;have h2:=y.isLt;have h3:=qV b;rw[CW (carry x y b),dq,dq];unfold carry;by_cases h:18446744073709551616<=x.toNat+y.toNat+(bv b).toNat
 ·rw[decide_eq_true h];simp only[if_true];omega
 ·rw[decide_eq_false h];simp only[Bool.false_eq_true,if_false];omega
theorem oZ(x y:BitVec 64)(b:Bool):(x-y-bv b).toNat+y.toNat+(bv b).toNat=x.toNat+18446744073709551616*(bv (borrow x y b)).toNat:=by
 have h1:=x.isLt;have h2:=y.isLt;have h3:=qV b;rw[CW (borrow x y b),gD,gD];unfold borrow;by_cases h:x.toNat<y.toNat+(bv b).toNat
 ·rw[decide_eq_true h];simp only[if_true];omega
 ·rw[decide_eq_false h];simp only[Bool.false_eq_true,if_false];omega
theorem rL(x y:BitVec 64)(b:Bool)(w:D):
  cW prog (callFunc 243 #[I Uq (un x),I Uq (un y),I Uq (un (bv b))]) w=
   .ok (.value (Tp #[I Uq (un (x+y+bv b)),I Uq (un (bv (carry x y b)))])) w:=by
 have h1:=UV.wu x;have h2:=UV.wu y;have h3:=UV.wu (bv b);have d:un (bv b)<=1:=by unfold un;have:=qV b;omega
 rw[run_callFunc_extern func243 kr kr kr (e:=add64Entry) kr,run_add64 _ _ _ h1 h2 h3 d];have hv:=me x y b;have g:=(x+y+bv b).isLt;have f:=qV (carry x y b);have a:(un x+un y+un (bv b)) % 18446744073709551616=un (x+y+bv b):=by unfold un;omega
 have c:(un x+un y+un (bv b)) / 18446744073709551616=un (bv (carry x y b)):=by unfold un;omega
 rw[a,c];rfl
theorem sO(x y:BitVec 64)(b:Bool)(w:D):
  cW prog (callFunc 235 #[I Uq (un x),I Uq (un y),I Uq (un (bv b))]) w=
   .ok (.value (Tp #[I Uq (un (x-y-bv b)),I Uq (un (bv (borrow x y b)))])) w:=by
 have d:=qV b;have f:=run_sub64 (P:=prog) x.toNat y.toNat (bv b).toNat d w;have e0:(#[Value.int .u64 (un x),I Uq (un y),I Uq (un (bv b))]:Array Vl)= #[I Uq ((x.toNat:Nat):Int),I Uq ((y.toNat:Nat):Int),I Uq (((bv b).toNat:Nat):Int)]:=rfl;rw[run_callFunc_extern func235 kr kr kr (e:=sub64Entry) kr,e0,f];have hv:=oZ x y b;have i:=(x-y-bv b).isLt;have j:=x.isLt;have k:=y.isLt;have g:=qV (borrow x y b);have a:(x.toNat+18446744073709551616-y.toNat-(bv b).toNat) % 18446744073709551616=(x-y-bv b).toNat:=oM
 have c:(if x.toNat<y.toNat+(bv b).toNat then 1 else 0:Nat)=(bv (borrow x y b)).toNat:=by
  rw[CW (borrow x y b)];unfold borrow;by_cases h:x.toNat<y.toNat+(bv b).toNat
  ·rw[decide_eq_true h,if_pos h];rfl
  ·rw[decide_eq_false h,if_neg h];rfl
 rw[a,c];rfl
def mQ(x y:BitVec 64):BitVec 64:=aA 64 (x.toNat*y.toNat / 18446744073709551616)
theorem tQ(x y:BitVec 64):(x*y).toNat+18446744073709551616*(mQ x y).toNat=x.toNat*y.toNat:=by
 have h1:=x.isLt;have h2:=y.isLt;have a:x.toNat*y.toNat<18446744073709551616*18446744073709551616:=Nat.mul_lt_mul'' h1 h2;have b:x.toNat*y.toNat / 18446744073709551616<18446744073709551616:=Nat.div_lt_of_lt_mul a;unfold mQ;rw[eY,bH,aP (show x.toNat*y.toNat / 18446744073709551616<2^64 from b)];omega
theorem S9(x y:Nat)(c:x<18446744073709551616)(d:y<18446744073709551616)(w:D):
  Calls prog 274 #[I Uq (x:Int),I Uq (y:Int)] w fun e w'=>e=Re (Tp #[I Uq ((x*y / 18446744073709551616:Nat):Int),I Uq ((x*y % 18446744073709551616:Nat):Int)])/\w'=w:=by
 obtain⟨d1,d2,d3,f⟩:=Lib.mul64_hi x y c d;have g1:=iw (a:=x / 4294967296) (b:=y / 4294967296) oM oM;have g2:=iw (a:=x / 4294967296) (b:=y % 4294967296) oM oM;have g3:=iw (a:=x % 4294967296) (b:=y / 4294967296) oM oM;have g:x / 4294967296*(y / 4294967296)<18446744073709551616:=oM
 have h:x / 4294967296*(y % 4294967296)<18446744073709551616:=oM
 have i:x % 4294967296*(y / 4294967296)<18446744073709551616:=oM
 have j:x / 4294967296*(y / 4294967296)+(x / 4294967296*(y % 4294967296)+x % 4294967296*(y % 4294967296) / 4294967296) / 4294967296<18446744073709551616:=oM
 have k:x / 4294967296*(y / 4294967296)+(x / 4294967296*(y % 4294967296)+x % 4294967296*(y % 4294967296) / 4294967296) / 4294967296+((x / 4294967296*(y % 4294967296)+x % 4294967296*(y % 4294967296) / 4294967296) % 4294967296+x % 4294967296*(y / 4294967296)) / 4294967296<18446744073709551616:=oM
 go_enter func274,ntmps274
 go_wp2
 simp only[Mul64.maskN x c,Mul64.maskN y d,Mul64.divN,Mul64.mulN,Mul64.addN,Mul64.wrapN _ d1,Mul64.wrapN _ h,Mul64.wrapN _ d2,Mul64.maskN _ d2,Mul64.wrapN _ i,Mul64.wrapN _ d3,Mul64.wrapN _ g,Mul64.wrapN _ j,Mul64.wrapN _ k,Mul64.wrapM (x*y)];rw[f];go_ret2
 exact⟨rfl,rfl⟩
theorem S8(x y:BitVec 64)(w:D):
  Calls prog 274 #[I Uq (un x),I Uq (un y)] w fun e w'=>e=Re (Tp #[I Uq (un (mQ x y)),I Uq (un (x*y))])/\w'=w:=by
 have h:=S9 x.toNat y.toNat x.isLt y.isLt w;have hv:=tQ x y;have h1:=(x*y).isLt;have a:x.toNat*y.toNat / 18446744073709551616=(mQ x y).toNat:=oM
 have b:x.toNat*y.toNat % 18446744073709551616=(x*y).toNat:=oM
 rw[a,b] at h;exact h
end Bt
namespace Fw
open Bt
theorem va(x y:BitVec 64)(w:D):cW prog (callFunc 243 #[I Uq (un x),I Uq (un y),I Uq 0]) w= .ok (.value (Tp #[I Uq (un (x+y+bv false)),I Uq (un (bv (carry x y false)))])) w:=rL x y false w
theorem xt(x:BitVec 64)(w:D):cW prog (callFunc 243 #[I Uq (un x),I Uq 19,I Uq 0]) w= .ok (.value (Tp #[I Uq (un (x+19#64+bv false)),I Uq (un (bv (carry x 19#64 false)))])) w:=rL x 19#64 false w
theorem xr(x:BitVec 64)(b:Bool)(w:D):cW prog (callFunc 243 #[I Uq (un x),I Uq 0,I Uq (un (bv b))]) w= .ok (.value (Tp #[I Uq (un (x+0#64+bv b)),I Uq (un (bv (carry x 0#64 b)))])) w:=rL x 0#64 b w
theorem xp(x y:BitVec 64)(w:D):cW prog (callFunc 235 #[I Uq (un x),I Uq (un y),I Uq 0]) w= .ok (.value (Tp #[I Uq (un (x-y-bv false)),I Uq (un (bv (borrow x y false)))])) w:=sO x y false w
theorem xu(x:BitVec 64)(b:Bool)(w:D):cW prog (callFunc 235 #[I Uq (un x),I Uq 0,I Uq (un (bv b))]) w= .ok (.value (Tp #[I Uq (un (x-0#64-bv b)),I Uq (un (bv (borrow x 0#64 b)))])) w:=sO x 0#64 b w
attribute [local go_sem] va xt xr xp xu
attribute [local go_sem] UV.ni UV.nX UV.ot UV.nM UV.nj UV.mW UV.mE UV.mZ UV.nY UV.om UV.nW rL sO
structure Q where
 a0:BitVec 64
 a1:BitVec 64
 a2:BitVec 64
 a3:BitVec 64
def Q.cells(q:Q):Array Vl:= #[I Uq (un q.a0),I Uq (un q.a1),I Uq (un q.a2),I Uq (un q.a3)]
def Q.num(q:Q):Nat:=q.a0.toNat+18446744073709551616*q.a1.toNat+340282366920938463463374607431768211456*q.a2.toNat+6277101735386680763835789423207666416102355444464034512896*q.a3.toNat
abbrev PP:Nat:=57896044618658097711785492504343953926634992332820282019728792003956564819949
theorem rC:PP=57896044618658097711785492504343953926634992332820282019728792003956564819949:=rfl
theorem Q.cells_one(q:Q):q.cells.all (·.oneCell')=true:=by simp[Q.cells,Value.oneCell']
def s1(q:Q):Bool:=carry q.a0 19#64 false
def s2(q:Q):Bool:=carry q.a1 0#64 (s1 q)
def s3(q:Q):Bool:=carry q.a2 0#64 (s2 q)
theorem Si(q:Q)(h:q.num<2*PP)(c:un (q.a3+bv (s3 q)) / 9223372036854775808=0):q.num % PP=q.num:=by
 have v0:=me q.a0 19#64 false;have a:=me q.a1 0#64 (s1 q);have b:=me q.a2 0#64 (s2 q);have v3:=me q.a3 0#64 (s3 q);simp only[fj] at a b v3;have d:=qV (carry q.a3 0#64 (s3 q));have j:=(q.a0+19#64+bv false).isLt;have k:=(q.a1+bv (s1 q)).isLt;have l:=(q.a2+bv (s2 q)).isLt;unfold un at c;rw[show carry q.a0 19#64 false=s1 q from rfl] at v0;rw[show carry q.a1 0#64 (s1 q)=s2 q from rfl] at a;rw[show carry q.a2 0#64 (s2 q)=s3 q from rfl] at b;rw[show(19#64).toNat=19 from rfl,show(bv false).toNat=0 from rfl] at v0;rw[show(0#64).toNat=0 from rfl] at a b v3;unfold Q.num at*;generalize (q.a0+19#64+bv false).toNat=t0 at*;generalize (q.a1+bv (s1 q)).toNat=t1 at*;generalize (q.a2+bv (s2 q)).toNat=t2 at*;generalize (q.a3+bv (s3 q)).toNat=t3 at*;generalize (bv (s1 q)).toNat=e at*;generalize (bv (s2 q)).toNat=f at*;generalize (bv (s3 q)).toNat=g at*;generalize (bv (carry q.a3 0#64 (s3 q))).toNat=i at*;apply aP;rw[rC] at*;omega
theorem Xo(q:Q)(h:q.num<2*PP)(e:un (q.a3+bv (s3 q)) / 9223372036854775808≠0):
  (Q.mk (q.a0+19#64+bv false) (q.a1+bv (s1 q)) (q.a2+bv (s2 q)) ((q.a3+bv (s3 q))&&&9223372036854775807#64)).num=q.num % PP:=by
 have v0:=me q.a0 19#64 false;have a:=me q.a1 0#64 (s1 q);have b:=me q.a2 0#64 (s2 q);have v3:=me q.a3 0#64 (s3 q);simp only[fj] at a b v3;have f:=qV (carry q.a3 0#64 (s3 q));have m:=(q.a0+19#64+bv false).isLt;have n:=(q.a1+bv (s1 q)).isLt;have o:=(q.a2+bv (s2 q)).isLt;have p:=(q.a3+bv (s3 q)).isLt;have c:((q.a3+bv (s3 q))&&&9223372036854775807#64).toNat=(q.a3+bv (s3 q)).toNat % 9223372036854775808:=by
  rw[dr];exact er _ 63
 unfold un at e;rw[show carry q.a0 19#64 false=s1 q from rfl] at v0;rw[show carry q.a1 0#64 (s1 q)=s2 q from rfl] at a;rw[show carry q.a2 0#64 (s2 q)=s3 q from rfl] at b;rw[show(19#64).toNat=19 from rfl,show(bv false).toNat=0 from rfl] at v0;rw[show(0#64).toNat=0 from rfl] at a b v3;unfold Q.num at*;simp only[c];generalize (q.a0+19#64+bv false).toNat=t0 at*;generalize (q.a1+bv (s1 q)).toNat=t1 at*;generalize (q.a2+bv (s2 q)).toNat=t2 at*;generalize (q.a3+bv (s3 q)).toNat=t3 at*;generalize (bv (s1 q)).toNat=g at*;generalize (bv (s2 q)).toNat=i at*;generalize (bv (s3 q)).toNat=j at*;generalize (bv (carry q.a3 0#64 (s3 q))).toNat=k at*;generalize l:q.a0.toNat+18446744073709551616*q.a1.toNat+340282366920938463463374607431768211456*q.a2.toNat+6277101735386680763835789423207666416102355444464034512896*q.a3.toNat=N at*;have d:N % PP=N-PP:=by
  rw[Nat.mod_eq_sub_mod (by rw[rC] at*;omega)];exact aP (by rw[rC] at*;omega)
 rw[d];rw[rC] at*;omega
theorem zt(x:BitVec 64):bits .and .u64 (un x) 9223372036854775807=un (x&&&9223372036854775807#64):=UV.nj x 9223372036854775807#64
theorem T4(x:BitVec 64)(h:(un x / 9223372036854775808==0)=true):un x / 9223372036854775808=0:=by simpa using h
theorem Su(x:BitVec 64)(h:(un x / 9223372036854775808==0)=false):un x / 9223372036854775808≠0:=by simpa using h
theorem KF(q:Q)(h:q.num<2*PP)(w:D):
  Calls prog 244 #[I Uq (un q.a0),I Uq (un q.a1),I Uq (un q.a2),I Uq (un q.a3)] w fun e w'=>∃r:Q,e=Re (H r.cells)/\r.num=q.num % PP/\O w.heap.size w w':=by
 have c:Hq _:=h;clear h;cases a:(un (q.a3+bv (s3 q)) / 9223372036854775808==0) with
 |true=>
  have b:Hq _:=T4 _ a;unfold s3 s2 s1 at a;go_enter func244,ntmps244
  go_wp2_with fail
  refine Own.jM results244 rfl w.heap.size 161 q.cells (0,0) _ rfl (heap_alloc_new _ _) underlying161 rfl kr ⟨q,rfl,(Si q c.o b.o).symm,(Below.refl _ _).alloc lR _⟩
 |false=>
  have b:Hq _:=Su _ a;have d:=zt (q.a3+bv (s3 q));unfold s3 s2 s1 at a d;go_enter func244,ntmps244
  go_wp2_with fail
  refine Own.jM results244 rfl w.heap.size 161 (Q.mk (q.a0+19#64+bv false) (q.a1+bv (s1 q)) (q.a2+bv (s2 q)) ((q.a3+bv (s3 q))&&&9223372036854775807#64)).cells (0,0) _ rfl (heap_alloc_new _ _) underlying161 rfl kr ⟨_,rfl,Xo q c.o b.o,(Below.refl _ _).alloc lR _⟩
end Fw
namespace Fw
open Bt
attribute [local go_sem] va xt xr xp xu
attribute [local go_sem] UV.ni UV.nX UV.ot UV.nM UV.nj UV.mW UV.mE UV.mZ UV.nY UV.om UV.nW rL sO
def lM:Array Vl:= #[I Uq 0,I Uq 0,I Uq 0,I Uq 0]
theorem hJ(w:D)(g:Nat)(cs:Array Vl):O g w (w.setRow g cs):=
 ⟨rfl,rfl,rfl,by simp[World.setRow],fun k a=>by show(Array.modify _ _ _)[k]? =_;rw[Array.getElem?_modify,if_neg oM]⟩
def k1(a b:Q):Bool:=carry a.a0 b.a0 false
def k2(a b:Q):Bool:=carry a.a1 b.a1 (k1 a b)
def k3(a b:Q):Bool:=carry a.a2 b.a2 (k2 a b)
def rm(a b:Q):Q:=⟨a.a0+b.a0+bv false,a.a1+b.a1+bv (k1 a b),a.a2+b.a2+bv (k2 a b),a.a3+b.a3+bv (k3 a b)⟩
theorem T9(a b:Q)(i:a.num<PP)(j:b.num<PP):(rm a b).num=a.num+b.num:=by
 have v0:=me a.a0 b.a0 false;have c:=me a.a1 b.a1 (k1 a b);have d:=me a.a2 b.a2 (k2 a b);have v3:=me a.a3 b.a3 (k3 a b);rw[show carry a.a0 b.a0 false=k1 a b from rfl,show(bv false).toNat=0 from rfl] at v0;rw[show carry a.a1 b.a1 (k1 a b)=k2 a b from rfl] at c;rw[show carry a.a2 b.a2 (k2 a b)=k3 a b from rfl] at d;unfold Q.num rm at*;simp only at*;generalize (a.a0+b.a0+bv false).toNat=t0 at*;generalize (a.a1+b.a1+bv (k1 a b)).toNat=t1 at*;generalize (a.a2+b.a2+bv (k2 a b)).toNat=t2 at*;generalize (a.a3+b.a3+bv (k3 a b)).toNat=t3 at*;generalize (bv (k1 a b)).toNat=e at*;generalize (bv (k2 a b)).toNat=f at*;generalize (bv (k3 a b)).toNat=g at*;generalize (bv (carry a.a3 b.a3 (k3 a b))).toNat=h at*;rw[rC] at*;omega
theorem Qp(a b:Q)(h:a.num<PP)(c:b.num<PP)(w:D):
  Calls prog 229 #[H a.cells,H b.cells] w fun e w'=>∃r:Q,e=Re (H r.cells)/\r.num=(a.num+b.num) % PP/\O w.heap.size w w':=by
 have g:Hq _:=T9 a b h c;have k:Hq ((rm a b).num<2*PP):=by show _<_;rw[g.o];omega
 clear h c;unfold Q.cells;go_enter func229,ntmps229
 go_wp2_with fail
 refine(KF (rm a b) k.o _).mono ?_;rintro e w1 ⟨r,rfl,i,c⟩;have j:Hq _:=i;have d:Hq _:=c;clear i c;have f:Hq (w1.heap[w.heap.size+1+1]? =Z (Cl lM 161 (0,0))):=(d.o.block _ sP).trans (by
  have:=heap_alloc_new ((w.alloc (Cl a.cells 161)).alloc (Cl b.cells 161)) (Cl lM 161);simp only[World.size_alloc] at this;exact this)
 go_wp2_with (refine wpList_store_row rfl 161 _ _ rfl (w.heap.size+1+1) r.cells rfl rfl 161 lM f.o kr rfl r.cells_one ?_)
 refine Own.jM results229 rfl (w.heap.size+1+1) 161 r.cells (0,0) _ rfl (setRow_heap _ _ _ _ _ _ f.o) underlying161 rfl kr ⟨r,rfl,by rw[j.o,g.o],?_⟩;have h3:O w.heap.size w (((w.alloc (Cl a.cells 161)).alloc (Cl b.cells 161)).alloc (Cl lM 161)):=(((Below.refl _ _).alloc lR _).alloc sP _).alloc (by simp;omega) _;exact(tR h3 d).trans ((hJ _ _ _).mono oM)
def m1(a b:Q):Bool:=borrow a.a0 b.a0 false
def m2(a b:Q):Bool:=borrow a.a1 b.a1 (m1 a b)
def m3(a b:Q):Bool:=borrow a.a2 b.a2 (m2 a b)
def m4(a b:Q):Bool:=borrow a.a3 b.a3 (m3 a b)
def d0(a b:Q):BitVec 64:=a.a0-b.a0-bv false
def d1(a b:Q):BitVec 64:=a.a1-b.a1-bv (m1 a b)
def d2(a b:Q):BitVec 64:=a.a2-b.a2-bv (m2 a b)
def d3(a b:Q):BitVec 64:=a.a3-b.a3-bv (m3 a b)
def n1(a b:Q):Bool:=borrow (d0 a b) (19#64*bv (m4 a b)) false
def n2(a b:Q):Bool:=borrow (d1 a b) 0#64 (n1 a b)
def n3(a b:Q):Bool:=borrow (d2 a b) 0#64 (n2 a b)
def vW(a b:Q):Q:=⟨d0 a b-19#64*bv (m4 a b)-bv false,d1 a b-bv (n1 a b),d2 a b-bv (n2 a b),(d3 a b-bv (n3 a b))&&&9223372036854775807#64⟩
theorem Vh(b:Bool):(19#64*bv b).toNat=19*(bv b).toNat:=by cases b<;>rfl
theorem CQ(t0 t1 t2 t3 a b1 b c a0 a1 a2 a3 c0 d e f g:Nat)(v0:t0+a+c0=a0+18446744073709551616*d)(h:t1+b1+d=a1+18446744073709551616*e)(i:t2+b+e=a2+18446744073709551616*f)(v3:t3+c+f=a3+18446744073709551616*g):
  (t0+18446744073709551616*t1+340282366920938463463374607431768211456*t2+6277101735386680763835789423207666416102355444464034512896*t3)+(a+18446744073709551616*b1+340282366920938463463374607431768211456*b+6277101735386680763835789423207666416102355444464034512896*c)+c0
  =(a0+18446744073709551616*a1+340282366920938463463374607431768211456*a2+6277101735386680763835789423207666416102355444464034512896*a3)+115792089237316195423570985008687907853269984665640564039457584007913129639936*g:=oM
theorem Mi(A B T E b a c low:Nat)(f:A<PP)(g:B<PP)(j:T+B+0=A+115792089237316195423570985008687907853269984665640564039457584007913129639936*a)(k:T<115792089237316195423570985008687907853269984665640564039457584007913129639936)(l:a<=1)
  (h:E+19*a+0=T+115792089237316195423570985008687907853269984665640564039457584007913129639936*c) (i:E=low+6277101735386680763835789423207666416102355444464034512896*b) (o:low<6277101735386680763835789423207666416102355444464034512896) (m:b<18446744073709551616):
  low+6277101735386680763835789423207666416102355444464034512896*(b % 9223372036854775808)=(A+PP-B) % PP:=by
 rcases Nat.lt_or_ge A B with p|n
 ·have e:(A+PP-B) % PP=A+PP-B:=aP oM
  rw[e];rw[rC] at*;have h1:a=1:=oM
  subst h1;have d:c=0:=oM
  subst d;omega
 ·have e:(A+PP-B) % PP=A-B:=by
   rw[show A+PP-B=(A-B)+PP by omega,Nat.add_mod_right];exact aP oM
  rw[e];rw[rC] at*;have h1:a=0:=oM
  subst h1;have d:c=0:=oM
  subst d;omega
theorem P5(a b:Q)(e:a.num<PP)(f:b.num<PP):(vW a b).num=(a.num+PP-b.num) % PP:=by
 have v0:(d0 a b).toNat+b.a0.toNat+0=a.a0.toNat+18446744073709551616*(bv (m1 a b)).toNat:=oZ a.a0 b.a0 false;have h:(d1 a b).toNat+b.a1.toNat+(bv (m1 a b)).toNat=a.a1.toNat+18446744073709551616*(bv (m2 a b)).toNat:=oZ a.a1 b.a1 (m1 a b);have i:(d2 a b).toNat+b.a2.toNat+(bv (m2 a b)).toNat=a.a2.toNat+18446744073709551616*(bv (m3 a b)).toNat:=oZ a.a2 b.a2 (m2 a b);have v3:(d3 a b).toNat+b.a3.toNat+(bv (m3 a b)).toNat=a.a3.toNat+18446744073709551616*(bv (m4 a b)).toNat:=oZ a.a3 b.a3 (m3 a b);have w0:(d0 a b-19#64*bv (m4 a b)-bv false).toNat+(19#64*bv (m4 a b)).toNat+0=(d0 a b).toNat+18446744073709551616*(bv (n1 a b)).toNat:=oZ (d0 a b) _ false;have w1:=oZ (d1 a b) 0#64 (n1 a b);have w2:=oZ (d2 a b) 0#64 (n2 a b);have w3:=oZ (d3 a b) 0#64 (n3 a b);rw[Vh] at w0;simp only[BitVec.sub_zero] at w1 w2 w3;rw[show borrow (d1 a b) 0#64 (n1 a b)=n2 a b from rfl,show(0#64).toNat=0 from rfl] at w1;rw[show borrow (d2 a b) 0#64 (n2 a b)=n3 a b from rfl,show(0#64).toNat=0 from rfl] at w2;rw[show(0#64).toNat=0 from rfl] at w3;have g:((d3 a b-bv (n3 a b))&&&9223372036854775807#64).toNat=(d3 a b-bv (n3 a b)).toNat % 9223372036854775808:=by
  rw[dr];exact er _ 63
 have b4:=qV (m4 a b);have d:=CQ _ _ _ _ _ _ _ _ _ _ _ _ _ _ _ _ _ v0 h i v3;have c:=CQ _ _ _ _ _ _ _ _ _ _ _ _ _ _ _ _ _ w0 w1 w2 w3;have k:=(d0 a b).isLt;have l:=(d1 a b).isLt;have m:=(d2 a b).isLt;have n:=(d3 a b).isLt;have j:=(d0 a b-19#64*bv (m4 a b)-bv false).isLt;have g1:=(d1 a b-bv (n1 a b)).isLt;have g2:=(d2 a b-bv (n2 a b)).isLt;have g3:=(d3 a b-bv (n3 a b)).isLt;clear v0 h i v3 w0 w1 w2 w3;unfold vW;show _+_+_+_*((d3 a b-bv (n3 a b))&&&9223372036854775807#64).toNat=_;rw[g];refine Mi a.num b.num _ _ (d3 a b-bv (n3 a b)).toNat _ _ _ e f d ?_ b4 (by simpa using c) rfl ?_ g3
 ·clear d c g e f
  omega
 ·clear d c g e f
  omega
theorem Ch(x:BitVec 64):bl.wrap (19*un x)=un (19#64*x):=UV.nX 19#64 x
attribute [local go_sem] Ch
theorem Mh(a b:Q)(c:a.num<PP)(d:b.num<PP)(w:D):
  Calls prog 226 #[H a.cells,H b.cells] w fun e w'=>∃r:Q,e=Re (H r.cells)/\r.num=(a.num+PP-b.num) % PP/\O w.heap.size w w':=by
 have f:Hq _:=P5 a b c d;have g:=zt (d3 a b-bv (n3 a b));unfold d3 n3 n2 n1 d2 d1 d0 m4 m3 m2 m1 at g;clear c d;unfold Q.cells;go_enter func226,ntmps226
 go_wp2_with fail
 refine Own.jM results226 rfl (w.heap.size+1+1) 161 (vW a b).cells (0,0) _ rfl (by
  have:=heap_alloc_new ((w.alloc (Cl a.cells 161)).alloc (Cl b.cells 161)) (Cl (vW a b).cells 161);simp only[World.size_alloc] at this;exact this) underlying161 rfl kr ⟨vW a b,rfl,f.o,?_⟩
 exact(((Below.refl _ _).alloc lR _).alloc sP _).alloc (by simp;omega) _
end Fw
namespace Fw
open Bt
attribute [local go_sem] va xt xr xp xu
attribute [local go_sem] UV.ni UV.nX UV.ot UV.nM UV.nj UV.mW UV.mE UV.mZ UV.nY UV.om UV.nW rL sO Ch
def g1(p a:Q)(n:BitVec 64):Bool:=carry p.a0 (a.a0*n) false
def g2(p a:Q)(n:BitVec 64):Bool:=carry p.a1 (a.a1*n) (g1 p a n)
def g3(p a:Q)(n:BitVec 64):Bool:=carry p.a2 (a.a2*n) (g2 p a n)
def g4(p a:Q)(n:BitVec 64):Bool:=carry p.a3 (a.a3*n) (g3 p a n)
def u1(p a:Q)(n:BitVec 64):BitVec 64:=p.a1+a.a1*n+bv (g1 p a n)
def u2(p a:Q)(n:BitVec 64):BitVec 64:=p.a2+a.a2*n+bv (g2 p a n)
def u3(p a:Q)(n:BitVec 64):BitVec 64:=p.a3+a.a3*n+bv (g3 p a n)
def h1(p a:Q)(n:BitVec 64):Bool:=carry (u1 p a n) (mQ a.a0 n) false
def h2(p a:Q)(n:BitVec 64):Bool:=carry (u2 p a n) (mQ a.a1 n) (h1 p a n)
def h3(p a:Q)(n:BitVec 64):Bool:=carry (u3 p a n) (mQ a.a2 n) (h2 p a n)
def r0(p a:Q)(n:BitVec 64):BitVec 64:=p.a0+a.a0*n+bv false
def r1(p a:Q)(n:BitVec 64):BitVec 64:=u1 p a n+mQ a.a0 n+bv false
def r2(p a:Q)(n:BitVec 64):BitVec 64:=u2 p a n+mQ a.a1 n+bv (h1 p a n)
def r3(p a:Q)(n:BitVec 64):BitVec 64:=u3 p a n+mQ a.a2 n+bv (h2 p a n)
def r4(p a:Q)(n:BitVec 64):BitVec 64:=mQ a.a3 n+bv (g4 p a n)+bv (h3 p a n)
theorem xv(p a:Q)(n:BitVec 64)(w:D):
  Calls prog 242 #[I Uq (un p.a0),I Uq (un p.a1),I Uq (un p.a2),I Uq (un p.a3),I Uq (un a.a0),I Uq (un a.a1),I Uq (un a.a2),I Uq (un a.a3),I Uq (un n)] w
   fun e w'=>e=Re (Tp #[I Uq (un (r0 p a n)),I Uq (un (r1 p a n)),I Uq (un (r2 p a n)),I Uq (un (r3 p a n)),I Uq (un (r4 p a n))])/\w'=w:=by
 go_enter func242,ntmps242
 go_wp2_with (go_at_call 274;refine(S8 _ _ _).mono ?_;rintro e w' ⟨rfl,rfl⟩)
 refine bodyPost_ret (v:=Tp #[I Uq (un (r0 p a n)),I Uq (un (r1 p a n)),I Uq (un (r2 p a n)),I Uq (un (r3 p a n)),I Uq (un (r4 p a n))]) (by simp[results,results242,go_sem,r0,r1,r2,r3,r4,u1,u2,u3,g1,g2,g3,g4,h1,h2,h3]) rfl ⟨rfl,rfl⟩
theorem KI(t0 t1 t2 t3 a b1 b c a0 a1 a2 a3 c0 d e f g:Nat)(v0:t0+18446744073709551616*d=a0+a+c0)(h:t1+18446744073709551616*e=a1+b1+d)(i:t2+18446744073709551616*f=a2+b+e)(v3:t3+18446744073709551616*g=a3+c+f):
  (t0+18446744073709551616*t1+340282366920938463463374607431768211456*t2+6277101735386680763835789423207666416102355444464034512896*t3)+115792089237316195423570985008687907853269984665640564039457584007913129639936*g=(a0+18446744073709551616*a1+340282366920938463463374607431768211456*a2+6277101735386680763835789423207666416102355444464034512896*a3)+(a+18446744073709551616*b1+340282366920938463463374607431768211456*b+6277101735386680763835789423207666416102355444464034512896*c)+c0:=oM
theorem Xy(t1 t2 t3 b1 a b a1 a2 a3 c0 c d e:Nat)(f:t1+18446744073709551616*c=a1+b1+c0)(g:t2+18446744073709551616*d=a2+a+c)(v3:t3+18446744073709551616*e=a3+b+d):
  (18446744073709551616*t1+340282366920938463463374607431768211456*t2+6277101735386680763835789423207666416102355444464034512896*t3)+115792089237316195423570985008687907853269984665640564039457584007913129639936*e=(18446744073709551616*a1+340282366920938463463374607431768211456*a2+6277101735386680763835789423207666416102355444464034512896*a3)+(18446744073709551616*b1+340282366920938463463374607431768211456*a+6277101735386680763835789423207666416102355444464034512896*b)+18446744073709551616*c0:=oM
theorem num_mul(a:Q)(n:Nat):a.num*n=a.a0.toNat*n+18446744073709551616*(a.a1.toNat*n)+340282366920938463463374607431768211456*(a.a2.toNat*n)+6277101735386680763835789423207666416102355444464034512896*(a.a3.toNat*n):=by
 unfold Q.num;rw[dB,dB,dB,dU,dU,dU]
theorem qJ(a:Q):a.num<115792089237316195423570985008687907853269984665640564039457584007913129639936:=by
 have b:=a.a0.isLt;have h1:=a.a1.isLt;have h2:=a.a2.isLt;have h3:=a.a3.isLt;unfold Q.num;omega
def ud(p a:Q)(n:BitVec 64):Nat:=(r0 p a n).toNat+18446744073709551616*(r1 p a n).toNat+340282366920938463463374607431768211456*(r2 p a n).toNat+6277101735386680763835789423207666416102355444464034512896*(r3 p a n).toNat+115792089237316195423570985008687907853269984665640564039457584007913129639936*(r4 p a n).toNat
theorem L1(R U L c N T p a b d3 h3 r4 d:Nat)(h:U+115792089237316195423570985008687907853269984665640564039457584007913129639936*b=p+L+0)(i:d+115792089237316195423570985008687907853269984665640564039457584007913129639936*d3=T+c+0)(j:L+c+115792089237316195423570985008687907853269984665640564039457584007913129639936*h3=a)(k:U=N+T)(l:R=N+d)(m:p+a<115792089237316195423570985008687907853269984665640564039457584007913129639936*18446744073709551616)(f:r4=(h3+b+d3) % 18446744073709551616):
  R+115792089237316195423570985008687907853269984665640564039457584007913129639936*r4=p+a:=by
 have g:R+115792089237316195423570985008687907853269984665640564039457584007913129639936*(h3+b+d3)=p+a:=oM
 have e:h3+b+d3<18446744073709551616:=oM
 rw[f,aP e];exact g
theorem C7(p a:Q)(n:BitVec 64):ud p a n=p.num+a.num*n.toNat:=by
 have v0:(r0 p a n).toNat+18446744073709551616*(bv (g1 p a n)).toNat=p.a0.toNat+(a.a0*n).toNat+0:=me p.a0 (a.a0*n) false;have f:(u1 p a n).toNat+18446744073709551616*(bv (g2 p a n)).toNat=p.a1.toNat+(a.a1*n).toNat+(bv (g1 p a n)).toNat:=me p.a1 (a.a1*n) (g1 p a n);have g:(u2 p a n).toNat+18446744073709551616*(bv (g3 p a n)).toNat=p.a2.toNat+(a.a2*n).toNat+(bv (g2 p a n)).toNat:=me p.a2 (a.a2*n) (g2 p a n);have v3:(u3 p a n).toNat+18446744073709551616*(bv (g4 p a n)).toNat=p.a3.toNat+(a.a3*n).toNat+(bv (g3 p a n)).toNat:=me p.a3 (a.a3*n) (g3 p a n);have w1:(r1 p a n).toNat+18446744073709551616*(bv (h1 p a n)).toNat=(u1 p a n).toNat+(mQ a.a0 n).toNat+0:=me (u1 p a n) (mQ a.a0 n) false;have w2:(r2 p a n).toNat+18446744073709551616*(bv (h2 p a n)).toNat=(u2 p a n).toNat+(mQ a.a1 n).toNat+(bv (h1 p a n)).toNat:=me (u2 p a n) (mQ a.a1 n) (h1 p a n);have w3:(r3 p a n).toNat+18446744073709551616*(bv (h3 p a n)).toNat=(u3 p a n).toNat+(mQ a.a2 n).toNat+(bv (h2 p a n)).toNat:=me (u3 p a n) (mQ a.a2 n) (h2 p a n);have h:=tQ a.a0 n;have i:=tQ a.a1 n;have j:=tQ a.a2 n;have k:=tQ a.a3 n;have b:=KI _ _ _ _ _ _ _ _ _ _ _ _ _ _ _ _ _ v0 f g v3;have c:=Xy _ _ _ _ _ _ _ _ _ _ _ _ _ w1 w2 w3;have e:(r4 p a n).toNat=((mQ a.a3 n).toNat+(bv (g4 p a n)).toNat+(bv (h3 p a n)).toNat) % 18446744073709551616:=by
  unfold r4;rw[dq,dq];omega
 have d:p.num+a.num*n.toNat<115792089237316195423570985008687907853269984665640564039457584007913129639936*18446744073709551616:=by
  have q:=qJ p;have l:=qJ a;have o:=n.isLt;have m:a.num*n.toNat<=(115792089237316195423570985008687907853269984665640564039457584007913129639936-1)*(18446744073709551616-1):=Nat.mul_le_mul oM oM;omega
 clear v0 f g v3 w1 w2 w3;unfold ud;refine L1 ((r0 p a n).toNat+18446744073709551616*(r1 p a n).toNat+340282366920938463463374607431768211456*(r2 p a n).toNat+6277101735386680763835789423207666416102355444464034512896*(r3 p a n).toNat) _ _ (18446744073709551616*(mQ a.a0 n).toNat+340282366920938463463374607431768211456*(mQ a.a1 n).toNat+6277101735386680763835789423207666416102355444464034512896*(mQ a.a2 n).toNat) (r0 p a n).toNat (18446744073709551616*(u1 p a n).toNat+340282366920938463463374607431768211456*(u2 p a n).toNat+6277101735386680763835789423207666416102355444464034512896*(u3 p a n).toNat) p.num (a.num*n.toNat) _ _ (mQ a.a3 n).toNat _ (18446744073709551616*(r1 p a n).toNat+340282366920938463463374607431768211456*(r2 p a n).toNat+6277101735386680763835789423207666416102355444464034512896*(r3 p a n).toNat) b (by simpa using c) ?_ oM oM d e;clear b c e d;rw[num_mul,<-h,<-i,<-j,<-k];omega
end Fw
namespace Fw
open Bt
def th(p a:Q)(n:BitVec 64):Q:=⟨r1 p a n,r2 p a n,r3 p a n,r4 p a n⟩
def A2(p a:Q)(n:BitVec 64):Q:=⟨r0 p a n,r1 p a n,r2 p a n,r3 p a n⟩
def zQ:Q:=⟨0#64,0#64,0#64,0#64⟩
theorem Ox:zQ.num=0:=rfl
theorem LZ(p a:Q)(n:BitVec 64):ud p a n=(r0 p a n).toNat+18446744073709551616*(th p a n).num:=by
 unfold ud Q.num th;simp only;omega
theorem L0(p a:Q)(n:BitVec 64):ud p a n=(A2 p a n).num+115792089237316195423570985008687907853269984665640564039457584007913129639936*(r4 p a n).toNat:=by
 unfold ud Q.num A2;simp only
theorem yB(p a:Q)(n:BitVec 64):(r0 p a n).toNat+18446744073709551616*(th p a n).num=p.num+a.num*n.toNat:=by
 rw[<-LZ,C7]
theorem Nv(p a:Q)(n:BitVec 64):(A2 p a n).num+115792089237316195423570985008687907853269984665640564039457584007913129639936*(r4 p a n).toNat=p.num+a.num*n.toNat:=by
 rw[<-L0,C7]
def q1(a b:Q):Q:=th zQ a b.a0
def q2(a b:Q):Q:=th (q1 a b) a b.a1
def q3(a b:Q):Q:=th (q2 a b) a b.a2
def q4(a b:Q):Q:=th (q3 a b) a b.a3
def lw(a b:Q):Q:=⟨r0 zQ a b.a0,r0 (q1 a b) a b.a1,r0 (q2 a b) a b.a2,r0 (q3 a b) a b.a3⟩
theorem four(A g n1 n2 n3 b c d e h1 h2 h3 a f m1 m2 m3:Nat)(e0:f=A*g)(h:m1=A*n1)(i:m2=A*n2)(j:m3=A*n3)(v0:b+18446744073709551616*h1=0+f)(k:c+18446744073709551616*h2=h1+m1)(l:d+18446744073709551616*h3=h2+m2)(v3:e+18446744073709551616*a=h3+m3):
  (b+18446744073709551616*c+340282366920938463463374607431768211456*d+6277101735386680763835789423207666416102355444464034512896*e)+115792089237316195423570985008687907853269984665640564039457584007913129639936*a=A*(g+18446744073709551616*n1+340282366920938463463374607431768211456*n2+6277101735386680763835789423207666416102355444464034512896*n3):=by
 rw[fk,fk,fk,ek A 18446744073709551616,ek A 340282366920938463463374607431768211456,ek A 6277101735386680763835789423207666416102355444464034512896,<-e0,<-h,<-i,<-j];omega
theorem Qe(a b:Q):(lw a b).num+115792089237316195423570985008687907853269984665640564039457584007913129639936*(q4 a b).num=a.num*b.num:=by
 have v0:=yB zQ a b.a0;have c:=yB (q1 a b) a b.a1;have d:=yB (q2 a b) a b.a2;have v3:=yB (q3 a b) a b.a3;rw[Ox] at v0;exact four a.num b.a0.toNat b.a1.toNat b.a2.toNat b.a3.toNat _ _ _ _ _ _ _ _ _ _ _ _ rfl rfl rfl rfl v0 c d v3
def t0(a b:Q):BitVec 64:=r0 (lw a b) (q4 a b) 38#64
def t1(a b:Q):BitVec 64:=r1 (lw a b) (q4 a b) 38#64
def t2(a b:Q):BitVec 64:=r2 (lw a b) (q4 a b) 38#64
def t3(a b:Q):BitVec 64:=r3 (lw a b) (q4 a b) 38#64
def t4(a b:Q):BitVec 64:=r4 (lw a b) (q4 a b) 38#64
def ov(a b:Q):BitVec 64:=t4 a b<<<1|||t3 a b>>>63
def o1(a b:Q):Bool:=carry (t0 a b) (19#64*ov a b) false
def o2(a b:Q):Bool:=carry (t1 a b) 0#64 (o1 a b)
def o3(a b:Q):Bool:=carry (t2 a b) 0#64 (o2 a b)
def vT(a b:Q):Q:=⟨t0 a b+19#64*ov a b+bv false,t1 a b+bv (o1 a b),t2 a b+bv (o2 a b),(t3 a b&&&9223372036854775807#64)+bv (o3 a b)⟩
theorem NL(x y:BitVec 64)(h:x.toNat<=38):(x<<<1|||y>>>63).toNat=2*x.toNat+y.toNat / 9223372036854775808:=by
 have a:=y.isLt;rw[gT,iN,eR,fh];have h1:x.toNat<<<1 % 2^64=x.toNat<<<1:=aP (by rw[dP];omega);rw[h1,<-Nat.shiftLeft_add_eq_or_of_lt oM,dP];omega
theorem NB(x:BitVec 64)(h:x.toNat<=77):(19#64*x).toNat=19*x.toNat:=by
 rw[eY,show(19#64).toNat=19 from rfl];exact aP oM
theorem Gx(x:BitVec 64):(x&&&9223372036854775807#64).toNat=x.toNat % 9223372036854775808:=by
 rw[dr];exact er _ 63
theorem RN(T R c d e a b y0 y1 y2 y3 f g h o:Nat)(l:c+18446744073709551616*d+340282366920938463463374607431768211456*e+6277101735386680763835789423207666416102355444464034512896*a+115792089237316195423570985008687907853269984665640564039457584007913129639936*b=T)
  (i:c<18446744073709551616) (h1:d<18446744073709551616) (h2:e<18446744073709551616) (h3:a<18446744073709551616) (j:b<=38) (m:o=2*b+a / 9223372036854775808)
  (v0:y0+18446744073709551616*f=c+19*o+0) (n:y1+18446744073709551616*g=d+0+f) (p:y2+18446744073709551616*h=e+0+g) (v3:y3=a % 9223372036854775808+h)
  (k:R=y0+18446744073709551616*y1+340282366920938463463374607431768211456*y2+6277101735386680763835789423207666416102355444464034512896*y3):
  R<2*PP/\R+PP*o=T:=by
 rw[rC];omega
theorem VD(a b:Q):(t4 a b).toNat<=38:=by
 have h:=Nv (lw a b) (q4 a b) 38#64;have h1:=qJ (lw a b);have h2:=qJ (q4 a b);rw[show(38#64).toNat=38 from rfl] at h;show(r4 (lw a b) (q4 a b) 38#64).toNat<=38;omega
theorem Mq(x:BitVec 64)(b:Bool):((x&&&9223372036854775807#64)+bv b).toNat=x.toNat % 9223372036854775808+(bv b).toNat:=by
 have a:=qV b;rw[dq,Gx];exact aP oM
theorem JH(a b:Q):(vT a b).num<2*PP/\(vT a b).num % PP=a.num*b.num % PP:=by
 have k:=Qe a b;have j:(t0 a b).toNat+18446744073709551616*(t1 a b).toNat+340282366920938463463374607431768211456*(t2 a b).toNat+6277101735386680763835789423207666416102355444464034512896*(t3 a b).toNat+115792089237316195423570985008687907853269984665640564039457584007913129639936*(t4 a b).toNat=(lw a b).num+(q4 a b).num*38:=C7 (lw a b) (q4 a b) 38#64;have c:=VD a b;have i:(ov a b).toNat=2*(t4 a b).toNat+(t3 a b).toNat / 9223372036854775808:=NL _ _ c;have l:=(t3 a b).isLt;have v0:=me (t0 a b) (19#64*ov a b) false;have e:=me (t1 a b) 0#64 (o1 a b);have f:=me (t2 a b) 0#64 (o2 a b);rw[NB _ oM,show carry (t0 a b) (19#64*ov a b) false=o1 a b from rfl,show(bv false).toNat=0 from rfl] at v0;rw[show carry (t1 a b) 0#64 (o1 a b)=o2 a b from rfl,show(0#64).toNat=0 from rfl,fj] at e;rw[show carry (t2 a b) 0#64 (o2 a b)=o3 a b from rfl,show(0#64).toNat=0 from rfl,fj] at f;have d:=RN _ (vT a b).num _ _ _ _ _ _ _ _ _ _ _ _ _ j (t0 a b).isLt (t1 a b).isLt (t2 a b).isLt l c i v0 e f (Mq (t3 a b) (o3 a b)) rfl;refine⟨d.1,?_⟩;have g:(vT a b).num % PP=((lw a b).num+(q4 a b).num*38) % PP:=by rw[<-d.2,iO]
 have h:a.num*b.num % PP=((lw a b).num+(q4 a b).num*38) % PP:=by
  rw[<-k,show(lw a b).num+115792089237316195423570985008687907853269984665640564039457584007913129639936*(q4 a b).num=((lw a b).num+(q4 a b).num*38)+PP*(2*(q4 a b).num) by rw[rC];omega,iO]
 rw[g,h]
