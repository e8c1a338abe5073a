/- Walks of the program's papers: ReadTicket, Right; whether a gate trusts one. strings.Clone; the program's New, Look, raise. Walks of the program's gate: New, Look, raise. Walks of the program's gate: Admit. Walks of the program's gate: Close. -/
import Derived.Test.YtbojijefenfbgaaGreatDoorAaGateA
import Derived.Lib.Strings
import Derived.Lib.Walk
import Derived.Lib.BufferWrite
import Derived.Lib.UnsafeStr
import Derived.Lib.Hide
import Derived.Laws.MakeOwn
import Derived.Test.YtbojijefenfbgaaGreatDoorAaDocS
open Go.Value renaming oneCell'->av
open Go.Act renaming put->aD
open Nat renaming le_of_eq->bO
open List renaming length_drop->dN,drop_drop->iD,take_zero->aE,take_succ_cons->ak,drop_succ_cons->ax,drop_zero->aK
open Go.Lib renaming byteCells->iQ,size_eq->fU
open Array renaming length_toList->bw
open Classical renaming byContradiction->bt
open Option renaming some->Z,none->Y
open Go.Value renaming int->I,pointer->X,agg->H,bool->Bl,string->sT,tuple->Tp
open Go.IntKind renaming i64->J
open Go.Obj renaming cells->Cl
open Go.Ending renaming returned->Re
open Go renaming World->D,Value->Vl
open Go.RowKit renaming Below->O
set_option maxHeartbeats 4000000
set_option maxRecDepth 100000
open Go Go.RowKit
open Go.Proofs.YtbojijefenfbgaaGreatDoor
open Ks(au ml whole pure)
open Hs(kc)
open Gw(ga)
open Qt(qj ev gh nn)
open Cw(lq pw C6 oA nx uZ)
variable{S:Nat->Prop}{g:Nat}{w:D}
namespace Go.Proofs.YtbojijefenfbgaaGreatDoor
open Tryz
namespace Gt
open Mp Bk
def my(e s c:Int):Array Vl:= #[I J e,I J s,I J c]
theorem Yu(l:List UInt8)(h:l.length≠72\/l.head? ≠Z 84)(w:D):Rt 76 #[sT ⟨l.toArray⟩] w (Tp #[H (my 0 0 0),Bl false]):=by
 go_enter func76,ntmps76
 refine au ?_;refine Ks.alloc rfl _ rfl (H (my 0 0 0)) kr (my 0 0 0) rfl ?_;intro w1 b1 e d c j;simp only[zD];refine kv (Bl false) ?_;refine kd (wp_seq ?_);refine wp_seq (kX (kv (sT ⟨l.toArray⟩) ?_));refine kv (I J (l.length:Int)) ?_;by_cases f:l.length=72
 ·have i:=h.resolve_left (fun x=>x f)
  refine Ks.val rfl (Bl false) (by simp[execOp,go_sem,f]) ?_;simp only[zD];refine au ?_;refine wF kr _ _ rfl l 1 oM rfl rfl ?_;simp only[zD];refine ml kr (Bl true) (by simp[execOp,go_sem,zp,i]) ?_;simp only[zD];refine kv (Bl true) ?_;refine kd (wp_cond_true rfl ?_);refine wp_seq (kX (kv (H (my 0 0 0)) ?_));refine whole rfl _ _ _ rfl b1 (my 0 0 0) rfl rfl d.o kr rfl (by simp[my,av]) ?_;intro w2 b a g H4;simp only[aD];refine kv (Bl false) ?_;refine kd (wp_ret ?_);repeat (refine kt ?_)
  exact Ww.pB results76 rfl b1 _ (my 0 0 0) _ _ (Bl false) rfl rfl b.o underlying45 rfl kr ⟨rfl,c.o.trans ((a.o (fun _=>False) w.heap.size (oR (bO e.o.symm))).below lR (fun _ _ h=>h))⟩
 ·refine Ks.val rfl (Bl true) (by simp[execOp,go_sem];omega) ?_
  simp only[zD];refine kv (Bl true) ?_;with_reducible refine ab ?_;with_reducible refine ab ?_;with_reducible refine ab ?_;refine kv (Bl true) ?_;refine kd (wp_cond_true rfl ?_);refine wp_seq (kX (kv (H (my 0 0 0)) ?_));refine whole rfl _ _ _ rfl b1 (my 0 0 0) rfl rfl d.o kr rfl (by simp[my,av]) ?_;intro w2 b a g H4;simp only[aD];refine kv (Bl false) ?_;refine kd (wp_ret ?_);repeat (refine kt ?_)
  exact Ww.pB results76 rfl b1 _ (my 0 0 0) _ _ (Bl false) rfl rfl b.o underlying45 rfl kr ⟨rfl,c.o.trans ((a.o (fun _=>False) w.heap.size (oR (bO e.o.symm))).below lR (fun _ _ h=>h))⟩
def rf(t:List UInt8):Int:=be ((t.drop 7).take 1)
theorem Yj(l:List UInt8)(u:l.length=72)(t:l.head? =Z 84)(w:D):Rt 76 #[sT ⟨l.toArray⟩] w (Tp #[H (my (gX l) (lK l) (rf l)),Bl true]):=by
 have q:Hq (∀w,Rt 149 #[sT ⟨(l.drop 1).toArray⟩,I J 2] w (Tp #[I J (gX l),sT ⟨(l.drop 3).toArray⟩])):=fun w=>by
  have:=zk (l.drop 1) 2 (by rw[dN];omega) oM w;rw[iD] at this;exact this
 have r:Hq (∀w,Rt 149 #[sT ⟨(l.drop 3).toArray⟩,I J 4] w (Tp #[I J (lK l),sT ⟨(l.drop 7).toArray⟩])):=fun w=>by
  have:=zk (l.drop 3) 4 (by rw[dN];omega) oM w;rw[iD] at this;exact this
 have s:Hq (∀w,Rt 149 #[sT ⟨(l.drop 7).toArray⟩,I J 1] w (Tp #[I J (rf l),sT ⟨(l.drop 8).toArray⟩])):=fun w=>by
  have:=zk (l.drop 7) 1 (by rw[dN];omega) oM w;rw[iD] at this;exact this
 go_enter func76,ntmps76
 refine au ?_;refine Ks.alloc rfl _ rfl (H (my 0 0 0)) kr (my 0 0 0) rfl ?_;intro w1 b1 p f b y;simp only[zD];refine kv (Bl false) ?_;refine kd (wp_seq ?_);refine wp_seq (kX (kv (sT ⟨l.toArray⟩) ?_));refine kv (I J (l.length:Int)) ?_;refine Ks.val rfl (Bl false) (by simp[execOp,go_sem,u]) ?_;simp only[zD];refine au ?_;refine wF kr _ _ rfl l 1 oM rfl rfl ?_;simp only[zD];refine ml kr (Bl false) (by simp[execOp,go_sem,zp,t]) ?_;simp only[zD];refine au ?_;refine Bp kr _ _ rfl l 1 oM rfl rfl ?_;simp only[zD];refine Ks.call rfl 149 #[sT ⟨(l.drop 1).toArray⟩,I J 2] kr ((q.o w1).mono fun e w' h=>⟨_,h.1,rfl,h.2⟩) (R:=fun v w'=>v=_/\O w1.heap.size w1 w') ?_;rintro v w2 ⟨rfl,a⟩;have g:=ca a f;have c:=tq b a;clear a f b;simp only[zD];refine au ?_;refine Ks.call rfl 149 #[sT ⟨(l.drop 3).toArray⟩,I J 4] kr ((r.o w2).mono fun e w' h=>⟨_,h.1,rfl,h.2⟩) (R:=fun v w'=>v=_/\O w2.heap.size w2 w') ?_;rintro v w3 ⟨rfl,a⟩;have i:=ca a g;have d:=tq c a;clear a g c;simp only[zD];refine au ?_;refine Ks.call rfl 149 #[sT ⟨(l.drop 7).toArray⟩,I J 1] kr ((s.o w3).mono fun e w' h=>⟨_,h.1,rfl,h.2⟩) (R:=fun v w'=>v=_/\O w3.heap.size w3 w') ?_;rintro v w4 ⟨rfl,a⟩;have m:=ca a i;have k:=tq d a;clear a i d;simp only[zD];refine kv (Tp #[I J (rf l),sT ⟨(l.drop 8).toArray⟩]) ?_;refine kv (I J (rf l)) ?_;refine kv (sT ⟨(l.drop 8).toArray⟩) ?_;refine kv (I J (rf l)) ?_;refine kv (sT ⟨(l.drop 8).toArray⟩) ?_;refine kd (wp_seq ?_);refine kX (kv (I J (gX l)) ?_);refine kv (I J (lK l)) ?_;refine kv (I J (rf l)) ?_;refine kv (H (my (gX l) (lK l) (rf l))) ?_;refine whole rfl _ _ _ rfl b1 (my (gX l) (lK l) (rf l)) rfl rfl m.o kr rfl (by simp[my,av]) ?_;intro w5 n j x H4;simp only[aD];refine kv (Bl true) ?_;refine kd (wp_ret ?_);repeat (refine kt ?_)
 exact Ww.pB results76 rfl b1 _ (my (gX l) (lK l) (rf l)) _ _ (Bl true) rfl rfl n.o underlying45 rfl kr ⟨rfl,k.o.trans ((j.o (fun _=>False) w.heap.size (oR (bO p.o.symm))).below lR (fun _ _ h=>h))⟩
theorem LS(k l:List UInt8)(n:Nat)(e:l.length=n+64)(g:n<=1000)(w:D)(c:kc w):Rt 150 #[sT ⟨k.toArray⟩,sT ⟨l.toArray⟩] w (Bl (ga k (l.take n) (l.drop n))):=by
 have d:Hq (∀w,kc w->Rt 52 #[sT ⟨k.toArray⟩,sT ⟨(l.take n).toArray⟩,sT ⟨(l.drop n).toArray⟩] w (Bl (ga k (l.take n) (l.drop n)))):=fun w c=>Gw.LR k (l.take n) (l.drop n) (by rw[List.length_take];omega) w c;obtain⟨b,a⟩:=eX (ga k (l.take n) (l.drop n));rw[<-a] at d⊢;clear a;go_enter func150,ntmps150
 refine wp_seq (kX (kv (Bl false) ?_));refine kd (wp_seq ?_);refine wp_seq (kX (kv (sT ⟨l.toArray⟩) ?_));refine kv (I J (l.length:Int)) ?_;refine Ks.val rfl (Bl false) (by simp[execOp,go_sem,e];omega) ?_;simp only[zD];refine kd (wp_cond_false rfl ?_);refine wp_skip (km ?_);refine wp_seq (kX (kv (sT ⟨l.toArray⟩) ?_));refine kv (I J (l.length:Int)) ?_;refine Ks.val rfl (I J (n:Int)) (by
  simp[execOp,go_sem,e];rw[IntWalk.i64_in _ ⟨oM,oM⟩]) ?_
 simp only[zD];refine au ?_;refine qj kr kr ?_;refine yw (sT ⟨k.toArray⟩) ?_;refine yw (sT ⟨l.toArray⟩) ?_;refine yV (I J (n:Int)) ?_;refine wO rfl _ _ rfl l n oM rfl rfl ?_;simp only[zD];refine yw (sT ⟨l.toArray⟩) ?_;refine yV (I J (n:Int)) ?_;refine wP rfl _ _ rfl l n oM rfl rfl ?_;simp only[zD];refine ev rfl 52 #[sT ⟨k.toArray⟩,sT ⟨(l.take n).toArray⟩,sT ⟨(l.drop n).toArray⟩] (Bl b) (fun _=>kr) (fun w' a=>d.o w' (c.below a c.lt)) ?_;simp only[zD];refine yV (Bl b) ?_;refine gh ?_;intro w2 f;refine km (wp_ret ?_);repeat (refine kt ?_)
 refine bodyPost_ret (v:=Bl b) kr rfl ?_;exact⟨rfl,f⟩
theorem JY{s:St}(h:gg S w g s)(l:List UInt8)(n:Nat)(i:l.length=n+64)(j:n<=1000)(k:kc w):Rt 77 #[X (Z ⟨g,0,Y⟩),sT ⟨l.toArray⟩] w (Bl (ga s.key (l.take n) (l.drop n))):=by
 obtain⟨_,vh,vd,vu,d,_⟩:=h;have f:w.cell? ⟨g,1,Y⟩=Z (sT ⟨s.key.toArray⟩):=fy d 1 rfl;have a:Hq _:=LS s.key l n i j w k;obtain⟨b,c⟩:=eX (ga s.key (l.take n) (l.drop n));rw[<-c] at a⊢;clear c d;go_enter func77,ntmps77
 refine wp_seq (kX (kv (Bl false) ?_));refine kd (wp_seq ?_);refine kX (kv (X (Z ⟨g,0,Y⟩)) ?_);refine kv (Bl true) ?_;refine kv (Bl true) ?_;refine kg (X (Z ⟨g,0,Y⟩)) ?_;refine kg (X (Z ⟨g,0,Y⟩)) ?_;refine kg (X (Z ⟨g,1,Y⟩)) ?_;refine Ks.pN kr _ _ rfl underlying9 rfl g 1 _ rfl f ?_;simp only[zD];refine kg (sT ⟨l.toArray⟩) ?_;refine pure kr 150 #[sT ⟨s.key.toArray⟩,sT ⟨l.toArray⟩] kr a.o ?_;intro w1 e;simp only[zD];refine Ks.val rfl (Bl b) (by cases b<;>kernel_rfl) ?_;simp only[zD];refine kv (Bl b) ?_;refine kd (wp_ret ?_);repeat (refine kt ?_)
 refine bodyPost_ret (v:=Bl b) kr rfl ?_;exact⟨rfl,e⟩
theorem XT(s:ByteArray)(w:D)(G:s.size<=281474976710656):Rt 157 #[.string s] w (.string s):=by
 by_cases f:s.size=0
 ·have y:s=⟨#[]⟩:=by
   apply ByteArray.ext;exact Array.eq_empty_of_size_eq_zero f
  subst y;go_enter func157,ntmps157
  go_wp2
  go_ret
  exact⟨rfl,Below.refl _ _⟩
 ·obtain⟨m,hi,A,d,B⟩:=info_parts (show(prog.info? 5).map (fun i=>(i.zero,i.size,i.bytes))=Z (Z (I .u8 0),1,1) by kernel_rfl)
  have u:(prog.info? 5).map (·.size)=Z 1:=by rw[hi];simp[d]
  have r:prog.cellsOf 5=1:=by simp[Program.cellsOf,hi,d]
  obtain⟨M,b⟩:=eX (madeCells (Value.int .u8 0).cells (((s.size:Nat):Int).toNat*m.size));have C:M.size=s.size:=by rw[b,size_madeCells,d];simp
  have H:∀W:D,(Instr.makeSlice 145 (I J (s.size:Int)) (I J (s.size:Int))).run prog W= .ok (.slice (Z ⟨W.heap.size,0,Y⟩) s.size s.size) (W.alloc (Cl M 5)):=fun W=>by
   have h:=run_make (P:=prog) W 145 5 m (I .u8 0) underlying145 hi A .i64 .i64 (s.size:Int) (s.size:Int) oM oM (by rw[B];omega) oM;rw[<-b] at h;simpa using h
  clear b;have t:=Lib.run_copy_row_string (P:=prog) (w.alloc (Cl M 5)) 145 9 3 5 w.heap.size 0 s.size s.size s M 5 underlying145 u (heap_alloc_new w _) lR oM;obtain⟨a,c⟩:=eX ((M.toList.take 0++iQ s.data.toList++M.toList.drop (0+s.size)).toArray);rw[<-c] at t;have g:a.toList=iQ s.data.toList:=by
   rw[c,List.toList_toArray,aE,List.nil_append,List.drop_of_length_le (by rw[bw];omega),List.append_nil]
  have E:a.size=s.size:=by rw[<-bw,g,Lib.byteCells_length,<-fU]
  have l:((w.alloc (Cl M 5)).setRow w.heap.size a).heap[w.heap.size]? =Z (Cl a 5 (0,0)):=setRow_heap _ _ M _ 5 (0,0) (heap_alloc_new w _);have v:s.data.toList≠ []:=fun e=>f (by rw[fU,e];rfl);have n:=Lib.run_unsafeString_row (P:=prog) ((w.alloc (Cl M 5)).setRow w.heap.size a) 313 3 9 5 underlying313 r w.heap.size a.size (by unfold World.shape?;rw[l]) s.data.toList v (by rw[<-fU];omega) (by rw[<-fU];omega)
   (fun j x z=>Lib.cells_of_row l a.size j _ (by rw[List.take_of_length_le (by rw[bw];exact Nat.le_refl _),g];simp[iQ,z]))
  rw[<-fU] at n;clear c;go_enter func157,ntmps157
  go_wp2
  go_ret
  have o:O w.heap.size w (w.alloc (Cl M 5)):=(Below.refl _ w).alloc lR _;have q:O w.heap.size (w.alloc (Cl M 5)) ((w.alloc (Cl M 5)).setRow w.heap.size a):=⟨rfl,rfl,rfl,sP,fun k F=>setRow_other _ _ _ _ oM⟩;exact⟨rfl,Lib.below_freeze (o.trans q) (p:=⟨w.heap.size,0,Y⟩) lR _⟩
theorem F8(l:List UInt8)(b:l.length<=281474976710656)(w:D):Rt 86 #[sT ⟨l.toArray⟩] w (sT ⟨l.toArray⟩):=by
 go_enter func86,ntmps86
 refine wp_seq (kX (kv (sT ⟨#[]⟩) ?_));refine kd (wp_seq ?_);refine kX (kv (sT ⟨l.toArray⟩) ?_);refine pure kr 157 #[sT ⟨l.toArray⟩] kr (XT ⟨l.toArray⟩ w (by exact b)) ?_;intro w1 a;simp only[zD];refine kv (sT ⟨l.toArray⟩) ?_;refine kd (wp_ret ?_);repeat (refine kt ?_)
 refine bodyPost_ret (v:=sT ⟨l.toArray⟩) kr rfl ?_;exact⟨rfl,a⟩
end Gt
namespace Gt
open Mp Bk Tk
theorem AY(n:Int)(w:D):Rt 84 #[I J n] w (Bl (gx 0 n 15)):=by
 go_enter func84,ntmps84
 refine au ?_;refine pure kr 123 #[I J 0,I J n,I J 15] kr (v:=Bl (gx 0 n 15)) ((xx 0 n 15 w).mono fun e w' h=>⟨h.1,by rw[h.2];exact Below.refl _ _⟩) ?_;intro w1 a;simp only[zD];refine kv (Bl (gx 0 n 15)) ?_;refine kd (wp_ret ?_);repeat (refine kt ?_)
 refine bodyPost_ret (v:=Bl (gx 0 n 15)) kr rfl ?_;exact⟨rfl,a⟩
theorem tJ{a b c:Int}(h:gx a b c=true):a<=b/\b<=c:=by
 unfold gx at h;simpa using h
theorem RS(n:Int)(k:List UInt8)(h:gx 0 n 15=false)(w:D):Rt 35 #[I J n,sT ⟨k.toArray⟩] w (Tp #[X Y,I J 2]):=by
 go_enter func35,ntmps35
 refine au ?_;refine pure kr 84 #[I J n] kr (AY n w) ?_;intro w1 a;rw[h];simp only[zD];refine kv (Bl true) ?_;refine kd (wp_cond_true rfl ?_);refine wp_seq (kX (kv (X Y) ?_));refine kv (I J 2) ?_;refine kd (wp_ret ?_);repeat (refine kt ?_)
 refine bodyPost_ret (v:=Tp #[X Y,I J 2]) kr rfl ?_;exact⟨rfl,a⟩
theorem RQ(n:Int)(k:List UInt8)(h:gx 0 n 15=true)(i:(lq k).2=false)(w:D):Rt 35 #[I J n,sT ⟨k.toArray⟩] w (Tp #[X Y,I J 3]):=by
 have d:Hq (∀w,Rt 85 #[sT ⟨k.toArray⟩] w (Tp #[H (pw (lq k).1),Bl (lq k).2])):=C6 k;obtain⟨p,j⟩:=eX ((lq k).1);rw[i,<-j] at d;clear i j;go_enter func35,ntmps35
 refine au ?_;refine pure kr 84 #[I J n] kr (AY n w) ?_;intro w1 f;rw[h];simp only[zD];refine au ?_;refine pure kr 85 #[sT ⟨k.toArray⟩] kr (d.o w1) ?_;intro w2 g;have a:=tq f g;clear f g;simp only[zD];refine au ?_;refine Ks.alloc rfl _ rfl (H oA) kr oA rfl ?_;intro w3 t s e c r;simp only[zD];refine whole rfl _ _ _ rfl t (pw p) rfl rfl e.o (by rw[nx];kernel_rfl) (by rw[nx];rfl) (uZ _) ?_;intro w4 q b l H4;have m:Hq (O w.heap.size w w4):=(tR a c).trans ((b.o (fun _=>False) w.heap.size (oR (by rw[s.o];exact a.o.size))).below lR (fun _ _ h=>h));clear a c e q b l H4 r;simp only[aD];refine kv (Bl false) ?_;refine kd (wp_seq ?_);refine kX (kv (Bl false) ?_);refine kv (Bl true) ?_;refine kd (wp_cond_true rfl ?_);refine wp_seq (kX (kv (X Y) ?_));refine kv (I J 3) ?_;refine kd (wp_ret ?_);repeat (refine kt ?_)
 refine bodyPost_ret (v:=Tp #[X Y,I J 3]) kr rfl ?_;exact⟨rfl,m.o⟩
theorem RT(n:Int)(k:List UInt8)(h:gx 0 n 15=true)(r:(lq k).2=true)(F:k.length<=281474976710656)(w:D):Calls prog 35 #[I J n,sT ⟨k.toArray⟩] w fun e w'=>∃v,e=Re v/\(∃g,v=Tp #[X (Z ⟨g,0,Y⟩),I J 0]/\gg (fun k=>w.heap.size<=k) w' g (St.new n k))/\O w.heap.size w w':=by
 have i:Hq (∀w,Rt 85 #[sT ⟨k.toArray⟩] w (Tp #[H (pw (lq k).1),Bl (lq k).2])):=C6 k;obtain⟨p,s⟩:=eX ((lq k).1);rw[r,<-s] at i;clear r s;go_enter func35,ntmps35
 refine au ?_;refine pure kr 84 #[I J n] kr (AY n w) ?_;intro w1 l;rw[h];simp only[zD];refine au ?_;refine pure kr 85 #[sT ⟨k.toArray⟩] kr (i.o w1) ?_;intro w2 m;have a:=tq l m;clear l m;simp only[zD];refine au ?_;refine Ks.alloc rfl _ rfl (H oA) kr oA rfl ?_;intro w3 C A j d z;simp only[zD];refine whole rfl _ _ _ rfl C (pw p) rfl rfl j.o (by rw[nx];kernel_rfl) (by rw[nx];rfl) (uZ _) ?_;intro w4 y c t H4;have f:Hq (O w.heap.size w w4):=(tR a d).trans ((c.o (fun _=>False) w.heap.size (oR (by rw[A.o];exact a.o.size))).below lR (fun _ _ h=>h));clear a d j y c t H4 z;simp only[aD];refine au ?_;refine pure kr 86 #[sT ⟨k.toArray⟩] kr (F8 k F w4) ?_;intro w5 q;have b:=tq f q;clear q f;simp only[zD];refine kv (H (pR (St.new n k) (.map Y) (.map Y) (.map Y))) ?_;refine Ks.box rfl _ _ rfl (pR (St.new n k) (.map Y) (.map Y) (.map Y)) rfl ?_;intro w6 g B x u G;simp only[zD];refine kv (X (Z ⟨g,0,Y⟩)) ?_;refine kv (I J 0) ?_;refine kd (wp_ret ?_);repeat (refine kt ?_)
 refine bodyPost_ret (v:=Tp #[X (Z ⟨g,0,Y⟩),I J 0]) kr rfl ?_;have E:w.heap.size<=g:=by rw[B.o];exact b.o.size
 exact⟨_,rfl,⟨g,rfl,E,_,_,_,x.o,oL ⟨rfl,rfl,rfl,rfl⟩⟩,b.o.trans (u.o.mono b.o.size)⟩
theorem gg.wH{s:St}(h:gg S w g s):w.cell? ⟨g,2,Y⟩=Z (I J s.own):=by
 obtain⟨_,vh,vd,vu,a,_⟩:=h;exact fy a 2 rfl
theorem gg.Fx{s:St}(h:gg S w g s):w.cell? ⟨g,0,Y⟩=Z (I J s.number):=by
 obtain⟨_,vh,vd,vu,a,_⟩:=h;exact fy a 0 rfl
def mu(s:St):Array Vl:= #[I J s.floor,I J s.own,I J s.l.length,I J (held s.l).length]
theorem Fh{s:St}(h:gg S w g s):Rt 66 #[X (Z ⟨g,0,Y⟩)] w (H (mu s)):=by
 have d:Hq (gg S w g s):=h;clear h;go_enter func66,ntmps66
 refine au ?_;refine Ks.alloc rfl _ rfl (H #[I J 0,I J 0,I J 0,I J 0]) kr #[I J 0,I J 0,I J 0,I J 0] rfl ?_;intro w1 b1 p j c n;have a:Hq (gg S w1 g s):=d.o.below c.o;clear d n;simp only[zD];refine kd (wp_seq ?_);refine wp_seq (kX (kv (X (Z ⟨g,0,Y⟩)) ?_));refine kv (Bl false) ?_;refine kd (wp_cond_false rfl ?_);refine wp_skip (km ?_);refine wp_seq (Qt.im 17 kr kr ?_);simp only[ak,aE];refine yw (X (Z ⟨g,0,Y⟩)) ?_;refine yw (X (Z ⟨g,0,Y⟩)) ?_;refine yV (X (Z ⟨g,3,Y⟩)) ?_;refine ev rfl 75 #[X (Z ⟨g,3,Y⟩)] (I J s.floor) (fun _=>kr) (fun w' b=>uJ (a.o.below b)) ?_;simp only[zD];refine yw (X (Z ⟨g,0,Y⟩)) ?_;refine yw (X (Z ⟨g,0,Y⟩)) ?_;refine yV (X (Z ⟨g,2,Y⟩)) ?_;refine mz rfl _ _ rfl underlying3 rfl g 2 (I J s.own) rfl a.o.lt a.o.wH ?_;simp only[zD];refine yw (X (Z ⟨g,0,Y⟩)) ?_;refine yw (X (Z ⟨g,0,Y⟩)) ?_;refine yV (X (Z ⟨g,3,Y⟩)) ?_;refine ev rfl 136 #[X (Z ⟨g,3,Y⟩)] (I J s.l.length) (fun _=>kr) (fun w' b=>Rj (a.o.below b)) ?_;simp only[zD];refine yw (X (Z ⟨g,0,Y⟩)) ?_;refine yw (X (Z ⟨g,0,Y⟩)) ?_;refine yV (X (Z ⟨g,3,Y⟩)) ?_;refine ev rfl 137 #[X (Z ⟨g,3,Y⟩)] (I J (held s.l).length) (fun _=>kr) (fun w' b=>Nn (a.o.below b)) ?_;simp only[zD];refine yV (H (mu s)) ?_;refine gh ?_;simp only[ax,aK];intro w2 e;have k:=ca e j;have i:=tq c e;refine whole rfl _ _ _ rfl b1 (mu s) rfl rfl k.o kr rfl (by simp[mu,av]) ?_;intro w3 m f q H4;simp only[aD];refine kd (wp_ret ?_);exact Own.jM results66 rfl b1 _ (mu s) _ _ rfl m.o underlying129 rfl kr ⟨rfl,i.o.trans ((f.o (fun _=>False) w.heap.size (oR (bO p.o.symm))).below lR (fun _ _ h=>h))⟩
theorem LJ{s:St}(h:gg S w g s)(l:List UInt8)(K:l.length<=281474976710656):Calls prog 144 #[X (Z ⟨g,0,Y⟩),I J (gX l),sT ⟨l.toArray⟩] w fun e w'=>∃v,e=Re v/\v=Tp #[]/\gg S w' g (s.raised l)/\Fr S w.heap.size w w':=by
 have j:Hq (gg S w g s):=h;have m:=h.1;clear h;obtain⟨F,hF⟩:=eX (gX l);rw[<-hF];go_enter func144,ntmps144
 refine wp_seq (kX (kv (X (Z ⟨g,0,Y⟩)) ?_));refine kv (X (Z ⟨g,0,Y⟩)) ?_;refine kv (X (Z ⟨g,3,Y⟩)) ?_;refine kv (I J F) ?_;refine Ks.call rfl 216 #[X (Z ⟨g,3,Y⟩),I J F] kr (LI j.o F) ?_;rintro v w1 ⟨rfl,t,p⟩;have k:Hq (gg S w1 g {s with floor:=F,l:=s.l.map (jn F)}):=t;have c:Hq (Fr S w.heap.size w w1):=p;clear t p j;simp only[zD];refine kd (kX (kv (X (Z ⟨g,0,Y⟩)) ?_));refine kv (sT ⟨l.toArray⟩) ?_;refine pure kr 86 #[sT ⟨l.toArray⟩] kr (F8 l K w1) ?_;intro w2 d;have B:Hq (gg S w2 g {s with floor:=F,l:=s.l.map (jn F)}):=k.o.below d;have y:Hq (Fr S w.heap.size w w2):=c.o.calls d c.o.size;clear d k c;simp only[zD];refine kv (X (Z ⟨g,0,Y⟩)) ?_;refine kv (X (Z ⟨g,7,Y⟩)) ?_;obtain⟨_,vh,vd,vu,q,r⟩:=B.o;have i:Hq _:=q;have A:Hq (Maps S w2 vh vd vu (s.l.map (jn F))):=r;clear q r;refine Ks.store rfl _ _ _ rfl g 7 _ rfl rfl i.o (by show 7<8;omega) kr rfl (pR {s with floor:=F,order:=l,l:=s.l.map (jn F)} vh vd vu) rfl ?_;intro w3 z x a H4;simp only[aD];go_wp2
 go_end0
 refine⟨_,rfl,rfl,⟨m,vh,vd,vu,?_,?_⟩,y.o.trans (x.o _ _ (oL m))⟩
 ·subst hF
  exact z.o
 ·subst hF
  rcases A.o with h|⟨D,bd,bu,lh,ld,lu,E,G,H,s1,s2,s3,n1,n2,n3,h1,h2,h3,C⟩
  ·exact oL h
  ·have f:∀{b:Nat}{u β:Type}{ke:u->Vl}{ve:β->Vl}{l:List (u×β)},Is w2 b ke ve l->b≠g:=fun h=>by
    obtain⟨_,_,n,_⟩:=h;rintro rfl;rw[i.o] at n;cases n
   exact oR ⟨D,bd,bu,lh,ld,lu,E,G,H,s1,s2,s3,n1,n2,n3,h1.congr (a.o _ (f h1)),h2.congr (a.o _ (f h2)),h3.congr (a.o _ (f h3)),C⟩
noncomputable abbrev nH(s:St)(t:List UInt8):Int×St:=fi ga s t
noncomputable abbrev mw(s:St)(t:List UInt8):Int×St:=ki ga s t
theorem gg.mono{T:Nat->Prop}{s:St}(h:gg S w g s)(a:∀k,S k->T k):gg T w g s:=h.congr a fun _ _ _=>rfl
theorem Maps.stored{w':D}{vh vd vu:Vl}{l:List It}(h:Maps S w vh vd vu l){cs:Array Vl}{t:TypeId}{fr:Nat×Nat}(o:w.heap[g]? =Z (Cl cs t fr))(c:∀k,k≠g->w'.heap[k]? =w.heap[k]?):Maps S w' vh vd vu l:=by
 rcases h with h|⟨i,bd,bu,lh,ld,lu,j,m,n,s1,s2,s3,n1,n2,n3,h1,h2,h3,f⟩
 ·exact oL h
 ·have a:∀{b:Nat}{e β:Type}{ke:e->Vl}{ve:β->Vl}{l:List (e×β)},Is w b ke ve l->b≠g:=fun h=>by
   obtain⟨_,_,d,_⟩:=h;rintro rfl;rw[o] at d;cases d
  exact oR ⟨i,bd,bu,lh,ld,lu,j,m,n,s1,s2,s3,n1,n2,n3,h1.congr (c _ (a h1)),h2.congr (c _ (a h2)),h3.congr (c _ (a h3)),f⟩
theorem Uc{s:St}(_h:gg S w g s)(l:List UInt8)(k:l.length≠72\/l.head? ≠Z 84):Rt 31 #[X (Z ⟨g,0,Y⟩),sT ⟨l.toArray⟩] w (I J 4):=by
 go_enter func31,ntmps31
 refine au ?_;refine pure kr 76 #[sT ⟨l.toArray⟩] kr (Yu l k w) ?_;intro w1 a;simp only[zD];refine au ?_;refine Ks.alloc rfl _ rfl (H (my 0 0 0)) kr (my 0 0 0) rfl ?_;intro w2 j i d c n;simp only[zD];refine whole rfl _ _ _ rfl j (my 0 0 0) rfl rfl d.o kr rfl (by simp[my,av]) ?_;intro w3 m b e H4;have f:Hq (O w.heap.size w w3):=(tR a c).trans ((b.o (fun _=>False) w.heap.size (oR (by rw[i.o];exact a.size))).below lR (fun _ _ h=>h));clear a c d b e H4;simp only[aD];refine kv (Bl false) ?_;refine kd (wp_seq ?_);refine wp_seq (kX (kv (Bl false) ?_));refine kv (Bl true) ?_;refine kd (wp_cond_true rfl ?_);refine wp_seq (kX (kv (I J 4) ?_));refine kd (wp_ret ?_);repeat (refine kt ?_)
 refine bodyPost_ret (v:=I J 4) kr rfl ?_;exact⟨rfl,f.o⟩
theorem Sy{s:St}(h:gg S w g s)(hI:Inv s)(l:List UInt8)(hl:l.length=72)(hh:l.head? =Z 84)(ht:kc w):Calls prog 31 #[X (Z ⟨g,0,Y⟩),sT ⟨l.toArray⟩] w fun e w'=>e=Re (I J (nH s l).1)/\gg (fun k=>S k\/w.heap.size<=k) w' g (nH s l).2/\Fr S w.heap.size w w':=by
 have HP:Hq (gg (fun k=>S k/\k<w.heap.size) w g s):=h.cut lR;have hS:=h.1;have B:∀k,(S k/\k<w.heap.size)->S k\/w.heap.size<=k:=fun k h=>oL h.1;have W:Hq (kc w):=ht;have a:Hq (nH s l=_):=show fi ga s l=_ by
  unfold fi;rw[if_neg (by simp[hl,hh])]
 clear h ht;go_enter func31,ntmps31
 refine au ?_;refine pure kr 76 #[sT ⟨l.toArray⟩] kr (Yj l hl hh w) ?_;intro w1 C;simp only[zD];refine au ?_;refine Ks.alloc rfl _ rfl (H (my 0 0 0)) kr (my 0 0 0) rfl ?_;intro w2 d a6 b8 a8 e7;simp only[zD];refine whole rfl _ _ _ rfl d (my (gX l) (lK l) (rf l)) rfl rfl b8.o kr rfl (by simp[my,av]) ?_;intro w3 c0 b c H4;have q:Hq (O w.heap.size w w3):=(tR C a8).trans ((b.o (fun _=>False) w.heap.size (oR (by rw[a6.o];exact C.size))).below lR (fun _ _ h=>h));have N:Hq (gg (fun k=>S k/\k<w.heap.size) w3 g s):=HP.o.below q.o;have c8:Hq (kc w3):=W.o.below q.o W.o.lt;have h0:w.heap.size<=d:=by rw[a6.o];exact C.size
 clear C a8 b8 b c H4 HP W a6 e7;simp only[aD];refine au ?_;obtain⟨R,hR⟩:=eX (ga s.key (l.take 8) (l.drop 8));rw[<-hR] at a;refine pure kr 77 #[X (Z ⟨g,0,Y⟩),sT ⟨l.toArray⟩] kr (v:=Bl R) (by rw[hR];exact JY N.o l 8 hl oM c8.o) ?_;intro w4 D;have G:=tq q D;have u:Hq (gg (fun k=>S k/\k<w.heap.size) w4 g s):=N.o.below D;have y:=ca D c0;clear D q N c0 c8 hR;simp only[zD];cases R with
 |false=>
  refine kv (Bl true) ?_;refine kd (wp_cond_true rfl ?_);refine wp_seq (kX (kv (I J 5) ?_));refine kd (wp_ret ?_);repeat (refine kt ?_)
  refine bodyPost_ret (v:=I J 5) kr rfl ?_;rw[a.o,if_pos rfl];exact⟨rfl,u.o.mono B,Fr.kq G.o lR⟩
 |true=>
  rw[if_neg dc] at a;refine au ?_;refine qj kr kr ?_;refine yV (X (Z ⟨d,0,Y⟩)) ?_;refine mz rfl _ _ rfl underlying3 rfl d 0 (I J (gX l)) rfl (aL y.o) (fy y.o 0 rfl) ?_;simp only[zD];refine yw (X (Z ⟨g,0,Y⟩)) ?_;refine yw (X (Z ⟨g,0,Y⟩)) ?_;refine yV (X (Z ⟨g,3,Y⟩)) ?_;refine ev rfl 75 #[X (Z ⟨g,3,Y⟩)] (I J s.floor) (fun _=>kr) (fun w' hb=>uJ (u.o.below hb)) ?_;simp only[zD];refine yV (Bl (decide (gX l<s.floor))) ?_;refine gh ?_;intro w5 E;have j:=tq G E;have P:Hq (gg (fun k=>S k/\k<w.heap.size) w5 g s):=u.o.below E;have T:=ca E y;clear E G u y;refine km ?_;refine wp_cond_split rfl ?_ ?_
  ·intro f
   have f:=of_decide_eq_true f;refine wp_seq (kX (kv (I J 6) ?_));refine kd (wp_ret ?_);repeat (refine kt ?_)
   refine bodyPost_ret (v:=I J 6) kr rfl ?_;rw[a.o,if_pos f];exact⟨rfl,P.o.mono B,Fr.kq j.o lR⟩
  ·intro f
   have f:=of_decide_eq_false f;rw[if_neg f] at a;refine wp_skip (km ?_);refine wp_seq (kX (kv (X (Z ⟨d,0,Y⟩)) ?_));refine Ks.cell rfl _ _ rfl underlying3 rfl d 0 (I J (gX l)) rfl (fy T.o 0 rfl) ?_;simp only[zD];refine kv (X (Z ⟨d,1,Y⟩)) ?_;refine Ks.cell rfl _ _ rfl underlying3 rfl d 1 (I J (lK l)) rfl (fy T.o 1 rfl) ?_;simp only[zD];refine kv (two (gX l,lK l)) ?_;refine Ks.alloc rfl _ rfl (H #[I J 0,I J 0]) kr #[I J 0,I J 0] rfl ?_;intro w6 A z c4 K e9;simp only[zD];refine whole rfl _ _ _ rfl A #[I J (gX l),I J (lK l)] rfl rfl c4.o kr rfl (by simp[av]) ?_;intro w7 V b c H4;have b0:Hq (O w.heap.size w w7):=(tR j K).trans ((b.o (fun _=>False) w.heap.size (oR (by rw[z.o];exact j.o.size))).below lR (fun _ _ h=>h));have Q:Hq (gg (fun k=>S k/\k<w.heap.size) w7 g s):=(P.o.below K.o).congr (fun _ h=>h) fun k hk _=>c.o k (by rw[z.o];have:=hk.2;have:=j.o.size;omega);have h4:w.heap.size<=A:=by rw[z.o];exact j.o.size
   clear b c H4 c4 K e9 j P T z;simp only[aD];refine au ?_;obtain⟨U,hU⟩:=eX (decide (∃x∈held s.l,x.pass=(gX l,lK l)));refine qj kr kr ?_;refine yw (X (Z ⟨g,0,Y⟩)) ?_;refine yw (X (Z ⟨g,0,Y⟩)) ?_;refine yV (X (Z ⟨g,3,Y⟩)) ?_;refine nn rfl _ _ rfl _ rfl _ _ _ _ V.o underlying150 rfl kr ?_;simp only[zD];refine ev rfl 78 #[X (Z ⟨g,3,Y⟩),two (gX l,lK l)] (Bl U) (fun _=>by unfold two;kernel_rfl) (fun w' hb=>by rw[hU];exact Of (Q.o.below hb) (gX l,lK l)) ?_;simp only[zD];refine gh ?_;intro w8 F;have r:=tq b0 F;have m:Hq (gg (fun k=>S k/\k<w.heap.size) w8 g s):=Q.o.below F;have c6:=ca F V;clear F b0 Q V;refine km ?_;refine wp_cond_split rfl ?_ ?_
   ·intro hu
    have hu:=of_decide_eq_true (hU▸hu);refine wp_seq (kX (kv (I J 7) ?_));refine kd (wp_ret ?_);repeat (refine kt ?_)
    refine bodyPost_ret (v:=I J 7) kr rfl ?_;rw[a.o,if_pos hu];exact⟨rfl,m.o.mono B,Fr.kq r.o lR⟩
   ·intro hu
    have hu:=of_decide_eq_false (hU▸hu);rw[if_neg hu] at a;refine wp_skip (km ?_);refine wp_seq (wp_seq ?_);refine kX (kv (X (Z ⟨g,0,Y⟩)) ?_);refine kv (X (Z ⟨g,0,Y⟩)) ?_;refine kv (X (Z ⟨g,2,Y⟩)) ?_;refine Ks.cell rfl _ _ rfl underlying3 rfl g 2 (I J s.own) rfl m.o.wH ?_;simp only[zD];refine au ?_;refine wp_cond_split rfl ?_ ?_
    ·intro i
     have i:=of_decide_eq_true i;refine wp_seq (kX (kv (I J 8) ?_));refine kd (wp_ret ?_);repeat (refine kt ?_)
     refine bodyPost_ret (v:=I J 8) kr rfl ?_;rw[a.o,if_pos i];exact⟨rfl,m.o.mono B,Fr.kq r.o lR⟩
    ·intro i
     have i:=of_decide_eq_false i;rw[if_neg i] at a;refine wp_skip (km ?_);refine wp_seq (kX (kv (X (Z ⟨g,0,Y⟩)) ?_));refine kv (X (Z ⟨g,0,Y⟩)) ?_;refine kv (X (Z ⟨g,2,Y⟩)) ?_;refine Ks.cell rfl _ _ rfl underlying3 rfl g 2 (I J s.own) rfl m.o.wH ?_;simp only[zD];refine Ks.val rfl (I J (s.own+1)) (by
      have h1:=hI.own;simp[execOp,go_sem];exact IntWalk.i64_in _ ⟨oM,oM⟩) ?_
     simp only[zD];refine kv (X (Z ⟨g,0,Y⟩)) ?_;refine kv (X (Z ⟨g,2,Y⟩)) ?_;obtain⟨c9,vh,vd,vu,e2,e3⟩:=m.o;have M:Hq _:=e2;have b3:Hq (Maps (fun k=>S k/\k<w.heap.size) w8 vh vd vu s.l):=e3;clear e2 e3 m;refine Ks.store rfl _ _ _ rfl g 2 _ rfl rfl M.o (by show 2<8;omega) kr rfl (pR {s with own:=s.own+1} vh vd vu) rfl ?_;intro w9 b1 b c H4;have n:Hq (gg (fun k=>S k/\k<w.heap.size) w9 g {s with own:=s.own+1}):=⟨c9,vh,vd,vu,b1.o,b3.o.stored M.o c.o⟩;have L:Hq (Fr S w.heap.size w w9):=(Fr.kq r.o lR).trans (b.o _ _ (oL hS));have c7:Hq (w9.heap[A]? =_):=(c.o A (by have:=c9.2;omega)).trans c6.o;clear b c H4 b1 b3 M r c6;simp only[aD];refine au ?_;refine Qt.im 13 kr kr ?_;simp only[ak,aE];refine yw (X (Z ⟨g,0,Y⟩)) ?_;refine yw (X (Z ⟨g,0,Y⟩)) ?_;refine yw (X (Z ⟨g,3,Y⟩)) ?_;refine yw (X (Z ⟨g,0,Y⟩)) ?_;refine yw (X (Z ⟨g,0,Y⟩)) ?_;refine yV (X (Z ⟨g,0,Y⟩)) ?_;refine mz rfl _ _ rfl underlying3 rfl g 0 (I J s.number) rfl n.o.lt n.o.Fx ?_;simp only[zD];refine yw (X (Z ⟨g,0,Y⟩)) ?_;refine yw (X (Z ⟨g,0,Y⟩)) ?_;refine yV (X (Z ⟨g,2,Y⟩)) ?_;refine mz rfl _ _ rfl underlying3 rfl g 2 (I J (s.own+1)) rfl n.o.lt n.o.wH ?_;simp only[zD];refine yV (two (s.number,s.own+1)) ?_;refine nn rfl _ _ rfl _ rfl _ _ _ _ c7.o underlying150 rfl kr ?_;simp only[zD];refine gh ?_;simp only[ax,aK];intro p a7;have b7:Hq (gg (fun k=>S k/\k<w.heap.size) p g {s with own:=s.own+1}):=n.o.below a7;have t:Hq (Fr S w.heap.size w p):=L.o.calls a7 L.o.size;clear a7 n L c7;refine Ks.call rfl 79 #[X (Z ⟨g,3,Y⟩),two (s.fresh l).key,two (s.fresh l).pass] (by unfold two;kernel_rfl) (R:=fun v w'=>v=Tp #[]/\gg (fun k=>(S k/\k<w.heap.size)\/p.heap.size<=k) w' g {s with own:=s.own+1,l:=ins (s.fresh l) s.l}/\Fr (fun k=>S k/\k<w.heap.size) p.heap.size p w') ((Ei b7.o (s.fresh l) (KR hI l) rfl).mono fun e w' h=>⟨_,h.1,rfl,h.2.1,h.2.2⟩) ?_;rintro v w11 ⟨rfl,e4,e1⟩;have e5:Hq (Fr S w.heap.size w w11):=t.o.trans (e1.mono t.o.size fun k _ h=>h.1);have e6:Hq (gg (fun k=>S k\/w.heap.size<=k) w11 g {s with own:=s.own+1,l:=ins (s.fresh l) s.l}):=e4.mono fun k hk=>hk.imp (fun h=>h.1) (Nat.le_trans t.o.size);clear e4 e1 t b7;simp only[zD];refine kd (wp_seq ?_);refine kX (kv (I J 0) ?_);refine kd (wp_ret ?_);repeat (refine kt ?_)
     refine bodyPost_ret (v:=I J 0) kr rfl ?_;rw[a.o];exact⟨rfl,e6.o,e5.o⟩
theorem Qv{s:St}(h:gg S w g s)(d:Inv s)(l:List UInt8)(i:kc w):Calls prog 31 #[X (Z ⟨g,0,Y⟩),sT ⟨l.toArray⟩] w fun e w'=>e=Re (I J (nH s l).1)/\gg (fun k=>S k\/w.heap.size<=k) w' g (nH s l).2/\Fr S w.heap.size w w':=by
 by_cases a:l.length≠72\/l.head? ≠Z 84
 ·refine(Uc h l a).mono ?_
  rintro e w' ⟨rfl,b⟩;have c:nH s l=(4,s):=if_pos a;rw[c];exact⟨rfl,(h.below b).mono fun k f=>oL f,Fr.kq b lR⟩
 ·have h1:l.length=72:=by
   apply bt;exact fun x=>a (oL x)
  have h2:l.head? =Z 84:=by
   apply bt;exact fun x=>a (oR x)
  exact Sy h d l h1 h2 i
theorem Ux(g:Nat)(l:List UInt8)(b:l.length≠67\/l.head? ≠Z 67)(w:D):Rt 71 #[X (Z ⟨g,0,Y⟩),sT ⟨l.toArray⟩] w (I J 4):=by
 go_enter func71,ntmps71
 refine au ?_;refine pure kr 143 #[sT ⟨l.toArray⟩] kr (WI l b w) ?_;intro w1 a;simp only[zD];refine kv (Tp #[I J 0,Bl false]) ?_;refine kv (I J 0) ?_;refine kv (Bl false) ?_;refine kv (I J 0) ?_;refine kv (Bl false) ?_;refine kd (wp_seq ?_);refine wp_seq (kX (kv (Bl false) ?_));refine kv (Bl true) ?_;refine kd (wp_cond_true rfl ?_);refine wp_seq (kX (kv (I J 4) ?_));refine kd (wp_ret ?_);repeat (refine kt ?_)
 refine bodyPost_ret (v:=I J 4) kr rfl ?_;exact⟨rfl,a⟩
theorem SB{s:St}(h:gg S w g s)(l:List UInt8)(q:l.length=67)(y:l.head? =Z 67)(z:kc w):Calls prog 71 #[X (Z ⟨g,0,Y⟩),sT ⟨l.toArray⟩] w fun e w'=>e=Re (I J (mw s l).1)/\gg S w' g (mw s l).2/\Fr S w.heap.size w w':=by
 have t:Hq (gg S w g s):=h;have k:Hq (kc w):=z;have b:Hq (mw s l=_):=show ki ga s l=_ by
  unfold ki;rw[if_neg (by simp[q,y])]
 clear h z;go_enter func71,ntmps71
 refine au ?_;refine pure kr 143 #[sT ⟨l.toArray⟩] kr (Yt l q y w) ?_;intro w1 d;have j:Hq (gg S w1 g s):=t.o.below d;have x:Hq (kc w1):=k.o.below d k.o.lt;have r:Hq (O w.heap.size w w1):=d;clear d t k;simp only[zD];refine au ?_;obtain⟨R,m⟩:=eX (ga s.key (l.take 3) (l.drop 3));rw[<-m] at b;refine pure kr 77 #[X (Z ⟨g,0,Y⟩),sT ⟨l.toArray⟩] kr (v:=Bl R) (by rw[m];exact JY j.o l 3 q oM x.o) ?_;intro w2 n;have c:Hq (gg S w2 g s):=j.o.below n;have f:=tq r n;clear n j x r m;simp only[zD];cases R with
 |false=>
  refine kv (Bl true) ?_;refine kd (wp_cond_true rfl ?_);refine wp_seq (kX (kv (I J 5) ?_));refine kd (wp_ret ?_);repeat (refine kt ?_)
  refine bodyPost_ret (v:=I J 5) kr rfl ?_;rw[b.o,if_pos rfl];exact⟨rfl,c.o,Fr.kq f.o lR⟩
 |true=>
  rw[if_neg dc] at b;refine kv (Bl false) ?_;refine kd (wp_cond_false rfl ?_);refine wp_skip (km ?_);refine wp_seq (wp_seq ?_);refine kX (kv (I J (gX l)) ?_);refine kv (X (Z ⟨g,0,Y⟩)) ?_;refine kv (X (Z ⟨g,0,Y⟩)) ?_;refine kv (X (Z ⟨g,3,Y⟩)) ?_;refine pure kr 75 #[X (Z ⟨g,3,Y⟩)] kr (uJ c.o) ?_;intro w3 p;have u:Hq (gg S w3 g s):=c.o.below p;have i:=tq f p;clear p c f;simp only[zD];refine kv (Bl (decide (gX l<=s.floor))) ?_;refine kd ?_;refine wp_cond_split rfl ?_ ?_
  ·intro a
   have a:=of_decide_eq_true a;refine wp_seq (kX (kv (I J 6) ?_));refine kd (wp_ret ?_);repeat (refine kt ?_)
   refine bodyPost_ret (v:=I J 6) kr rfl ?_;rw[b.o,if_pos a];exact⟨rfl,u.o,Fr.kq i.o lR⟩
  ·intro a
   have a:=of_decide_eq_false a;rw[if_neg a] at b;refine au ?_;refine Ks.call rfl 144 #[X (Z ⟨g,0,Y⟩),I J (gX l),sT ⟨l.toArray⟩] kr (LJ u.o l oM) ?_;rintro v w4 ⟨rfl,B,A⟩;simp only[zD];refine kd (wp_seq ?_);refine kX (kv (I J 0) ?_);refine kd (wp_ret ?_);repeat (refine kt ?_)
   refine bodyPost_ret (v:=I J 0) kr rfl ?_;rw[b.o];exact⟨rfl,B,(Fr.kq i.o lR).trans (A.mono i.o.size fun _ _ h=>h)⟩
theorem F9{s:St}(h:gg S w g s)(l:List UInt8)(d:kc w):Calls prog 71 #[X (Z ⟨g,0,Y⟩),sT ⟨l.toArray⟩] w fun e w'=>e=Re (I J (mw s l).1)/\gg S w' g (mw s l).2/\Fr S w.heap.size w w':=by
 by_cases a:l.length≠67\/l.head? ≠Z 67
 ·refine(Ux g l a w).mono ?_
  rintro e w' ⟨rfl,b⟩;have c:mw s l=(4,s):=if_pos a;rw[c];exact⟨rfl,h.below b,Fr.kq b lR⟩
 ·have h1:l.length=67:=by
   apply bt;exact fun x=>a (oL x)
  have h2:l.head? =Z 67:=by
   apply bt;exact fun x=>a (oR x)
  exact SB h l h1 h2 d
