/- Walks of the program's signing: timesBase. Plain mathematics: SHA-512 as the document tells it, on lists of bytes and words of 64 bits. It imports nothing of the program. Walks of the program's own small functions of the hash: RotateLeft64, right, turn, spreadEarly, spreadLate, word, putWord. Walks of the document's own small functions of the hash: turn, word, bytes, roots, cubes. Walks of the program's hash: schedule, mix, take, finish, sum, start, Of. -/
import Derived.Test.YtbojijefenfbgaaGreatDoorAaWideD
import Derived.Great.BuildSlice
import Derived.StillTailTactics
open List renaming getD_eq_getElem?_getD->aG,take_succ_eq_append_getElem->cR
open Go.IntKind renaming u64->bl,wrap_u64->cN,i64->cI
open Nat renaming shiftLeft_eq->dP,zero_le->aF
open Go.IntWalk renaming i64_in->az
open Option renaming some->Z,none->Y
open Go.Value renaming int->I,pointer->X,agg->H,string->sT,tuple->Tp
open Go.IntKind renaming i64->J,u64->Uq
open Go.Obj renaming cells->Cl
open Go.Ending renaming returned->Re
open Go renaming World->D,Value->Vl
open Go.RowKit renaming Below->O
set_option maxHeartbeats 4000000
open Go Go.RowKit
open Go.Proofs.YtbojijefenfbgaaGreatDoor
open UV(ni nX ot nM nj mW mE mZ nY om nW yN Jg wu)
open Own(dk mn nv jI mX Dl zL nJ lA qz qy rb jM)
variable{b m:Nat}{bs:Nat->UInt8}{u v w:D}
namespace Go.Proofs.YtbojijefenfbgaaGreatDoor
open Tryz
namespace Gw
open Fw Bt Ww Sw Cw Ed
theorem Cr(e:E):∃v0 k r v3 v4 v5 s u v v9 l m n o p q:Vl,pw e= #[v0,k,r,v3,v4,v5,s,u,v,v9,l,m,n,o,p,q]:=by
 obtain⟨a0,a1,a2,a3,h,_⟩:=sW e.x;obtain⟨a,b1,b,c,i,_⟩:=sW e.y;obtain⟨c0,d,f,g,j,_⟩:=sW e.z;obtain⟨d0,d1,d2,d3,hd,_⟩:=sW e.t;refine⟨a0,a1,a2,a3,a,b1,b,c,c0,d,f,g,d0,d1,d2,d3,?_⟩;rw[rz,h,i,j,hd];rfl
theorem Uo(q:Q)(e:E):prog.built 192 [(0,H q.cells),(1,H (pw e))]=Z (tw (q,e)):=by
 unfold tw;obtain⟨v0,a,j,v3,v4,v5,k,l,m,v9,b,c,d,f,g,i,h⟩:=Cr e;simp only[h];kernel_rfl
theorem ID{W:D}{K:Act->Prop}{l:List Oper}{o:Oper}{a:Act}(d:o.guard=Y)(b:Array (Nat×Operand))(f:o.op= .build 192 b)(q:Q)(e:E)(c:(b.map fun(i,x)=>(i,a.eval x)).toList=[(0,H q.cells),(1,H (pw e))])
  (h:Qt.Lex prog W K l (a.put o.dst (H (tw (q,e))))):Qt.Lex prog W K (o::l) a:=by
 refine Qt.kb d (H (tw (q,e))) (fun w' _=> ?_) h;have g:=run_build (P:=prog) w' 192 (b.map fun(i,x)=>(i,a.eval x)) (tw (q,e)) (by rw[c];exact Uo q e);unfold execOp;simp only[f,Sem.run_bind,Sem.run_pure,Result.andThen_ok,g]
theorem UQ(t u:Q×E):Instr.fill (fun i=>Z (i*20,20)) ((Array.range (2*20)).map ((Value.agg oC).cells[· % (Value.agg oC).cells.size]!)) [(0,H (tw t)),(1,H (tw u))]=Z (tw t++tw u):=by
 unfold tw;obtain⟨v0,p,y,v3,v4,v5,z,A,B,v9,q,r,s,v,w,x,h⟩:=Cr t.2;obtain⟨b,u1,u2,u3,k,l,m,u7,n,o,c,d,e,f,g,j,a⟩:=Cr u.2;simp only[h,a];kernel_rfl
end Gw
namespace Sha
def lV(x:BitVec 64)(n:Nat):BitVec 64:=x>>>n|||x<<<(64-n)
def BC(x:BitVec 64):BitVec 64:=lV x 1^^^lV x 8^^^x>>>7
def AZ(x:BitVec 64):BitVec 64:=lV x 19^^^lV x 61^^^x>>>6
def Wg(x:BitVec 64):BitVec 64:=lV x 14^^^lV x 18^^^lV x 41
def Wf(x:BitVec 64):BitVec 64:=lV x 28^^^lV x 34^^^lV x 39
def ch(e f g:BitVec 64):BitVec 64:=(e&&&f)^^^(~~~ e&&&g)
def Sa(a b c:BitVec 64):BitVec 64:=(a&&&b)^^^(a&&&c)^^^(b&&&c)
def more(x:BitVec 64)(c:UInt8):BitVec 64:=256#64*x+BitVec.ofNat 64 c.toNat
def qi(l:List UInt8):BitVec 64:=l.foldl more 0#64
def rB(l:List UInt8)(p:Nat):BitVec 64:=qi ((l.drop p).take 8)
def byteOf(x:BitVec 64)(i:Nat):UInt8:=UInt8.ofNat (x>>>(56-8*i)).toNat
def bytesOf(x:BitVec 64):List UInt8:=[byteOf x 0,byteOf x 1,byteOf x 2,byteOf x 3,byteOf x 4,byteOf x 5,byteOf x 6,byteOf x 7]
def uE(b:Nat->BitVec 64)(l:List (BitVec 64))(n:Nat):BitVec 64:=
 if n<16 then b n else AZ (l.getD (n-2) 0#64)+l.getD (n-7) 0#64+BC (l.getD (n-15) 0#64)+l.getD (n-16) 0#64
def wl(b:Nat->BitVec 64):Nat->List (BitVec 64)
 |0=>[]
 |n+1=>wl b n++[uE b (wl b n) n]
def W(b:Nat->BitVec 64)(n:Nat):BitVec 64:=uE b (wl b n) n
structure St where
 a:BitVec 64
 b:BitVec 64
 c:BitVec 64
 d:BitVec 64
 e:BitVec 64
 f:BitVec 64
 g:BitVec 64
 h:BitVec 64
def St.list(s:St):List (BitVec 64):=[s.a,s.b,s.c,s.d,s.e,s.f,s.g,s.h]
def St.add(s t:St):St:=⟨s.a+t.a,s.b+t.b,s.c+t.c,s.d+t.d,s.e+t.e,s.f+t.f,s.g+t.g,s.h+t.h⟩
def Ia(s:St)(k w:BitVec 64):BitVec 64:=s.h+Wg s.e+ch s.e s.f s.g+k+w
def U2(s:St):BitVec 64:=Wf s.a+Sa s.a s.b s.c
def round(s:St)(k w:BitVec 64):St:=⟨Ia s k w+U2 s,s.a,s.b,s.c,s.d+Ia s k w,s.e,s.f,s.g⟩
def start:St:=⟨0x6a09e667f3bcc908#64,0xbb67ae8584caa73b#64,0x3c6ef372fe94f82b#64,0xa54ff53a5f1d36f1#64,0x510e527fade682d1#64,0x9b05688c2b3e6c1f#64,0x1f83d9abfb41bd6b#64,0x5be0cd19137e2179#64⟩
def K:List (BitVec 64):=[
 0x428a2f98d728ae22#64,0x7137449123ef65cd#64,0xb5c0fbcfec4d3b2f#64,0xe9b5dba58189dbbc#64,
 0x3956c25bf348b538#64,0x59f111f1b605d019#64,0x923f82a4af194f9b#64,0xab1c5ed5da6d8118#64,
 0xd807aa98a3030242#64,0x12835b0145706fbe#64,0x243185be4ee4b28c#64,0x550c7dc3d5ffb4e2#64,
 0x72be5d74f27b896f#64,0x80deb1fe3b1696b1#64,0x9bdc06a725c71235#64,0xc19bf174cf692694#64,
 0xe49b69c19ef14ad2#64,0xefbe4786384f25e3#64,0x0fc19dc68b8cd5b5#64,0x240ca1cc77ac9c65#64,
 0x2de92c6f592b0275#64,0x4a7484aa6ea6e483#64,0x5cb0a9dcbd41fbd4#64,0x76f988da831153b5#64,
 0x983e5152ee66dfab#64,0xa831c66d2db43210#64,0xb00327c898fb213f#64,0xbf597fc7beef0ee4#64,
 0xc6e00bf33da88fc2#64,0xd5a79147930aa725#64,0x06ca6351e003826f#64,0x142929670a0e6e70#64,
 0x27b70a8546d22ffc#64,0x2e1b21385c26c926#64,0x4d2c6dfc5ac42aed#64,0x53380d139d95b3df#64,
 0x650a73548baf63de#64,0x766a0abb3c77b2a8#64,0x81c2c92e47edaee6#64,0x92722c851482353b#64,
 0xa2bfe8a14cf10364#64,0xa81a664bbc423001#64,0xc24b8b70d0f89791#64,0xc76c51a30654be30#64,
 0xd192e819d6ef5218#64,0xd69906245565a910#64,0xf40e35855771202a#64,0x106aa07032bbd1b8#64,
 0x19a4c116b8d2d0c8#64,0x1e376c085141ab53#64,0x2748774cdf8eeb99#64,0x34b0bcb5e19b48a8#64,
 0x391c0cb3c5c95a63#64,0x4ed8aa4ae3418acb#64,0x5b9cca4f7763e373#64,0x682e6ff3d6b2b8a3#64,
 0x748f82ee5defb2fc#64,0x78a5636f43172f60#64,0x84c87814a1f0ab72#64,0x8cc702081a6439ec#64,
 0x90befffa23631e28#64,0xa4506cebde82bde9#64,0xbef9a3f7b2c67915#64,0xc67178f2e372532b#64,
 0xca273eceea26619c#64,0xd186b8c721c0c207#64,0xeada7dd6cde0eb1e#64,0xf57d4f7fee6ed178#64,
 0x06f067aa72176fba#64,0x0a637dc5a2c898a6#64,0x113f9804bef90dae#64,0x1b710b35131c471b#64,
 0x28db77f523047d84#64,0x32caab7b40c72493#64,0x3c9ebe0a15c9bebc#64,0x431d67c49c100d4c#64,
 0x4cc5d4becb3e42b6#64,0x597f299cfc657e2a#64,0x5fcb6fab3ad6faec#64,0x6c44198c4a475817#64]
def se(n:Nat):BitVec 64:=K.getD n 0#64
def rounds(b:Nat->BitVec 64)(s:St):Nat->St
 |0=>s
 |n+1=>round (rounds b s n) (se n) (W b n)
def compress(s:St)(b:Nat->BitVec 64):St:=s.add (rounds b s 80)
def od(l:List UInt8)(n:Nat):Nat->BitVec 64:=fun j=>rB l (128*n+8*j)
def chain(l:List UInt8):Nat->St
 |0=>start
 |n+1=>compress (chain l n) (od l n)
def out(s:St):List UInt8:=bytesOf s.a++bytesOf s.b++bytesOf s.c++bytesOf s.d++bytesOf s.e++bytesOf s.f++bytesOf s.g++bytesOf s.h
def nO(n:Nat):Nat:=(128-(n+17) % 128) % 128+8
def pd(l:List UInt8):List UInt8:=l++[128]++List.replicate (nO l.length) 0++bytesOf (BitVec.ofNat 64 (8*l.length))
def pn(l:List UInt8):List UInt8:=out (chain (pd l) ((pd l).length / 128))
theorem CR(b:Nat->BitVec 64)(n:Nat):(wl b n).length=n:=by
 induction n with
 |zero=>rfl
 |succ n ih=>simp[wl,ih]
theorem yP(b:Nat->BitVec 64)(n j:Nat)(h:j<n):(wl b n).getD j 0#64=W b j:=by
 induction n with
 |zero=>omega
 |succ n ih=>
  by_cases e:j<n
  ·rw[<-ih e]
   simp only[wl,aG];rw[List.getElem?_append_left (by rw[CR];exact e)]
  ·obtain rfl:j=n:=by omega
   simp only[wl,aG];rw[List.getElem?_append_right (by rw[CR];omega),CR];simp[W]
theorem Eh(b:Nat->BitVec 64)(n:Nat)(h:n<16):W b n=b n:=by simp[W,uE,h]
theorem Bj(b:Nat->BitVec 64)(n:Nat)(h:16<=n):W b n=AZ (W b (n-2))+W b (n-7)+BC (W b (n-15))+W b (n-16):=by
 have:¬n<16:=oM
 simp only[W,uE,this,if_false];rw[yP b n _ oM,yP b n _ oM,yP b n _ oM,yP b n _ oM];rfl
theorem T6:K.length=80:=rfl
theorem rK(x:BitVec 64):(bytesOf x).length=8:=rfl
theorem Cp(s:St):(out s).length=64:=by simp[out,rK]
theorem J2(l:List UInt8):(pd l).length=l.length+9+nO l.length:=by simp[pd,rK];omega
theorem X3(l:List UInt8):(pd l).length % 128=0:=by rw[J2];unfold nO;omega
theorem KG(l:List UInt8):(pn l).length=64:=Cp _
end Sha
namespace Hs
attribute [local go_sem] UV.ni UV.nX UV.ot UV.nM UV.nj UV.mW UV.mE UV.mZ UV.nY UV.om UV.nW
theorem OD(n:Int)(h1:1<=n)(h2:n<=63):bits .and .u64 (bl.wrap (-n)) 63=64-n:=by
 rw[cN];have e:(-n) % 18446744073709551616=((18446744073709551616-n.toNat:Nat):Int):=oM
 rw[e];have:=bits_and_u64_nat (18446744073709551616-n.toNat) 63 oM oM;rw[show((63:Nat):Int)=63 from rfl] at this;rw[this,show(63:Nat)=2^6-1 from rfl,Nat.and_two_pow_sub_one_eq_mod];omega
theorem GL{a b:BitVec 64}(h:a=b):Ending.returned (I Uq (un a))=Re (I Uq (un b)):=by rw[h]
theorem LY(x:BitVec 64)(n:Int)(h1:1<=n)(h2:n<=63)(w:D):
  Calls prog 296 #[I Uq (un x),I J (-n)] w fun e w'=>e=Re (I Uq (un (Sha.lV x n.toNat)))/\w'=w:=by
 have a:=OD n h1 h2;go_enter func296,ntmps296
 go_wp2
 go_ret
 exact⟨GL (by unfold Sha.lV;rw[show(64-(64-n)).toNat=n.toNat by omega,show(64-n).toNat=64-n.toNat by omega,BitVec.or_comm]),rfl⟩
theorem CM(x:BitVec 64)(n:Int)(h1:1<=n)(h2:n<=63)(w:D):
  Calls prog 291 #[I Uq (un x),I J n] w fun e w'=>e=Re (I Uq (un (Sha.lV x n.toNat)))/\w'=w:=by
 go_enter func291,ntmps291
 go_wp2_with (go_at_call 296;refine(LY _ _ h1 h2 _).mono ?_;rintro e w' ⟨rfl,rfl⟩)
 go_ret
 exact⟨rfl,rfl⟩
theorem Dg(x:BitVec 64)(k m n:Int)(k1:1<=k)(k2:k<=63)(m1:1<=m)(m2:m<=63)(n1:1<=n)(n2:n<=63)(w:D):
  Calls prog 272 #[I Uq (un x),I J k,I J m,I J n] w fun e w'=>e=Re (I Uq (un (Sha.lV x k.toNat^^^Sha.lV x m.toNat^^^Sha.lV x n.toNat)))/\w'=w:=by
 go_enter func272,ntmps272
 go_wp2_with (go_at_call 291;refine(CM _ _ (by assumption) (by assumption) _).mono ?_;rintro e w' ⟨rfl,rfl⟩)
 go_ret
 exact⟨rfl,rfl⟩
theorem BR(x:BitVec 64):un x / (128:Int)=un (x>>>7):=mE x 7
theorem BQ(x:BitVec 64):un x / (64:Int)=un (x>>>6):=mE x 6
theorem Yd(x:BitVec 64)(w:D):
  Calls prog 290 #[I Uq (un x)] w fun e w'=>e=Re (I Uq (un (Sha.BC x)))/\w'=w:=by
 have a:=BR x;go_enter func290,ntmps290
 go_wp2_with (go_at_call 291;refine(CM _ _ dc dc _).mono ?_;rintro e w' ⟨rfl,rfl⟩)
 go_ret
 exact⟨rfl,rfl⟩
theorem Yk(x:BitVec 64)(w:D):
  Calls prog 289 #[I Uq (un x)] w fun e w'=>e=Re (I Uq (un (Sha.AZ x)))/\w'=w:=by
 have a:=BQ x;go_enter func289,ntmps289
 go_wp2_with (go_at_call 291;refine(CM _ _ dc dc _).mono ?_;rintro e w' ⟨rfl,rfl⟩)
 go_ret
 exact⟨rfl,rfl⟩
theorem N2(x:BitVec 64)(c:UInt8):x<<<8|||BitVec.ofNat 64 c.toNat=Sha.more x c:=by
 apply BitVec.eq_of_toNat_eq;have b:c.toNat<256:=c.toNat_lt;have d:=x.isLt;simp only[Sha.more,BitVec.toNat_or,BitVec.toNat_shiftLeft,BitVec.toNat_add,BitVec.toNat_mul,BitVec.toNat_ofNat];rw[dP];have a:x.toNat*2^8 % 2^64=(x.toNat % 2^56)<<<8:=by rw[dP];omega
 rw[a,Nat.mod_eq_of_lt (show c.toNat<2^64 by omega),<-Nat.shiftLeft_add_eq_or_of_lt (show c.toNat<2^8 by omega),dP];omega
theorem TY(x:BitVec 64)(c:UInt8):bits .or .u64 (bl.wrap (un x*256)) (bl.wrap (c.toNat:Int))=un (Sha.more x c):=by
 rw[show bl.wrap (un x*256)=un (x<<<8) from mZ x 8,yN,mW,N2]
theorem Qh(w:D)(b o len cap:Nat)(l:List UInt8)(g:l.length=8)(_hlen:len<=1000)(p:cap<=1000)(n:8<=cap)(a:∀j (h:j<l.length),w.cell? ⟨b,o+j,Y⟩=Z (I .u8 (l[j].toNat:Int))):
  Calls prog 288 #[.slice (Z ⟨b,o,Y⟩) len cap] w fun e w'=>e=Re (I Uq (un (Sha.qi l)))/\w'=w:=by
 have f:Hq _:=a;clear a;go_enter func288,ntmps288
 go_wp2
 go_loop [3,9] (fun x i=>∃k:Nat,k<=8/\i=I J k/\x=I Uq (un (Sha.qi (l.take k)))) (fun _ i=>8-(intOf i).toNat)
 case atStart=>exact⟨0,aF _,rfl,rfl⟩
 case round=>
  obtain⟨k,q,rfl,rfl⟩:=hrel;by_cases r:k<8
  ·have d:k<l.length:=by omega
   have mT:=f.o k d;have m:Hq (Sha.qi (l.take (k+1))=Sha.more (Sha.qi (l.take k)) l[k]):=by
    show _=_;rw[cR d,Sha.qi,List.foldl_append];rfl
   clear g;generalize l[k]=c at*;go_wp2
   exact⟨⟨k+1,oM,by go_num,by rw[m.o,<-TY]⟩,by simp[intOf];omega⟩
  ·obtain rfl:k=8:=by omega
   go_wp2
   go_ret
   exact⟨GL (by rw[List.take_of_length_le oM]),rfl⟩
structure ly(b:Nat)(w w':D):Prop where
 os:w'.os=w.os
 tape:w'.tape=w.tape
 output:w'.output=w.output
 size:w.heap.size<=w'.heap.size
 block:∀k,k<w.heap.size->k≠b->w'.heap[k]? =w.heap[k]?
theorem ly.refl(b:Nat)(w:D):ly b w w:=⟨rfl,rfl,rfl,Nat.le_refl _,fun _ _ _=>rfl⟩
theorem ly.trans{b:Nat}{u v w:D}(h:ly b u v)(k:ly b v w):ly b u w:=
 ⟨k.os.trans h.os,k.tape.trans h.tape,k.output.trans h.output,Nat.le_trans h.size k.size,fun i hi a=>(k.block i (Nat.lt_of_lt_of_le hi h.size) a).trans (h.block i hi a)⟩
theorem ly.kq(h:O u.heap.size u v):ly b u v:=⟨h.os,h.tape,h.output,h.size,fun k a _=>h.block k a⟩
theorem ly.below(h:ly b u v)(B:Nat)(a:B<=b)(d:B<=u.heap.size):O B u v:=⟨h.os,h.tape,h.output,h.size,fun k c=>h.block k oM oM⟩
theorem ly.setCell(w:D)(b i:Nat)(v:Vl):ly b w (w.setCell ⟨b,i,Y⟩ v):=
 ⟨rfl,rfl,rfl,by simp[World.setCell],fun k _ a=>heap_setCell_other _ _ _ _ a⟩
theorem ly.drew{b:Nat}{u v:D}(h:ly b u v):ly b u v.drew:=⟨h.os,h.tape,h.output,h.size,h.block⟩
def pL(f:Nat->Vl)(o:Nat)(x:BitVec 64)(k j:Nat):Vl:=if o<=j/\j<o+k then I .u8 ((Sha.byteOf x (j-o)).toNat:Int) else f j
theorem PK{n o k:Nat}{f:Nat->Vl}{x:BitVec 64}:dk n (fun j=>if j=o+k then I .u8 ((Sha.byteOf x k).toNat:Int) else pL f o x k j)=dk n (pL f o x (k+1)):=by
 refine mn (fun j a=> ?_);unfold pL;by_cases e:j=o+k
 ·rw[if_pos e,if_pos oM,show j-o=k by omega]
 ·rw[if_neg e]
  by_cases h:o<=j/\j<o+k
  ·rw[if_pos h,if_pos oM]
  ·rw[if_neg h,if_neg oM]
theorem PO(x:BitVec 64)(k:Nat):un (x>>>(56-8*k)) % 256=((Sha.byteOf x k).toNat:Int):=by
 unfold un Sha.byteOf;simp
theorem Du(w:D)(b o len cap n:Nat)(f:Nat->Vl)(t:TypeId)(x:BitVec 64)(z:len<=1000)(u:8<=len)(B:o+8<=n)(_hn2:n<=1000)
  (h:∀j,o<=j->j<o+8->∃v:Int,f j=I .u8 v)
  (p:w.heap[b]? =Z (Cl (dk n f) t (0,0))):
  Calls prog 237 #[.slice (Z ⟨b,o,Y⟩) len cap,I Uq (un x)] w fun e w'=>e=Re (Tp #[])/\ly b w w'/\w'.heap[b]? =Z (Cl (dk n (pL f o x 8)) t (0,0)):=by
 have d:Hq _:=p;have r:Hq _:=h;clear p h;go_enter func237,ntmps237
 go_wp2
 go_loopw [5] (fun i wr=>∃k:Nat,k<=8/\i=I J k/\ly b w wr/\wr.heap[b]? =Z (Cl (dk n (pL f o x k)) t (0,0))) (fun i _=>8-(intOf i).toNat)
 case atStart=>exact⟨0,aF _,rfl,ly.refl _ _,by rw[d.o,mn (g:=pL f o x 0) (fun j _=>by unfold pL;rw[if_neg oM])]⟩
 case round=>
  obtain⟨k,y,rfl,l,m⟩:=hrel;have c:Hq _:=l;have a:Hq _:=m;clear l m d;by_cases A:k<8
  ·have C:=nv a.o (o+k)
   have s:=jI a.o (o+k) oM;obtain⟨v,hv⟩:=r.o (o+k) oM oM;have q:pL f o x k (o+k)=I .u8 v:=by unfold pL;rw[if_neg oM,hv]
   rw[q] at s;clear hv q;go_wp2
   exact⟨⟨k+1,oM,by go_num,c.o.trans (ly.setCell _ _ _ _),by rw[mX a.o,PO,PK]⟩,by simp[intOf];omega⟩
  ·obtain rfl:k=8:=by omega
   go_wp2
   go_end0
   exact⟨rfl,c.o,a.o⟩
end Hs
attribute [local go_sem] UV.ni UV.nX UV.ot UV.nM UV.nj UV.mW UV.mE UV.mZ UV.nY UV.Jg UV.nW
theorem Xf(x:BitVec 64)(n:Nat)(h1:1<=n)(h2:n<=63)(w:D):
  Calls prog 103 #[I Uq (un x),I J (n:Int)] w fun e w'=>e=Re (I Uq (un (Sha.lV x n)))/\∃k,w'=w.drewN k:=by
 go_enter func103,ntmps103
 go_wp2
 go_quiet (fail)
 go_wp2
 go_ret
 exact⟨rfl,_,rfl⟩
theorem sL(x:BitVec 64)(n:Int)(h1:1<=n)(h2:n<=63)(w:D):
  Calls prog 103 #[I Uq (un x),I J n] w fun e w'=>e=Re (I Uq (un (Sha.lV x n.toNat)))/\∃k,w'=w.drewN k:=by
 have h:=Xf x n.toNat oM oM w;rw[Int.toNat_of_nonneg oM] at h;exact h
theorem RL(x:BitVec 64)(c:UInt8):bl.wrap (bl.wrap (256*un x)+bl.wrap (c.toNat:Int))=un (Sha.more x c):=by
 rw[show bl.wrap (256*un x)=un (256#64*x) from Jg 256 x,yN,ni];rfl
theorem Xv(l:List UInt8)(c:UInt8):Sha.qi (l++[c])=Sha.more (Sha.qi l) c:=by simp[Sha.qi]
theorem Yl(s:ByteArray)(p k:Nat)(h:p+k<s.size):(s.data.toList.drop p).take (k+1)=(s.data.toList.drop p).take k++[s[p+k]]:=by
 rw[cR (by simp;have:s.data.size=s.size:=rfl;omega)];congr 2;rw[List.getElem_drop];rfl
theorem Xg(s:ByteArray)(p:Nat)(h:p+8<=s.size)(c:s.size<=4000000000000)(w:D):
  Calls prog 102 #[.string s,I J (p:Int)] w fun e w'=>e=Re (I Uq (un (Sha.rB s.data.toList p)))/\w'=w:=by
 go_enter func102,ntmps102
 go_wp2
 go_loop [5,6] (fun x i=>∃k:Nat,k<=8/\i=I J k/\x=I Uq (un (Sha.qi ((s.data.toList.drop p).take k)))) (fun _ i=>8-(intOf i).toNat)
 case atStart=>exact⟨0,aF _,rfl,rfl⟩
 case round=>
  obtain⟨k,a,rfl,rfl⟩:=hrel;by_cases b:k<8
  ·go_wp2
   exact⟨⟨k+1,oM,by go_num,by rw[Yl s p k oM,Xv,<-RL]⟩,by simp[intOf];omega⟩
  ·obtain rfl:k=8:=by omega
   go_wp2
   go_ret
   exact⟨rfl,rfl⟩
theorem Xh(s:ByteArray)(p:Int)(b:0<=p)(h:p+8<=s.size)(a:s.size<=4000000000000)(w:D):
  Calls prog 102 #[.string s,I J p] w fun e w'=>e=Re (I Uq (un (Sha.rB s.data.toList p.toNat)))/\w'=w:=by
 have h:=Xg s p.toNat oM a w;rw[Int.toNat_of_nonneg oM] at h;exact h
theorem tP:(prog.info? 5).map (fun i=>(i.zero,i.size,i.bytes))=Z (Z (I .u8 0),1,1):=kr
def f8(x:BitVec 64)(k:Nat)(j:Nat):Vl:=if 8<=j+k then Value.int .u8 ((Sha.byteOf x j).toNat:Int) else I .u8 0
theorem NQ(x:BitVec 64):bl.wrap ((un x).tdiv 256)=un (x>>>8):=by
 rw[Int.tdiv_eq_ediv_of_nonneg (wu x),show(256:Int)=2^8 from rfl,mE,nW]
theorem NV(x:BitVec 64)(n:Nat)(_h:n<=56):un (x>>>n) % 256=((UInt8.ofNat (x>>>n).toNat).toNat:Int):=by
 unfold un;simp
theorem QW(x:BitVec 64)(k:Nat)(b:k<8)(j:Nat)(a:j<8):(if j=7-k then Value.int .u8 (un (x>>>(8*k)) % 256) else f8 x k j)=f8 x (k+1) j:=by
 by_cases e:j=7-k
 ·rw[if_pos e,NV x (8*k) oM]
  unfold f8;rw[if_pos oM];simp only[Sha.byteOf];rw[show 56-8*j=8*k by omega]
 ·rw[if_neg e]
  unfold f8;by_cases h:8<=j+k
  ·rw[if_pos h,if_pos oM]
  ·rw[if_neg h,if_neg oM]
theorem Kf(x:BitVec 64)(j:Nat)(h:j<(Sha.bytesOf x).length):(Sha.bytesOf x)[j]=Sha.byteOf x j:=by
 have a:j<8:=h;rcases j with _|_|_|_|_|_|_|_|j;all_goals first|rfl|omega
theorem L8(x:BitVec 64)(k:Nat):x>>>(8*k)>>>8=x>>>(8*(k+1)):=by
 rw[<-BitVec.shiftRight_add,show 8*k+8=8*(k+1) by omega]
theorem J'(x:BitVec 64)(w:D):
  Rt 99 #[I Uq (un x)] w (sT ⟨(Sha.bytesOf x).toArray⟩):=by
 go_enter func99,ntmps99
 go_wp2_with (at_make;refine Dl _ rfl _ _ 145 rfl 5 (I .u8 0) 1 underlying145 tP rfl .i64 .i64 _ _ 8 rfl rfl rfl rfl dc dc ?_)
 go_loopw [0,4] (fun m i wr=>∃k:Nat,k<=8/\i=I J (7-(k:Int))/\m=I Uq (un (x>>>(8*k)))/\O w.heap.size w wr/\wr.heap[w.heap.size]? =Z (Cl (dk 8 (f8 x k)) 5 (0,0))) (fun _ i _=>(1+intOf i).toNat)
 case atStart=>
  exact⟨0,oM,rfl,sP,(Below.refl _ _).alloc lR _,by rw[heap_alloc_new];rfl⟩
 case round=>
  obtain⟨k,p,rfl,rfl,c,d⟩:=hrel;have a:Hq _:=d;have b:Hq _:=c;clear d c;by_cases l:k<8
  ·have q:=wu (x>>>(8*k))
   have n:=nv a.o (7-k);have hd:=jI a.o (7-k) oM;have hv:f8 x k (7-k)=I .u8 0:=by unfold f8;rw[if_neg oM]
   rw[hv] at hd;clear hv;go_wp2
   refine⟨⟨k+1,oM,by go_num,?_,b.o.setCell sP _,?_⟩,by simp[intOf];omega⟩
   ·rw[NQ,L8]
   ·rw[mX a.o,mn (QW x k l)]
  ·obtain rfl:k=8:=by omega
   have e:Hq (∀j (h:j<(Sha.bytesOf x).length),wr.cell? ⟨w.heap.size,0+j,Y⟩=Z (I .u8 ((Sha.bytesOf x)[j].toNat:Int))):=fun j f=>by
    have g:j<8:=f;rw[Nat.zero_add,jI a.o j g,Kf];unfold f8;rw[if_pos oM]
   go_wp2_with (refine zL _ rfl _ 145 9 5 rfl underlying145 underlying5 underlying9 w.heap.size 0 8 (Sha.bytesOf x) rfl e.o ?_)
   go_ret
   exact⟨rfl,b.o⟩
def la(s:Sha.St)(j:Nat):Vl:=I Uq (un (s.list.getD j 0#64))
def qW(j:Nat):Vl:=I Uq (un (Sha.se j))
theorem WM(w:D):
  Rt 100 #[] w (H (dk 8 (la Sha.start))):=by
 go_enter func100,ntmps100
 go_wp2_with (first
  |refine nJ _ rfl 177 rfl (lA 8 (I Uq 0)) kr ?_
  |refine qz rfl 177 _ rfl (dk 8 (la Sha.start)) kr ?_
  |refine qy rfl 177 _ _ rfl (lA 8 (I Uq 0)) (dk 8 (la Sha.start)) 177 rfl rfl kr kr (rb fun _ _=>rfl) ?_)
 exact jM results100 rfl _ _ _ _ _ rfl (heap_alloc_new _ _) underlying177 rfl kr ⟨rfl,(Below.refl _ _).alloc lR _⟩
theorem WK(w:D):
  Rt 101 #[] w (H (dk 80 qW)):=by
 go_enter func101,ntmps101
 go_wp2_with (first
  |refine nJ _ rfl 179 rfl (lA 80 (I Uq 0)) kr ?_
  |refine qz rfl 179 _ rfl (dk 80 qW) kr ?_
  |refine qy rfl 179 _ _ rfl (lA 80 (I Uq 0)) (dk 80 qW) 179 rfl rfl kr kr (rb fun _ _=>rfl) ?_)
 exact jM results101 rfl _ _ _ _ _ rfl (heap_alloc_new _ _) underlying179 rfl kr ⟨rfl,(Below.refl _ _).alloc lR _⟩
namespace Hs
attribute [local go_sem] UV.ni UV.nX UV.ot UV.nM UV.nj UV.mW UV.mE UV.mZ UV.nY UV.om UV.nW
def l'(s:Sha.St)(bs:Nat->UInt8)(m:Nat)(j:Nat):Vl:=
 if j<8 then I Uq (un (s.list.getD j 0#64)) else if j<136 then I .u8 ((bs (j-8)).toNat:Int) else I J (m:Int)
def nw(w:D)(b:Nat)(s:Sha.St)(bs:Nat->UInt8)(m:Nat):Prop:=w.heap[b]? =Z (Cl (dk 137 (l' s bs m)) 270 (0,0))
theorem rO{s:Sha.St}(h:nw w b s bs m)(j:Nat)(a:j<8):w.cell? ⟨b,j,Y⟩=Z (I Uq (un (s.list[j]?.getD 0#64))):=by
 rw[jI h j oM];unfold l';rw[if_pos a,aG]
theorem Mg{s:Sha.St}(h:nw w b s bs m)(j:Nat)(a:j<128):w.cell? ⟨b,8+j,Y⟩=Z (I .u8 ((bs j).toNat:Int)):=by
 rw[jI h (8+j) oM];unfold l';rw[if_neg oM,if_pos oM,show 8+j-8=j by omega]
theorem xB{s:Sha.St}(h:nw w b s bs m):w.cell? ⟨b,136,Y⟩=Z (I J (m:Int)):=by
 rw[jI h 136 oM];unfold l';rw[if_neg oM,if_neg oM]
theorem Jd{s:Sha.St}(h:nw w b s bs m)(j:Nat):w.frozen? ⟨b,j,Y⟩=false:=nv h j
theorem AK{s:Sha.St}(h:nw w b s bs m):b<w.heap.size:=(aL h)
def eight(bs:Nat->UInt8)(p:Nat):List UInt8:=[bs p,bs (p+1),bs (p+2),bs (p+3),bs (p+4),bs (p+5),bs (p+6),bs (p+7)]
theorem KM(bs:Nat->UInt8)(p j:Nat)(h:j<(eight bs p).length):(eight bs p)[j]=bs (p+j):=by
 have a:j<8:=h;rcases j with _|_|_|_|_|_|_|_|j;all_goals first|rfl|omega
def lY(bs:Nat->UInt8)(j:Nat):BitVec 64:=Sha.qi (eight bs (8*j))
def lz(b:Nat->BitVec 64)(k j:Nat):Vl:=if j<k then I Uq (un (Sha.W b j)) else I Uq 0
theorem vj(b:Nat->BitVec 64)(k:Nat)(v:Vl)(hv:v=I Uq (un (Sha.W b k))):dk 80 (fun j=>if j=k then v else lz b k j)=dk 80 (lz b (k+1)):=by
 refine mn (fun j a=> ?_);by_cases e:j=k
 ·rw[if_pos e,hv,e];unfold lz;rw[if_pos oM]
 ·rw[if_neg e];unfold lz
  by_cases h:j<k
  ·rw[if_pos h,if_pos oM]
  ·rw[if_neg h,if_neg oM]
theorem pO(b:Nat->BitVec 64)(k j:Nat)(h:j<k):lz b k j=I Uq (un (Sha.W b j)):=by unfold lz;rw[if_pos h]
theorem zr(b:Nat->BitVec 64)(k j:Nat)(h:k<=j):lz b k j=I Uq 0:=by unfold lz;rw[if_neg oM]
theorem Below.Sh(w:D)(g:Nat)(cs:Array Vl):O g w (w.setRow g cs):=
 ⟨rfl,rfl,rfl,by simp[World.setRow],fun k a=>by show(Array.modify _ _ _)[k]? =_;rw[Array.getElem?_modify,if_neg oM]⟩
theorem zo(W:D)(b o l:Nat)(L:Int)(d:L=(l:Int))(f:l<128):
  Sem.run prog (Instr.sliceAt 268 (X (Z ⟨b,o,Y⟩)) (Z (I J L)) none Y) W= .ok (.slice (Z ⟨b,o+l,Y⟩) (128-l) (128-l)) W:=by
 subst d;have a:prog.arrayLen 268=128:=kr
 have c:prog.elem 268=5:=kr
 have h:=run_sliceAt_array_l (P:=prog) W 268 ⟨b,o,Y⟩ kr .i64 (l:Int) oM (by rw[a];omega);obtain⟨i,hi,_,e,_⟩:=info_parts tP;rw[h,a,c];simp[sizeOf,typeInfo,hi,e,slicedAt,Result.andThen,Addr.add_mid];omega
set_option maxRecDepth 100000 in
theorem WR(w:D)(b:Nat)(s:Sha.St)(bs:Nat->UInt8)(m:Nat)(n:nw w b s bs m):
  Rt 271 #[X (Z ⟨b,0,Y⟩)] w (H (dk 80 (lz (lY bs) 80))):=by
 have t:Hq _:=n;have u:=AK n;clear n;go_enter func271,ntmps271
 go_wp2_with (first
  |refine nJ _ rfl 179 rfl (lA 80 (I Uq 0)) kr ?_)
 go_loopw [6] (fun i wr=>∃k:Nat,k<=16/\i=I J (k:Int)/\O (w.heap.size+1) (w.alloc (Cl (lA 80 (I Uq 0)) 179)) wr/\wr.heap[w.heap.size+1]? =Z (Cl (dk 80 (lz (lY bs) k)) 179 (0,0))) (fun i _=>16-(intOf i).toNat)
 case atStart=>
  exact⟨0,oM,rfl,(Below.refl _ _).alloc sP _,by
   have:=heap_alloc_new (w.alloc (Cl (lA 80 (I Uq 0)) 179)) (Cl (lA 80 (I Uq 0)) 179);simp only[World.size_alloc] at this;rw[this];rfl⟩
 case round=>
  obtain⟨k,q,rfl,f,d⟩:=hrel;have c:Hq _:=f;have a:Hq _:=d;clear f d;have p:Hq (nw wr b s bs m):=((c.o.block b oM).trans (Below.heap_alloc _ _ _ u)).trans t.o;by_cases g:k<16
  ·have v:=nv a.o k
   have h:=jI a.o k oM;rw[zr _ _ _ lR] at h;have N:=fun W=>zo W b 8 (8*k) (8*(k:Int)) oM oM;go_wp2_with (first
    |(go_at_call 288;refine(Qh _ _ _ _ _ (eight bs (8*k)) rfl oM oM oM (fun j l=>by rw[KM,Nat.add_assoc];exact Mg p.o _ (by have:j<8:=l;omega))).mono ?_;rintro e w' ⟨rfl,rfl⟩))
   exact⟨⟨k+1,oM,by go_num,c.o.setCell lR _,by rw[mX a.o,vj _ k _ (by rw[Sha.Eh _ _ g];rfl)]⟩,by simp[intOf];omega⟩
  ·obtain rfl:k=16:=by omega
   go_wp2_with fail
   go_loopw [5] (fun i r=>∃k:Nat,16<=k/\k<=80/\i=I J (k:Int)/\O (w.heap.size+1) (w.alloc (Cl (lA 80 (I Uq 0)) 179)) r/\r.heap[w.heap.size+1]? =Z (Cl (dk 80 (lz (lY bs) k)) 179 (0,0))) (fun i _=>80-(intOf i).toNat)
   case atStart=>exact⟨16,oM,oM,rfl,c.o,a.o⟩
   case round=>
    clear c a p g q;rename D=>wc
    obtain⟨k,g,q,rfl,f,d⟩:=hrel;have c:Hq _:=f;have a:Hq _:=d;clear f d;by_cases M:k<80
    ·have v:=nv a.o k
     have h:=jI a.o k oM;rw[zr _ _ _ lR] at h;have x:=jI a.o (k-15) oM;rw[pO _ k (k-15) oM] at x;have d:=jI a.o (k-2) oM;rw[pO _ k (k-2) oM] at d;have z:=jI a.o (k-7) oM;rw[pO _ k (k-7) oM] at z;have y:=jI a.o (k-16) oM;rw[pO _ k (k-16) oM] at y;have V:cI.wrap ((k:Int)-2)=(k:Int)-2:=az _ oM;have a6:cI.wrap ((k:Int)-7)=(k:Int)-7:=az _ oM;have T:cI.wrap ((k:Int)-15)=(k:Int)-15:=az _ oM;have U:cI.wrap ((k:Int)-16)=(k:Int)-16:=az _ oM;have R:((k:Int)-2).toNat=k-2:=oM
     have S:((k:Int)-7).toNat=k-7:=oM
     have P:((k:Int)-15).toNat=k-15:=oM
     have Q:((k:Int)-16).toNat=k-16:=oM
     have C:(2:Int)<=(k:Int):=oM
     have K:(k:Int)-2<80:=oM
     have E:(7:Int)<=(k:Int):=oM
     have L:(k:Int)-7<80:=oM
     have A:(15:Int)<=(k:Int):=oM
     have F:(k:Int)-15<80:=oM
     have B:(16:Int)<=(k:Int):=oM
     have G:(k:Int)-16<80:=oM
     go_wp2_with fail
     refine wp_region_still_tail 23 kr kr ?_;simp only[List.take_succ_cons,List.take_zero,List.drop_succ_cons,List.drop_zero];repeat (first|still_step|still_call (Yk _ _)|still_call (Yd _ _))
     refine wpStill_nil ?_;go_wp2_with fail
     go_roundw
     case rel=>
      (repeat apply Exists.intro)
      refine⟨⟨k+1,oM,oM,by go_num,?_,?_⟩,rfl⟩
      ·first|exact(c.o.setCell lR _).drew|exact c.o.drew.setCell lR _
      ·first|rw[heap_drew,mX a.o,vj _ k _ (by rw[Sha.Bj _ _ g])]|rw[mX (w:=wc.drew) a.o,vj _ k _ (by rw[Sha.Bj _ _ g])]
     case measure=>simp[intOf];omega
    ·obtain rfl:k=80:=by omega
     go_wp2_with (first
      |refine wpList_load_row rfl 179 _ rfl (w.heap.size+1) rfl 179 (dk 80 (lz (lY bs) 80)) (0,0) _ a.o underlying179 rfl kr ?_
      |refine wpList_store_row rfl 179 _ _ rfl w.heap.size (dk 80 (lz (lY bs) 80)) rfl rfl 179 (lA 80 (I Uq 0)) ((c.o.block _ oM).trans (heap_alloc_new _ _)) kr kr (rb fun j l=>by rw[pO _ _ _ l];rfl) ?_)
     refine jM results271 rfl w.heap.size 179 _ (0,0) _ rfl (setRow_heap _ _ _ _ _ _ ((c.o.block _ oM).trans (heap_alloc_new _ _))) underlying179 rfl kr ⟨rfl,?_⟩;exact(((Below.refl _ _).alloc lR _).trans (c.o.mono oM)).trans (Below.Sh _ _ _)
