/- Plain number theory: primes, the little theorem of Fermat, a certificate of primality after Pocklington. It imports nothing of the program. The primes: P = 2^255 - 19 and L, the order of the base, by certificates that the kernel checks. The field of P = 2^255 - 19 elements, and that D is no square in it. Plain mathematics: it imports nothing of the program. The points of the curve and their sum: a group. Plain mathematics. Points by four coordinates (the program's) and by three (the document's) stand for points of the curve; sums and doubles of them for sums. Roots in the field, and the x of a point by its y. -/
import Derived.Test.YtbojijefenfbgaaGreatDoorAaShort
import Derived.KernelRfl
open Nat renaming gcd->dL,gcd_dvd_right->jZ,gcd_dvd_left->ku,mul_one->fA,one_mul->fm,mul_add->fk,add_mul->dB,pow_succ->bW,mul_comm->bJ,le_of_dvd->cu,add_mod->fB,mul_mod_right->j3,pos_of_ne_zero->eZ,dvd_of_mod_eq_zero->fv,sub_mod_eq_zero_of_mod_eq->ie,mod_eq_of_lt->aP,pos_of_dvd_of_pos->jm,dvd_trans->gj,pow_mul->dV,pow_mod->ig,div_add_mod->kI,pow_add->fp,mul_mod->iG,mod_mod_of_dvd->gz,eq_zero_or_pos->eN,mod_eq_zero_of_dvd->jc,mul_zero->jJ,mul_le_mul->fS,lt_of_lt_of_le->aB,add_zero->eb
open Classical renaming byContradiction->bt
open Fin renaming ext->dt
open Prod renaming ext->fC
set_option maxHeartbeats 4000000
open Go Go.RowKit
variable{a b m n p q q' r r':Nat}{h':Bool}
namespace Go.Proofs.YtbojijefenfbgaaGreatDoor
namespace Nt
def kR(p:Nat):Prop:=1<p/\∀m,m∣p->m=1\/m=p
theorem kR.pos(h:kR p):0<p:=by have:=h.1;omega
theorem kR.coprime(h:kR p)(a:Nat)(b:¬p∣a):Nat.Coprime a p:=by
 have hd:dL a p∣p:=jZ _ _;rcases h.2 _ hd with e|e
 ·exact e
 ·exact absurd (e▸ku a p) b
theorem kR.dvd_mul(h:kR p)(d:p∣a*b):p∣a\/p∣b:=by
 by_cases c:p∣a
 ·exact .inl c
 ·exact .inr ((Nat.Coprime.symm (h.coprime a c)).dvd_of_dvd_mul_left d)
def bin:Nat->Nat->Nat
 |_,0=>1
 |0,_+1=>0
 |n+1,k+1=>bin n k+bin n (k+1)
theorem xC(n:Nat):bin n 0=1:=by cases n<;>rfl
theorem EP(n k:Nat)(h:n<k):bin n k=0:=by
 induction n generalizing k with
 |zero=>cases k with
  |zero=>omega
  |succ k=>rfl
 |succ n ih=>cases k with
  |zero=>omega
  |succ k=>simp only[bin];rw[ih k oM,ih (k+1) oM]
theorem Uk(n:Nat):bin n n=1:=by
 induction n with
 |zero=>rfl
 |succ n ih=>simp only[bin];rw[ih,EP n (n+1) oM]
theorem QF(n k:Nat):(k+1)*bin (n+1) (k+1)=(n+1)*bin n k:=by
 induction n generalizing k with
 |zero=>cases k with
  |zero=>rfl
  |succ k=>simp[bin]
 |succ n ih=>cases k with
  |zero=>
   have:=ih 0;simp only[xC,fA,Nat.zero_add,fm] at this⊢;show bin (n+1) 0+bin (n+1) 1=n+1+1;rw[this,xC];omega
  |succ j=>
   have h1:=ih j;have h2:=ih (j+1);have e:bin (n+1) (j+1)=bin n j+bin n (j+1):=rfl;have a:bin (n+1+1) (j+1+1)=bin (n+1) (j+1)+bin (n+1) (j+1+1):=rfl;rw[a,fk,h2];rw[show j+1+1=(j+1)+1 from rfl,dB (j+1) 1,h1,fm];rw[dB (n+1) 1,fm];rw[show(n+1)*bin (n+1) (j+1)=(n+1)*bin n j+(n+1)*bin n (j+1) by rw[e,fk]];omega
def sumTo(n a:Nat):Nat->Nat
 |0=>0
 |m+1=>sumTo n a m+bin n m*a^m
theorem Sj(n a m:Nat):sumTo (n+1) a (m+1)=sumTo n a (m+1)+a*sumTo n a m:=by
 induction m with
 |zero=>simp[sumTo,xC]
 |succ m ih=>
  rw[sumTo,ih];rw[show sumTo n a (m+1+1)=sumTo n a (m+1)+bin n (m+1)*a^(m+1) from rfl];rw[show bin (n+1) (m+1)=bin n m+bin n (m+1) from rfl,dB];rw[show a*sumTo n a (m+1)=a*sumTo n a m+a*(bin n m*a^m) by rw[sumTo,fk]];rw[show a*(bin n m*a^m)=bin n m*a^(m+1) by rw[bW,Nat.mul_left_comm,bJ a (a^m)]];omega
theorem Ul(n a:Nat):(a+1)^n=sumTo n a (n+1):=by
 induction n with
 |zero=>simp[sumTo,xC]
 |succ n ih=>
  rw[bW,ih,Sj];rw[show sumTo n a (n+1+1)=sumTo n a (n+1)+bin n (n+1)*a^(n+1) from rfl,EP n (n+1) oM];rw[fk,fA,bJ];omega
theorem QE(h:kR p)(k:Nat)(h1:0<k)(h2:k<p):p∣bin p k:=by
 obtain⟨n,rfl⟩:∃n,p=n+1:=⟨p-1,by have:=h.1;omega⟩;obtain⟨j,rfl⟩:∃j,k=j+1:=⟨k-1,oM⟩;have e:=QF n j;have hd:n+1∣(j+1)*bin (n+1) (j+1):=⟨bin n j,e⟩;rcases h.dvd_mul hd with a|a
 ·exact absurd (cu oM a) oM
 ·exact a
theorem TS(h:kR p)(a k:Nat)(d:k<p):sumTo p a (k+1) % p=1 % p:=by
 induction k with
 |zero=>simp[sumTo,xC]
 |succ k ih=>
  rw[sumTo,fB,ih oM];obtain⟨c,b⟩:=QE h (k+1) oM d;rw[b,Nat.mul_assoc,j3];simp
theorem xm(h:kR p)(a:Nat):a^p % p=a % p:=by
 induction a with
 |zero=>rw[Nat.zero_pow h.pos]
 |succ a ih=>
  obtain⟨n,b⟩:∃n,p=n+1:=⟨p-1,by have:=h.1;omega⟩;rw[Ul,sumTo,Uk,fm,fB,ih];have e:sumTo p a p % p=1 % p:=by
   have:=TS h a n oM;rw[<-b] at this;exact this
  rw[e,<-fB,Nat.add_comm]
theorem Yi(h:a<=b)(hd:m∣b-a):b % m=a % m:=by
 obtain⟨c,d⟩:=hd;rw[show b=a+m*c by omega,Nat.add_mul_mod_self_left]
theorem Kv(h:kR p)(a:Nat)(c:¬p∣a):a^(p-1) % p=1:=by
 have h1:=h.1;have e:=xm h a;have g:0<a^(p-1):=Nat.pow_pos (eZ (fun d=>c (d▸Nat.dvd_zero p)));have f:a^p=a*a^(p-1):=by
  conv=>lhs;rw[show p=(p-1)+1 by omega,bW,bJ]
 have hd:p∣a*(a^(p-1)-1):=by
  rw[Nat.mul_sub,fA,<-f];exact fv (ie e)
 rcases h.dvd_mul hd with b|b
 ·exact absurd b c
 ·rw[Yi g b];exact aP h1
theorem J7(n:Nat)(h:1<n):∃p,kR p/\p∣n:=by
 induction n using Nat.strongRecOn with
 |_ n ih=>
  by_cases b:kR n
  ·exact⟨n,b,Nat.dvd_refl n⟩
  ·have:∃m,m∣n/\m≠1/\m≠n:=bt fun c=>b ⟨h,fun m a=>by
    by_cases h1:m=1
    ·exact .inl h1
    ·by_cases h2:m=n
     ·exact .inr h2
     ·exact absurd ⟨m,a,h1,h2⟩ c⟩
   obtain⟨m,a,h1,h2⟩:=this;have e:=cu oM a;have f:0<m:=jm a oM;obtain⟨p,d,hd⟩:=ih m oM oM;exact⟨p,d,gj hd a⟩
theorem Kl{e:Nat}(h:a^e % p=1 % p)(k:Nat):a^(e*k) % p=1 % p:=by
 rw[dV,ig,h,<-ig,Nat.one_pow]
theorem R3(e f:Nat)(h1:a^e % p=1 % p)(h2:a^f % p=1 % p):a^dL e f % p=1 % p:=by
 induction e,f using Nat.gcd.induction with
 |H0 f=>rw[Nat.gcd_zero_left];exact h2
 |H1 e f c ih=>
  rw[Nat.gcd_rec];refine ih ?_ h1;have hd:=kI f e;have b:=Kl h1 (f / e);rw[<-hd,fp,iG,b,<-iG,fm] at h2;exact h2
theorem XX(hd:p∣m)(h:a % m=b % m):a % p=b % p:=by
 rw[<-gz a hd,h,gz b hd]
theorem C5(A:n=q*r+1)(y:kR q)(h1:a^(n-1) % n=1 % n)(h2:dL (a^r % n+n-1) n=1)(h:kR p)(d:p∣n):q∣p-1:=by
 refine bt fun w=> ?_;have i:=h.1;have B:0<n:=oM
 have g:a^(n-1) % p=1 % p:=XX d h1;have C:0<n-1:=by
  rcases eN (n-1) with b|b
  ·exfalso
   have v:n=1:=oM
   subst v;have:=cu oM d;omega
  ·exact b
 have x:¬p∣a:=fun hd=>by
  have:p∣a^(n-1):=gj hd (by rw[show n-1=(n-2)+1 by omega,bW];exact Nat.dvd_mul_left a _);rw[jc this,aP i] at g;omega
 have j:a^(p-1) % p=1 % p:=by rw[Kv h a x,aP i]
 have l:=R3 (n-1) (p-1) g j;have u:dL (n-1) (p-1)∣r:=by
  have t:Nat.Coprime (dL (n-1) (p-1)) q:=by
   have e:=y.coprime (p-1) w;exact Nat.Coprime.coprime_dvd_left (jZ _ _) e
  have hd:dL (n-1) (p-1)∣q*r:=by
   have:=ku (n-1) (p-1);rwa [show n-1=q*r by omega] at this⊢
  exact t.dvd_of_dvd_mul_left hd
 obtain⟨c,e⟩:=u;have m:a^r % p=1 % p:=by rw[e];exact Kl l c
 have hd:p∣a^r % n+n-1:=by
  obtain⟨k,f⟩:=d;have o:(a^r % n) % p=1 % p:=by rw[gz _ ⟨k,f⟩];exact m
  have z:0<k:=eZ fun b=>by rw[b,jJ] at f;omega
  have s:(a^r % n+n) % p=1 % p:=by rw[fB,o,f,j3];simp
  have:=ie s;exact fv this
 have:=Nat.dvd_gcd hd d;rw[h2] at this;have:=cu oM this;omega
theorem Dk(h1:1<n)(h:∀p,kR p->p∣n->n<p*p):kR n:=by
 refine⟨h1,fun m e=> ?_⟩;by_cases o:m=1
 ·exact .inl o
 ·right
  have q:0<m:=jm e oM;obtain⟨c,a⟩:=e;by_cases k:c=1
  ·rw[a,k,fA]
  ·exfalso
   have l:0<c:=eZ fun j=>by rw[j,jJ] at a;omega
   obtain⟨p,r,g⟩:=J7 m oM;obtain⟨b,s,f⟩:=J7 c oM;have a1:=h p r (gj g ⟨c,a⟩);have a2:=h b s (gj f ⟨m,by rw[bJ];exact a⟩);have b1:=cu q g;have i:=cu l f;have t:p*b<=n:=by rw[a];exact fS b1 i
   rcases Nat.le_total p b with d|d
   ·have:=Nat.mul_le_mul_left p d;omega
   ·have:=Nat.mul_le_mul_right b d;omega
theorem PD(c:1<n)(e:n=q*r+1)(g:kR q)(d:n<(q+1)*(q+1))(h1:a^(n-1) % n=1 % n)(h2:dL (a^r % n+n-1) n=1):kR n:=by
 refine Dk c (fun p b f=> ?_);have hd:=C5 e g h1 h2 b f;have i:=b.1;have h:=cu oM hd;exact aB d (fS oM oM)
theorem PE{a:Nat}(d:1<n)(h:n=q*r+1)(i:n=q'*r'+1)(k:kR q)(l:kR q')(j:dL q q'=1)(f:n<(q*q'+1)*(q*q'+1))
  (h1:a^(n-1) % n=1 % n) (h2:dL (a^r % n+n-1) n=1) (e:dL (a^r' % n+n-1) n=1):kR n:=by
 refine Dk d (fun p b c=> ?_);have hd:=C5 h k h1 h2 b c;have g:=C5 i l h1 e b c;have o:=b.1;have m:=cu oM (Nat.Coprime.mul_dvd_of_dvd_of_dvd j hd g);exact aB f (fS oM oM)
def powMod(m:Nat):Nat->Nat->Nat->Nat
 |0,_,_=>1 % m
 |f+1,a,e=>if e % 2=1 then a*powMod m f (a*a % m) (e / 2) % m else powMod m f (a*a % m) (e / 2)
theorem CL(m:Nat)(f a e:Nat)(h:e<2^f):powMod m f a e=a^e % m:=by
  induction f generalizing a e with
  | zero => obtain rfl : e = 0 := by simpa using h
            rfl
  |succ f ih=>
    rw[bW] at h;have hd:=kI e 2;simp only[powMod];rw[ih _ _ oM];have c:(a*a % m)^(e / 2) % m=a^(2*(e / 2)) % m:=by rw[<-ig,dV,Nat.pow_two]
    by_cases b:e % 2=1
    · rw[if_pos b,c,Nat.mul_mod_mod]
      conv=>rhs;rw[<-hd,b,bW,bJ]
    · rw[if_neg b,c]
      conv=>rhs;rw[<-hd,show e % 2=0 by omega,eb]
theorem BO(b:n=q*r+1)(a:kR q):r<n:=by
 have:=Nat.le_mul_of_pos_left r a.pos;omega
theorem CY(f:Nat)(d:1<n)(g:n<=2^f)(b:n=q*r+1)(c:kR q)(e:n<(q+1)*(q+1))(h1:powMod n f a (n-1)=1 % n)(h2:dL (powMod n f a r+n-1) n=1):kR n:=by
 have h:=BO b c;rw[CL n f a _ oM] at h1 h2;exact PD d b c e h1 h2
theorem yT{a:Nat}(f:Nat)(h:1<n)(k:n<=2^f)(c:n=q*r+1)(d:n=q'*r'+1)(e:kR q)(g:kR q')(j:dL q q'=1)(i:n<(q*q'+1)*(q*q'+1))
  (h1:powMod n f a (n-1)=1 % n) (h2:dL (powMod n f a r+n-1) n=1) (b:dL (powMod n f a r'+n-1) n=1):kR n:=by
 have l:=BO c e;have m:=BO d g;rw[CL n f a _ oM] at h1 h2 b;exact PE h c d e g j i h1 h2 b
def noDiv(n:Nat):Nat->Nat->Bool
 |0,_=>false
 |f+1,d=>if n<d*d then true else if n % d=0 then false else noDiv n f (d+1)
theorem XY(n f d:Nat)(h:noDiv n f d=true)(m:Nat)(a:d<=m)(b:m*m<=n):¬m∣n:=by
 induction f generalizing d with
 |zero=>simp[noDiv] at h
 |succ f ih=>
  simp only[noDiv] at h;by_cases h1:n<d*d
  ·have:=fS a a;omega
  ·rw[if_neg h1] at h
   by_cases h2:n % d=0
   ·rw[if_pos h2] at h;cases h
   ·rw[if_neg h2] at h
    by_cases e:d=m
    ·subst e;exact fun hd=>h2 (jc hd)
    ·exact ih (d+1) h oM
theorem xo(f:Nat)(h1:1<n)(h:noDiv n f 2=true):kR n:=by
 refine Dk h1 (fun p b c=> ?_);have d:=b.1;rcases Nat.lt_or_ge n (p*p) with a|a
 ·exact a
 ·exact absurd c (XY n f 2 h p oM a)
theorem R6:kR 8574133:=xo 10000 dc kr
theorem R7:kR 127:=xo 10000 dc kr
theorem R8:kR 1919519569386763:=
 yT (f:=256) (q:=8574133) (r:=223873314) (q':=127) (r':=15114327318006) (a:=2) dc dc dc dc R6 R7 dc dc kr kr kr
theorem Lw:kR 569003:=xo 10000 dc kr
theorem Lx:kR 2773320623:=
 CY (f:=256) (q:=569003) (r:=4874) (a:=2) dc dc dc Lw dc kr kr
theorem Ly:kR 72106336199:=
 CY (f:=256) (q:=2773320623) (r:=26) (a:=2) dc dc dc Lx dc kr kr
theorem Lz:kR 75445702479781427272750846543864801:=
 yT (f:=256) (q:=1919519569386763) (r:=39304471641247389600) (q':=72106336199) (r':=1046311689884858398375200) (a:=2) dc dc dc dc R8 Ly dc dc kr kr kr
theorem LA:kR 430751:=xo 10000 dc kr
theorem LB:kR 4153:=xo 10000 dc kr
theorem LC:kR 31757755568855353:=
 yT (f:=256) (q:=430751) (r:=73726481352) (q':=4153) (r':=7646943310584) (a:=2) dc dc dc dc LA LB dc dc kr kr kr
theorem PG:kR 74058212732561358302231226437062788676166966415465897661863160754340907:=
 yT (f:=256) (q:=75445702479781427272750846543864801) (r:=981609426360740691344999861639072106) (q':=31757755568855353) (r':=2331972502653487852620185443007392165117953542933313402) (a:=2) dc dc dc dc Lz LC dc dc kr kr kr
theorem LD:kR 57896044618658097711785492504343953926634992332820282019728792003956564819949:=
 CY (f:=256) (q:=74058212732561358302231226437062788676166966415465897661863160754340907) (r:=781764) (a:=2) dc dc dc PG dc kr kr
end Nt
namespace Ed
abbrev P:Nat:=57896044618658097711785492504343953926634992332820282019728792003956564819949
abbrev F:=Fin P
theorem FR:Nt.kR P:=Nt.LD
theorem val_mul(a b:F):(a*b).val=a.val*b.val % P:=rfl
theorem tE{a b:F}(h:a*b=0):a=0\/b=0:=by
 have h1:a.val*b.val % P=0:=by
  have:=congrArg Fin.val h;rw[val_mul] at this;exact this
 rcases FR.dvd_mul (fv h1) with hd|hd
 ·left
  apply dt;rcases eN a.val with c|c
  ·rw[c];rfl
  ·exact absurd (cu c hd) (by have:=a.isLt;omega)
 ·right
  apply dt;rcases eN b.val with c|c
  ·rw[c];rfl
  ·exact absurd (cu c hd) (by have:=b.isLt;omega)
theorem mI{a b:F}(c:a≠0)(d:b≠0):a*b≠0:=fun h=>(tE h).elim c d
theorem tH{a b c:F}(d:a≠0)(h:a*b=a*c):b=c:=by
 have h1:a*(b-c)=0:=by grind
 rcases tE h1 with h2|h2
 ·exact absurd h2 d
 ·grind
def gp(a:F)(e:Nat):F:=⟨a.val^e % P,Nat.mod_lt _ dc⟩
theorem SP(a:F):gp a 0=1:=by
 apply dt;show a.val^0 % P=_;rw[Nat.pow_zero];rfl
theorem rM(a:F):gp a 1=a:=by
 apply dt;show a.val^1 % P=_;rw[Nat.pow_one];exact aP a.isLt
theorem oc(a:F)(e k:Nat):gp a (e+k)=gp a e*gp a k:=by
 apply dt;show a.val^(e+k) % P=(a.val^e % P)*(a.val^k % P) % P;rw[fp,iG]
theorem vk(a:F)(e k:Nat):gp (gp a e) k=gp a (e*k):=by
 apply dt;show(a.val^e % P)^k % P=a.val^(e*k) % P;rw[<-ig,dV]
theorem CC(a:F)(e f v:Nat)(h:e<2^f)(hv:Nt.powMod P f a.val e=v):(gp a e).val=v:=by
 rw[<-hv,Nt.CL P f a.val e h];rfl
theorem xm{a:F}(c:a≠0):gp a (P-1)=1:=by
 apply dt;show a.val^(P-1) % P=_;rw[Nt.Kv FR a.val (fun hd=>c ?_)]
 ·rfl
 ·apply dt
  rcases eN a.val with b|b
  ·rw[b];rfl
  ·exact absurd (cu b hd) (by have:=a.isLt;omega)
def inv(a:F):F:=gp a (P-2)
theorem ng{a:F}(b:a≠0):a*inv a=1:=by
 have h:=xm b;rw[show P-1=1+(P-2) by decide,oc,rM] at h;exact h
def dD:F:=⟨37095705934669439343138083508754565189542113879843219016388785533085940283555,dc⟩
def cC:F:=⟨29203323570479832313932222820853031755424015489030106335172286495629888845891,dc⟩
def iI:F:=⟨19681161376707505956807079304988542015446066515923890162744021073123829784752,dc⟩
theorem pe:dD*cC=1:=dc
theorem uA:iI*iI= -1:=dc
theorem tu:cC≠0:=dc
theorem FI:(2:F)≠0:=dc
theorem ME:gp dD 28948022309329048855892746252171976963317496166410141009864396001978282409974= -1:=by
 apply dt;rw[CC dD 28948022309329048855892746252171976963317496166410141009864396001978282409974 256 57896044618658097711785492504343953926634992332820282019728792003956564819948 dc kr];rfl
theorem YC(x:F):x*x≠dD:=fun h=>by
 have b:x≠0:=fun a=>by rw[a] at h;exact absurd (show(0:F)=dD by grind) dc
 have h1:=ME;rw[<-h] at h1;have h2:gp (x*x) 28948022309329048855892746252171976963317496166410141009864396001978282409974=1:=by
  have e:x*x=gp x 2:=by rw[show(2:Nat)=1+1 from rfl,oc,rM]
  rw[e,vk,show 2*28948022309329048855892746252171976963317496166410141009864396001978282409974=P-1 by decide];exact xm b
 rw[h2] at h1;exact absurd h1 dc
theorem J5(x:F):x*x≠cC:=fun h=>by
 have hd:=pe;refine YC (x*dD) ?_;grind
def On(x y:F):Prop:=x*x*(y*y)=cC*(y*y-x*x-1)
theorem U7(n:Nat)[NeZero n](e m c:Fin n)(b:e*e=1)(a:c+e*m=0):m= -(e*c):=by grind
theorem Q4(n:Nat)[NeZero n](a y1 b y2 e i c:Fin n)(h1:a*a*(y1*y1)=c*(y1*y1-a*a-1))(h2:b*b*(y2*y2)=c*(y2*y2-b*b-1))(d:e*e=1)(hi:i*i= -1)
  (f:a*b*y1*y2= -(e*c)):c*(c*((i*a-e*y1)*(i*a-e*y1)))=c*((a*y1*(y2+i*b))*(a*y1*(y2+i*b))):=by grind
theorem Q7(n:Nat)[NeZero n](i:Fin n)(hi:i*i= -1):(-i)*(-i)= -1:=by grind
theorem XN(n:Nat)[NeZero n](a y1 b y2:Fin n)(h:a*y1=0):a*b*y1*y2=0:=by grind
theorem WG(n:Nat)[NeZero n](a:Fin n)(h:0= -a):a=0:=by grind
theorem M9(n:Nat)[NeZero n](c u v w:Fin n)(h:c*(u*u)=v*v)(a:u*w=1):(v*w)*(v*w)=c:=by grind
theorem Rb(n:Nat)[NeZero n](i x y:Fin n)(h1:y+i*x=0)(h2:y+ -i*x=0):2*y=0:=by grind
theorem MV(n:Nat)[NeZero n](i x y:Fin n)(hi:i*i= -1)(h1:y+i*x=0)(a:y=0):x=0:=by grind
theorem U6(n:Nat)[NeZero n](c x y:Fin n)(a:x=0)(b:y=0)(h:x*x*(y*y)=c*(y*y-x*x-1)):c=0:=by grind
theorem OM(n:Nat)[NeZero n](c u:Fin n)(h:u=0):c*(u*u)=0:=by grind
theorem Ft{a y1 b y2:F}(h1:On a y1)(h2:On b y2)(e i:F)(c:e*e=1)(hi:i*i= -1)(d:a*b*y1*y2= -(e*cC))(g:a*y1≠0):y2+i*b=0:=by
 have key:=tH tu (Q4 P a y1 b y2 e i cC h1 h2 c hi d);refine bt fun f=> ?_;have hv:a*y1*(y2+i*b)≠0:=mI g f;by_cases hu:i*a-e*y1=0
 ·have:cC*((i*a-e*y1)*(i*a-e*y1))=0:=OM P _ _ hu
  rw[this] at key;exact mI hv hv key.symm
 ·exact J5 _ (M9 P cC _ _ _ key (ng hu))
theorem complete{d y1 a y2:F}(h1:On d y1)(h2:On a y2)(e:F)(b:e*e=1):cC+e*(d*a*y1*y2)≠0:=fun i=>by
 have c:=U7 P e _ cC b i;have f:d*y1≠0:=fun j=>by
  rw[XN P d y1 a y2 j] at c;rcases tE (WG P _ c) with h|h
  ·rw[h] at b;exact absurd b dc
  ·exact tu h
 have k1:=Ft h1 h2 e iI b uA c f;have k2:=Ft h1 h2 e (-iI) b (Q7 P iI uA) c f;rcases tE (Rb P iI a y2 k1 k2) with h|g
 ·exact FI h
 ·exact tu (U6 P cC a y2 (MV P iI a y2 uA k1 g) g h2)
abbrev Pt:=F×F
def gF(p:Pt):Prop:=On p.1 p.2
def zero:Pt:=(0,1)
def neg(p:Pt):Pt:=(-p.1,p.2)
def mm(p q:Pt):F:=p.1*q.1*p.2*q.2
def jS(p q:Pt):Pt:=(cC*(p.1*q.2+p.2*q.1)*inv (cC+mm p q),cC*(p.2*q.2+p.1*q.1)*inv (cC-mm p q))
theorem MT(n:Nat)[NeZero n](c m:Fin n):c+1*m=c+m:=by grind
theorem MU(n:Nat)[NeZero n](c m:Fin n):c+(-1)*m=c-m:=by grind
theorem rV{p q:Pt}(a:gF p)(b:gF q):cC+mm p q≠0:=by
 have h:=complete a b 1 dc;rw[MT] at h;exact h
theorem rW{p q:Pt}(a:gF p)(b:gF q):cC-mm p q≠0:=by
 have h:=complete a b (-1) dc;rw[MU] at h;exact h
theorem MX(n:Nat)[NeZero n](c a y1 b y2:Fin n)(h1:a*a*(y1*y1)=c*(y1*y1-a*a-1))(h2:b*b*(y2*y2)=c*(y2*y2-b*b-1)):
  c*c*c*((a*y2+y1*b)*(a*y2+y1*b))*((y1*y2+a*b)*(y1*y2+a*b))=c*c*((y1*y2+a*b)*(y1*y2+a*b))*((c+a*b*y1*y2)*(c+a*b*y1*y2))-c*c*((a*y2+y1*b)*(a*y2+y1*b))*((c-a*b*y1*y2)*(c-a*b*y1*y2))-(c+a*b*y1*y2)*(c+a*b*y1*y2)*((c-a*b*y1*y2)*(c-a*b*y1*y2)):=by grind
theorem Q9(n:Nat)[NeZero n](c N M A B u v:Fin n)(hu:A*u=1)(hv:B*v=1)(h:c*c*c*(N*N)*(M*M)=c*c*(M*M)*(A*A)-c*c*(N*N)*(B*B)-A*A*(B*B)):
  (c*N*u)*(c*N*u)*((c*M*v)*(c*M*v))=c*((c*M*v)*(c*M*v)-(c*N*u)*(c*N*u)-1):=by
 have e:c*(c*c*c*(N*N)*(M*M))*(u*u)*(v*v)=c*(c*c*(M*M)*(A*A)-c*c*(N*N)*(B*B)-A*A*(B*B))*(u*u)*(v*v):=by rw[h]
 have a:(A*A)*(u*u)=1:=by grind
 have b:(B*B)*(v*v)=1:=by grind
 clear h hu hv;grind
theorem tS{p q:Pt}(a:gF p)(b:gF q):gF (jS p q):=
 Q9 P cC _ _ _ _ _ _ (ng (rV a b)) (ng (rW a b)) (MX P cC p.1 p.2 q.1 q.2 a b)
theorem G6:gF zero:=by unfold gF On zero;grind
theorem Fq{p:Pt}(a:gF p):gF (neg p):=by
 unfold gF On neg at*;have: -p.1* -p.1=p.1*p.1:=by grind
 simp only[this];exact a
theorem CK(p q:Pt):jS p q=jS q p:=by
 have h:mm p q=mm q p:=by unfold mm;grind
 have h1:p.1*q.2+p.2*q.1=q.1*p.2+q.2*p.1:=by grind
 have h2:p.2*q.2+p.1*q.1=q.2*p.2+q.1*p.1:=by grind
 unfold jS;rw[h,h1,h2]
theorem Ni(n:Nat)[NeZero n](c x y u:Fin n)(h:c*u=1):c*(x*1+y*0)*u=x:=by grind
theorem Nj(n:Nat)[NeZero n](c x y u:Fin n)(h:c*u=1):c*(y*1+x*0)*u=y:=by grind
theorem xy(p:Pt):jS p zero=p:=by
 have h:mm p zero=0:=by unfold mm zero;grind
 have h1:cC+0=cC:=by grind
 have h2:cC-0=cC:=by grind
 unfold jS;rw[h,h1,h2];exact fC (Ni P cC p.1 p.2 _ (ng tu)) (Nj P cC p.1 p.2 _ (ng tu))
theorem T1(p:Pt):jS zero p=p:=by rw[CK,xy]
theorem Mv(n:Nat)[NeZero n](c b y1 a y2 d y3:Fin n)(h1:b*b*(y1*y1)=c*(y1*y1-b*b-1))(h2:a*a*(y2*y2)=c*(y2*y2-a*a-1))(h3:d*d*(y3*y3)=c*(y3*y3-d*d-1)):
  ((b*y2+y1*a)*(c-b*a*y1*y2)*y3+(y1*y2+b*a)*(c+b*a*y1*y2)*d)*((c+a*d*y2*y3)*(c-a*d*y2*y3)+c*(a*y3+y2*d)*(y2*y3+a*d)*b*y1)
  =((a*y3+y2*d)*(c-a*d*y2*y3)*y1+(y2*y3+a*d)*(c+a*d*y2*y3)*b)*((c+b*a*y1*y2)*(c-b*a*y1*y2)+c*(b*y2+y1*a)*(y1*y2+b*a)*d*y3):=by grind
theorem Mw(n:Nat)[NeZero n](c b y1 a y2 d y3:Fin n)(h1:b*b*(y1*y1)=c*(y1*y1-b*b-1))(h2:a*a*(y2*y2)=c*(y2*y2-a*a-1))(h3:d*d*(y3*y3)=c*(y3*y3-d*d-1)):
  ((y1*y2+b*a)*(c+b*a*y1*y2)*y3+(b*y2+y1*a)*(c-b*a*y1*y2)*d)*((c+a*d*y2*y3)*(c-a*d*y2*y3)-c*(a*y3+y2*d)*(y2*y3+a*d)*b*y1)
  =((y2*y3+a*d)*(c+a*d*y2*y3)*y1+(a*y3+y2*d)*(c-a*d*y2*y3)*b)*((c+b*a*y1*y2)*(c-b*a*y1*y2)-c*(b*y2+y1*a)*(y1*y2+b*a)*d*y3):=by grind
theorem XL(n:Nat)[NeZero n](c N M A B u v s t w a:Fin n)(hu:A*u=1)(hv:B*v=1)(e:(c+c*N*u*s*(c*M*v)*t)*w=1)(d:a=c*(c*N*u*t+c*M*v*s)*w):
  c*((A*B+c*N*M*s*t)*a)=c*(c*(N*B*t+M*A*s)):=by
 have f:(c*N*u)*A=c*N:=by grind
 have g:(c*M*v)*B=c*M:=by grind
 generalize c*N*u=x at*;generalize c*M*v=y at*;have b:a*(c+x*s*y*t)=c*(x*t+y*s):=by grind
 have h:a*(c+x*s*y*t)*(A*B)=c*(x*t+y*s)*(A*B):=by rw[b]
 clear hu hv e d b;grind
theorem XM(n:Nat)[NeZero n](c N M A B u v s t w a:Fin n)(hu:A*u=1)(hv:B*v=1)(e:(c-c*N*u*s*(c*M*v)*t)*w=1)(d:a=c*(c*M*v*t+c*N*u*s)*w):
  c*((A*B-c*N*M*s*t)*a)=c*(c*(M*A*t+N*B*s)):=by
 have f:(c*N*u)*A=c*N:=by grind
 have g:(c*M*v)*B=c*M:=by grind
 generalize c*N*u=x at*;generalize c*M*v=y at*;have b:a*(c-x*s*y*t)=c*(y*t+x*s):=by grind
 have h:a*(c-x*s*y*t)*(A*B)=c*(y*t+x*s)*(A*B):=by rw[b]
 clear hu hv e d b;grind
theorem Q5(n:Nat)[NeZero n](c N M A B u v s t:Fin n)(hu:A*u=1)(hv:B*v=1)(a:A*B+c*N*M*s*t=0):c+c*N*u*s*(c*M*v)*t=0:=by
 have e:(A*B+c*N*M*s*t)*(c*u*v)=0:=by rw[a];grind
 have b:A*B*(u*v)=1:=by grind
 clear a hu hv;grind
theorem Q6(n:Nat)[NeZero n](c N M A B u v s t:Fin n)(hu:A*u=1)(hv:B*v=1)(a:A*B-c*N*M*s*t=0):c-c*N*u*s*(c*M*v)*t=0:=by
 have e:(A*B-c*N*M*s*t)*(c*u*v)=0:=by rw[a];grind
 have b:A*B*(u*v)=1:=by grind
 clear a hu hv;grind
theorem Eu{p q r:Pt}(a:gF p)(b:gF q)(e:gF r):
  ((cC+mm p q)*(cC-mm p q)+cC*(p.1*q.2+p.2*q.1)*(p.2*q.2+p.1*q.1)*r.1*r.2)*(jS (jS p q) r).1=cC*((p.1*q.2+p.2*q.1)*(cC-mm p q)*r.2+(p.2*q.2+p.1*q.1)*(cC+mm p q)*r.1)
  /\(cC+mm p q)*(cC-mm p q)+cC*(p.1*q.2+p.2*q.1)*(p.2*q.2+p.1*q.1)*r.1*r.2≠0:=by
 have hu:=ng (rV a b);have hv:=ng (rW a b);have c:=rV (tS a b) e;have f:=ng c;exact⟨tH tu (XL P cC (p.1*q.2+p.2*q.1) (p.2*q.2+p.1*q.1) (cC+mm p q) (cC-mm p q) _ _ r.1 r.2 _ _ hu hv f rfl),fun d=>c (Q5 P cC _ _ _ _ _ _ _ _ hu hv d)⟩
theorem Ev{p q r:Pt}(a:gF p)(b:gF q)(e:gF r):
  ((cC+mm p q)*(cC-mm p q)-cC*(p.1*q.2+p.2*q.1)*(p.2*q.2+p.1*q.1)*r.1*r.2)*(jS (jS p q) r).2=cC*((p.2*q.2+p.1*q.1)*(cC+mm p q)*r.2+(p.1*q.2+p.2*q.1)*(cC-mm p q)*r.1)
  /\(cC+mm p q)*(cC-mm p q)-cC*(p.1*q.2+p.2*q.1)*(p.2*q.2+p.1*q.1)*r.1*r.2≠0:=by
 have hu:=ng (rV a b);have hv:=ng (rW a b);have c:=rW (tS a b) e;have f:=ng c;exact⟨tH tu (XM P cC (p.1*q.2+p.2*q.1) (p.2*q.2+p.1*q.1) (cC+mm p q) (cC-mm p q) _ _ r.1 r.2 _ _ hu hv f rfl),fun d=>c (Q6 P cC _ _ _ _ _ _ _ _ hu hv d)⟩
theorem E5(n:Nat)[NeZero n](c f g a b d e:Fin n)(h1:a*f=c*b)(h2:d*g=c*e)(h:b*d=e*a):(a*d)*f=(a*d)*g:=by grind
theorem vg{p q r:Pt}(a:gF p)(b:gF q)(c:gF r):jS (jS p q) r=jS p (jS q r):=by
 rw[CK p (jS q r)];have a1:=Eu a b c;have a2:=Ev a b c;have b1:=Eu b c a;have d:=Ev b c a;have k1:=Mv P cC p.1 p.2 q.1 q.2 r.1 r.2 a b c;have k2:=Mw P cC p.1 p.2 q.1 q.2 r.1 r.2 a b c;exact fC (tH (mI a1.2 b1.2) (E5 P cC _ _ _ _ _ _ a1.1 b1.1 k1)) (tH (mI a2.2 d.2) (E5 P cC _ _ _ _ _ _ a2.1 d.1 k2))
def lD(p:Pt):Nat->Pt
 |0=>zero
 |n+1=>jS (lD p n) p
theorem ox{p:Pt}(a:gF p)(n:Nat):gF (lD p n):=by
 induction n with
 |zero=>exact G6
 |succ n ih=>exact tS ih a
theorem C2{p:Pt}(a:gF p)(m n:Nat):lD p (m+n)=jS (lD p m) (lD p n):=by
 induction n with
 |zero=>rw[eb];exact(xy _).symm
 |succ n ih=>
  show jS (lD p (m+n)) p=jS (lD p m) (jS (lD p n) p);rw[ih,vg (ox a m) (ox a n) a]
structure E where
 x:F
 y:F
 z:F
 t:F
def quot(e f g h:F):E:=⟨e*f,g*h,f*g,e*h⟩
def oP(p q:E):E:=
 quot ((p.y+p.x)*(q.y+q.x)-(p.y-p.x)*(q.y-q.x)) (p.z*q.z+p.z*q.z-p.t*(dD+dD)*q.t) (p.z*q.z+p.z*q.z+p.t*(dD+dD)*q.t) ((p.y+p.x)*(q.y+q.x)+(p.y-p.x)*(q.y-q.x))
def mh(p:E):E:=
 quot ((p.x+p.y)*(p.x+p.y)-p.x*p.x-p.y*p.y) (p.y*p.y-p.x*p.x-(p.z*p.z+p.z*p.z)) (p.y*p.y-p.x*p.x) (0-(p.x*p.x+p.y*p.y))
def rX(p:E):E:=⟨0-p.x,p.y,p.z,0-p.t⟩
def mq(x y:F):E:=⟨x,y,1,x*y⟩
def pf:E:=mq 0 1
structure lI(e:E)(p:Pt):Prop where
 z:e.z≠0
 x:e.x=p.1*e.z
 y:e.y=p.2*e.z
 t:e.t=p.1*p.2*e.z
theorem UU(n:Nat)[NeZero n](c y1 a d y2 b:Fin n):(y1*a+c*a)*(y2*b+d*b)-(y1*a-c*a)*(y2*b-d*b)=2*(a*b)*(c*y2+y1*d):=by grind
theorem UY(n:Nat)[NeZero n](c y1 a d y2 b:Fin n):(y1*a+c*a)*(y2*b+d*b)+(y1*a-c*a)*(y2*b-d*b)=2*(a*b)*(y1*y2+c*d):=by grind
theorem UW(n:Nat)[NeZero n](e y1 a f y2 b c d:Fin n)(h:d*c=1):a*b+a*b-e*y1*a*(d+d)*(f*y2*b)=2*(a*b)*(d*(c-e*f*y1*y2)):=by grind
theorem UX(n:Nat)[NeZero n](e y1 a f y2 b c d:Fin n)(h:d*c=1):a*b+a*b+e*y1*a*(d+d)*(f*y2*b)=2*(a*b)*(d*(c+e*f*y1*y2)):=by grind
theorem MZ(n:Nat)[NeZero n](k N A B d c u:Fin n)(h:d*c=1)(hu:A*u=1):k*N*(k*(d*B))=c*N*u*(k*(d*B)*(k*(d*A))):=by grind
theorem M0(n:Nat)[NeZero n](k M A B d c v:Fin n)(h:d*c=1)(hv:B*v=1):k*(d*A)*(k*M)=c*M*v*(k*(d*B)*(k*(d*A))):=by grind
theorem M1(n:Nat)[NeZero n](k N M A B d c u v:Fin n)(h:d*c=1)(hu:A*u=1)(hv:B*v=1):k*N*(k*M)=c*N*u*(c*M*v)*(k*(d*B)*(k*(d*A))):=by
 have a:k*N=c*N*u*(k*(d*A)):=by grind
 have b:k*M=c*M*v*(k*(d*B)):=by grind
 rw[a,b];grind
theorem yq:dD≠0:=dc
theorem JO{p q:Pt}(a:gF p)(b:gF q)(k e f g h:F)(c:k≠0)(d:e=k*(p.1*q.2+p.2*q.1))(i:f=k*(dD*(cC-mm p q)))(j:g=k*(dD*(cC+mm p q)))(l:h=k*(p.2*q.2+p.1*q.1)):
  lI (quot e f g h) (jS p q):=by
 have hu:=ng (rV a b);have hv:=ng (rW a b);subst d i j l;refine⟨?_,?_,?_,?_⟩
 ·exact mI (mI c (mI yq (rW a b))) (mI c (mI yq (rV a b)))
 ·exact MZ P k _ _ _ dD cC _ pe hu
 ·exact M0 P k _ _ _ dD cC _ pe hv
 ·exact M1 P k _ _ _ _ dD cC _ _ pe hu hv
theorem C0{e f:E}{p q:Pt}(c:gF p)(d:gF q)(a:lI e p)(b:lI f q):lI (oP e f) (jS p q):=by
 unfold oP;refine JO c d (2*(e.z*f.z)) _ _ _ _ (mI FI (mI a.z b.z)) ?_ ?_ ?_ ?_
 ·rw[a.x,a.y,b.x,b.y]
  exact UU P p.1 p.2 e.z q.1 q.2 f.z
 ·rw[a.t,b.t]
  exact UW P p.1 p.2 e.z q.1 q.2 f.z cC dD pe
 ·rw[a.t,b.t]
  exact UX P p.1 p.2 e.z q.1 q.2 f.z cC dD pe
 ·rw[a.x,a.y,b.x,b.y]
  exact UY P p.1 p.2 e.z q.1 q.2 f.z
theorem MP(n:Nat)[NeZero n](x y z:Fin n):(x*z+y*z)*(x*z+y*z)-x*z*(x*z)-y*z*(y*z)=z*z*(x*y+y*x):=by grind
theorem MQ(n:Nat)[NeZero n](x y z c d:Fin n)(h:d*c=1)(a:x*x*(y*y)=c*(y*y-x*x-1)):y*z*(y*z)-x*z*(x*z)-(z*z+z*z)=0-z*z*(d*(c-x*x*y*y)):=by
 have e:d*(x*x*(y*y))=y*y-x*x-1:=by rw[a];grind
 grind
theorem MR(n:Nat)[NeZero n](x y z c d:Fin n)(h:d*c=1)(a:x*x*(y*y)=c*(y*y-x*x-1)):y*z*(y*z)-x*z*(x*z)=z*z*(d*(c+x*x*y*y)):=by
 have e:d*(x*x*(y*y))=y*y-x*x-1:=by rw[a];grind
 grind
theorem MS(n:Nat)[NeZero n](x y z:Fin n):0-(x*z*(x*z)+y*z*(y*z))=0-z*z*(y*y+x*x):=by grind
theorem OL(n:Nat)[NeZero n](e f g h:Fin n):(e*(0-f),g*(0-h),(0-f)*g,e*(0-h))=(0-e*f,0-g*h,0-f*g,0-e*h):=by
 refine fC ?_ (fC ?_ (fC ?_ ?_))<;>grind
theorem Cn(n:Nat)[NeZero n](a b:Fin n):0-a*b=a*(0-b):=by grind
theorem ON(n:Nat)[NeZero n](a:Fin n)(h:0-a=0):a=0:=by grind
theorem PQ{e:E}{p:Pt}(h:lI e p):lI ⟨0-e.x,0-e.y,0-e.z,0-e.t⟩ p:=
 ⟨fun a=>h.z (ON P _ a),by show 0-e.x=_;rw[h.x];exact Cn P _ _,by show 0-e.y=_;rw[h.y];exact Cn P _ _,by show 0-e.t=_;rw[h.t];exact Cn P _ _⟩
theorem xE{e:E}{p:Pt}(c:gF p)(b:lI e p):lI (mh e) (jS p p):=by
 have h:=JO c c (e.z*e.z) _ _ _ _ (mI b.z b.z) rfl rfl rfl rfl;have h2:=PQ h;have f:=b.x;have g:=b.y;have d:mh e=quot (e.z*e.z*(p.1*p.2+p.2*p.1)) (0-e.z*e.z*(dD*(cC-mm p p))) (e.z*e.z*(dD*(cC+mm p p))) (0-e.z*e.z*(p.2*p.2+p.1*p.1)):=by
  unfold mh;rw[f,g,MP P p.1 p.2 e.z,MQ P p.1 p.2 e.z cC dD pe c,MR P p.1 p.2 e.z cC dD pe c,MS P p.1 p.2 e.z];rfl
 rw[d];have a:=OL P (e.z*e.z*(p.1*p.2+p.2*p.1)) (e.z*e.z*(dD*(cC-mm p p))) (e.z*e.z*(dD*(cC+mm p p))) (e.z*e.z*(p.2*p.2+p.1*p.1));simp only[Prod.mk.injEq] at a;unfold quot at h2⊢;rw[a.1,a.2.1,a.2.2.1,a.2.2.2];exact h2
theorem Fy:(1:F)≠0:=dc
theorem wV(n:Nat)[NeZero n](a:Fin n):a=a*1:=by grind
theorem zs(x y:F):lI (mq x y) (x,y):=⟨Fy,wV P x,wV P y,wV P (x*y)⟩
theorem MW(n:Nat)[NeZero n](a b:Fin n):0-a*b= -a*b:=by grind
theorem Q8(n:Nat)[NeZero n](a b c:Fin n):0-a*c*b= -a*c*b:=by grind
theorem UH{e:E}{p:Pt}(a:lI e p):lI (rX e) (neg p):=
 ⟨a.z,by show 0-e.x= -p.1*e.z;rw[a.x];exact MW P _ _,a.y,by show 0-e.t= -p.1*p.2*e.z;rw[a.t];exact Q8 P _ _ _⟩
theorem zy(n:Nat)[NeZero n](a z u:Fin n)(h:z*u=1):a*z*u=a:=by grind
theorem Vs{e:E}{p:Pt}(a:lI e p):e.x*inv e.z=p.1:=by rw[a.x];exact zy P _ _ _ (ng a.z)
theorem Vt{e:E}{p:Pt}(a:lI e p):e.y*inv e.z=p.2:=by rw[a.y];exact zy P _ _ _ (ng a.z)
structure T3 where
 x:F
 y:F
 z:F
def pX(p q:T3):T3:=
  ⟨p.z*q.z*((p.z*q.z*(p.z*q.z)-dD*(p.x*q.x*(p.y*q.y)))*((p.x+p.y)*(q.x+q.y)-p.x*q.x-p.y*q.y)),
   p.z*q.z*((p.z*q.z*(p.z*q.z)+dD*(p.x*q.x*(p.y*q.y)))*(p.y*q.y+p.x*q.x)),
   (p.z*q.z*(p.z*q.z)-dD*(p.x*q.x*(p.y*q.y)))*(p.z*q.z*(p.z*q.z)+dD*(p.x*q.x*(p.y*q.y)))⟩
structure oN(e:T3)(p:Pt):Prop where
 z:e.z≠0
 x:e.x=p.1*e.z
 y:e.y=p.2*e.z
theorem Nb(n:Nat)[NeZero n](e y1 a f y2 b c d:Fin n)(h:d*c=1):a*b*(a*b)-d*(e*a*(f*b)*(y1*a*(y2*b)))=a*b*(a*b)*(d*(c-e*f*y1*y2)):=by grind
theorem Nc(n:Nat)[NeZero n](e y1 a f y2 b c d:Fin n)(h:d*c=1):a*b*(a*b)+d*(e*a*(f*b)*(y1*a*(y2*b)))=a*b*(a*b)*(d*(c+e*f*y1*y2)):=by grind
theorem Nd(n:Nat)[NeZero n](c y1 a d y2 b:Fin n):(c*a+y1*a)*(d*b+y2*b)-c*a*(d*b)-y1*a*(y2*b)=a*b*(c*y2+y1*d):=by grind
theorem Nf(n:Nat)[NeZero n](c y1 a d y2 b:Fin n):y1*a*(y2*b)+c*a*(d*b)=a*b*(y1*y2+c*d):=by grind
theorem M'(n:Nat)[NeZero n](a N A B d c u:Fin n)(h:d*c=1)(hu:A*u=1):a*((a*a*(d*B))*(a*N))=c*N*u*((a*a*(d*B))*(a*a*(d*A))):=by grind
theorem Na(n:Nat)[NeZero n](a M A B d c v:Fin n)(h:d*c=1)(hv:B*v=1):a*((a*a*(d*A))*(a*M))=c*M*v*((a*a*(d*B))*(a*a*(d*A))):=by grind
theorem Df{e f:T3}{p q:Pt}(a:gF p)(b:gF q)(d:oN e p)(g:oN f q):oN (pX e f) (jS p q):=by
 have hu:=ng (rV a b);have hv:=ng (rW a b);have c:=mI d.z g.z;have h:pX e f=⟨e.z*f.z*((e.z*f.z*(e.z*f.z)*(dD*(cC-mm p q)))*(e.z*f.z*(p.1*q.2+p.2*q.1))),e.z*f.z*((e.z*f.z*(e.z*f.z)*(dD*(cC+mm p q)))*(e.z*f.z*(p.2*q.2+p.1*q.1))),(e.z*f.z*(e.z*f.z)*(dD*(cC-mm p q)))*(e.z*f.z*(e.z*f.z)*(dD*(cC+mm p q)))⟩:=by
  unfold pX;rw[d.x,d.y,g.x,g.y,Nb P p.1 p.2 e.z q.1 q.2 f.z cC dD pe,Nc P p.1 p.2 e.z q.1 q.2 f.z cC dD pe,Nd P p.1 p.2 e.z q.1 q.2 f.z,Nf P p.1 p.2 e.z q.1 q.2 f.z];rfl
 rw[h];refine⟨mI (mI (mI c c) (mI yq (rW a b))) (mI (mI c c) (mI yq (rV a b))),?_,?_⟩
 ·exact M' P (e.z*f.z) _ _ _ dD cC _ pe hu
 ·exact Na P (e.z*f.z) _ _ _ dD cC _ pe hv
theorem NW{e:T3}{p:Pt}(a:oN e p):e.x*inv e.z=p.1:=by rw[a.x];exact zy P _ _ _ (ng a.z)
theorem NX{e:T3}{p:Pt}(a:oN e p):e.y*inv e.z=p.2:=by rw[a.y];exact zy P _ _ _ (ng a.z)
def mR(x y:F):T3:=⟨x,y,1⟩
theorem Dd(x y:F):oN (mR x y) (x,y):=⟨Fy,wV P x,wV P y⟩
def e8:Nat:=7237005577332262213973186563042994240829374041602535252466099000494570602493
theorem Gk{g:F}(a:g≠0):gp g 28948022309329048855892746252171976963317496166410141009864396001978282409974=1\/gp g 28948022309329048855892746252171976963317496166410141009864396001978282409974= -1:=by
 have h:=xm a;rw[show P-1=28948022309329048855892746252171976963317496166410141009864396001978282409974+28948022309329048855892746252171976963317496166410141009864396001978282409974 from by decide,oc] at h;generalize gp g 28948022309329048855892746252171976963317496166410141009864396001978282409974=s at*;have h2:(s-1)*(s+1)=0:=by
  have:∀(n:Nat) [NeZero n] (s:Fin n),s*s=1->(s-1)*(s+1)=0:=by intro n _ s h;grind
  exact this P s h
 rcases tE h2 with h3|h3
 ·left
  have:∀(n:Nat) [NeZero n] (s:Fin n),s-1=0->s=1:=by intro n _ s h;grind
  exact this P s h3
 ·right
  have:∀(n:Nat) [NeZero n] (s:Fin n),s+1=0->s= -1:=by intro n _ s h;grind
  exact this P s h3
def pY(u v:F):F:=u*(v*v*v)*gp (u*(v*v*v*(v*v*v)*v)) e8
def qx(u v r:F):F×Bool:=if v*(r*r)=u then(r,true) else if v*(r*r)=0-u then(r*iI,true) else(0,false)
def pZ(u v:F):F×Bool:=qx u v (pY u v)
theorem M7(n:Nat)[NeZero n](u v r i:Fin n)(hi:i*i= -1)(h:v*(r*r)=0-u):v*(r*i*(r*i))=u:=by grind
theorem X9{u v r:F}(h:(qx u v r).2=true):v*((qx u v r).1*(qx u v r).1)=u:=by
 unfold qx at*;by_cases h1:v*(r*r)=u
 ·rw[if_pos h1];exact h1
 ·rw[if_neg h1] at*
  by_cases h2:v*(r*r)=0-u
  ·rw[if_pos h2];exact M7 P u v _ iI uA h2
  ·rw[if_neg h2] at h;cases h
theorem Xj{u v r:F}(h:(qx u v r).2=false):v*(r*r)≠u/\v*(r*r)≠0-u:=by
 unfold qx at h;by_cases h1:v*(r*r)=u
 ·rw[if_pos h1] at h;cases h
 ·rw[if_neg h1] at h
  by_cases h2:v*(r*r)=0-u
  ·rw[if_pos h2] at h;cases h
  ·exact⟨h1,h2⟩
theorem KC{u v:F}(h:(pZ u v).2=true):v*((pZ u v).1*(pZ u v).1)=u:=X9 (r:=pY u v) h
theorem M4(n:Nat)[NeZero n](v a b c:Fin n)(u:Fin n)(hu:u=0):v*(u*a*b*(u*a*c))=u:=by grind
theorem M5(n:Nat)[NeZero n](v x:Fin n):v*(x*x)*(v*v*v*(v*v*v)*v)=v*v*(v*v)*x*(v*v*(v*v)*x):=by grind
theorem M6(n:Nat)[NeZero n](u v s k:Fin n)(h:k=u*(v*v*v*(v*v*v)*v)):v*(u*(v*v*v)*s*(u*(v*v*v)*s))=u*(k*(s*s)):=by grind
theorem MY(n:Nat)[NeZero n](u k:Fin n)(h:k= -1):u*k=0-u:=by grind
theorem E6(n:Nat)[NeZero n](u k:Fin n)(h:k=1):u*k=u:=by grind
theorem PS{u v x:F}(hv:v≠0)(f:x≠0)(h:v*(x*x)=u):v*(pY u v*pY u v)=u\/v*(pY u v*pY u v)=0-u:=by
 have c:u*(v*v*v*(v*v*v)*v)=v*v*(v*v)*x*(v*v*(v*v)*x):=by rw[<-h];exact M5 P v x
 have a:v*v*(v*v)*x≠0:=mI (mI (mI hv hv) (mI hv hv)) f;have d:=M6 P u v (gp (u*(v*v*v*(v*v*v)*v)) e8) _ rfl;rw[show v*(pY u v*pY u v)=v*(u*(v*v*v)*gp (u*(v*v*v*(v*v*v)*v)) e8*(u*(v*v*v)*gp (u*(v*v*v*(v*v*v)*v)) e8)) from rfl,d,c];generalize v*v*(v*v)*x=g at a;have e:g*g*(gp (g*g) e8*gp (g*g) e8)=gp g 28948022309329048855892746252171976963317496166410141009864396001978282409974:=by
  have b:g*g=gp g 2:=by rw[show(2:Nat)=1+1 from rfl,oc,rM]
  rw[b,vk,<-oc,<-oc];congr 1
 rw[e];rcases Gk a with h1|h1
 ·left;exact E6 P u _ h1
 ·right;exact MY P u _ h1
theorem Ng(n:Nat)[NeZero n](u v x:Fin n)(a:x=0)(h:v*(x*x)=u):u=0:=by grind
theorem X8{u v:F}(hu:u=0):v*(pY u v*pY u v)=u:=M4 P v _ _ _ u hu
theorem Xi{u v:F}(hv:v≠0)(h:(pZ u v).2=false)(x:F):v*(x*x)≠u:=by
 intro c;have a:=Xj (r:=pY u v) h;by_cases b:x=0
 ·exact a.1 (X8 (Ng P u v x b c))
 ·rcases PS hv b c with h3|h3
  ·exact a.1 h3
  ·exact a.2 h3
def ri(a r i:F):F×Bool:=if r*r=a then(r,true) else(r*i,decide (r*i*(r*i)=a))
theorem Xk{a r i:F}(h:(ri a r i).2=true):(ri a r i).1*(ri a r i).1=a:=by
 unfold ri at*;by_cases h1:r*r=a
 ·rw[if_pos h1];exact h1
 ·rw[if_neg h1] at*;exact of_decide_eq_true h
theorem WN{a r i:F}(h:(ri a r i).2=false):r*r≠a/\r*i*(r*i)≠a:=by
 unfold ri at h;by_cases h1:r*r=a
 ·rw[if_pos h1] at h;cases h
 ·rw[if_neg h1] at h;exact⟨h1,of_decide_eq_false h⟩
def rt(a:F):F:=gp a 7237005577332262213973186563042994240829374041602535252466099000494570602494
def i2:F:=gp 2 14474011154664524427946373126085988481658748083205070504932198000989141204987
def qa(a:F):F×Bool:=ri a (rt a) i2
theorem U':i2=iI:=by
 apply dt;unfold i2;rw[CC 2 14474011154664524427946373126085988481658748083205070504932198000989141204987 254 iI.val dc kr]
theorem M8(n:Nat)[NeZero n](a r i:Fin n)(hi:i*i= -1)(h:r*r=a* -1):r*i*(r*i)=a:=by grind
theorem L3:rt 0=0:=by
 apply dt;unfold rt;rw[CC 0 7237005577332262213973186563042994240829374041602535252466099000494570602494 253 0 dc kr];rfl
theorem Vu{a x:F}(c:x*x=a):rt a*rt a=a*gp x 28948022309329048855892746252171976963317496166410141009864396001978282409974:=by
 have b:a=gp x 2:=by rw[<-c,show(2:Nat)=1+1 from rfl,oc,rM]
 unfold rt;rw[b,vk,<-oc,<-oc]
theorem E4(n:Nat)[NeZero n](x a:Fin n)(b:x=0)(h:x*x=a):a=0:=by grind
theorem KD{a:F}(h:(qa a).2=true):(qa a).1*(qa a).1=a:=Xk (r:=rt a) (i:=i2) h
theorem Xl{a:F}(h:(qa a).2=false)(x:F):x*x≠a:=by
 intro e;have b:=WN (r:=rt a) (i:=i2) h;rw[U'] at b;by_cases d:x=0
 ·have f:a=0:=E4 P x a d e
  refine b.1 ?_;rw[f,L3];exact E4 P 0 _ rfl rfl
 ·have c:=Vu e
  rcases Gk d with h3|h3
  ·refine b.1 ?_;rw[c,h3];exact E6 P a 1 rfl
  ·refine b.2 ?_;rw[h3] at c;exact M8 P a _ iI uA c
def vy(y:F):F:=dD*(y*y)+1
def uy(y:F):F:=y*y-1
theorem Nh(n:Nat)[NeZero n](y c d i:Fin n)(h:d*c=1)(hi:i*i= -1)(a:d*(y*y)+1=0):i*y*(i*y)=c:=by
 have:y*y= -c:=by
  have:c*(d*(y*y)+1)=0:=by rw[a];grind
  grind
 grind
theorem wA(y:F):vy y≠0:=fun h=>J5 (iI*y) (Nh P y cC dD iI pe uA h)
theorem WY(n:Nat)[NeZero n](x y c d:Fin n)(h:d*c=1)(a:x*x*(y*y)=c*(y*y-x*x-1)):(d*(y*y)+1)*(x*x)=y*y-1:=by
 have e:d*(x*x*(y*y))=y*y-x*x-1:=by rw[a];grind
 grind
theorem WZ(n:Nat)[NeZero n](x y c d:Fin n)(h:d*c=1)(b:(d*(y*y)+1)*(x*x)=y*y-1):x*x*(y*y)=c*(y*y-x*x-1):=by
 have e:c*(d*(y*y)*(x*x))=x*x*(y*y):=by grind
 have a:d*(y*y)*(x*x)=y*y-x*x-1:=by grind
 rw[<-e,a]
theorem sD(x y:F):gF (x,y)↔vy y*(x*x)=uy y:=⟨fun h=>WY P x y cC dD pe h,fun h=>WZ P x y cC dD pe h⟩
def iq(x:F):Bool:=x.val % 2==1
def qd(r:F×Bool)(h':Bool):F×Bool:=if r.2=false then(0,false) else if iq r.1=h' then(r.1,true) else(0-r.1,iq (0-r.1)==h')
def nf(y:F)(h':Bool):F×Bool:=qd (pZ (uy y) (vy y)) h'
theorem RO{x:F}(h:x≠0):(0-x).val=P-x.val:=by
 have h1:x.val≠0:=fun a=>h (dt a);show(P-x.val+0) % P=_;rw[eb];exact aP (by have:=x.isLt;omega)
theorem GA{x:F}(h:x≠0):iq (0-x)= !iq x:=by
 have h1:=x.isLt;unfold iq;rw[RO h];have a:P % 2=1:=dc
 rcases Nat.mod_two_eq_zero_or_one x.val with h2|h2
 ·have:(P-x.val) % 2=1:=by omega
  rw[h2,this];rfl
 ·have:(P-x.val) % 2=0:=by omega
  rw[h2,this];rfl
theorem IG(n:Nat)[NeZero n](v x:Fin n):v*((0-x)*(0-x))=v*(x*x):=by grind
theorem Yy{r:F×Bool}(h:(qd r h').2=true):r.2=true/\((qd r h').1=r.1\/(qd r h').1=0-r.1)/\iq (qd r h').1=h':=by
 unfold qd at*;by_cases h1:r.2=false
 ·rw[if_pos h1] at h;cases h
 ·rw[if_neg h1] at*
  have a:r.2=true:=by simpa using h1
  by_cases h2:iq r.1=h'
  ·rw[if_pos h2];exact⟨a,.inl rfl,h2⟩
  ·rw[if_neg h2] at*
   exact⟨a,.inr rfl,eq_of_beq h⟩
theorem Yn{r:F×Bool}(h:(qd r h').2=false):r.2=false\/iq r.1≠h'/\iq (0-r.1)≠h':=by
 unfold qd at h;by_cases h1:r.2=false
 ·exact .inl h1
 ·rw[if_neg h1] at h
  by_cases h2:iq r.1=h'
  ·rw[if_pos h2] at h;cases h
  ·rw[if_neg h2] at h
   exact .inr ⟨h2,fun h3=>by rw[beq_iff_eq.2 h3] at h;cases h⟩
theorem Yx{y:F}(h:(nf y h').2=true):gF ((nf y h').1,y)/\iq (nf y h').1=h':=by
 obtain⟨h1,h2,h3⟩:=Yy (r:=pZ (uy y) (vy y)) h;have a:=KC h1;refine⟨(sD _ _).2 ?_,h3⟩;unfold nf;rcases h2 with h2|h2
 ·rw[h2];exact a
 ·rw[h2,IG P];exact a
theorem OK(n:Nat)[NeZero n](v a b u:Fin n)(h1:v*(a*a)=u)(h2:v*(b*b)=u):v*((a-b)*(a+b))=0:=by grind
theorem MN(n:Nat)[NeZero n](a b:Fin n)(h:a-b=0):a=b:=by grind
theorem MO(n:Nat)[NeZero n](a b:Fin n)(h:a+b=0):a=0-b:=by grind
theorem Dv{a b y:F}(h1:gF (a,y))(h2:gF (b,y)):a=b\/a=0-b:=by
 have h3:=OK P (vy y) a b (uy y) ((sD _ _).1 h1) ((sD _ _).1 h2);rcases tE h3 with h|h
 ·exact absurd h (wA y)
 ·rcases tE h with h|h
  ·exact .inl (MN P _ _ h)
  ·exact .inr (MO P _ _ h)
theorem Te{a b y:F}(h1:gF (a,y))(h2:gF (b,y))(c:iq a=iq b):a=b:=by
 rcases Dv h1 h2 with h|h
 ·exact h
 ·by_cases d:b=0
  ·rw[h,d];rfl
  ·rw[h,GA d] at c
   cases e:iq b<;>rw[e] at c<;>cases c
theorem Ym{y:F}(h:(nf y h').2=false)(x:F)(c:gF (x,y)):iq x≠h':=by
 intro b;cases h1:(pZ (uy y) (vy y)).2 with
 |false=>exact Xi (wA y) h1 x ((sD _ _).1 c)
 |true=>
  have d:=(sD _ _).2 (KC h1);rcases Yn (r:=pZ (uy y) (vy y)) h with h2|h2
  ·rw[h1] at h2;cases h2
  ·rcases Dv c d with a|a
   ·exact h2.1 (by rw[<-a];exact b)
   ·exact h2.2 (by rw[<-a];exact b)
