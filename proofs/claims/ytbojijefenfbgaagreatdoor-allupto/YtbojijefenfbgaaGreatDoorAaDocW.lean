/- Walk of the document's own reckoning: Pointed. A region that draws its order, walked in the text's order: of each value of its head something is said that lasts (one value, or a block that was made); an operation that looks at a block that was made waits for what made it. Walks of the program's digits and of the document's High. Walks of the program's tickets and orders. The library's sort, found among the program's functions (numbers written by the kit's layer). -/
import Derived.Test.YtbojijefenfbgaaGreatDoorAaDocS
import Derived.Shelf.SlSortCmp.WholeK
import Derived.Test.YtbojijefenfbgaaGreatDoorChecked
open Option renaming some->Z,none->Y
open Go.Value renaming pointer->X,agg->H,bool->Bl,string->sT,tuple->Tp
open Go.Ending renaming returned->Re
open Go renaming World->D,Value->Vl
set_option maxHeartbeats 4000000
open Go Go.RowKit
namespace Go.Proofs.YtbojijefenfbgaaGreatDoor
open Tryz
namespace Dc
open Bt Ed
theorem GG(j:Nat)(a:j<16):2^255=65536^j*2^(255-16*j):=by
 rw[show(65536:Nat)=2^16 from rfl,<-Nat.pow_mul,<-Nat.pow_add];congr 1;omega
theorem QJ(n B c:Nat):n % (B*c) / B=n / B % c:=Nat.mod_mul_right_div_self n B c
theorem MI(n:Nat)(h:n<65536^16):dg (n:Int) 15 / 32768=((n / 2^255:Nat):Int):=by
 rw[sy,GG 15 dc,<-Nat.div_div_eq_div_mul];have h1:n / 65536^15<65536:=Nat.div_lt_of_lt_mul (by rw[<-Nat.pow_succ];exact h);rw[Nat.mod_eq_of_lt h1];generalize n / 65536^15=a;omega
theorem MF(n j:Nat)(b:j<16):(if j=15 then dg (n:Int) 15 % 32768 else dg (n:Int) j)=dg ((n % 2^255:Nat):Int) j:=by
 rw[sy (n % 2^255),GG j b,QJ];by_cases e:j=15
 ·subst e
  rw[if_pos rfl,sy];generalize n / 65536^15=a;rw[show 2^(255-16*15)=32768 from rfl];omega
 ·rw[if_neg e,sy]
  generalize n / 65536^j=a;rw[Nat.mod_mod_of_dvd];rw[show(65536:Nat)=2^16 from rfl];exact Nat.pow_dvd_pow 2 oM
theorem sE{c:Func}{p q:Tmp}(h:c.results= #[.cell p 100,.tmp q]){post:Ending->D->Prop}{a:Act}{w:D}(hd:a.defers=[])(g:Nat)(v:T3)(b:Bool)(f:a.tmps.getD p undef=X (Z ⟨g,0,Y⟩))(k:a.tmps.getD q undef=Bl b)(d:ej w g v)(j:post (Re (Tp #[H (tp v),Bl b])) w):
  bodyPost prog c post .ret a w:=by
 refine bodyPost_ret (v:=Tp #[H (tp v),Bl b]) ?_ hd j;have e:=run_loadVar_row (P:=prog) w g 100 100 (tp v) (0,0) _ d underlying100 rfl (by rw[lE];kernel_rfl);have i:a.tmps[p]?.getD undef=X (Z ⟨g,0,Y⟩):=by simpa using f
 have l:a.tmps[q]?.getD undef=Bl b:=by simpa using k
 simp[results,h,i,l,asAddr,e]
theorem xQ{ops:Array Oper}{rest:List Oper}{o:Oper}{a:Act}{w:D}{Q:Exit->Act->D->Prop}(b:o.guard=Y)(c:o.op= .build 100 #[])
  (h:wpList prog ops Q rest (a.put o.dst (H (tp t0))) w):wpList prog ops Q (o::rest) a w:=
 Own.qz b 100 #[] c (tp t0) (by rw[wZ];kernel_rfl) h
noncomputable def ug(y:F)(o:Bool):T3×Bool:=if (oY y o).2=false then(t0,false) else(⟨(oY y o).1,y,1⟩,true)
noncomputable def mO(N:Nat):T3×Bool:=if h:N % 2^255<P then ug ⟨N % 2^255,h⟩ (decide (N / 2^255=1)) else(t0,false)
noncomputable def si(l:List UInt8):T3×Bool:=if l.length=32 then mO (le l) else(t0,false)
theorem sY(y:F)(o:Bool):ug y o=if (oY y o).2=false then(t0,false) else(⟨(oY y o).1,y,1⟩,true):=rfl
set_option maxRecDepth 100000 in
theorem Ys(l:List UInt8)(a:l.length≠32)(w:D):Rt 41 #[sT ⟨l.toArray⟩] w (Tp #[H (tp t0),Bl false]):=by
 have b:¬(((⟨l.toArray⟩:ByteArray).size:Int)=32):=by
  show¬((l.length:Int)=32);omega
 have hd:=bne_iff_ne.2 b;generalize (⟨l.toArray⟩:ByteArray)=S at*;clear a;go_enter func41,ntmps41
 go_wp2_with (first|refine xF _ rfl rfl ?_|refine xQ rfl rfl ?_|refine Fs rfl _ _ rfl t0 rfl _ rfl rfl ?_)
 exact sE results41 rfl w.heap.size t0 false rfl rfl (heap_alloc_new _ _) ⟨rfl,(Below.refl _ _).alloc lR _⟩
end Dc
namespace Qt
section
variable {P:Program} {ops:Array Oper} {W:D} {R:Nat->Vl->D->Prop} {K:Act->D->Prop}
end
end Qt
namespace Tk
open Bt
end Tk
namespace Tk
open Bt Gw
end Tk
open Go.Shelf
def x4t:Go.Shelf.Ren:=⟨fun|6=>231|15=>220|14=>270|28=>265|29=>266|20=>280|21=>281|22=>282|23=>283|24=>284|25=>285|26=>286|27=>287|46=>293|47=>276|48=>277|49=>294|50=>295|57=>297|n=>n,fun|22=>167|24=>154|25=>258|3=>3|39=>175|0=>0|53=>200|55=>159|4=>4|46=>339|45=>338|50=>230|5=>5|9=>9|66=>351|70=>354|76=>362|77=>363|n=>n,fun|n=>n⟩
theorem GN:Go.Proofs.SlLaysF0.n6 prog x4t:={
 mixed:=kr
 f6:=⟨Tryz.f231.name,dc,func231.trans (congrArg Z kr)⟩
 f14:=⟨Tryz.f270.name,dc,func270.trans (congrArg Z kr)⟩
 f15:=func220.trans (congrArg Z kr)
 f20:=⟨Tryz.f280.name,dc,func280.trans (congrArg Z kr)⟩
 f21:=⟨Tryz.f281.name,dc,func281.trans (congrArg Z kr)⟩
 f22:=⟨Tryz.f282.name,dc,func282.trans (congrArg Z kr)⟩
 f23:=⟨Tryz.f283.name,dc,func283.trans (congrArg Z kr)⟩
 f24:=⟨Tryz.f284.name,dc,func284.trans (congrArg Z kr)⟩
 f25:=⟨Tryz.f285.name,dc,func285.trans (congrArg Z kr)⟩
 f26:=⟨Tryz.f286.name,dc,func286.trans (congrArg Z kr)⟩
 f27:=⟨Tryz.f287.name,dc,func287.trans (congrArg Z kr)⟩
 f28:=func265.trans (congrArg Z kr)
 f29:=func266.trans (congrArg Z kr)
 f46:=⟨Tryz.f293.name,dc,func293.trans (congrArg Z kr)⟩
 f47:=func276.trans (congrArg Z kr)
 f48:=func277.trans (congrArg Z kr)
 f49:=⟨Tryz.f294.name,dc,func294.trans (congrArg Z kr)⟩
 f50:=⟨Tryz.f295.name,dc,func295.trans (congrArg Z kr)⟩
 f57:=⟨Tryz.f297.name,dc,func297.trans (congrArg Z kr)⟩
 t0:=underlying0
 a0:=Tryz.isAgg0
 z0:=Tryz.sizeOf0
 v0:=Tryz.zeroValue0
 t3:=underlying3
 a3:=Tryz.isAgg3
 z3:=Tryz.sizeOf3
 v3:=Tryz.zeroValue3
 t4:=underlying4
 a4:=Tryz.isAgg4
 z4:=Tryz.sizeOf4
 v4:=Tryz.zeroValue4
 t5:=underlying5
 a5:=Tryz.isAgg5
 z5:=Tryz.sizeOf5
 v5:=Tryz.zeroValue5
 t9:=underlying9
 a9:=Tryz.isAgg9
 z9:=Tryz.sizeOf9
 v9:=Tryz.zeroValue9
 t22:=underlying167
 a22:=Tryz.isAgg167
 z22:=Tryz.sizeOf167
 v22:=Tryz.zeroValue167
 t25:=underlying258
 a25:=Tryz.isAgg258
 z25:=Tryz.sizeOf258
 v25:=Tryz.zeroValue258
 t39:=underlying175
 a39:=Tryz.isAgg175
 z39:=Tryz.sizeOf175
 v39:=Tryz.zeroValue175
 t45:=underlying338
 a45:=Tryz.isAgg338
 z45:=Tryz.sizeOf338
 v45:=Tryz.zeroValue338
 t46:=underlying339
 a46:=Tryz.isAgg339
 z46:=Tryz.sizeOf339
 v46:=Tryz.zeroValue339
 t50:=underlying230
 a50:=Tryz.isAgg230
 z50:=Tryz.sizeOf230
 v50:=Tryz.zeroValue230
 t53:=underlying200
 a53:=Tryz.isAgg200
 z53:=Tryz.sizeOf200
 v53:=Tryz.zeroValue200
 t55:=underlying159
 a55:=Tryz.isAgg159
 z55:=Tryz.sizeOf159
 v55:=Tryz.zeroValue159
 t66:=underlying351
 a66:=Tryz.isAgg351
 z66:=Tryz.sizeOf351
 v66:=Tryz.zeroValue351
 t70:=underlying354
 a70:=Tryz.isAgg354
 z70:=Tryz.sizeOf354
 v70:=Tryz.zeroValue354
 t76:=underlying362
 a76:=Tryz.isAgg362
 z76:=Tryz.sizeOf362
 v76:=Tryz.zeroValue362
 t77:=underlying363
 a77:=Tryz.isAgg363
 z77:=Tryz.sizeOf363
 v77:=Tryz.zeroValue363}
def x4u:Go.Shelf.Ren:=⟨fun|6=>152|15=>220|14=>219|28=>265|29=>266|20=>257|21=>258|22=>259|23=>260|24=>261|25=>262|26=>263|27=>264|46=>275|47=>276|48=>277|49=>278|50=>279|57=>292|n=>n,fun|22=>155|24=>245|25=>247|3=>3|39=>175|0=>0|53=>200|55=>159|4=>4|46=>339|45=>338|50=>230|5=>5|9=>9|66=>351|70=>354|76=>362|77=>363|n=>n,fun|n=>n⟩
theorem GO:Go.Proofs.SlLaysF0.n6 prog x4u:={
 mixed:=kr
 f6:=⟨Tryz.f152.name,dc,func152.trans (congrArg Z kr)⟩
 f14:=⟨Tryz.f219.name,dc,func219.trans (congrArg Z kr)⟩
 f15:=func220.trans (congrArg Z kr)
 f20:=⟨Tryz.f257.name,dc,func257.trans (congrArg Z kr)⟩
 f21:=⟨Tryz.f258.name,dc,func258.trans (congrArg Z kr)⟩
 f22:=⟨Tryz.f259.name,dc,func259.trans (congrArg Z kr)⟩
 f23:=⟨Tryz.f260.name,dc,func260.trans (congrArg Z kr)⟩
 f24:=⟨Tryz.f261.name,dc,func261.trans (congrArg Z kr)⟩
 f25:=⟨Tryz.f262.name,dc,func262.trans (congrArg Z kr)⟩
 f26:=⟨Tryz.f263.name,dc,func263.trans (congrArg Z kr)⟩
 f27:=⟨Tryz.f264.name,dc,func264.trans (congrArg Z kr)⟩
 f28:=func265.trans (congrArg Z kr)
 f29:=func266.trans (congrArg Z kr)
 f46:=⟨Tryz.f275.name,dc,func275.trans (congrArg Z kr)⟩
 f47:=func276.trans (congrArg Z kr)
 f48:=func277.trans (congrArg Z kr)
 f49:=⟨Tryz.f278.name,dc,func278.trans (congrArg Z kr)⟩
 f50:=⟨Tryz.f279.name,dc,func279.trans (congrArg Z kr)⟩
 f57:=⟨Tryz.f292.name,dc,func292.trans (congrArg Z kr)⟩
 t0:=underlying0
 a0:=Tryz.isAgg0
 z0:=Tryz.sizeOf0
 v0:=Tryz.zeroValue0
 t3:=underlying3
 a3:=Tryz.isAgg3
 z3:=Tryz.sizeOf3
 v3:=Tryz.zeroValue3
 t4:=underlying4
 a4:=Tryz.isAgg4
 z4:=Tryz.sizeOf4
 v4:=Tryz.zeroValue4
 t5:=underlying5
 a5:=Tryz.isAgg5
 z5:=Tryz.sizeOf5
 v5:=Tryz.zeroValue5
 t9:=underlying9
 a9:=Tryz.isAgg9
 z9:=Tryz.sizeOf9
 v9:=Tryz.zeroValue9
 t22:=underlying155
 a22:=Tryz.isAgg155
 z22:=Tryz.sizeOf155
 v22:=Tryz.zeroValue155
 t25:=underlying247
 a25:=Tryz.isAgg247
 z25:=Tryz.sizeOf247
 v25:=Tryz.zeroValue247
 t39:=underlying175
 a39:=Tryz.isAgg175
 z39:=Tryz.sizeOf175
 v39:=Tryz.zeroValue175
 t45:=underlying338
 a45:=Tryz.isAgg338
 z45:=Tryz.sizeOf338
 v45:=Tryz.zeroValue338
 t46:=underlying339
 a46:=Tryz.isAgg339
 z46:=Tryz.sizeOf339
 v46:=Tryz.zeroValue339
 t50:=underlying230
 a50:=Tryz.isAgg230
 z50:=Tryz.sizeOf230
 v50:=Tryz.zeroValue230
 t53:=underlying200
 a53:=Tryz.isAgg200
 z53:=Tryz.sizeOf200
 v53:=Tryz.zeroValue200
 t55:=underlying159
 a55:=Tryz.isAgg159
 z55:=Tryz.sizeOf159
 v55:=Tryz.zeroValue159
 t66:=underlying351
 a66:=Tryz.isAgg351
 z66:=Tryz.sizeOf351
 v66:=Tryz.zeroValue351
 t70:=underlying354
 a70:=Tryz.isAgg354
 z70:=Tryz.sizeOf354
 v70:=Tryz.zeroValue354
 t76:=underlying362
 a76:=Tryz.isAgg362
 z76:=Tryz.sizeOf362
 v76:=Tryz.zeroValue362
 t77:=underlying363
 a77:=Tryz.isAgg363
 z77:=Tryz.sizeOf363
 v77:=Tryz.zeroValue363}
