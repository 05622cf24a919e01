/- DecFin2, Put1, PixNum, PopNum, PixMath, Pix, PixRef, PlaneNum, PlaneFwd, PlaneBox, PlaneRef, PlaneWords, PlaneRefDr, PixRefSp. -/
import Derived.Test.YtbpniahcjbagmaaGreatDoorRows
import Derived.Test.YtbpniahcjbagmaaGreatDoorMk0b
set_option maxRecDepth 400000
set_option maxHeartbeats 64000000
set_option linter.unusedVariables false
set_option linter.unusedSimpArgs false
namespace Go.Proofs.YtbpniahcjbagmaaGreatDoor
section
namespace Dec
def zQQ(n:Int):List Int→Bool
 |[]=>false
 |x::xs=>if x=n then true else zQQ n xs
def LX:List Int:=[5,6,7,8,9,10,11,12,13,14,15,16,17,18,19,21,22,23,24,25,26,27,28,29,30,31,32,33,34,41,42,43,44,46,47,51]
def LY:List Int:=[7,10,11,12,13,14,15,16,17,18,19,23,41,46,47]
def LN:List Int:=[23,35,45]
def LNN:List Int:=[5,6,8,9,22]
def LA:List Int:=[3,4,20,21]
def hX(p:Pk):Bool:=match p with| .pX| .pXY| .pXYN| .pXNN| .pXAddr=>true|_=>false
def hY(p:Pk):Bool:=match p with| .pXY| .pXYN=>true|_=>false
def hN(p:Pk):Bool:=match p with| .pN| .pXYN=>true|_=>false
def hNN(p:Pk):Bool:=match p with| .pXNN=>true|_=>false
def hA(p:Pk):Bool:=match p with| .pAddr| .pXAddr=>true|_=>false
def hP(p:Pk):Bool:=match p with| .pPlanes=>true|_=>false
def hL(p:Pk):Bool:=match p with| .pNext=>true|_=>false
def QK(r:Rl):Prop:=zQQ r.op LX=hX r.pk∧zQQ r.op LY=hY r.pk∧zQQ r.op LN=hN r.pk∧zQQ r.op LNN=hNN r.pk∧zQQ r.op LA=hA r.pk∧((r.op:Int)==49)=hP r.pk∧((r.op:Int)==48)=hL r.pk∧(r.op=0∨(lvR r.op=r.level∧1≤r.level∧r.level≤3∧r.op≤51∧lv r.op=r.level))∧(r.op=43∨r.op=44→r.pk=.pX∧r.level=2)
instance(r:Rl):Decidable (QK r):=by unfold QK;infer_instance
theorem ZL(n:Nat):QK (top n):=qA (zW8 (fun r=>decide (QK r)) (by decide+kernel) (by decide+kernel) n)
theorem long0:(xF 16 fun x=>xF 256 fun l=>(Nat.beq (gI (Nat.add (Nat.mul x 256) (Nat.add 0 l))) 48)==(Nat.beq (Nat.add (Nat.mul x 256) (Nat.add 0 l)) 61440))=true:=by decide+kernel
theorem long1:(xF 16 fun x=>xF 256 fun l=>(Nat.beq (gI (Nat.add (Nat.mul x 256) (Nat.add 4096 l))) 48)==(Nat.beq (Nat.add (Nat.mul x 256) (Nat.add 4096 l)) 61440))=true:=by decide+kernel
theorem long2:(xF 16 fun x=>xF 256 fun l=>(Nat.beq (gI (Nat.add (Nat.mul x 256) (Nat.add 8192 l))) 48)==(Nat.beq (Nat.add (Nat.mul x 256) (Nat.add 8192 l)) 61440))=true:=by decide+kernel
theorem long3:(xF 16 fun x=>xF 256 fun l=>(Nat.beq (gI (Nat.add (Nat.mul x 256) (Nat.add 12288 l))) 48)==(Nat.beq (Nat.add (Nat.mul x 256) (Nat.add 12288 l)) 61440))=true:=by decide+kernel
theorem long4:(xF 16 fun x=>xF 256 fun l=>(Nat.beq (gI (Nat.add (Nat.mul x 256) (Nat.add 16384 l))) 48)==(Nat.beq (Nat.add (Nat.mul x 256) (Nat.add 16384 l)) 61440))=true:=by decide+kernel
theorem long5:(xF 16 fun x=>xF 256 fun l=>(Nat.beq (gI (Nat.add (Nat.mul x 256) (Nat.add 20480 l))) 48)==(Nat.beq (Nat.add (Nat.mul x 256) (Nat.add 20480 l)) 61440))=true:=by decide+kernel
theorem long6:(xF 16 fun x=>xF 256 fun l=>(Nat.beq (gI (Nat.add (Nat.mul x 256) (Nat.add 24576 l))) 48)==(Nat.beq (Nat.add (Nat.mul x 256) (Nat.add 24576 l)) 61440))=true:=by decide+kernel
theorem long7:(xF 16 fun x=>xF 256 fun l=>(Nat.beq (gI (Nat.add (Nat.mul x 256) (Nat.add 28672 l))) 48)==(Nat.beq (Nat.add (Nat.mul x 256) (Nat.add 28672 l)) 61440))=true:=by decide+kernel
theorem long8:(xF 16 fun x=>xF 256 fun l=>(Nat.beq (gI (Nat.add (Nat.mul x 256) (Nat.add 32768 l))) 48)==(Nat.beq (Nat.add (Nat.mul x 256) (Nat.add 32768 l)) 61440))=true:=by decide+kernel
theorem long9:(xF 16 fun x=>xF 256 fun l=>(Nat.beq (gI (Nat.add (Nat.mul x 256) (Nat.add 36864 l))) 48)==(Nat.beq (Nat.add (Nat.mul x 256) (Nat.add 36864 l)) 61440))=true:=by decide+kernel
theorem long10:(xF 16 fun x=>xF 256 fun l=>(Nat.beq (gI (Nat.add (Nat.mul x 256) (Nat.add 40960 l))) 48)==(Nat.beq (Nat.add (Nat.mul x 256) (Nat.add 40960 l)) 61440))=true:=by decide+kernel
theorem long11:(xF 16 fun x=>xF 256 fun l=>(Nat.beq (gI (Nat.add (Nat.mul x 256) (Nat.add 45056 l))) 48)==(Nat.beq (Nat.add (Nat.mul x 256) (Nat.add 45056 l)) 61440))=true:=by decide+kernel
theorem long12:(xF 16 fun x=>xF 256 fun l=>(Nat.beq (gI (Nat.add (Nat.mul x 256) (Nat.add 49152 l))) 48)==(Nat.beq (Nat.add (Nat.mul x 256) (Nat.add 49152 l)) 61440))=true:=by decide+kernel
theorem long13:(xF 16 fun x=>xF 256 fun l=>(Nat.beq (gI (Nat.add (Nat.mul x 256) (Nat.add 53248 l))) 48)==(Nat.beq (Nat.add (Nat.mul x 256) (Nat.add 53248 l)) 61440))=true:=by decide+kernel
theorem long14:(xF 16 fun x=>xF 256 fun l=>(Nat.beq (gI (Nat.add (Nat.mul x 256) (Nat.add 57344 l))) 48)==(Nat.beq (Nat.add (Nat.mul x 256) (Nat.add 57344 l)) 61440))=true:=by decide+kernel
theorem long15:(xF 16 fun x=>xF 256 fun l=>(Nat.beq (gI (Nat.add (Nat.mul x 256) (Nat.add 61440 l))) 48)==(Nat.beq (Nat.add (Nat.mul x 256) (Nat.add 61440 l)) 61440))=true:=by decide+kernel
theorem zLS(hd x l:Nat)(h0:hd<16)(h1:x<16)(h2:l<256):(Nat.beq (gI (x*256+(hd*4096+l))) 48)=(Nat.beq (x*256+(hd*4096+l)) 61440):=by
 have hh:hd=0∨hd=1∨hd=2∨hd=3∨hd=4∨hd=5∨hd=6∨hd=7∨hd=8∨hd=9∨hd=10∨hd=11∨hd=12∨hd=13∨hd=14∨hd=15:=zGX;rcases hh with rfl|rfl|rfl|rfl|rfl|rfl|rfl|rfl|rfl|rfl|rfl|rfl|rfl|rfl|rfl|rfl
 ·exact j9 (nX 256 _ (nX 16 _ long0 x h1) l h2)
 ·exact j9 (nX 256 _ (nX 16 _ long1 x h1) l h2)
 ·exact j9 (nX 256 _ (nX 16 _ long2 x h1) l h2)
 ·exact j9 (nX 256 _ (nX 16 _ long3 x h1) l h2)
 ·exact j9 (nX 256 _ (nX 16 _ long4 x h1) l h2)
 ·exact j9 (nX 256 _ (nX 16 _ long5 x h1) l h2)
 ·exact j9 (nX 256 _ (nX 16 _ long6 x h1) l h2)
 ·exact j9 (nX 256 _ (nX 16 _ long7 x h1) l h2)
 ·exact j9 (nX 256 _ (nX 16 _ long8 x h1) l h2)
 ·exact j9 (nX 256 _ (nX 16 _ long9 x h1) l h2)
 ·exact j9 (nX 256 _ (nX 16 _ long10 x h1) l h2)
 ·exact j9 (nX 256 _ (nX 16 _ long11 x h1) l h2)
 ·exact j9 (nX 256 _ (nX 16 _ long12 x h1) l h2)
 ·exact j9 (nX 256 _ (nX 16 _ long13 x h1) l h2)
 ·exact j9 (nX 256 _ (nX 16 _ long14 x h1) l h2)
 ·exact j9 (nX 256 _ (nX 16 _ long15 x h1) l h2)
theorem zKX(b0 b1:Nat)(h0:b0<256)(h1:b1<256):(top (b0*256+b1)).op=48↔b0=240∧b1=0:=by
 have h:=zLS (b0/16) (b0%16) b1 zGX zGX h1;have e:b0%16*256+(b0/16*4096+b1)=b0*256+b1:=zGX;rw[e,←zW9]at h;constructor
 ·intro k;rw[k]at h;have:=lX h.symm;omega
 ·rintro⟨rfl,rfl⟩;exact lX (h.trans rfl)
theorem JA{b0 b1:Nat}(h0:b0<256)(h1:b1<256):(b0=240∧b1=0)→(top (b0*256+b1)).level=3∧(top (b0*256+b1)).op=48:=by
 rintro⟨rfl,rfl⟩;decide+kernel
theorem zJM{b0 b1:Nat}{l:Int}(h0:b0<256)(h1:b1<256)(h:ok b0 b1 l=true):skl b0 b1 l=if(top (b0*256+b1)).op=48 then 4 else 2:=by
 unfold skl;by_cases hf:b0=240∧b1=0
 ·have hl:=JA h0 h1 hf;rw[zN hl.2];unfold ok alw at h;rw[hl.2,hl.1]at h;simp at h;rw[zN ⟨by omega,hf⟩]
 ·rw[zL (fun k=>hf ((zKX b0 b1 h0 h1).1 k)),zL (fun k=>hf k.2)]
theorem skl_no{b0 b1:Nat}{l:Int}(h0:b0<256)(h1:b1<256)(h:ok b0 b1 l=false):skl b0 b1 l=2:=by
 unfold skl;by_cases hf:l=3∧b0=240∧b1=0
 ·exfalso
  have hl:=JA h0 h1 hf.2;unfold ok alw at h;rw[hl.2,hl.1,hf.1]at h;cases h
 ·rw[zL hf]
end Dec
end
section
open Go.RowKit
section
variable {P:Program} {b:Nat} {T:TypeId} {cs:Array Value} {w:World}
end
end
section
namespace Num
open Go.RowKit
def hi(r:BitVec 128):BitVec 64:=r.extractLsb' 64 64
def lo(r:BitVec 128):BitVec 64:=r.extractLsb' 0 64
theorem wJ(h l:BitVec 64):hi (h++l)=h:=by
 apply BitVec.eq_of_getLsbD_eq
 intro i hi'
 simp only[hi,BitVec.getLsbD_extractLsb',BitVec.getLsbD_append];rw[zL zGX,show 64+i-64=i by omega];simp[hi']
theorem wQ(h l:BitVec 64):lo (h++l)=l:=by
 apply BitVec.eq_of_getLsbD_eq
 intro i hi'
 simp only[lo,BitVec.getLsbD_extractLsb',BitVec.getLsbD_append];rw[zN zGX,show 0+i=i by omega];simp[hi']
theorem aT(r:BitVec 128):hi r++lo r=r:=by
 apply BitVec.eq_of_getLsbD_eq
 intro i hi'
 simp only[hi,lo,BitVec.getLsbD_extractLsb',BitVec.getLsbD_append];split
 ·rename_i h;simp[h]
 ·rename_i h
  rw[show 64+(i-64)=i by omega];simp;omega
theorem XD(h l h' l':BitVec 64):(h++l)&&&(h'++l')=(h&&&h')++(l&&&l'):=by
 apply kB
 intro i _
 simp only[BitVec.getMsbD_and,kW];split<;>rfl
theorem XT(h l h' l':BitVec 64):(h++l)^^^(h'++l')=(h^^^h')++(l^^^l'):=by
 apply kB
 intro i _
 simp only[BitVec.getMsbD_xor,kW];split<;>rfl
theorem zN3{h l h' l':BitVec 64}:h++l=h'++l'↔h=h'∧l=l':=
 ⟨fun e=>⟨by rw[←wJ h l,e,wJ],by rw[←wQ h l,e,wQ]⟩,fun⟨a,b⟩=>by rw[a,b]⟩
def rv(r:BitVec 128):Value:=.agg #[.int .u64 ((hi r).toNat:Int),.int .u64 ((lo r).toNat:Int)]
theorem mY(h l:BitVec 64):rv (h++l)=.agg #[.int .u64 (h.toNat:Int),.int .u64 (l.toNat:Int)]:=by rw[rv,wJ,wQ]
theorem zJG(u:BitVec 64)(c:Int):(u.toNat:Int)*2^min c.toNat 64%18446744073709551616=((u<<<c.toNat).toNat:Int):=by
 rw[BitVec.toNat_shiftLeft,Nat.shiftLeft_eq];rcases jU c.toNat 64 with h|h
 ·rw[Nat.min_eq_left zGX];simp
 ·rw[Nat.min_eq_right zGX];have e1:u.toNat*2^c.toNat%2^64=0:=by
   rw[show c.toNat=(c.toNat-64)+64 by omega,Nat.pow_add,←Nat.mul_assoc];exact Nat.mul_mod_left _ _
  rw[e1];omega
theorem zHA(u:BitVec 64)(c:Int):(u.toNat:Int)/2^min c.toNat 64=((u>>>c.toNat).toNat:Int):=by
 rw[BitVec.toNat_ushiftRight,Nat.shiftRight_eq_div_pow];rcases jU c.toNat 64 with h|h
 ·rw[Nat.min_eq_left zGX];simp
 ·rw[Nat.min_eq_right zGX];have h2:u.toNat<2^c.toNat:=zD u.isLt (Nat.pow_le_pow_right zGL zGX);rw[Nat.div_eq_of_lt h2];have:=u.isLt;omega
theorem dN(u:BitVec 64):BitVec.ofInt 64 (u.toNat:Int)=u:=by
 apply BitVec.eq_of_toNat_eq
 rw[BitVec.toNat_ofInt]
 have:=u.isLt;omega
theorem LR(u:BitVec 64):IntKind.u64.wrap (u.toNat:Int)=(u.toNat:Int):=by
 rw[IntKind.wrap_u64];have:=u.isLt;omega
theorem zLZ(u v:BitVec 64):bits .or .u64 (u.toNat:Int) (v.toNat:Int)=((u|||v).toNat:Int):=by
 show IntKind.u64.wrap (((BitVec.ofInt 64 (u.toNat:Int)|||BitVec.ofInt 64 (v.toNat:Int)).toNat:Nat):Int)=_;rw[dN,dN,LR]
theorem zH6(u v:BitVec 64):bits .and .u64 (u.toNat:Int) (v.toNat:Int)=((u&&&v).toNat:Int):=by
 show IntKind.u64.wrap (((BitVec.ofInt 64 (u.toNat:Int)&&&BitVec.ofInt 64 (v.toNat:Int)).toNat:Nat):Int)=_;rw[dN,dN,LR]
theorem zHF(u v:BitVec 64):bits .xor .u64 (u.toNat:Int) (v.toNat:Int)=((u^^^v).toNat:Int):=by
 show IntKind.u64.wrap (((BitVec.ofInt 64 (u.toNat:Int)^^^BitVec.ofInt 64 (v.toNat:Int)).toNat:Nat):Int)=_;rw[dN,dN,LR]
theorem gL{n:Nat}(x:BitVec n)(i:Nat)(h:n≤i):x.getMsbD i=false:=by
 rw[BitVec.getMsbD_eq_getLsbD,zO zGX];rfl
theorem zJ5(h l:BitVec 64)(k k1 k2:Nat)(e:(k≤64∧k1=64-k)∨(64<k∧64≤k1))(e2:(64≤k∧k2=k-64)∨(k<64∧64≤k2)):
  (h>>>k)++(l>>>k|||h<<<k1|||h>>>k2)=(h++l)>>>k:=by
 apply kB
 intro i hi'
 simp only[kW,BitVec.getMsbD_ushiftRight,BitVec.getMsbD_or,BitVec.getMsbD_shiftLeft];by_cases hlt:64≤i
 ·rw[zN hlt];rcases e with⟨a,b⟩|⟨a,b⟩
  ·rcases e2 with⟨c,d⟩|⟨c,d⟩
   ·have hk:k=64:=zGX;subst hk;subst b;subst d;rw[zL zGX];simp;rw[show decide (i-64<64)=true by simp;omega,show decide (i<128)=true by simp;omega,show decide (i<64)=false by simp;omega];simp
   ·rw[show decide (i-64<k2)=true by simp;omega,show decide (i-64<64)=true by simp;omega];subst b;by_cases hik:i-64<k
    ·rw[zL zGX,show i-64+(64-k)=i-k by omega,show decide (i-64<k)=true by simp;omega,show decide (i<k)=false by simp;omega];simp;omega
    ·rw[zN zGX,show decide (i-64<k)=false by simp;omega,show decide (i<k)=false by simp;omega,gL h (i-64+(64-k)) zGX,show i-64-k=i-k-64 by omega];simp;omega
  ·rcases e2 with⟨c,d⟩|⟨c,d⟩
   ·rw[show decide (i-64<64)=true by simp;omega,show decide (i-64<k)=true by simp;omega,gL h (i-64+k1) zGX];subst d;rw[zL zGX];by_cases hik:i<k
    ·rw[show decide (i-64<k-64)=true by simp;omega,show decide (i<k)=true by simp;omega];simp
    ·rw[show decide (i-64<k-64)=false by simp;omega,show decide (i<k)=false by simp;omega,show i-64-(k-64)=i-k by omega];simp;omega
   ·omega
 ·rw[zL hlt,zL zGX,show decide (i<64)=true by simp;omega,show decide (i<64+64)=true by simp;omega]
theorem zLP(h l:BitVec 64)(k k1 k2:Nat)(e:(k≤64∧k1=64-k)∨(64<k∧64≤k1))(e2:(64≤k∧k2=k-64)∨(k<64∧64≤k2)):
  (h<<<k|||l>>>k1|||l<<<k2)++(l<<<k)=(h++l)<<<k:=by
 apply kB
 intro i hi'
 simp only[kW,BitVec.getMsbD_ushiftRight,BitVec.getMsbD_or,BitVec.getMsbD_shiftLeft];by_cases hlt:64≤i
 ·rw[zN hlt,zN zGX,show i-64+k=i+k-64 by omega]
 ·rw[zL hlt,show decide (i<64)=true by simp;omega];rcases e with⟨a,b⟩|⟨a,b⟩
  ·subst b;rcases e2 with⟨c,d⟩|⟨c,d⟩
   ·have hk:k=64:=zGX;subst hk;subst d;rw[zN zGX,gL h (i+64) zGX];simp
   ·rw[gL l (i+k2) zGX];by_cases hik:i+k<64
    ·rw[zL zGX,show decide (i<64-k)=true by simp;omega];simp
    ·rw[zN zGX,gL h (i+k) zGX,show decide (i<64-k)=false by simp;omega,show i-(64-k)=i+k-64 by omega];simp
  ·rcases e2 with⟨c,d⟩|⟨c,d⟩
   ·subst d;rw[zN zGX,gL h (i+k) zGX,show decide (i<k1)=true by simp;omega,show i+(k-64)=i+k-64 by omega];simp
   ·omega
def mv(r:BitVec 128)(n:Int):BitVec 128:=if n<0 then r<<<(-n).toNat else r>>>n.toNat
def uT(n:Int):BitVec 128:=mv (BitVec.allOnes 128) (n-128)
def VG(x:Int):BitVec 128:=mv (BitVec.twoPow 128 127) x
def uA(r:BitVec 128)(n width:Int):BitVec 128:=mv r n&&&uT width
def px(r:BitVec 128)(x:Nat):Bool:=r.getMsbD x
theorem gV{r s:BitVec 128}(h:∀x,x<128→px r x=px s x):r=s:=kB h
theorem zXV(r:BitVec 128)(x:Nat)(h:128≤x):px r x=false:=gL r x h
theorem oP(r s:BitVec 128)(x:Nat):px (r&&&s) x=(px r x&&px s x):=BitVec.getMsbD_and
theorem oS(r s:BitVec 128)(x:Nat):px (r^^^s) x=(px r x^^px s x):=BitVec.getMsbD_xor
theorem wO(x:Nat):px 0#128 x=false:=by simp[px]
def pxi(r:BitVec 128)(x:Int):Bool:=decide (0≤x)&&px r x.toNat
theorem AC(r:BitVec 128)(n:Int)(x:Nat)(hx:x<128):px (mv r n) x=pxi r (x-n):=by
 unfold mv px pxi px;split
 ·rw[BitVec.getMsbD_shiftLeft,qY zGX,show((x:Int)-n).toNat=x+(-n).toNat by omega];rfl
 ·rw[BitVec.getMsbD_ushiftRight,qY hx];by_cases h:x<n.toNat
  ·rw[qY h,zO zGX];rfl
  ·rw[zO h,qY zGX,show((x:Int)-n).toNat=x-n.toNat by omega];rfl
theorem JG(n:Int)(x:Nat)(hx:x<128)(hn:n≤128):px (uT n) x=decide ((x:Int)<n):=by
 unfold uT;rw[AC _ _ _ hx,pxi,px,BitVec.getMsbD_allOnes,Bool.eq_iff_iff];simp;omega
theorem VK(n:Int)(x:Nat)(hx:x<128):px (VG n) x=decide ((x:Int)=n):=by
 unfold VG;rw[AC _ _ _ hx,pxi,px,BitVec.getMsbD_eq_getLsbD,BitVec.getLsbD_twoPow,Bool.eq_iff_iff];simp;omega
theorem VJ(r:BitVec 128)(n width:Int)(x:Nat)(hx:x<128)(hn:width≤128):px (uA r n width) x=(pxi r (x-n)&&decide ((x:Int)<width)):=by
 unfold uA;rw[oP,AC _ _ _ hx,JG _ _ hx hn]
def zJB(r:BitVec 128)(x:Int)(b:Bool):BitVec 128:=if b then(r^^^(r&&&VG x))^^^(uT 128&&&VG x)else r^^^(r&&&VG x)
theorem zXK(r:BitVec 128)(x:Int)(b:Bool)(y:Nat)(hy:y<128):px (zJB r x b) y=if(y:Int)=x then b else px r y:=by
 unfold zJB;cases b
 ·rw[zL zGN,oS,oP,VK _ _ hy];split<;>rename_i h<;>simp[h]
 ·rw[zN rfl,oS,oS,oP,oP,VK _ _ hy,JG _ _ hy zGL];split<;>rename_i h<;>simp[h]
  omega
end Num
namespace Num
open Go.RowKit
def pcn(f:Nat→Bool):Nat→Nat
 |0=>0
 |k+1=>pcn f k+(f k).toNat
theorem U2{f g:Nat→Bool}(k:Nat)(h:∀i,i<k→f i=g i):pcn f k=pcn g k:=by
 induction k with
 |zero=>rfl
 |succ k ih=>rw[pcn,pcn,ih fun i hi=>h i zGX,h k zGX]
theorem zY5(f:Nat→Bool)(j k:Nat):pcn f (j+k)=pcn f j+pcn (fun i=>f (j+i)) k:=by
 induction k with
 |zero=>rfl
 |succ k ih=>rw[←qP,pcn,pcn,ih];omega
theorem zXN{f:Nat→Bool}{k:Nat}:pcn f k=0↔∀i,i<k→f i=false:=by
 induction k with
 |zero=>simp[pcn]
 |succ k ih=>
  rw[pcn]
  constructor
  ·intro h i hi
   rcases jU i k with hlt|hge
   ·exact ih.1 zGX i hlt
   ·have:i=k:=by omega
    subst this
    cases hf:f i
    ·rfl
    ·rw[hf]at h;simp at h
  ·intro h
   rw[ih.2 fun i hi=>h i zGX,h k zGX]
   rfl
def V:List Nat→Nat
 |[]=>0
 |d::ds=>256*V ds+d
def t1(d:Nat):Nat:=(d/2&&&85)+(d&&&85)
def t2(d:Nat):Nat:=(d/4&&&51)+(d&&&51)
def t3(d:Nat):Nat:=(d/16+d)&&&15
def zVD(r:BitVec 128):Nat:=pcn (px r) 128
theorem W8(r:BitVec 128):zVD r=0↔r=0#128:=by
 rw[zVD,zXN];constructor
 ·intro h;exact gV fun x hx=>by rw[h x hx,wO]
 ·rintro rfl x _;exact wO x
end Num
namespace Num
open Go.RowKit
def spF(b c x m:Nat)(clip:Bool)(k j:Nat):Bool:=
 (decide (x≤j∧j<x+c∧j<m∧c+x≤j+k)&&b.testBit (c-1-(j-x)))||(!clip&&(decide (j+m<x+c∧c+x≤j+m+k)&&b.testBit (c-1-(j+m-x))))
def sp0(b c:Nat):BitVec 128:=(BitVec.ofNat 64 b<<<(64-c))++0#64
def rV(b c x m:Nat)(clip:Bool):BitVec 128:=if clip then uA (sp0 b c) x m else uA (sp0 b c) x m^^^mv (sp0 b c) ((x:Int)-m)
theorem px_sp0(b c i:Nat)(c1:c≤16):px (sp0 b c) i=(decide (i<c)&&b.testBit (c-1-i)):=by
 unfold sp0 px;rw[kW];split
 ·rw[zO zGX];simp
 ·rw[BitVec.getMsbD_shiftLeft,BitVec.getMsbD_eq_getLsbD,BitVec.getLsbD_ofNat];by_cases h:i<c
  ·rw[qY zGX,qY zGX,qY h,show 64-1-(i+(64-c))=c-1-i by omega];simp
  ·rw[zO (p:=i+(64-c)<64) zGX,zO h];rfl
theorem AF(b c:Nat)(i:Int)(c1:c≤16):pxi (sp0 b c) i=(decide (0≤i∧i<c)&&b.testBit (c-1-i.toNat)):=by
 unfold pxi;rw[px_sp0 b c _ c1];by_cases h:0≤i
 ·rw[qY h,show decide (i.toNat<c)=decide (0≤i∧i<c) by congr 1;simp;omega];rfl
 ·rw[zO h,zO (p:=0≤i∧i<(c:Int)) zGX];rfl
theorem UI(b c x m:Nat)(clip:Bool)(c1:c≤16)(hm:16≤m)(m1:m≤128)(hx:x<m)(j:Nat)(hj:j<128):px (rV b c x m clip) j=spF b c x m clip c j:=by
 have e1:px (uA (sp0 b c) x m) j=(decide (x≤j∧j<x+c∧j<m∧c+x≤j+c)&&b.testBit (c-1-(j-x))):=by
  rw[VJ _ _ _ _ hj zGX,AF _ _ _ c1,show((j:Int)-(x:Int)).toNat=j-x by omega];by_cases h:x≤j∧j<x+c∧j<m
  ·rw[qY (p:=0≤(j:Int)-x∧(j:Int)-x<c) zGX,qY (p:=(j:Int)<(m:Int)) zGX,qY zGX];simp
  ·rw[zO (p:=x≤j∧_) zGX];by_cases h2:(j:Int)<(m:Int)
   ·rw[zO (p:=0≤(j:Int)-x∧(j:Int)-x<c) zGX];rfl
   ·rw[zO h2];simp
 have e2:px (mv (sp0 b c) ((x:Int)-m)) j=(decide (j+m<x+c∧c+x≤j+m+c)&&b.testBit (c-1-(j+m-x))):=by
  rw[AC _ _ _ hj,AF _ _ _ c1,show((j:Int)-((x:Int)-(m:Int))).toNat=j+m-x by omega,
   show decide (0≤(j:Int)-((x:Int)-(m:Int))∧(j:Int)-((x:Int)-(m:Int))<c)=decide (j+m<x+c∧c+x≤j+m+c) by congr 1;simp;omega]
 unfold rV spF;cases clip
 ·rw[zL zGN,oS,e1,e2];by_cases h:x≤j
  ·rw[zO (p:=j+m<x+c∧_) zGX];simp
  ·rw[zO (p:=x≤j∧_) zGX];simp
 ·rw[zN rfl,e1];simp
theorem AE(r:BitVec 128)(i:Int)(h:i<0):pxi r i=false:=by
 rw[pxi,zO zGX,Bool.false_and]
theorem sO(r:BitVec 128)(i:Nat):pxi r (i:Int)=px r i:=by
 rw[pxi,qY zGX,Bool.true_and,Int.toNat_natCast]
def YQ(r:BitVec 128)(m:Nat):Prop:=∀i:Int,m≤i→pxi r i=false
theorem zXX(i:Int):pxi 0#128 i=false:=by rw[pxi,wO,Bool.and_false]
theorem set_get(r:BitVec 128)(x:Nat)(b:Bool)(hx:x<128):pxi (zJB r x b) x=b:=by
 rw[sO,zXK _ _ _ _ hx,zN rfl]
theorem yZ(r:BitVec 128):∃h l:BitVec 64,r=h++l:=⟨hi r,lo r,(aT r).symm⟩
end Num
end
section
open Go.RowKit Num
theorem fE(h l h' l':BitVec 64)(w:World):Calls Tryz.prog 202 #[.agg #[.int .u64 (h.toNat:Int),.int .u64 (l.toNat:Int)],.agg #[.int .u64 (h'.toNat:Int),.int .u64 (l'.toNat:Int)]] w fun e w'=>
  e=.returned (.agg #[.int .u64 ((h&&&h').toNat:Int),.int .u64 ((l&&&l').toNat:Int)])∧Below w.heap.size w w':=by
 go_enter Tryz.func202,Tryz.ntmps202;go_wp2;go_returns;refine⟨?_,by go_grown⟩;rw[zH6,zH6]
theorem zN6(a b:BitVec 128)(w:World):Calls Tryz.prog 202 #[rv a,rv b] w fun e w'=>e=.returned (rv (a&&&b))∧Below w.heap.size w w':=by
 obtain⟨h,l,rfl⟩:=yZ a;obtain⟨h',l',rfl⟩:=yZ b;rw[mY,mY,XD,mY];exact fE h l h' l' w
theorem F4(a b:BitVec 128)(w:World):Calls Tryz.prog 201 #[rv a,rv b] w fun e w'=>e=.returned (rv (a^^^b))∧Below w.heap.size w w':=by
 obtain⟨h,l,rfl⟩:=yZ a;obtain⟨h',l',rfl⟩:=yZ b;rw[mY,mY,XT,mY];go_enter Tryz.func201,Tryz.ntmps201;go_wp2;go_returns;refine⟨?_,by go_grown⟩;rw[zHF,zHF]
theorem aY(h l:BitVec 64)(n:Int)(n0:0≤n)(n1:n≤9223372036854775807):∃(k k1 k2:Nat) (s1 s2 s3 s4 s5 s6:BitVec 64),s1++s6=mv (h++l) n∧IntKind.u64.wrap n=(k:Int)∧
  IntKind.u64.wrap (64-(k:Int))=(k1:Int)∧IntKind.u64.wrap ((k:Int)-64)=(k2:Int)∧(h.toNat:Int)/2^min k 64=(s1.toNat:Int)∧(l.toNat:Int)/2^min k 64=(s2.toNat:Int)∧
  IntKind.u64.wrap ((h.toNat:Int)*2^min k1 64)=(s3.toNat:Int)∧bits .or .u64 (s2.toNat:Int) (s3.toNat:Int)=(s4.toNat:Int)∧(h.toNat:Int)/2^min k2 64=(s5.toNat:Int)∧bits .or .u64 (s4.toNat:Int) (s5.toNat:Int)=(s6.toNat:Int):=by
 obtain⟨k,rfl⟩:=jW n0;have sh:∀(u:BitVec 64) (j:Nat),(u.toNat:Int)/2^min j 64=((u>>>j).toNat:Int):=fun u j=>zHA u j;have sl:∀(u:BitVec 64) (j:Nat),IntKind.u64.wrap ((u.toNat:Int)*2^min j 64)=((u<<<j).toNat:Int):=fun u j=>by rw[IntKind.wrap_u64];exact zJG u j
 have e1:IntKind.u64.wrap (64-(k:Int))=((if k≤64 then 64-k else 18446744073709551616+64-k:Nat):Int):=by rw[IntKind.wrap_u64];split<;>omega
 have e2:IntKind.u64.wrap ((k:Int)-64)=((if 64≤k then k-64 else 18446744073709551616+k-64:Nat):Int):=by rw[IntKind.wrap_u64];split<;>omega
 refine⟨k,_,_,h>>>k,l>>>k,h<<<(if k≤64 then 64-k else 18446744073709551616+64-k),_,h>>>(if 64≤k then k-64 else 18446744073709551616+k-64),_,?_,?_,e1,e2,sh h k,sh l k,sl h _,zLZ _ _,sh h _,zLZ _ _⟩
 ·rw[zJ5 h l k _ _ (by split<;>omega) (by split<;>omega),mv,zL zGX];rfl
 ·rw[IntKind.wrap_u64];omega
theorem ZY(h l:BitVec 64)(n:Int)(n0:n<0)(n1: -9223372036854775808≤n):∃(k k1 k2:Nat) (s1 s2 s3 s4 s5 s6:BitVec 64),s5++s6=mv (h++l) n∧IntKind.u64.wrap (wrap64 (-n))=(k:Int)∧
  IntKind.u64.wrap (64-(k:Int))=(k1:Int)∧IntKind.u64.wrap ((k:Int)-64)=(k2:Int)∧IntKind.u64.wrap ((h.toNat:Int)*2^min k 64)=(s1.toNat:Int)∧(l.toNat:Int)/2^min k1 64=(s2.toNat:Int)∧
  bits .or .u64 (s1.toNat:Int) (s2.toNat:Int)=(s3.toNat:Int)∧IntKind.u64.wrap ((l.toNat:Int)*2^min k2 64)=(s4.toNat:Int)∧bits .or .u64 (s3.toNat:Int) (s4.toNat:Int)=(s5.toNat:Int)∧IntKind.u64.wrap ((l.toNat:Int)*2^min k 64)=(s6.toNat:Int):=by
 obtain⟨k,hk⟩:∃k:Nat,-n=k:=⟨(-n).toNat,by omega⟩;have sh:∀(u:BitVec 64) (j:Nat),(u.toNat:Int)/2^min j 64=((u>>>j).toNat:Int):=fun u j=>zHA u j;have sl:∀(u:BitVec 64) (j:Nat),IntKind.u64.wrap ((u.toNat:Int)*2^min j 64)=((u<<<j).toNat:Int):=fun u j=>by rw[IntKind.wrap_u64];exact zJG u j
 have e1:IntKind.u64.wrap (64-(k:Int))=((if k≤64 then 64-k else 18446744073709551616+64-k:Nat):Int):=by rw[IntKind.wrap_u64];split<;>omega
 have e2:IntKind.u64.wrap ((k:Int)-64)=((if 64≤k then k-64 else 18446744073709551616+k-64:Nat):Int):=by rw[IntKind.wrap_u64];split<;>omega
 refine⟨k,_,_,h<<<k,l>>>(if k≤64 then 64-k else 18446744073709551616+64-k),_,l<<<(if 64≤k then k-64 else 18446744073709551616+k-64),_,l<<<k,?_,?_,e1,e2,sl h k,sh l _,zLZ _ _,sl l _,zLZ _ _,sl l k⟩
 ·rw[zLP h l k _ _ (by split<;>omega) (by split<;>omega),mv,zN n0,show(-n).toNat=k by omega]
 ·unfold wrap64;rw[IntKind.wrap_u64];omega
theorem OT(a:BitVec 128)(n:Int)(w:World)(n0: -9223372036854775808≤n)(hn:n<0):
  Calls Tryz.prog 210 #[rv a,.int .i64 n,.slice none 0 0] w fun e w'=>e=.returned (rv (mv a n))∧Below w.heap.size w w':=by
 obtain⟨h,l,rfl⟩:=yZ a;obtain⟨k,k1,k2,s1,s2,s3,s4,s5,s6,e,hk,h1,h2,h3,h4,h5,h6,h7,h8⟩:=ZY h l n hn n0;rw[←e,mY,mY];clear e;go_enter Tryz.func210,Tryz.ntmps210;go_wp2;go_rounds 1
 exact zBU
theorem OR(a:BitVec 128)(n:Int)(w:World)(n0:0≤n)(hn:n≤9223372036854775807):
  Calls Tryz.prog 210 #[rv a,.int .i64 n,.slice none 0 0] w fun e w'=>e=.returned (rv (mv a n))∧Below w.heap.size w w':=by
 obtain⟨h,l,rfl⟩:=yZ a;obtain⟨k,k1,k2,s1,s2,s3,s4,s5,s6,e,hk,h1,h2,h3,h4,h5,h6,h7,h8⟩:=aY h l n n0 hn;rw[←e,mY,mY];clear e;go_enter Tryz.func210,Tryz.ntmps210;go_wp2;go_rounds 1
 exact zBU
theorem OD(a:BitVec 128)(n:Int)(w:World)(n0: -9223372036854775808≤n)(n1:n≤9223372036854775807):
  Calls Tryz.prog 210 #[rv a,.int .i64 n,.slice none 0 0] w fun e w'=>e=.returned (rv (mv a n))∧Below w.heap.size w w':=by
 by_cases h:n<0
 ·exact OT a n w n0 h
 ·exact OR a n w zGX n1
structure Box(b:Nat)(h l:BitVec 64)(w:World):Prop where
 lt:b<w.heap.size
 c0:w.cell? ⟨b,0,none⟩=some (.int .u64 (h.toNat:Int))
 c1:w.cell? ⟨b,1,none⟩=some (.int .u64 (l.toNat:Int))
 f0:w.frozen? ⟨b,0,none⟩=false
 f1:w.frozen? ⟨b,1,none⟩=false
section
variable {b:Nat} {h l h' l':BitVec 64} {w w':World}
theorem Box.below(H:Box b h l w){n:Nat}(hb:Below n w w')(hn:b<n):Box b h l w':=
 ⟨zD H.lt hb.size,(hb.cell (p:=⟨b,0,none⟩) hn).trans H.c0,(hb.cell (p:=⟨b,1,none⟩) hn).trans H.c1,(hb.frozen (p:=⟨b,0,none⟩) hn).trans H.f0,(hb.frozen (p:=⟨b,1,none⟩) hn).trans H.f1⟩
theorem Box.step(H:Box b h l w)(hb:Below w.heap.size w w'):Box b h l w':=H.below hb H.lt
theorem Box.new(w:World)(h l:BitVec 64)(t:TypeId):Box w.heap.size h l (w.alloc (.cells #[.int .u64 (h.toNat:Int),.int .u64 (l.toNat:Int)] t)):=
 ⟨by simp,by rw[World.cell?_alloc_at _ _ _ _ rfl];rfl,by rw[World.cell?_alloc_at _ _ _ _ rfl];rfl,World.frozen?_alloc_at _ _ _ _ rfl,World.frozen?_alloc_at _ _ _ _ rfl⟩
theorem Box.alloc(H:Box b h l w)(o:Obj):Box b h l (w.alloc o):=H.step ((zB _ _).alloc (zG _) _)
theorem Box.drew(H:Box b h l w):Box b h l w.drew:=H.step (zB _ _).drew
theorem Box.set(H:Box b h l w)(h' l':BitVec 64):Box b h' l' ((w.setCell ⟨b,0,none⟩ (.int .u64 (h'.toNat:Int))).setCell ⟨b,1,none⟩ (.int .u64 (l'.toNat:Int))):=by
 have e0:=World.cell?_setCell_same w (a:=⟨b,0,none⟩) (.int .u64 (h'.toNat:Int)) H.c0;have e1:(w.setCell ⟨b,0,none⟩ (.int .u64 (h'.toNat:Int))).cell? ⟨b,1,none⟩=_:=(qS w _ _ _ zGN).trans H.c1;refine⟨by simpa using H.lt,?_,World.cell?_setCell_same _ (a:=⟨b,1,none⟩) _ e1,?_,?_⟩
 ·rw[qS _ _ _ _ zGN];exact e0
 ·rw[World.frozen?_setCell,World.frozen?_setCell];exact H.f0
 ·rw[World.frozen?_setCell,World.frozen?_setCell];exact H.f1
theorem Box.other(H:Box b h l w){g:Nat}(hg:g≠b)(o:Nat)(v:Value):Box b h l (w.setCell ⟨g,o,none⟩ v):=
 ⟨by simpa using H.lt,by rw[qS _ _ _ _ (by simp[hg])];exact H.c0,by rw[qS _ _ _ _ (by simp[hg])];exact H.c1,by rw[World.frozen?_setCell];exact H.f0,by rw[World.frozen?_setCell];exact H.f1⟩
end
theorem vL(w:World)(o:Obj):Below w.heap.size w (w.alloc o):=(zB _ _).alloc (zG _) _
theorem OH(a m:BitVec 128)(n:Int)(b:Nat)(w:World)(n0: -9223372036854775808≤n)(hn:n<0)(hb:b<w.heap.size)(c0:w.cell? ⟨b,0,none⟩=some (.int .u64 ((hi m).toNat:Int)))(c1:w.cell? ⟨b,1,none⟩=some (.int .u64 ((lo m).toNat:Int))):
  Calls Tryz.prog 210 #[rv a,.int .i64 n,.slice (some ⟨b,0,none⟩) 1 1] w fun e w'=>e=.returned (rv (mv a n&&&m))∧Below w.heap.size w w':=by
 obtain⟨h,l,rfl⟩:=yZ a;obtain⟨h',l',rfl⟩:=yZ m;rw[wJ]at c0;rw[wQ]at c1;obtain⟨k,k1,k2,s1,s2,s3,s4,s5,s6,e,hk,h1,h2,h3,h4,h5,h6,h7,h8⟩:=ZY h l n hn n0;rw[←e,mY,XD,mY];clear e;have O:=zW (fE s5 s6 h' l');generalize s5&&&h'=v1 at*;generalize s6&&&l'=v2 at*;go_enter Tryz.func210,Tryz.ntmps210;go_wp2;refine wp_loop_rounds 2 ?_;rw[rounds_succ];go_wp2_with fail;refine(O.out _).mono ?_;rintro e w1 ⟨rfl,b1⟩;have B:=zW (((((zB _ w).alloc (zG _) _).alloc zGN _).alloc zGH _).trans (b1.mono zGH));have X:=(((Box.new w s5 s6 38).alloc (.cells #[.int .u64 0,.int .u64 0] 38)).alloc (.cells #[.int .u64 (h'.toNat:Int),.int .u64 (l'.toNat:Int)] 38)).step b1;have Y:=((Box.new (w.alloc (.cells #[.int .u64 (s5.toNat:Int),.int .u64 (s6.toNat:Int)] 38)) 0 0 38).alloc (.cells #[.int .u64 (h'.toNat:Int),.int .u64 (l'.toNat:Int)] 38)).step b1;exact zBR
theorem ON(a m:BitVec 128)(n:Int)(b:Nat)(w:World)(n0:0≤n)(hn:n≤9223372036854775807)(hb:b<w.heap.size)(c0:w.cell? ⟨b,0,none⟩=some (.int .u64 ((hi m).toNat:Int)))(c1:w.cell? ⟨b,1,none⟩=some (.int .u64 ((lo m).toNat:Int))):
  Calls Tryz.prog 210 #[rv a,.int .i64 n,.slice (some ⟨b,0,none⟩) 1 1] w fun e w'=>e=.returned (rv (mv a n&&&m))∧Below w.heap.size w w':=by
 obtain⟨h,l,rfl⟩:=yZ a;obtain⟨h',l',rfl⟩:=yZ m;rw[wJ]at c0;rw[wQ]at c1;obtain⟨k,k1,k2,s1,s2,s3,s4,s5,s6,e,hk,h1,h2,h3,h4,h5,h6,h7,h8⟩:=aY h l n n0 hn;rw[←e,mY,XD,mY];clear e;have O:=zW (fE s1 s6 h' l');generalize s1&&&h'=v1 at*;generalize s6&&&l'=v2 at*;go_enter Tryz.func210,Tryz.ntmps210;go_wp2;refine wp_loop_rounds 2 ?_;rw[rounds_succ];go_wp2_with fail;refine(O.out _).mono ?_;rintro e w1 ⟨rfl,b1⟩;have B:=zW (((((zB _ w).alloc (zG _) _).alloc zGN _).alloc zGH _).trans (b1.mono zGH));have X:=(((Box.new w s1 s6 38).alloc (.cells #[.int .u64 0,.int .u64 0] 38)).alloc (.cells #[.int .u64 (h'.toNat:Int),.int .u64 (l'.toNat:Int)] 38)).step b1;have Y:=((Box.new (w.alloc (.cells #[.int .u64 (s1.toNat:Int),.int .u64 (s6.toNat:Int)] 38)) 0 0 38).alloc (.cells #[.int .u64 (h'.toNat:Int),.int .u64 (l'.toNat:Int)] 38)).step b1;exact zBR
theorem OG(a m:BitVec 128)(n:Int)(b:Nat)(w:World)(n0: -9223372036854775808≤n)(n1:n≤9223372036854775807)(hb:b<w.heap.size)(c0:w.cell? ⟨b,0,none⟩=some (.int .u64 ((hi m).toNat:Int)))(c1:w.cell? ⟨b,1,none⟩=some (.int .u64 ((lo m).toNat:Int))):
  Calls Tryz.prog 210 #[rv a,.int .i64 n,.slice (some ⟨b,0,none⟩) 1 1] w fun e w'=>e=.returned (rv (mv a n&&&m))∧Below w.heap.size w w':=by
 by_cases h:n<0
 ·exact OH a m n b w n0 h hb c0 c1
 ·exact ON a m n b w zGX n1 hb c0 c1
structure Pix(g:Nat)(f:Nat→Bool)(w:World):Prop where
 lt:g<w.heap.size
 at_:∀j,j<128→w.cell? ⟨g,j,none⟩=some (.bool (f j))
 fz:∀j,j<128→w.frozen? ⟨g,j,none⟩=false
section
variable {g:Nat} {f f':Nat→Bool} {w w':World}
theorem Pix.below(H:Pix g f w){n:Nat}(hb:Below n w w')(hn:g<n):Pix g f w':=
 ⟨zD H.lt hb.size,fun j hj=>(hb.cell (p:=⟨g,j,none⟩) hn).trans (H.at_ j hj),fun j hj=>(hb.frozen (p:=⟨g,j,none⟩) hn).trans (H.fz j hj)⟩
theorem Pix.step(H:Pix g f w)(hb:Below w.heap.size w w'):Pix g f w':=H.below hb H.lt
theorem Pix.congr(H:Pix g f w)(h:∀j,j<128→f j=f' j):Pix g f' w:=⟨H.lt,fun j hj=>by rw[←h j hj];exact H.at_ j hj,H.fz⟩
theorem Pix.set(H:Pix g f w){k:Nat}(hk:k<128)(v:Bool):Pix g (fun j=>if j=k then v else f j) (w.setCell ⟨g,k,none⟩ (.bool v)):=by
 exact zBP
theorem Pix.other(H:Pix g f w){b:Nat}(hb:b≠g)(o:Nat)(v:Value):Pix g f (w.setCell ⟨b,o,none⟩ v):=
 ⟨by simpa using H.lt,fun j hj=>by rw[qS _ _ _ _ (by simp[hb])];exact H.at_ j hj,fun j hj=>by rw[World.frozen?_setCell];exact H.fz j hj⟩
end
def zH5:Array Value:=madeCells #[.bool false] 128
theorem Pix.new(w:World)(t:TypeId):Pix w.heap.size (fun _=>false) (w.alloc (.cells zH5 t)):=
 ⟨by simp,fun j hj=>by rw[World.cell?_alloc_at _ _ _ _ rfl];simp[zH5,madeCells,hj,Nat.mod_one],fun j hj=>World.frozen?_alloc_at _ _ _ _ rfl⟩
end
section
namespace Num
open Go.RowKit
def sm(g:Nat→Nat):Nat→Nat
 |0=>0
 |k+1=>sm g k+g k
theorem YE{f g:Nat→Nat}(k:Nat)(h:∀i,i<k→f i=g i):sm f k=sm g k:=by
 induction k with
 |zero=>rfl
 |succ k ih=>rw[sm,sm,ih fun i hi=>h i zGX,h k zGX]
theorem AJ{f:Nat→Nat}(k:Nat)(h:∀i,i<k→f i=0):sm f k=0:=by
 induction k with
 |zero=>rfl
 |succ k ih=>rw[sm,ih fun i hi=>h i zGX,h k zGX]
theorem YP{f:Nat→Nat}{k:Nat}:sm f k=0↔∀i,i<k→f i=0:=by
 refine⟨?_,AJ k⟩;induction k with
 |zero=>intro _ i hi;omega
 |succ k ih=>
  rw[sm]
  intro h i hi
  rcases jU i k with hlt|hge
  ·exact ih zGX i hlt
  ·obtain rfl:i=k:=by omega
   omega
theorem zXH(f:Nat→Bool)(n k:Nat):pcn f (n*k)=sm (fun y=>pcn (fun x=>f (n*y+x)) n) k:=by
 induction k with
 |zero=>rfl
 |succ k ih=>rw[Nat.mul_succ,zY5,sm,ih]
abbrev Pl:=Nat→BitVec 128
def zH9(P:Pl)(m h:Nat):Prop:=(∀y,YQ (P y) m)∧∀y,h≤y→P y=0#128
def pcount(P:Pl):Nat:=sm (fun y=>zVD (P y)) 64
def m3(P:Pl)(dx dy:Int)(m h:Nat):Pl:=fun y=>if(0≤(y:Int)-dy∧(y:Int)-dy<h)∧y<h then uA (P ((y:Int)-dy).toNat) dx m else 0#128
def spr(bits:Nat→Nat)(len c x y m h:Nat)(clip:Bool):Pl:=fun j=>
 if y≤j∧j<y+len∧j<h then rV (bits (j-y)) c x m clip else if clip=false∧j+h<y+len then rV (bits (j+h-y)) c x m clip else 0#128
def rR(A B:Pl):Pl:=fun y=>A y^^^B y
theorem TE(m:Nat):YQ 0#128 m:=fun i _=>zXX i
theorem zJW(bits:Nat→Nat)(c x y m h:Nat)(clip:Bool)(hy:y<h)(j:Nat):spr bits 0 c x y m h clip j=0#128:=by
 unfold spr;rw[zL zGX];by_cases hc:clip=false∧j+h<y+0
 ·omega
 ·rw[zL hc]
theorem spr_in(bits:Nat→Nat)(i c x y m h:Nat)(clip:Bool)(hi:i<h)(hy:y<h)(hin:y+i<h)(j:Nat):
  spr bits (i+1) c x y m h clip j=if j=y+i then rV (bits i) c x m clip else spr bits i c x y m h clip j:=by
 unfold spr;by_cases e:j=y+i
 ·rw[zN e,zN zGX,show j-y=i by omega]
 ·rw[zL e];by_cases h1:y≤j∧j<y+i∧j<h
  ·rw[zN h1,zN zGX]
  ·rw[zL h1,zL zGX];by_cases h2:clip=false∧j+h<y+i
   ·omega
   ·rw[zL h2,zL zGX]
theorem zYY(bits:Nat→Nat)(i c x y m h:Nat)(hi:i<h)(hy:y<h)(hout:h≤y+i)(j:Nat):
  spr bits (i+1) c x y m h false j=if j=y+i-h then rV (bits i) c x m false else spr bits i c x y m h false j:=by
 unfold spr;by_cases e:j=y+i-h
 ·rw[zN e,zL zGX,zN ⟨rfl,by omega⟩,show j+h-y=i by omega]
 ·rw[zL e];by_cases h1:y≤j∧j<y+i∧j<h
  ·rw[zN h1,zN zGX]
  ·rw[zL h1,zL zGX];by_cases h2:j+h<y+i
   ·rw[zN (show false=false∧j+h<y+(i+1)from⟨rfl,by omega⟩),zN (show false=false∧j+h<y+i from⟨rfl,h2⟩)]
   ·rw[zL zGX,zL zGX]
theorem zJY(bits:Nat→Nat)(i c x y m h:Nat)(hout:h≤y+i)(j:Nat):spr bits (i+1) c x y m h true j=spr bits i c x y m h true j:=by
 unfold spr;by_cases h1:y≤j∧j<y+i∧j<h
 ·rw[zN h1,zN zGX]
 ·rw[zL h1,zL zGX,zL zGN,zL zGN]
theorem sT(b c x m:Nat)(clip:Bool)(c1:c≤16)(hm:16≤m)(m1:m≤128)(hx:x<m):YQ (rV b c x m clip) m:=fun i hi=>by
 obtain⟨k,rfl⟩:=jW (show 0≤i by omega);rw[sO];by_cases hk:k<128
 ·rw[UI b c x m clip c1 hm m1 hx k hk];unfold spF;rw[zO (p:=x≤k∧_) zGX,zO (p:=k+m<x+c∧_) zGX];simp
 ·exact zXV _ _ zGX
theorem zYW(bits:Nat→Nat)(len c x y m h:Nat)(clip:Bool)(c1:c≤16)(hm:16≤m)(m1:m≤128)(hx:x<m)(hl:len≤h)(hy:y<h):zH9 (spr bits len c x y m h clip) m h:=by
 refine⟨fun j=>?_,fun j hj=>?_⟩
 ·unfold spr;split
  ·exact sT _ _ _ _ _ c1 hm m1 hx
  ·split
   ·exact sT _ _ _ _ _ c1 hm m1 hx
   ·exact TE m
 ·unfold spr;rw[zL zGX,zL zGX]
end Num
namespace Num
open Go.RowKit
def acc(g:Nat→Bool):Nat→Nat
 |0=>0
 |k+1=>2*acc g k+(g k).toNat
theorem acc_lt(g:Nat→Bool)(k:Nat):acc g k<2^k:=by
 induction k with
 |zero=>simp[acc]
 |succ k ih=>
  rw[acc,Nat.pow_succ]
  have:=Bool.toNat_le (g k)
  omega
theorem zHW(g:Nat→Bool)(k j:Nat):(acc g k).testBit j=(decide (j<k)&&g (k-1-j)):=by
 induction k generalizing j with
 |zero=>simp[acc]
 |succ k ih=>
  rw[acc]
  cases j with
  |zero=>
   rw[Nat.testBit_zero]
   cases hg:g k<;>simp[hg]<;>omega
  |succ j=>
   rw[Nat.testBit_succ,show(2*acc g k+(g k).toNat)/2=acc g k by have:=Bool.toNat_le (g k);omega,ih j,show k+1-1-(j+1)=k-1-j by omega,
    show decide (j<k)=decide (j+1<k+1) by congr 1;simp]
def wd(g:Nat→Bool):BitVec 64:=BitVec.ofNat 64 (acc g 64)
theorem wd_nat(g:Nat→Bool):(wd g).toNat=acc g 64:=by
 have:=acc_lt g 64;rw[wd,BitVec.toNat_ofNat,kR this]
theorem zZO(g:Nat→Bool)(i:Nat)(hi:i<64):(wd g).getMsbD i=g i:=by
 rw[BitVec.getMsbD_eq_getLsbD,←BitVec.testBit_toNat,wd_nat,zHW,qY hi,qY zGX,show 64-1-(64-1-i)=i by omega,Bool.true_and,Bool.true_and]
def fwd(f:Nat→Bool):Pl:=fun y=>wd (fun i=>f (128*y+i))++wd (fun i=>f (128*y+(64+i)))
theorem yP(f:Nat→Bool)(y x:Nat)(hx:x<128):px (fwd f y) x=f (128*y+x):=by
 unfold fwd px;rw[kW];split
 ·rw[zZO _ _ zGX,show 64+(x-64)=x by omega]
 ·rw[zZO _ _ zGX]
def yL(f:Nat→Bool)(m h:Nat):Prop:=∀i,f i=true→i%128<m∧i/128<h
theorem zL8{f:Nat→Bool}{m h:Nat}(hf:yL f m h):zH9 (fwd f) m h:=by
 refine⟨fun y i hi=>?_,fun y hy=>gV fun x hx=>?_⟩
 ·by_cases h0:0≤i
  ·obtain⟨k,rfl⟩:=jW h0;rw[sO];by_cases hk:k<128
   ·rw[yP _ _ _ hk];cases hg:f (128*y+k)
    ·rfl
    ·have:=(hf _ hg).1;omega
   ·exact zXV _ _ zGX
  ·exact AE _ _ zGX
 ·rw[yP _ _ _ hx,wO];cases hg:f (128*y+x)
  ·rfl
  ·have:=(hf _ hg).2;omega
theorem G9(f:Nat→Bool):pcount (fwd f)=pcn f (128*64):=by
 rw[zXH];exact YE 64 fun y hy=>U2 128 fun x hx=>yP f y x hx
def sC(f:Nat→Bool)(dx dy:Int)(m h:Nat)(i:Nat):Bool:=
 decide ((i/128<h∧i%128<m)∧(0≤((i%128:Nat):Int)-dx∧((i%128:Nat):Int)-dx<m)∧(0≤((i/128:Nat):Int)-dy∧((i/128:Nat):Int)-dy<h))&&f (128*(((i/128:Nat):Int)-dy)+(((i%128:Nat):Int)-dx)).toNat
theorem EW(f:Nat→Bool)(dx dy:Int)(m h:Nat)(hm:m≤128)(hf:yL f m h)(y:Nat):fwd (sC f dx dy m h) y=m3 (fwd f) dx dy m h y:=gV fun x hx=>by
 rw[yP _ _ _ hx];unfold sC m3;rw[show(128*y+x)/128=y by omega,show(128*y+x)%128=x by omega];by_cases h1:(0≤(y:Int)-dy∧(y:Int)-dy<h)∧y<h
 ·rw[zN h1,VJ _ _ _ _ hx zGX];obtain⟨d,hd⟩:∃d:Nat,(y:Int)-dy=(d:Int):=⟨((y:Int)-dy).toNat,by omega⟩;rw[hd,Int.toNat_natCast];by_cases h2:x<m
  ·rw[qY (p:=(x:Int)<(m:Int)) zGX,Bool.and_true];by_cases h3:0≤(x:Int)-dx∧(x:Int)-dx<m
   ·obtain⟨e,he⟩:∃e:Nat,(x:Int)-dx=(e:Int):=⟨((x:Int)-dx).toNat,by omega⟩;rw[he,sO,yP _ _ _ zGX,qY zGX,Bool.true_and,show(128*(d:Int)+(e:Int)).toNat=128*d+e by omega]
   ·rw[zO zGX,Bool.false_and];rcases Int.lt_or_le ((x:Int)-dx) 0 with h0|h0
    ·rw[AE _ _ h0]
    ·rw[(zL8 hf).1 d _ zGX]
  ·rw[zO zGX,zO (p:=(x:Int)<(m:Int)) zGX,Bool.false_and,Bool.and_false]
 ·rw[zL h1,wO,zO zGX,Bool.false_and]
def zYR(bits:Nat→Nat)(len c x y m h:Nat)(clip:Bool)(i:Nat):Bool:=px (spr bits len c x y m h clip (i/128)) (i%128)
theorem EZ(bits:Nat→Nat)(len c x y m h:Nat)(clip:Bool)(j:Nat):fwd (zYR bits len c x y m h clip) j=spr bits len c x y m h clip j:=gV fun k hk=>by
 rw[yP _ _ _ hk,zYR,show(128*j+k)/128=j by omega,show(128*j+k)%128=k by omega]
theorem zQV(f g:Nat→Bool)(y:Nat):fwd (fun i=>f i^^g i) y=rR (fwd f) (fwd g) y:=gV fun x hx=>by
 show _=px (fwd f y^^^fwd g y) x;rw[yP _ _ _ hx,oS,yP _ _ _ hx,yP _ _ _ hx]
theorem zMQ(f g:Nat→Bool)(y:Nat):fwd (fun i=>f i&&g i) y=fwd f y&&&fwd g y:=gV fun x hx=>by
 rw[yP _ _ _ hx,oP,yP _ _ _ hx,yP _ _ _ hx]
theorem XJ(f g:Nat→Bool):pcn (fun i=>f i&&g i) (128*64)=sm (fun y=>zVD (fwd f y&&&fwd g y)) 64:=by
 rw[←G9];exact YE 64 fun y _=>by rw[zMQ]
def gA(A B:Pl):Bool:=decide (sm (fun y=>zVD (A y&&&B y)) 64≠0)
theorem zXM(A B:Pl):gA A B=true↔∃y,y<64∧A y&&&B y≠0#128:=by
 unfold gA;rw[qK];constructor
 ·intro h;rcases Classical.em (∃y,y<64∧A y&&&B y≠0#128)with h2|h2
  ·exact h2
  ·refine absurd (AJ 64 fun y hy=>(W8 _).2 ?_) h;rcases Classical.em (A y&&&B y=0#128)with h3|h3
   ·exact h3
   ·exact absurd ⟨y,hy,h3⟩ h2
 ·rintro⟨y,hy,h⟩ h2;exact h ((W8 _).1 (YP.1 h2 y hy))
theorem DI(f g:Nat→Bool):gA (fwd f) (fwd g)=decide (0<pcn (fun i=>f i&&g i) (128*64)):=by
 rw[XJ];unfold gA;rw[Bool.eq_iff_iff,qK,qK];omega
theorem bC(m h:Nat):yL (fun _=>false) m h:=fun i hi=>by cases hi
theorem zYT(f:Nat→Bool)(dx dy:Int)(m h:Nat):yL (sC f dx dy m h) m h:=fun i hi=>by
 unfold sC at hi;have:=qA (Bool.and_eq_true_iff.1 hi).1;exact⟨this.1.2,this.1.1⟩
end Num
end
section
open Go.RowKit Num
def xW(P:Pl)(j:Nat):Int:=if j%2=0 then((hi (P (j/2))).toNat:Int)else((lo (P (j/2))).toNat:Int)
def lY(P:Pl):Array Value:=((List.range 128).map fun j=>Value.int .u64 (xW P j)).toArray
theorem lH(P:Pl):(lY P).size=128:=by simp[lY]
theorem xG(P:Pl)(j:Nat)(hj:j<128):(lY P)[j]?=some (.int .u64 (xW P j)):=by simp[lY,hj]
theorem fQ(P:Pl)(y:Nat):xW P (2*y)=((hi (P y)).toNat:Int):=by
 rw[xW,zN zGX,show 2*y/2=y by omega]
theorem iA(P:Pl)(y:Nat):xW P (2*y+1)=((lo (P y)).toNat:Int):=by
 rw[xW,zL zGX,show(2*y+1)/2=y by omega]
theorem NX{P Q:Pl}(h:∀y,y<64→P y=Q y):lY P=lY Q:=by
 unfold lY;congr 1
 refine List.map_congr_left fun j hj=>?_
 have hj:=jD.1 hj;unfold xW;rw[h (j/2) zGX]
theorem vI(P:Pl):(lY P).all (·.oneCell')=true:=by
 rw[qC];intro v hv;simp[lY]at hv;obtain⟨j,_,rfl⟩:=hv;rfl
def YW(P:Pl)(y:Nat)(r:BitVec 128):Pl:=fun j=>if j=y then r else P j
theorem tF(P:Pl)(y:Nat)(r:BitVec 128):YW P y r y=r:=by simp[YW]
theorem tS(P:Pl)(y j:Nat)(r:BitVec 128)(h:j≠y):YW P y r j=P j:=by simp[YW,h]
theorem BJ(P:Pl)(y:Nat)(h l:BitVec 64)(hy:y<64):((lY P).setIfInBounds (2*y) (.int .u64 (h.toNat:Int))).setIfInBounds (2*y+1) (.int .u64 (l.toNat:Int))=lY (YW P y (h++l)):=by
 apply qH
 intro j
 by_cases hj:j<128
 ·rw[xG _ _ hj,qB,qB];by_cases e1:2*y+1=j
  ·subst e1;rw[zN rfl,zN (by simp[lH];omega),iA,tF,wQ]
  ·rw[zL e1];by_cases e0:2*y=j
   ·subst e0;rw[zN rfl,zN (by simp[lH];omega),fQ,tF,wJ]
   ·rw[zL e0,xG _ _ hj];unfold xW;rw[tS _ _ _ _ zGX]
 ·rw[zF (by simp[lH];omega),zF (by simp[lH];omega)]
def nZ(b:Nat)(t:TypeId)(P:Pl)(w:World):Prop:=w.heap[b]?=some (.cells (lY P) t (0,0))
section
variable {b:Nat} {t:TypeId} {P Q:Pl} {w w':World}
theorem nZ.lt(H:nZ b t P w):b<w.heap.size:=(qM.1 H).1
theorem nZ.below(H:nZ b t P w){n:Nat}(hb:Below n w w')(hn:b<n):nZ b t P w':=(hb.block b hn).trans H
theorem nZ.step(H:nZ b t P w)(hb:Below w.heap.size w w'):nZ b t P w':=H.below hb H.lt
theorem nZ.new(w:World)(P:Pl)(t:TypeId):nZ w.heap.size t P (w.alloc (.cells (lY P) t)):=jH _ _
theorem nZ.alloc(H:nZ b t P w)(o:Obj):nZ b t P (w.alloc o):=H.step ((zB _ _).alloc (zG _) _)
theorem nZ.drew(H:nZ b t P w):nZ b t P w.drew:=H
theorem nZ.congr(H:nZ b t P w)(h:∀y,y<64→P y=Q y):nZ b t Q w:=by
 unfold nZ at*;rw[←NX h];exact H
theorem nZ.other(H:nZ b t P w){g:Nat}(hg:b≠g)(o:Nat)(v:Value):nZ b t P (w.setCell ⟨g,o,none⟩ v):=(qD w ⟨g,o,none⟩ v b hg).trans H
theorem nZ.otherRow(H:nZ b t P w){g:Nat}(hg:b≠g)(cs:Array Value):nZ b t P (w.setRow g cs):=(qQ w g b cs hg).trans H
theorem nZ.cell(H:nZ b t P w)(j:Nat)(hj:j<128):w.cell? ⟨b,j,none⟩=some (.int .u64 (xW P j)):=by
 rw[jO w b j (lY P) t (0,0) H];exact xG P j hj
theorem nZ.left(H:nZ b t P w)(y:Nat)(hy:y<64):w.cell? ⟨b,y*2,none⟩=some (.int .u64 ((hi (P y)).toNat:Int)):=by
 rw[Nat.mul_comm y 2,H.cell _ zGX,fQ]
theorem nZ.right(H:nZ b t P w)(y:Nat)(hy:y<64):w.cell? ⟨b,y*2+1,none⟩=some (.int .u64 ((lo (P y)).toNat:Int)):=by
 rw[Nat.mul_comm y 2,H.cell _ zGX,iA]
theorem nZ.frozen(H:nZ b t P w)(j:Nat):w.frozen? ⟨b,j,none⟩=false:=frozen_of_row w b j (lY P) t H
theorem nZ.store(H:nZ b t P w)(Q:Pl):nZ b t Q (w.setRow b (lY Q)):=setRow_heap w b _ _ t (0,0) H
theorem nZ.row(H:nZ b t P w)(y:Nat)(hy:y<64)(h l:BitVec 64):nZ b t (YW P y (h++l)) ((w.setCell ⟨b,y*2,none⟩ (.int .u64 (h.toNat:Int))).setCell ⟨b,y*2+1,none⟩ (.int .u64 (l.toNat:Int))):=by
 rw[Nat.mul_comm y 2];have e1:=setCell_eq_setRow w b (2*y) (lY P) t (0,0) (.int .u64 (h.toNat:Int)) H;have H1:(w.setRow b ((lY P).setIfInBounds (2*y) (.int .u64 (h.toNat:Int)))).heap[b]?=_:=setRow_heap w b _ _ t (0,0) H;have e2:=setCell_eq_setRow _ b (2*y+1) _ t (0,0) (.int .u64 (l.toNat:Int)) H1;rw[e1,e2,BJ P y h l hy];exact setRow_heap _ b _ _ t (0,0) H1
end
theorem cF{B:Nat}{a w:World}(h:Below B a w){g:Nat}(hg:B≤g)(cs:Array Value):Below B a (w.setRow g cs):=
 h.trans ⟨rfl,rfl,rfl,by simp[World.setRow],fun k hk=>qQ w g k cs zGX⟩
section
variable {P:Program}
theorem xU(t:TypeId)(d:TypeDesc)(xs:Array Value)(off sz:Nat)(w:World)(hd:(match d with| .struct _| .array _ _=>true|_=>false)=true)(hu:P.underlying t=some d)(hi:(P.info? t).map (·.size)=some sz):
  (part t xs off).run P w=.ok (.agg (xs.extract off (off+sz))) w:=by
 cases hq:P.info? t with
 |none=>simp[hq]at hi
 |some i=>
  have hs:i.size=sz:=zG5
  have hagg:(isAgg t).run P w=.ok true w:=by
   unfold isAgg;rw[zA,jV hu w];cases d<;>simp_all
  simp[part,zA,hagg,sizeOf,typeInfo,hq,hs]
end
structure Pxs(g:Nat)(f:Nat→Bool)(w:World):Prop where
 lt:g<w.heap.size
 at_:∀j,j<8192→w.cell? ⟨g,j,none⟩=some (.bool (f j))
 fz:∀j,j<8192→w.frozen? ⟨g,j,none⟩=false
section
variable {g:Nat} {f f':Nat→Bool} {w w':World}
theorem Pxs.below(H:Pxs g f w){n:Nat}(hb:Below n w w')(hn:g<n):Pxs g f w':=
 ⟨zD H.lt hb.size,fun j hj=>(hb.cell (p:=⟨g,j,none⟩) hn).trans (H.at_ j hj),fun j hj=>(hb.frozen (p:=⟨g,j,none⟩) hn).trans (H.fz j hj)⟩
theorem Pxs.step(H:Pxs g f w)(hb:Below w.heap.size w w'):Pxs g f w':=H.below hb H.lt
theorem Pxs.drew(H:Pxs g f w):Pxs g f w.drew:=H.step (zB _ _).drew
theorem Pxs.congr(H:Pxs g f w)(h:∀j,j<8192→f j=f' j):Pxs g f' w:=⟨H.lt,fun j hj=>by rw[←h j hj];exact H.at_ j hj,H.fz⟩
theorem Pxs.set(H:Pxs g f w){k:Nat}(hk:k<8192)(v:Bool):Pxs g (fun j=>if j=k then v else f j) (w.setCell ⟨g,k,none⟩ (.bool v)):=by
 exact zBP
def FU(f:Nat→Bool)(w:World)(e:Ending)(w':World):Prop:=
 ∃g,e=.returned (.slice (some ⟨g,0,none⟩) 8192 8192)∧w.heap.size≤g∧Pxs g f w'∧Below w.heap.size w w'
theorem FU.congr{e:Ending}(H:FU f w e w')(h:∀j,j<8192→f j=f' j):FU f' w e w':=by
 obtain⟨g,h1,h2,h3,h4⟩:=H;exact⟨g,h1,h2,h3.congr h,h4⟩
end
theorem zX9(n j:Nat)(h:j<n):(madeCells #[.bool false] n)[j]?=some (.bool false):=by simp[madeCells,h,Nat.mod_one]
def blankP:Array Value:=madeCells #[.bool false] 8192
theorem Pxs.new(w:World)(t:TypeId):Pxs w.heap.size (fun _=>false) (w.alloc (.cells blankP t)):=
 ⟨by simp,fun j hj=>by rw[World.cell?_alloc_at _ _ _ _ rfl];exact zX9 8192 j hj,fun j hj=>World.frozen?_alloc_at _ _ _ _ rfl⟩
theorem zeroPw:lY (fun _=>0#128)=Array.replicate 128 (.int .u64 0):=by
 apply qH
 intro j
 by_cases hj:j<128
 ·rw[xG _ _ hj];unfold xW;simp[hj,hi,lo]
 ·rw[zF (by simp[lH];omega),zF zGH]
theorem JO:(Tryz.prog.info? 41).map (fun i=>(i.zero,i.size))=some (some (.agg (lY fun _=>0#128)),128):=by
 rw[zeroPw];kernel_rfl
theorem yU(w:World):(zeroValue 41).run Tryz.prog w=.ok (.agg (lY fun _=>0#128)) w:=(zero_of_info JO).1 w
theorem nE:(Tryz.prog.info? 41).map (·.size)=some 128:=by kernel_rfl
def phitTo(f:Nat→Bool)(k:Nat):Bool:=decide (0<pcn f k)

end
end Go.Proofs.YtbpniahcjbagmaaGreatDoor
