/- Num, DecNum, AluNum, Calm, Row, Mix, Blk, Spl, Arr, Byt, AudNum, Pat, Regs, InsV, Cells, Late, Plain, AppRow, CpuSt, AluRef, StkRef, CpuRef1, ScrNum, CpuRef2. -/
import Derived.Test.YtcjldabaekbdlaaGreatDoorRows
import Derived.Test.YtcjldabaekbdlaaGreatDoorProg
import Derived.Test.YtcjldabaekbdlaaGreatDoorMn
set_option maxRecDepth 400000
set_option maxHeartbeats 64000000
set_option linter.unusedVariables false
set_option linter.unusedSimpArgs false
namespace Go.Proofs.YtcjldabaekbdlaaGreatDoor
section
namespace Num
open Go.RowKit
theorem zX8(n k:Int)(h:n<0):n.tmod k= -((-n)%k):=by
 have e:=Int.neg_tmod (-n) k;rw[Int.neg_neg]at e;rw[e,qT zBY]
theorem W6(n k:Int)(h:0≤n):n.tmod k=n%k:=qT h
theorem mod16(n:Int):(n.tmod 65536<0→n.tmod 65536+65536=n%65536)∧(¬n.tmod 65536<0→n.tmod 65536=n%65536):=by
 by_cases h:n<0
 ·rw[zX8 n 65536 h];omega
 ·rw[W6 n 65536 zBY];omega
theorem uA{k:IntKind}{a b:Int}(h:a=b):Ending.returned (.int k a)=.returned (.int k b):=by rw[h]
theorem bd_u8{a:Int}(h:(Lit.int .u8 a).wf=true):0≤a∧a≤255:=by
 exact zFH
theorem bd_u16{a:Int}(h:(Lit.int .u16 a).wf=true):0≤a∧a≤65535:=by
 exact zFH
theorem bd_i64{a:Int}(h:(Lit.int .i64 a).wf=true): -9223372036854775808≤a∧a≤9223372036854775807:=by
 exact zFH
end Num
namespace Dec
inductive Pk|pNone|pX|pN|pXY|pXYN|pXNN|pAddr|pXAddr|pPlanes|pNext
def pkN:Pk→Nat
 |.pNone=>0
 |.pX=>1
 |.pN=>2
 |.pXY=>3
 |.pXYN=>4
 |.pXNN=>5
 |.pAddr=>6
 |.pXAddr=>7
 |.pPlanes=>8
 |.pNext=>9
theorem zMY(a b:Pk)(h:pkN a=pkN b):a=b:=by cases a<;>cases b<;>first|rfl|cases h
instance:DecidableEq Pk:=fun a b=>decidable_of_iff (pkN a=pkN b) ⟨zMY a b,fun h=>by rw[h]⟩
structure Rl where
 mask:Nat
 code:Nat
 op:Nat
 level:Nat
 pk:Pk
instance:DecidableEq Rl:=fun a b=>decidable_of_iff (a.mask=b.mask∧a.code=b.code∧a.op=b.op∧a.level=b.level∧a.pk=b.pk) ⟨fun⟨h1,h2,h3,h4,h5⟩=>by cases a;cases b;simp only at h1 h2 h3 h4 h5;subst h1 h2 h3 h4 h5;rfl,fun h=>by rw[h];exact⟨rfl,rfl,rfl,rfl,rfl⟩⟩
def noRl:Rl:=⟨0,0,0,0,.pNone⟩
def rls:List Rl:=[
 ⟨65535,224,1,1,.pNone⟩,
 ⟨65535,238,2,1,.pNone⟩,
 ⟨61440,4096,3,1,.pAddr⟩,
 ⟨61440,8192,4,1,.pAddr⟩,
 ⟨61440,12288,5,1,.pXNN⟩,
 ⟨61440,16384,6,1,.pXNN⟩,
 ⟨61455,20480,7,1,.pXY⟩,
 ⟨61440,24576,8,1,.pXNN⟩,
 ⟨61440,28672,9,1,.pXNN⟩,
 ⟨61455,32768,10,1,.pXY⟩,
 ⟨61455,32769,11,1,.pXY⟩,
 ⟨61455,32770,12,1,.pXY⟩,
 ⟨61455,32771,13,1,.pXY⟩,
 ⟨61455,32772,14,1,.pXY⟩,
 ⟨61455,32773,15,1,.pXY⟩,
 ⟨61455,32774,16,1,.pXY⟩,
 ⟨61455,32775,17,1,.pXY⟩,
 ⟨61455,32782,18,1,.pXY⟩,
 ⟨61455,36864,19,1,.pXY⟩,
 ⟨61440,40960,20,1,.pAddr⟩,
 ⟨61440,45056,21,1,.pXAddr⟩,
 ⟨61440,49152,22,1,.pXNN⟩,
 ⟨61455,53248,41,2,.pXY⟩,
 ⟨61440,53248,23,1,.pXYN⟩,
 ⟨61695,57502,24,1,.pX⟩,
 ⟨61695,57505,25,1,.pX⟩,
 ⟨61695,61447,26,1,.pX⟩,
 ⟨61695,61450,27,1,.pX⟩,
 ⟨61695,61461,28,1,.pX⟩,
 ⟨61695,61464,29,1,.pX⟩,
 ⟨61695,61470,30,1,.pX⟩,
 ⟨61695,61481,31,1,.pX⟩,
 ⟨61695,61491,32,1,.pX⟩,
 ⟨61695,61525,33,1,.pX⟩,
 ⟨61695,61541,34,1,.pX⟩,
 ⟨65520,192,35,2,.pN⟩,
 ⟨65535,251,36,2,.pNone⟩,
 ⟨65535,252,37,2,.pNone⟩,
 ⟨65535,253,38,2,.pNone⟩,
 ⟨65535,254,39,2,.pNone⟩,
 ⟨65535,255,40,2,.pNone⟩,
 ⟨61695,61488,42,2,.pX⟩,
 ⟨61695,61557,43,2,.pX⟩,
 ⟨61695,61573,44,2,.pX⟩,
 ⟨65520,208,45,3,.pN⟩,
 ⟨61455,20482,46,3,.pXY⟩,
 ⟨61455,20483,47,3,.pXY⟩,
 ⟨65535,61440,48,3,.pNext⟩,
 ⟨61695,61441,49,3,.pPlanes⟩,
 ⟨65535,61442,50,3,.pNone⟩,
 ⟨61695,61498,51,3,.pX⟩]
def fit(n:Nat)(r:Rl):Bool:=Nat.beq (Nat.land n r.mask) r.code
def NH(n:Nat):List Rl→Rl
 |[]=>noRl
 |r::rs=>bif fit n r then r else NH n rs
def top(n:Nat):Rl:=NH n rls
theorem NL(p:Rl→Bool)(hz:p noRl=true)(n:Nat):∀l:List Rl,l.all p=true→p (NH n l)=true
 |[],_=>hz
 |r::rs,h=>by
  rw[List.all_cons,qK]at h;unfold NH;cases fit n r
  ·exact NL p hz n rs h.2
  ·exact h.1
theorem zLR(p:Rl→Bool)(hz:p noRl=true)(h:rls.all p=true)(n:Nat):p (top n)=true:=NL p hz n rls h
structure Ins where
 op:Int
 x:Int
 y:Int
 n:Int
 nn:Int
 addr:Int
 len:Int
instance:DecidableEq Ins:=fun a b=>decidable_of_iff (a.op=b.op∧a.x=b.x∧a.y=b.y∧a.n=b.n∧a.nn=b.nn∧a.addr=b.addr∧a.len=b.len) ⟨fun⟨h1,h2,h3,h4,h5,h6,h7⟩=>by cases a;cases b;simp only at h1 h2 h3 h4 h5 h6 h7;subst h1 h2 h3 h4 h5 h6 h7;rfl,fun h=>by rw[h];exact⟨rfl,rfl,rfl,rfl,rfl,rfl,rfl⟩⟩
def pX(p:Pk)(x:Int):Int:=match p with| .pX| .pXY| .pXYN| .pXNN| .pXAddr=>x|_=>0
def pY(p:Pk)(y:Int):Int:=match p with| .pXY| .pXYN=>y|_=>0
def pN(p:Pk)(x n:Int):Int:=match p with| .pN| .pXYN=>n| .pPlanes=>x|_=>0
def pNN(p:Pk)(nn:Int):Int:=match p with| .pXNN=>nn|_=>0
def pA(p:Pk)(nnn next:Int):Int:=match p with| .pAddr| .pXAddr=>nnn| .pNext=>next|_=>0
def UI(l x:Int):Bool:=decide ((l=2∧0≤x∧x≤7)∨(l=3∧0≤x∧x≤15))
def alw(r:Rl)(l x:Int):Bool:=bif (r.op==43||r.op==44)then UI l x else(decide ((r.level:Int)≤l)&&decide (l≤3))
def skl(h l:Nat)(level:Int):Int:=if level=3∧h=240∧l=0 then 4 else 2
def dx(h:Nat):Nat:=h%16
def ok(b0 b1:Nat)(l:Int):Bool:=(top (b0*256+b1)).op !=0&&alw (top (b0*256+b1)) l (dx b0:Nat)
def dec(b0 b1 b2 b3:Nat)(l:Int):Ins:=bif ok b0 b1 l then
  ⟨(top (b0*256+b1)).op,pX (top (b0*256+b1)).pk (dx b0:Nat),pY (top (b0*256+b1)).pk (b1/16:Nat),pN (top (b0*256+b1)).pk (dx b0:Nat) (b1%16:Nat),pNN (top (b0*256+b1)).pk (b1:Nat),pA (top (b0*256+b1)).pk (dx b0*256+b1:Nat) (b2*256+b3:Nat),skl b0 b1 l⟩
 else⟨0,0,0,0,0,0,skl b0 b1 l⟩
def lvOf(op:Int):List Rl→Int
 |[]=>0
 |r::rs=>if(r.op:Int)=op then r.level else lvOf op rs
def lv(op:Int):Int:=lvOf op rls
def rI(x y nnn:Nat):Nat:=if nnn=224 then 1 else if nnn=238 then 2 else if nnn=251 then 36 else if nnn=252 then 37 else if nnn=253 then 38 else if nnn=254 then 39 else if nnn=255 then 40 else if x=0∧y=12 then 35 else if x=0∧y=13 then 45 else 0
def ZR(n:Nat):Nat:=if n≤7 then 10+n else if n=14 then 18 else 0
def XP(n:Nat):Nat:=if n=0 then 7 else if n=2 then 46 else if n=3 then 47 else 0
def vH(x nn:Nat):Nat:=if nn=0 then(if x=0 then 48 else 0)else if nn=1 then 49 else if nn=2 then(if x=0 then 50 else 0)else if nn=7 then 26 else if nn=10 then 27 else if nn=21 then 28 else if nn=24 then 29 else if nn=30 then 30 else if nn=41 then 31 else if nn=48 then 42 else if nn=51 then 32 else if nn=58 then 51 else if nn=85 then 33 else if nn=101 then 34 else if nn=117 then 43 else if nn=133 then 44 else 0
def opR(hd x y n nn nnn:Nat):Nat:=
 if hd=0 then rI x y nnn else if hd=1∨hd=2∨hd=3∨hd=4 then hd+2 else if hd=5 then XP n else if hd=6∨hd=7 then hd+2 else if hd=8 then ZR n
 else if hd=9 then(if n=0 then 19 else 0)else if hd=10∨hd=11∨hd=12 then hd+10 else if hd=13 then(if n=0 then 41 else 23)else if hd=14 then(if nn=158 then 24 else if nn=161 then 25 else 0)else vH x nn
def opB(b0 b1:Nat):Nat:=opR (b0/16) (b0%16) (b1/16) (b1%16) b1 (b0%16*256+b1)
def lvR(op:Int):Int:=if op<1∨51<op then 0 else if op≤34 then 1 else if op≤44 then 2 else 3
def vO:Nat→(Nat→Bool)→Bool
 |0,_=>true
 |n+1,f=>f n&&vO n f
theorem m7:∀(n:Nat) (f:Nat→Bool),vO n f=true→∀k,k<n→f k=true
 |n+1,f,h,k,hk=>by
  unfold vO at h;rw[qK]at h;rcases Nat.lt_succ_iff_lt_or_eq.1 hk with h1|h1
  ·exact m7 n f h.2 k h1
  ·rw[h1];exact h.1
end Dec
namespace Cpu
open Dec
structure Pr where
 lv:Int
 sh:Bool
 ki:Bool
 jx:Bool
 lr:Bool
 cl:Bool
 dw:Bool
 fa:Bool
def b2(b:Bool):Nat:=if b=true then 1 else 0
def upd(v:Nat→Nat)(k r:Nat):Nat→Nat:=fun j=>if j=k then r else v j
def OkV(v:Nat→Nat):Prop:=∀j,j<16→v j<256
def xR(op:Int)(x y s nn:Nat):Nat:=
 if op=8 then nn else if op=9 then(x+nn)%256 else if op=10 then y else if op=11 then x|||y else if op=12 then x&&&y else if op=13 then x^^^y else
 if op=14 then(x+y)%256 else if op=15 then(x+256-y)%256 else if op=16 then s/2 else if op=17 then(y+256-x)%256 else 2*s%256
def xO(op:Int)(x y s:Nat)(lr:Bool):Option Nat:=
 if op=11∨op=12∨op=13 then(if lr=true then some 0 else none)else if op=14 then some (b2 (decide (255<x+y)))else if op=15 then some (b2 (decide (y≤x)))else
 if op=16 then some (s%2)else if op=17 then some (b2 (decide (x≤y)))else if op=18 then some (s/128)else none
def yC(op:Int):Bool:=decide (8≤op)&&decide (op≤18)
def shX(v:Nat→Nat)(i:Ins)(q:Pr):Nat:=if q.sh=true then v i.y.toNat else v i.x.toNat
def xZ(v:Nat→Nat)(i:Ins)(q:Pr):Nat→Nat:=
 if yC i.op=true then
  match xO i.op (v i.x.toNat) (v i.y.toNat) (shX v i q) q.lr with
  |none=>upd v i.x.toNat (xR i.op (v i.x.toNat) (v i.y.toNat) (shX v i q) i.nn.toNat)
  |some f=>upd (upd v i.x.toNat (xR i.op (v i.x.toNat) (v i.y.toNat) (shX v i q) i.nn.toNat)) 15 f
 else v
def uL(op:Int):Bool:=decide (op=5)||(decide (op=6)||(decide (op=7)||decide (op=19)))
def skB(v:Nat→Nat)(i:Ins):Bool:=
 if i.op=5 then decide ((v i.x.toNat:Int)=i.nn)else if i.op=6 then !decide ((v i.x.toNat:Int)=i.nn)else if i.op=7 then decide (v i.x.toNat=v i.y.toNat)else if i.op=19 then !decide (v i.x.toNat=v i.y.toNat)else false
theorem QG{x y:Nat}(hx:x<256)(hy:y<256):x|||y<256:=Nat.or_lt_two_pow (n:=8) hx hy
theorem eP{x y:Nat}(hx:x<256)(hy:y<256):x^^^y<256:=Nat.xor_lt_two_pow (n:=8) hx hy
theorem dF{x y:Nat}(hx:x<256)(hy:y<256):x&&&y<256:=Nat.lt_of_le_of_lt Nat.and_le_left hx
theorem dN(b:Bool):b2 b≤1:=by unfold b2;split<;>omega
theorem zGW{op:Int}{x y s nn:Nat}(hx:x<256)(hy:y<256)(hs:s<256)(hn:nn<256):xR op x y s nn<256:=by
 unfold xR;have:=QG hx hy;have:=eP hx hy;have:=dF hx hy;repeat' split
 all_goals omega
theorem zGY{op:Int}{x y s f:Nat}{lr:Bool}(hs:s<256)(h:xO op x y s lr=some f):f≤1:=by
 unfold xO at h;have h1:=dN (decide (255<x+y));have h2:=dN (decide (y≤x));have h3:=dN (decide (x≤y));split at h
 ·split at h
  ·injection h with h;omega
  ·cases h
 ·split at h
  ·injection h with h;omega
  ·split at h
   ·injection h with h;omega
   ·split at h
    ·injection h with h;omega
    ·split at h
     ·injection h with h;omega
     ·split at h
      ·injection h with h;omega
      ·cases h
theorem sU{v:Nat→Nat}(h:OkV v)(k r:Nat)(hr:r<256):OkV (upd v k r):=fun j hj=>by
 unfold upd;split
 ·exact hr
 ·exact h j hj
def aB(f i:Nat):Nat:=f/2^i%2
theorem gF(f i:Nat):aB f i=0∨aB f i=1:=by unfold aB;omega
theorem aK(f i:Nat):f%2^(i+1)=f%2^i+2^i*aB f i:=by rw[Nat.pow_succ,Nat.mod_mul];rfl
theorem tJ(f i:Nat):f.testBit i=decide (aB f i=1):=Nat.testBit_eq_decide_div_mod_eq
theorem WM{f i:Nat}{b:Bool}(h:f.testBit i=b):aB f i=b2 b:=by
 rw[tJ]at h;subst h;unfold b2;rcases gF f i with e|e<;>rw[e]<;>simp
theorem zH2(x y i:Nat):aB (x|||y) i=b2 (decide (aB x i=1)||decide (aB y i=1)):=WM (by rw[Nat.testBit_or,tJ,tJ])
theorem PN(x y i:Nat):aB (x&&&y) i=b2 (decide (aB x i=1)&&decide (aB y i=1)):=WM (by rw[Nat.testBit_and,tJ,tJ])
theorem zYN(x y i:Nat):aB (x^^^y) i=b2 (decide (aB x i=1)^^decide (aB y i=1)):=WM (by rw[Nat.testBit_xor,tJ,tJ])
end Cpu
end
section
open Go.RowKit
def mH(W:World):Type:={w':World//Below W.heap.size W w'}
def mH.w{W:World}(x:mH W):World:=x.1
theorem mH.below{W:World}(x:mH W):Below W.heap.size W x.w:=x.2
instance(W:World):Nonempty (mH W):=⟨⟨W,zB _ _⟩⟩
theorem mH.cell{W:World}{b o:Nat}{v:Value}(h:W.cell? ⟨b,o,none⟩=some v)(hb:b<W.heap.size)(x:mH W):x.w.cell? ⟨b,o,none⟩=some v:=
 (x.below.cell (p:=⟨b,o,none⟩) hb).trans h
theorem m8{P:Program}{id:Nat}{l:List Oper}{Q:Exit→Act→World→Prop}{a:Act}{W:World}(hm:P.follows .mixedOrders=true)(hB:Region.lexB .any l.toArray=true)
  (h:wpQuiet P l.toArray (fun w'=>∃x:mH W,w'=x.w) (fun a'=>∀w',(∃x:mH W,w'=x.w)→Q .normal a' w') l a):(Code.region id l.toArray true).wp P Q a W:=
 wp_region_quiet (C:=fun w'=>∃x:mH W,w'=x.w) hm hB ⟨⟨W.drew,(zB _ _).drew⟩,rfl⟩ (by simpa using h)
theorem nM{P:Program}{f:FuncId}{args:Array Value}{v:Value}{W:World}{x:mH W}(h:Calls P f args x.w fun e w'=>e=.returned v∧Below x.w.heap.size x.w w'):
  Calls P f args x.w fun e w''=>e=.returned v∧∃y:mH W,w''=y.w:=
 h.mono fun _ w' ⟨he,hb⟩=>⟨he,⟨w',x.below.trans (hb.mono x.below.size)⟩,rfl⟩
theorem yV{P:Program}{f:FuncId}{args:Array Value}{v:Value}{W:World}{x:mH W}(h:Calls P f args x.w fun e w'=>e=.returned v∧x.w=w'):
  Calls P f args x.w fun e w''=>e=.returned v∧∃y:mH W,w''=y.w:=
 h.mono fun _ _ ⟨he,hb⟩=>⟨he,x,hb.symm⟩
def Row{α:Type}(enc:α→Value)(w:World)(A:Option Addr)(L:List α):Prop:=
 L≠[]→∃b o,A=some ⟨b,o,none⟩∧b<w.heap.size∧∀j (h:j<L.length),w.cell? ⟨b,o+j,none⟩=some (enc L[j])
section
variable {α:Type} {enc:α→Value} {w w':World} {A:Option Addr} {L:List α}
theorem Row.nil:Row enc w A []:=fun h=>absurd rfl h
theorem Row.at_(h:Row enc w A L){k:Nat}(hk:k<L.length):∃b o,A=some ⟨b,o,none⟩∧b<w.heap.size∧w.cell? ⟨b,o+k,none⟩=some (enc L[k]):=by
 obtain⟨b,o,hA,hb,hc⟩:=h zTJ;exact⟨b,o,hA,hb,hc k hk⟩
theorem Row.below(h:Row enc w A L)(hb:Below w.heap.size w w'):Row enc w' A L:=fun hne=>by
 obtain⟨b,o,hA,hlt,hc⟩:=h hne;exact⟨b,o,hA,zS hlt hb.size,fun j hj=>(hb.cell (p:=⟨b,o+j,none⟩) hlt).trans (hc j hj)⟩
theorem Row.of_own{base:Nat}{e:TypeId}{n c:Nat}(h:w.ownsRow base e 1 (.slice A n c) n (L.map enc)):Row enc w A L:=fun hne=>by
 have hl:L.length=n:=by have:=h.1;simpa using this
 have hpos:0<n:=by rw[←hl];exact List.length_pos_iff.2 hne
 obtain⟨g,cap,hv,_,hlt⟩:=h.form hpos;have hA:A=some ⟨g,0,none⟩:=by injection hv
 subst hA;refine⟨g,0,rfl,hlt,fun j hj=>?_⟩;have:=h.cellAt (g:=g) j zBY;rw[qB,this];simp[hj]
end
theorem vQ{w:World}{base n:Nat}{e:TypeId}{v:Value}{xs:List Value}(h:w.ownsRow base e 1 v n xs):∃A cap,v=.slice A n cap:=by
 rcases h.2 with⟨rfl,rfl⟩|⟨g,cap,cur,rfl,_⟩
 ·exact⟨none,0,rfl⟩
 ·exact⟨_,cap,rfl⟩
theorem cV{w:World}{base base' size n:Nat}{e:TypeId}{v:Value}{xs:List Value}(h:w.ownsRow base e size v n xs)(hb:base'≤base):w.ownsRow base' e size v n xs:=by
 refine⟨h.1,h.2.imp id ?_⟩;rintro⟨g,cap,cur,hv,hg,r⟩;exact⟨g,cap,cur,hv,zD hb hg,r⟩
section
variable {P:Program} {ops:Array Oper} {C:World→Prop} {Q:Exit→Act→World→Prop} {md:Region.Mode}
def dZ:Op→Bool
 |.move _| .assign _| .pick ..| .binOp ..| .unOp ..| .slice ..| .convert ..| .index ..| .indexAddr ..| .load ..| .fieldAddr ..| .field ..| .extract ..| .nilCheck _| .build ..=>true
 |.call c=>match c.callee with| .builtin .len| .builtin .cap=>true|_=>false
 |_=>false
theorem aT{s:Sem Value}{w w':World}{n:Next}(hr:(Sem.run P (do pure (.value (←s)):Sem Next) w)=.ok n w'):∃u,n=.value u:=by
 rw[qW]at hr;cases h:s.run P w with
 |ok u w1=>rw[h]at hr;simp[Result.andThen]at hr;exact⟨u,hr.1.symm⟩
 |halt x w1=>rw[h]at hr;simp[Result.andThen]at hr
theorem T8{o:Oper}{ρ:Operand→Value}{w w':World}{n:Next}(h:dZ o.op=true)(hr:(execOp ρ o).run P w=.ok n w'):∃u,n=.value u:=by
 obtain⟨dst,op,ty,pos,after,guard⟩:=o;cases op
 case call c=>
  obtain⟨callee,args,ats⟩:=c
  cases callee
  case builtin b=>
   cases b<;>simp[dZ]at h
   all_goals
    rw[BigFrame.execOp_builtin]at hr
    first|rw[BigFrame.builtin_len]at hr|rw[BigFrame.builtin_cap]at hr
    exact aT hr
  all_goals simp[dZ]at h
 case move x=>unfold execOp at hr;simp at hr;exact⟨_,hr.1.symm⟩
 case assign x=>unfold execOp at hr;simp at hr;exact⟨_,hr.1.symm⟩
 case pick c a b=>
  unfold execOp at hr
  simp only[qW]at hr
  cases hc:(asBool (ρ c)).run P w with
  |ok u w1=>rw[hc]at hr;simp[Result.andThen]at hr;exact⟨_,hr.1.symm⟩
  |halt x w1=>rw[hc]at hr;simp[Result.andThen]at hr
 case nilCheck x=>
  unfold execOp at hr
  simp only at hr
  split at hr
  all_goals first|(simp at hr;exact⟨_,hr.1.symm⟩)|(simp[runtimePanic,goPanic]at hr;done)|skip
  split at hr
  ·simp[runtimePanic,goPanic]at hr
  ·simp only[qW]at hr
   revert hr
   cases Sem.run P program w<;>simp[Result.andThen]
   rename_i p w1
   cases Sem.run P (nilAhead (p.types.size+Made.depth) _ _ _) w1<;>simp
   rename_i b w2
   intro hr
   split at hr
   all_goals first
    |(simp at hr;exact⟨_,hr.1.symm⟩)
    |(simp at hr;done)
    |(revert hr;cases Sem.run P (unsupported _:Sem PUnit) w2<;>simp[Result.andThen];intro h _;exact⟨_,h.symm⟩)
  all_goals (simp at hr;exact⟨_,hr.1.symm⟩)
 all_goals first|(simp[dZ]at h;done)|(unfold execOp at hr;exact aT hr)
theorem rY{o:Oper}{a:Act}{K:Act→Prop}(hp:dZ o.op=true)(hne:∃w,C w)
  (h:if Region.wanted o (yielded ops a.tmps)then o.quiet P a C K else K (a.put o.dst undef)):∃v,YieldsIf P ops C o v a∧K (a.put o.dst v):=by
 by_cases hw:Region.wanted o (yielded ops a.tmps)=true
 ·simp only[hw,if_true]at h;obtain⟨v,h1,h2⟩:=h;refine⟨v,.inl ⟨hw,fun w hC=>?_⟩,h2⟩;have h3:=h1 w hC;unfold Oper.quietAt at h3;cases hr:(execOp a.eval o).run P w with
  |ok n w'=>
   obtain⟨u,rfl⟩:=T8 hp hr
   rw[hr]at h3
   simp only[Oper.quietUpon]at h3
   obtain⟨rfl,rfl⟩:=h3
   rfl
  |halt x w'=>rw[hr]at h3;simp only[Oper.quietUpon]at h3
 ·simp only[hw]at h;exact⟨undef,.inr ⟨by simpa using hw,rfl⟩,h⟩
def lA(ops:Array Oper):List Nat→List Oper
 |[]=>[]
 |i::is=>match ops[i]? with|some o=>o::lA ops is|none=>lA ops is
def vB(listed:Array Bool):List Nat→Array Bool
 |[]=>listed
 |i::is=>vB (listed.setIfInBounds i true) is
def MI(md:Region.Mode)(ops:Array Oper):List Nat→Array Bool→Bool
 |[],_=>true
 |i::is,listed=>(match ops[i]? with|some o=>dZ o.op|none=>false)&&(Region.ready md ops listed).contains i&&Region.free md ops listed i&&MI md ops is (listed.setIfInBounds i true)
theorem t6(hs:Region.noSelect ops=true)(hQ:∀(c:_) (a:Act) (d:Option Tmp) (v:Value) (w:World),Q (.panic c) (a.put d v) w→Q (.panic c) a w)(fuel:Nat){w:World}(hC:C w):∀(is:List Nat) (listed:Array Bool) (a:Act),
  MI md ops is listed=true→wpQuiet P ops C (fun a'=>wpAnyH P md ops Q C fuel (vB listed is) a' w) (lA ops is) a→wpAnyH P md ops Q C (fuel+is.length) listed a w
 |[],listed,a,_,h=>h
 |i::is,listed,a,hB,h=>by
  simp only[MI,qK]at hB;obtain⟨⟨⟨hp,hr⟩,hf⟩,hB'⟩:=hB;cases ho:ops[i]? with
  |none=>rw[ho]at hp;cases hp
  |some o=>
   rw[ho]at hp
   simp only[lA,ho,wpQuiet]at h
   obtain⟨v,hy,hK⟩:=rY hp ⟨w,hC⟩ h
   exact wpAnyH_take ho hs hf hr (fun c a w=>hQ c a o.dst v w) hy hC (t6 hs hQ fuel hC is _ _ hB' hK)
def bQ(P:Program)(ops:Array Oper)(C:World→Prop)(Q:Exit→Act→World→Prop):List (List Nat×Nat)→List Nat→Act→World→Prop
 |[],last,a,w=>wpQuiet P ops C (fun a'=>Q .normal a' w) (lA ops last) a
 |(is,c)::rest,last,a,w=>wpQuiet P ops C (fun a'=>match ops[c]? with
   |none=>False
   |some o=>if Region.wanted o (yielded ops a'.tmps)then o.wp P a' w (fun a'' w''=>C w''∧bQ P ops C Q rest last a'' w'') Q else bQ P ops C Q rest last (a'.put o.dst undef) w) (lA ops is) a
def zV6(md:Region.Mode)(ops:Array Oper):List (List Nat×Nat)→List Nat→Array Bool→Bool
 |[],last,listed=>MI md ops last listed&&(Region.ready md ops (vB listed last)).isEmpty
 |(is,c)::rest,last,listed=>MI md ops is listed&&decide (Region.ready md ops (vB listed is)=[c])&&zV6 md ops rest last ((vB listed is).setIfInBounds c true)
def iJ:List (List Nat×Nat)→List Nat→Nat
 |[],last=>last.length
 |(is,c)::rest,last=>iJ rest last+1+is.length
theorem MB(hs:Region.noSelect ops=true)(hQ:∀(c:_) (a:Act) (d:Option Tmp) (v:Value) (w:World),Q (.panic c) (a.put d v) w→Q (.panic c) a w)(k:Nat)(last:List Nat):∀(bs:List (List Nat×Nat)) (listed:Array Bool) (a:Act) (w:World),C w→
  zV6 md ops bs last listed=true→bQ P ops C Q bs last a w→wpAnyH P md ops Q C (k+iJ bs last) listed a w
 |[],listed,a,w,hC,hB,h=>by
  simp only[zV6,qK]at hB;have hr:Region.ready md ops (vB listed last)=[]:=by simpa using hB.2
  refine t6 hs hQ k hC last listed a hB.1 ?_;have mono:∀(l:List Oper) (a:Act),wpQuiet P ops C (fun a'=>Q .normal a' w) l a→wpQuiet P ops C (fun a'=>wpAnyH P md ops Q C k (vB listed last) a' w) l a:=by
   intro l;induction l with
   |nil=>intro a h;exact wpAnyH_done hr h k
   |cons o l ih=>
    intro a h
    simp only[wpQuiet]at h⊢
    split
    ·rename_i hw;simp only[hw,if_true]at h;exact Oper.quiet_mono (fun a h=>ih a h) h
    ·rename_i hw;simp only[hw]at h;exact ih _ h
  exact mono _ _ h
 |(is,c)::rest,listed,a,w,hC,hB,h=>by
  simp only[zV6,qK]at hB;obtain⟨⟨hB1,hB2⟩,hB3⟩:=hB;have hr:Region.ready md ops (vB listed is)=[c]:=by simpa using hB2
  simp only[iJ];rw[←qS];refine t6 hs hQ _ hC is listed a hB1 ?_;simp only[bQ]at h;have step:∀a':Act,(match ops[c]? with
   |none=>False
   |some o=>if Region.wanted o (yielded ops a'.tmps)then o.wp P a' w (fun a'' w''=>C w''∧bQ P ops C Q rest last a'' w'') Q else bQ P ops C Q rest last (a'.put o.dst undef) w)→wpAnyH P md ops Q C (k+(iJ rest last+1)) (vB listed is) a' w:=by
   intro a' ha;rw[←qS];refine wpAnyH_all hr zBT fun i hi=>?_;obtain rfl:i=c:=by simpa using hi
   unfold wpOp;cases ho:ops[i]? with
   |none=>rw[ho]at ha;exact ha.elim
   |some o=>
    rw[ho]at ha
    simp only at ha⊢
    split
    ·rename_i hw
     simp only[hw,if_true]at ha
     exact .inl (Oper.wp_mono (fun a'' w'' ⟨h1,h2⟩=>⟨h1,MB hs hQ k last rest _ a'' w'' h1 hB3 h2⟩) ha)
    ·rename_i hw
     simp only[hw]at ha
     exact⟨hC,MB hs hQ k last rest _ _ w hC hB3 ha⟩
  have mono:∀(l:List Oper) (a:Act),wpQuiet P ops C (fun a'=>match ops[c]? with
   |none=>False
   |some o=>if Region.wanted o (yielded ops a'.tmps)then o.wp P a' w (fun a'' w''=>C w''∧bQ P ops C Q rest last a'' w'') Q else bQ P ops C Q rest last (a'.put o.dst undef) w) l a→wpQuiet P ops C (fun a'=>wpAnyH P md ops Q C (k+(iJ rest last+1)) (vB listed is) a' w) l a:=by
   intro l;induction l with
   |nil=>intro a h;exact step a h
   |cons o l ih=>
    intro a h
    simp only[wpQuiet]at h⊢
    split
    ·rename_i hw;simp only[hw,if_true]at h;exact Oper.quiet_mono (fun a h=>ih a h) h
    ·rename_i hw;simp only[hw]at h;exact ih _ h
  exact mono _ _ h
theorem nR{id:Nat}{a:Act}{w:World}{l:List Oper}(bs:List (List Nat×Nat))(last:List Nat)(hm:P.follows .mixedOrders=true)
  (hB:(Region.noSelect l.toArray&&zV6 .any l.toArray bs last (Array.replicate l.toArray.size false)&&decide (iJ bs last≤l.toArray.size))=true)
  (hQ:∀(c:_) (a:Act) (d:Option Tmp) (v:Value) (w:World),Q (.panic c) (a.put d v) w→Q (.panic c) a w) (hC:C w.drew)
  (h:∀wd,wd=w.drew→bQ P l.toArray C Q bs last a wd):(Code.region id l.toArray true).wp P Q a w:=by
 simp only[qK,jG]at hB;obtain⟨⟨hs,hb⟩,hle⟩:=hB;refine wp_region_held (S:=C) hm ?_;have:=MB (md:=.any) hs hQ (l.toArray.size-iJ bs last) last bs (Array.replicate l.toArray.size false) a w.drew hC hb (h _ rfl);rwa [Nat.sub_add_cancel hle]at this
def VI(P:Program)(ops:Array Oper)(C:World→Prop)(Q:Exit→Act→World→Prop)(rest:List (List Nat×Nat))(last:List Nat)(o:Oper)(w:World)(a:Act):Prop:=
 if Region.wanted o (yielded ops a.tmps)then o.wp P a w (fun a'' w''=>C w''∧bQ P ops C Q rest last a'' w'') Q else bQ P ops C Q rest last (a.put o.dst undef) w
theorem nD{is last:List Nat}{c:Nat}{rest:List (List Nat×Nat)}{l:List Oper}{o:Oper}{a:Act}{w:World}(hl:lA ops is=l)(ho:ops[c]?=some o)(h:wpQuiet P ops C (VI P ops C Q rest last o w) l a):bQ P ops C Q ((is,c)::rest) last a w:=by
 subst hl;unfold bQ;rw[ho];exact h
theorem cT{last:List Nat}{l:List Oper}{a:Act}{w:World}(hl:lA ops last=l)(h:wpQuiet P ops C (fun a'=>Q .normal a' w) l a):bQ P ops C Q [] last a w:=by
 subst hl;exact h
theorem nK{rest:List (List Nat×Nat)}{last:List Nat}{o:Oper}{a:Act}{w:World}(hw:Region.wanted o (yielded ops a.tmps)=true)(h:∀K:Act→World→Prop,(∀a w,C w→bQ P ops C Q rest last a w→K a w)→o.wp P a w K Q):VI P ops C Q rest last o w a:=by
 unfold VI;rw[zG hw];exact h _ fun a w hc h=>⟨hc,h⟩
end
structure rU where
 w:World
theorem rU.any(w:World):∃x:rU,w=x.w:=⟨⟨w⟩,rfl⟩
instance:Nonempty rU:=⟨⟨default⟩⟩
structure xX(P:Program)(T:TypeId)(n:Nat):Prop where
 u:∃d,P.underlying T=some d∧d.isRow=true
 i:(P.info? T).map (·.size)=some n
def cY(P:Program)(T:TypeId)(z:Array Value):Prop:=(P.info? T).map (fun i=>(i.zero,i.size))=some (some (.agg z),z.size)
def cL(cs:Array Value):Prop:=cs.all (·.oneCell')=true
def Blk(b:Nat)(T:TypeId)(cs:Array Value)(w:World):Prop:=w.heap[b]?=some (.cells cs T (0,0))
theorem lU{B:Nat}{a w:World}(h:Below B a w){g:Nat}(hg:B≤g)(cs:Array Value):Below B a (w.setRow g cs):=
 h.trans ⟨rfl,rfl,rfl,by simp[World.setRow],fun k hk=>zA w g k cs zBY⟩
section
variable {b:Nat} {T:TypeId} {cs ds:Array Value} {w w':World}
theorem Blk.lt(H:Blk b T cs w):b<w.heap.size:=(jZ.1 H).1
theorem Blk.below(H:Blk b T cs w){n:Nat}(hb:Below n w w')(hn:b<n):Blk b T cs w':=(hb.block b hn).trans H
theorem Blk.step(H:Blk b T cs w)(hb:Below w.heap.size w w'):Blk b T cs w':=H.below hb H.lt
theorem Blk.new(w:World)(T:TypeId)(cs:Array Value):Blk w.heap.size T cs (w.alloc (.cells cs T)):=jN _ _
theorem Blk.alloc(H:Blk b T cs w)(o:Obj):Blk b T cs (w.alloc o):=H.step ((zB _ _).alloc (zH _) _)
theorem Blk.drew(H:Blk b T cs w):Blk b T cs w.drew:=H
theorem Blk.other(H:Blk b T cs w){g:Nat}(hg:b≠g)(o:Nat)(v:Value):Blk b T cs (w.setCell ⟨g,o,none⟩ v):=(qQ w ⟨g,o,none⟩ v b hg).trans H
theorem Blk.otherRow(H:Blk b T cs w){g:Nat}(hg:b≠g)(ds:Array Value):Blk b T cs (w.setRow g ds):=(zA w g b ds hg).trans H
theorem Blk.cell(H:Blk b T cs w)(j:Nat):w.cell? ⟨b,j,none⟩=cs[j]?:=j4 w b j cs T (0,0) H
theorem Blk.frozen(H:Blk b T cs w)(j:Nat):w.frozen? ⟨b,j,none⟩=false:=frozen_of_row w b j cs T H
theorem Blk.store(H:Blk b T cs w)(ds:Array Value):Blk b T ds (w.setRow b ds):=setRow_heap w b _ _ T (0,0) H
theorem Blk.put(H:Blk b T cs w)(j:Nat)(v:Value):Blk b T (cs.setIfInBounds j v) (w.setCell ⟨b,j,none⟩ v):=heap_setCell_same w b j _ _ v H
theorem Blk.eq(H:Blk b T cs w)(e:cs=ds):Blk b T ds w:=e▸H
def m3(cs:Array Value)(o:Nat)(ds:Array Value):Array Value:=(cs.toList.take o++ds.toList++cs.toList.drop (o+ds.size)).toArray
end
section
variable {P:Program} {ops:Array Oper} {T ty:TypeId} {b o n:Nat} {cs ds:Array Value} {w:World} {Q:Exit→Act→World→Prop}
theorem MA(A:xX P ty n)(H:Blk b T cs w)(ho:o+n≤cs.size):(loadVar ty ⟨b,o,none⟩).run P w=.ok (.agg (cs.extract o (o+n))) w:=by
 obtain⟨d,hu,hd⟩:=A.u;have h:=run_loadVar_mid (P:=P) w b o ty (cs.extract o (o+n)).toList d (World.rangeAt_of_block H o n) hu hd (by rw[A.i];simp;omega);rwa [Array.toArray_toList]at h
theorem bR{op:Oper}{ρ:Operand→Value}(A:xX P ty n)(H:Blk b T cs w)(hn:o+n≤cs.size)(x:Operand)(ho:op.op=.load ty x)(hx:ρ x=.pointer (some ⟨b,o,none⟩)):(execOp ρ op).run P w=.ok (.value (.agg (cs.extract o (o+n)))) w:=by
 unfold execOp;simp only[ho,hx,Instr.loadAt,Instr.sureAddr,qW,jW,qX,MA A H hn]
theorem dB{op:Oper}{ρ:Operand→Value}(A:xX P ty n)(H:Blk b T cs w)(hn:cs.size=n)(x:Operand)(ho:op.op=.load ty x)(hx:ρ x=.pointer (some ⟨b,0,none⟩)):(execOp ρ op).run P w=.ok (.value (.agg cs)) w:=by
 have h:=bR A H (by omega:0+n≤cs.size) x ho hx;rw[h];subst hn;simp
theorem KX(A:xX P ty n)(H:Blk b T cs w)(hn:ds.size=n)(ho:o+n≤cs.size)(h1:cL ds):(storeVar ty ⟨b,o,none⟩ (.agg ds)).run P w=.ok () (w.setRow b (m3 cs o ds)):=by
 have h:=run_storeCells_at P b o T ds.toList 0 cs w H zBS (fun v hv=>(jV.1 h1) v (by simpa using hv));have hi:=A.i;cases hq:P.info? ty with
 |none=>simp[hq]at hi
 |some i=>
  have hs:i.size=n:=zRI
  simp[storeVar,sizeOf,typeInfo,hq,Value.cells,hs,hn,h,m3]
theorem nB{op:Oper}{a:Act}{K:Act→World→Prop}(A:xX P ty n)(H:Blk b T cs w)(hn:ds.size=n)(hl:o+n≤cs.size)(h1:cL ds)(x y:Operand)(ho:op.op=.store ty x y)(hx:a.eval x=.pointer (some ⟨b,o,none⟩))(hy:a.eval y=.agg ds)
  (h:K (a.put op.dst undef) (w.setRow b (m3 cs o ds))):op.wp P a w K Q:=by
 unfold Oper.wp execOp;simp only[ho,hx,hy,Instr.storeAt,Instr.sureAddr,qW,jW,qX,KX A H hn hl h1];exact h
theorem TJ(h:ds.size=cs.size):m3 cs 0 ds=ds:=by
 unfold m3;rw[qB,h];simp[List.drop_eq_nil_of_le]
theorem nH{op:Oper}{a:Act}{K:Act→World→Prop}(A:xX P ty n)(H:Blk b T cs w)(hc:cs.size=n)(hn:ds.size=n)(h1:cL ds)(x y:Operand)(ho:op.op=.store ty x y)(hx:a.eval x=.pointer (some ⟨b,0,none⟩))(hy:a.eval y=.agg ds)
  (h:K (a.put op.dst undef) (w.setRow b ds)):op.wp P a w K Q:=
 nB A H hn zBY h1 x y ho hx hy (by rw[TJ zBY];exact h)
variable {rest:List Oper} {op:Oper} {a:Act}
theorem nA(A:xX P ty n)(H:Blk b T cs w)(hn:o+n≤cs.size)(hgd:op.guard=none)(x:Operand)(ho:op.op=.load ty x)(hx:a.eval x=.pointer (some ⟨b,o,none⟩))
  (h:wpList P ops Q rest (a.put op.dst (.agg (cs.extract o (o+n)))) w):wpList P ops Q (op::rest) a w:=
 qL hgd fun K hK=>by unfold Oper.wp;rw[bR A H hn x ho hx];exact hK _ _ h
theorem lP(A:xX P ty n)(H:Blk b T cs w)(hn:cs.size=n)(hgd:op.guard=none)(x:Operand)(ho:op.op=.load ty x)(hx:a.eval x=.pointer (some ⟨b,0,none⟩))
  (h:wpList P ops Q rest (a.put op.dst (.agg cs)) w):wpList P ops Q (op::rest) a w:=
 qL hgd fun K hK=>by unfold Oper.wp;rw[dB A H hn x ho hx];exact hK _ _ h
theorem lE(A:xX P ty n)(H:Blk b T cs w)(hc:cs.size=n)(hn:ds.size=n)(h1:cL ds)(hgd:op.guard=none)(x y:Operand)(ho:op.op=.store ty x y)(hx:a.eval x=.pointer (some ⟨b,0,none⟩))(hy:a.eval y=.agg ds)
  (h:wpList P ops Q rest (a.put op.dst undef) (w.setRow b ds)):wpList P ops Q (op::rest) a w:=
 qL hgd fun K hK=>nH A H hc hn h1 x y ho hx hy (hK _ _ h)
theorem nG(A:xX P ty n)(H:Blk b T cs w)(hn:ds.size=n)(hl:o+n≤cs.size)(h1:cL ds)(hgd:op.guard=none)(x y:Operand)(ho:op.op=.store ty x y)(hx:a.eval x=.pointer (some ⟨b,o,none⟩))(hy:a.eval y=.agg ds)
  (h:wpList P ops Q rest (a.put op.dst undef) (w.setRow b (m3 cs o ds))):wpList P ops Q (op::rest) a w:=
 qL hgd fun K hK=>nB A H hn hl h1 x y ho hx hy (hK _ _ h)
theorem Y5(W:World)(cs cs':Array Value)(t:TypeId):(W.alloc (.cells cs t)).setRow W.heap.size cs'=W.alloc (.cells cs' t):=by
 unfold World.setRow World.alloc;congr 1
 apply qH
 intro i
 simp only[Array.getElem?_modify,Array.getElem?_push]
 by_cases e:W.heap.size=i
 ·subst e;simp
 ·rw[zL e,zL (fun h=>e h.symm),zL (fun h=>e h.symm)]
theorem tK{z:Array Value}(Z:cY P ty z):(zeroValue ty).run P w=.ok (.agg z) w:=by
 unfold cY at Z;unfold zeroValue typeInfo;cases hq:P.info? ty with
 |none=>simp[hq]at Z
 |some i=>
  simp only[hq,Option.map_some,kR,jC]at Z
  simp[qW,hq,Z.1]
theorem nF{K:Act→World→Prop}{z:Array Value}(Z:cY P ty z)(ho:op.op=.alloc ty)(h:K (a.put op.dst (.pointer (some ⟨w.heap.size,0,none⟩))) (w.alloc (.cells z ty))):op.wp P a w K Q:=by
 unfold Oper.wp execOp;simp only[ho,Instr.alloc,newVar,newRow,newObj,qW,tK Z,qX,jW];exact h
theorem nY{o1 o2:Oper}{z:Array Value}(A:xX P ty n)(Z:cY P ty z)(hz:z.size=n)(hn:ds.size=n)(h1:cL ds)(g1:o1.guard=none)(ho1:o1.op=.alloc ty)(g2:o2.guard=none)(x y:Operand)(ho2:o2.op=.store ty x y)
  (hx:(a.put o1.dst (.pointer (some ⟨w.heap.size,0,none⟩))).eval x=.pointer (some ⟨w.heap.size,0,none⟩)) (hy:(a.put o1.dst (.pointer (some ⟨w.heap.size,0,none⟩))).eval y=.agg ds)
  (h:wpList P ops Q rest ((a.put o1.dst (.pointer (some ⟨w.heap.size,0,none⟩))).put o2.dst undef) (w.alloc (.cells ds ty))):wpList P ops Q (o1::o2::rest) a w:=by
 refine qL g1 fun K hK=>nF Z ho1 (hK _ _ ?_);refine lE A (Blk.new w ty z) hz hn h1 g2 x y ho2 hx hy ?_;rw[Y5];exact h
theorem nU{cs:Array Value}{parts:Array (Nat×Operand)}(hgd:op.guard=none)(ho:op.op=.build ty parts)(hb:P.built ty (parts.map fun(i,x)=>(i,a.eval x)).toList=some cs)
  (h:wpList P ops Q rest (a.put op.dst (.agg cs)) w):wpList P ops Q (op::rest) a w:=
 wpList_build hgd ty parts ho (by rw[hb];rfl) (by rw[hb];exact h)
end
section
variable {P:Program} {ops:Array Oper} {C:World→Prop} {ty T:TypeId} {b o n:Nat} {cs:Array Value}
theorem gI{Q:Act→Prop}{op:Oper}{rest:List Oper}{a:Act}(hw:Region.wanted op (yielded ops a.tmps)=true)(v:Value)(h1:∀w,C w→(execOp a.eval op).run P w=.ok (.value v) w)(h:wpQuiet P ops C Q rest (a.put op.dst v)):wpQuiet P ops C Q (op::rest) a:=by
 exact zFI
theorem l9{Q:Act→Prop}{op:Oper}{rest:List Oper}{a:Act}(A:xX P ty n)(H:∀w,C w→Blk b T cs w)(hn:cs.size=n)(hw:Region.wanted op (yielded ops a.tmps)=true)(x:Operand)(ho:op.op=.load ty x)(hx:a.eval x=.pointer (some ⟨b,0,none⟩))
  (h:wpQuiet P ops C Q rest (a.put op.dst (.agg cs))):wpQuiet P ops C Q (op::rest) a:=
 gI hw _ (fun w hC=>dB A (H w hC) hn x ho hx) h
theorem mG{Q:Act→Prop}{op:Oper}{rest:List Oper}{a:Act}(A:xX P ty n)(H:∀w,C w→Blk b T cs w)(hn:o+n≤cs.size)(hw:Region.wanted op (yielded ops a.tmps)=true)(x:Operand)(ho:op.op=.load ty x)(hx:a.eval x=.pointer (some ⟨b,o,none⟩))
  (h:wpQuiet P ops C Q rest (a.put op.dst (.agg (cs.extract o (o+n))))):wpQuiet P ops C Q (op::rest) a:=
 gI hw _ (fun w hC=>bR A (H w hC) hn x ho hx) h
theorem MO{op:Oper}{ρ:Operand→Value}{w:World}{v:Value}{ad:Addr}(hu:∃d,P.underlying ty=some d∧d.isRow=false)(hc:w.cell? ad=some v)(x:Operand)(ho:op.op=.load ty x)(hx:ρ x=.pointer (some ad)):(execOp ρ op).run P w=.ok (.value v) w:=by
 obtain⟨d,hu,hd⟩:=hu;have hagg:(isAgg ty).run P w=.ok false w:=by
  unfold isAgg;rw[qW,kL hu w];cases d<;>simp_all
 unfold execOp;simp[ho,hx,Instr.loadAt,Instr.sureAddr,loadVar,qW,hagg,hc]
theorem KF{Q:Act→Prop}{op:Oper}{rest:List Oper}{a:Act}{v:Value}{ad:Addr}(hu:∃d,P.underlying ty=some d∧d.isRow=false)(H:∀w,C w→w.cell? ad=some v)(hw:Region.wanted op (yielded ops a.tmps)=true)(x:Operand)(ho:op.op=.load ty x)(hx:a.eval x=.pointer (some ad))
  (h:wpQuiet P ops C Q rest (a.put op.dst v)):wpQuiet P ops C Q (op::rest) a:=
 gI hw _ (fun w hC=>MO hu (H w hC) x ho hx) h
theorem sH{Q:Act→Prop}{op:Oper}{rest:List Oper}{a:Act}{cs:Array Value}{parts:Array (Nat×Operand)}(hw:Region.wanted op (yielded ops a.tmps)=true)(ho:op.op=.build ty parts)(hb:P.built ty (parts.map fun(i,x)=>(i,a.eval x)).toList=some cs)
  (h:wpQuiet P ops C Q rest (a.put op.dst (.agg cs))):wpQuiet P ops C Q (op::rest) a:=
 gI hw (.agg cs) (fun w _=>by
  unfold execOp;simp only[ho,qW,run_build w ty _ cs hb,qX,jW]) h
end
end
section
theorem wB{α:Type}(L:List α)(off:Nat)(cs:List α)(h:off+cs.length≤L.length):(splice L off cs).length=L.length:=length_splice L off cs h
theorem wR{α:Type}(L:List α)(off:Nat)(cs:List α)(h:off+cs.length≤L.length)(j:Nat):
  (splice L off cs)[j]?=if j<off then L[j]? else if j<off+cs.length then cs[j-off]? else L[j]?:=by
 unfold splice;by_cases h1:j<off
 ·rw[zG h1,qA zBS,List.getElem?_take,zG h1]
 ·rw[zL h1,qP zBS];have e:(L.take off).length=off:=by simp;omega
  rw[e];by_cases h2:j<off+cs.length
  ·rw[zG h2,qA zBY]
  ·rw[zL h2,qP zBY,kO];congr 1
   omega
theorem aE{α β:Type}(f:α→β)(L:List α)(off:Nat)(cs:List α):splice (L.map f) off (cs.map f)=(splice L off cs).map f:=by
 simp[splice]
end
section
open Go.RowKit Num
def arr(L:List Int):Array Value:=(L.map (Value.int .u8)).toArray
theorem MH(L:List Int):(arr L).size=L.length:=by simp[arr]
theorem oM(L:List Int)(j:Nat)(h:j<L.length):(arr L)[j]?=some (.int .u8 L[j]):=by simp[arr,h]
theorem tQ{P:Program}{ops:Array Oper}{rest:List Oper}{o:Oper}{a:Act}{w:World}{Q:Exit→Act→World→Prop}(hgd:o.guard=none)(ty:TypeId)(x:Operand)(ho:o.op=.load ty x)
  (ad:Addr) (hx:a.eval x=.pointer (some ad)) (L:List Int) (d:TypeDesc) (hc:∀j (h:j<L.length),w.cell? (ad.add j)=some (.int .u8 L[j]))
  (hu:P.underlying ty=some d) (hd:(match d with| .struct _| .array _ _=>true|_=>false)=true) (hi:(P.info? ty).map (·.size)=some L.length)
  (h:wpList P ops Q rest (a.put o.dst (.agg (arr L))) w):wpList P ops Q (o::rest) a w:=by
 have hl:(loadCells ad (L.map (Value.int .u8)).length).run P w=.ok (L.map (Value.int .u8)).toArray w:=
  run_loadCells_list (P:=P) w ad (L.map (Value.int .u8)) (fun j v hv=>by
   rw[jK]at hv;by_cases hj:j<L.length
   ·rw[zP hj]at hv;rw[hc j hj];exact hv
   ·rw[qD (Nat.le_of_not_lt hj)]at hv;cases hv)
 rw[jQ]at hl;refine qL hgd fun K hK=>?_;have hlv:(loadVar ty ad).run P w=.ok (.agg (arr L)) w:=by
  cases hq:P.info? ty with
  |none=>simp[hq]at hi
  |some i=>
   have hs:i.size=L.length:=zRI
   have hagg:(isAgg ty).run P w=.ok true w:=by
    unfold isAgg;rw[qW,kL hu w];cases d<;>simp_all
   simp[loadVar,qW,hagg,sizeOf,typeInfo,hq,hs,hl,arr]
 unfold Oper.wp execOp;simp only[ho,hx,Instr.loadAt,Instr.sureAddr,qW,jW,qX,hlv];exact hK _ _ h
theorem dD{W:World}{B:Nat}{t e:TypeId}{cs:Array Value}(h:W.heap[B]?=some (.cells cs t (0,0)))(hte:t≠e){base size k:Nat}{v:Value}{xs:List Value}(hr:W.ownsRow base e size v k xs):some B≠v.ownBlock:=by
 rcases hr.2 with⟨rfl,_⟩|⟨g,cap,cur,rfl,_,hg,_⟩
 ·intro c;simp[Value.ownBlock]at c
 ·intro c;simp only[Value.ownBlock,kR]at c;subst c;rw[hg]at h;simp only[kR,Obj.cells.injEq]at h;exact hte h.2.1.symm
theorem iW{w w':World}{B:Nat}{o:Obj}{row:Option Nat}(tmp:Obj)(h:w.heap[B]?=some o)(hg:(w.alloc tmp).grownBy w' row)(hne:some B≠row):w'.heap[B]?=some o:=by
 have hlt:B<w.heap.size:=(jZ.1 h).1;rw[hg.block B zBS hne,heap_alloc_old w tmp hlt];exact h
theorem dP{X:List Int}{k:Nat}(h:k<X.length):X.take (k+1)=X.take k++[X[k]]:=by simp
def wK(ty:TypeId)(L:List Int)(w:World)(e:Ending)(w':World):Prop:=∃v,e=.returned v∧w'.ownsRow w.heap.size ty 1 v L.length (L.map (Value.int .u8))∧Below w.heap.size w w'
theorem rS:(Tryz.prog.info? 5).map (fun i=>(i.zero,i.size,i.bytes))=some (some (.int .u8 0),1,1):=by kernel_rfl
structure nC(p:Nat)(g:Option Nat)(w w':World):Prop where
 os:w'.os=w.os
 tape:w'.tape=w.tape
 output:w'.output=w.output
 size:w.heap.size≤w'.heap.size
 block:∀k,k<w.heap.size→k≠p→some k≠g→w'.heap[k]?=w.heap[k]?
section
variable {p:Nat} {g:Option Nat} {u w w':World}
theorem nC.refl:nC p g w w:=⟨rfl,rfl,rfl,zH _,fun _ _ _ _=>rfl⟩
theorem nC.trans(h:nC p g u w)(k:nC p g w w'):nC p g u w':=
 ⟨k.os.trans h.os,k.tape.trans h.tape,k.output.trans h.output,zD h.size k.size,fun i hi h1 h2=>(k.block i (zS hi h.size) h1 h2).trans (h.block i hi h1 h2)⟩
theorem nC.drew(h:nC p g u w):nC p g u w.drew:=⟨h.os,h.tape,h.output,h.size,h.block⟩
theorem nC.of_grown(h:w.grownBy w' g):nC p g w w':=⟨h.os,h.tape,h.output,h.size,fun k hk _ hg=>h.block k hk hg⟩
theorem nC.of_below(h:Below w.heap.size w w'):nC p g w w':=⟨h.os,h.tape,h.output,h.size,fun k hk _ _=>h.block k hk⟩
theorem nC.setRow(cs:Array Value):nC p g w (w.setRow p cs):=⟨rfl,rfl,rfl,by simp[World.setRow],fun k hk hp _=>zA w p k cs hp⟩
theorem nC.setCell(o:Nat)(v:Value):nC p g w (w.setCell ⟨p,o,none⟩ v):=⟨rfl,rfl,rfl,by simp,fun k hk hp _=>qQ w _ v k hp⟩
theorem nC.below(h:nC p g w w'){B:Nat}(hB:B≤w.heap.size)(hp:B≤p)(hg:∀k,g=some k→B≤k):Below B w w':=
 ⟨h.os,h.tape,h.output,h.size,fun k hk=>h.block k zBY zBY (fun e=>by have:=hg k e.symm;omega)⟩
end
def Rd(w:World)(A:Option Addr)(L:List Int):Prop:=L≠[]→∃ad,A=some ad∧ad.block<w.heap.size∧∀j (h:j<L.length),w.cell? (ad.add j)=some (.int .u8 L[j])
theorem cP(a:Addr)(n:Nat):(a.add n).block=a.block:=by unfold Addr.add;split<;>rfl
theorem zGT(a:Addr)(i j:Nat):(a.add i).add j=a.add (i+j):=by
 unfold Addr.add;by_cases hi:i=0<;>by_cases hj:j=0<;>simp[hi,hj,qS]
theorem yN(g o j:Nat):(⟨g,o,none⟩:Addr).add j=⟨g,o+j,none⟩:=by unfold Addr.add;split<;>simp_all
section
variable {w w':World} {A:Option Addr} {L:List Int}
theorem Rd.nil:Rd w A []:=fun h=>absurd rfl h
theorem Rd.at_(h:Rd w A L){k:Nat}(hk:k<L.length):∃ad,A=some ad∧ad.block<w.heap.size∧w.cell? (ad.add k)=some (.int .u8 L[k]):=by
 obtain⟨ad,e,hb,hc⟩:=h zTJ;exact⟨ad,e,hb,hc k hk⟩
theorem Rd.keep(h:Rd w A L)(hs:w.heap.size≤w'.heap.size)(hk:∀ad,A=some ad→ad.block<w.heap.size→w'.heap[ad.block]?=w.heap[ad.block]?):Rd w' A L:=fun hne=>by
 obtain⟨ad,rfl,hb,hc⟩:=h hne;exact⟨ad,rfl,by omega,fun j hj=>(qM (a:=ad.add j) (by rw[cP];exact hk ad rfl hb)).trans (hc j hj)⟩
theorem Rd.below(h:Rd w A L)(hb:Below w.heap.size w w'):Rd w' A L:=fun hne=>by
 obtain⟨ad,rfl,hlt,hc⟩:=h hne;exact⟨ad,rfl,zS hlt hb.size,fun j hj=>(hb.cell (p:=ad.add j) (by rw[cP];exact hlt)).trans (hc j hj)⟩
theorem Rd.of_row(h:Row (Value.int .u8) w A L):Rd w A L:=fun hne=>by
 obtain⟨b,o,rfl,hb,hc⟩:=h hne;exact⟨_,rfl,hb,fun j hj=>by rw[yN];exact hc j hj⟩
theorem Rd.cut(h:Rd w A L){k cap:Nat}(hc:L.length≤cap):Rd w (if cap=k then A else A.map (·.add k)) (L.drop k):=fun hne=>by
 have hk:k<L.length:=by
  rcases kH k L.length with h1|h1
  ·exact h1
  ·exact absurd (List.drop_eq_nil_of_le h1) hne
 obtain⟨ad,rfl,hlt,hcell⟩:=h zTJ;rw[zL zBY];refine⟨ad.add k,rfl,by rw[cP];exact hlt,fun j hj=>?_⟩;rw[kK]at hj;rw[zGT,hcell (k+j) zBY,List.getElem_drop]
end
theorem wE{w:World}{base:Nat}{e:TypeId}{n c:Nat}{A:Option Addr}{L:List Int}(h:w.ownsRow base e 1 (.slice A n c) n (L.map (Value.int .u8))):Rd w A L:=Rd.of_row (Row.of_own h)
theorem vG{w w':World}{base size n:Nat}{e:TypeId}{v:Value}{xs:List Value}{p:Nat}{g:Option Nat}(h:w.ownsRow base e size v n xs)(ha:nC p g w w')
  (hp:v.ownBlock≠some p) (hg:∀k,g=some k→v.ownBlock≠some k):w'.ownsRow base e size v n xs:=by
 refine⟨h.1,h.2.imp id ?_⟩;rintro⟨b,cap,cur,rfl,hb,hh,r⟩;refine⟨b,cap,cur,rfl,hb,(ha.block b ((jZ.1 hh).1) (fun e=>hp (by rw[←e];rfl)) (fun e=>hg b e.symm rfl)).trans hh,r⟩
theorem vY{w:World}{base size n:Nat}{e t:TypeId}{v:Value}{xs:List Value}{b:Nat}{cs:Array Value}{fr:Nat×Nat}(h:w.ownsRow base e size v n xs)(hb:w.heap[b]?=some (.cells cs t fr))(hne:e≠t):v.ownBlock≠some b:=by
 rcases h.2 with⟨rfl,_⟩|⟨g,cap,cur,rfl,_,hh,_⟩
 ·intro c;cases c
 ·intro c;injection c with c
  have c:g=b:=c;subst c;rw[hh]at hb;injection hb with hb
  injection hb with _ ht _
  exact hne ht
theorem XK{w:World}{base size n:Nat}{e:TypeId}{v:Value}{xs:List Value}(h:w.ownsRow base e size v n xs){b:Nat}(hb:v.ownBlock=some b):base≤b∧∃cs,w.heap[b]?=some (.cells cs e (0,0)):=by
 rcases h.2 with⟨rfl,_⟩|⟨g,cap,cur,rfl,hg,hh,_⟩
 ·cases hb
 ·injection hb with hb
  have hb:g=b:=hb;subst hb;exact⟨hg,cur,hh⟩
theorem yH{o:Oper}{a:Act}{w w':World}{K:Act→World→Prop}{Q:Exit→Act→World→Prop}(d s:Operand)
  (ho:o.op=.call {callee:=.builtin .copy,args:=#[d,s],argTypes:=#[22,22]}) (ty:TypeId) (ht:o.type=ty) (X Y r:Value) (hd:a.eval d=X) (hs:a.eval s=Y)
  (hrun:(Builtin.copy_ #[22,22] ty #[X,Y]).run Tryz.prog w=.ok r w') (t:Nat) (hdst:o.dst=some t) (h:K ⟨a.tmps.setIfInBounds t r,a.defers⟩ w'):o.wp Tryz.prog a w K Q:=by
 subst ht;replace h:K (a.put o.dst r) w':=by rw[hdst];exact h
 unfold Oper.wp;simp[execOp,ho,resolve,invoke,builtin,hd,hs,hrun,Result.andThen];exact h
theorem uE{w:World}(ty:TypeId)(p off n c:Nat)(dp:Option Addr)(hdp:0<n→dp=some ⟨p,off,none⟩)(A:Option Addr)(m k d:Nat)(hd:d=min m n)
  (L:List Int) (hL:L.length=m) (hR:Rd w A L) (cur:List Value) (t:TypeId) (hp:w.heap[p]?=some (.cells cur.toArray t (0,0))) (hn:off+n≤cur.length):
  ∃w',(Builtin.copy_ #[22,22] ty #[.slice dp n c,.slice A m k]).run Tryz.prog w=.ok (.int .i64 (d:Int)) w'∧w'.heap[p]?=some (.cells (splice cur off ((L.take n).map (Value.int .u8))).toArray t (0,0))∧∀g,nC p g w w':=by
 have hl:((L.take n).map (Value.int .u8)).length=d:=by rw[jQ,qV,hL,hd];exact Nat.min_comm _ _
 have hu:Tryz.prog.underlying 22=some (.slice 5):=Tryz.underlying22;have hz:(Tryz.prog.info? 5).map (·.size)=some 1:=zBM;have hmn:Nat.min m n=d:=hd.symm;by_cases h0:d=0
 ·have hrun:=run_copy_none (P:=Tryz.prog) w 22 22 ty 5 dp A n c m k hu hz (by rw[hmn,h0]);have e0:L.take n=[]:=kA (by rw[jQ]at hl;omega);refine⟨w,by rw[hrun,h0];rfl,by rw[e0];simpa [splice]using hp,fun g=>nC.refl⟩
 ·obtain rfl:=hdp zBY;obtain⟨ad,rfl,hb,hc⟩:=hR (by rintro rfl;simp at hL;omega);have hrun:=run_copy_row (P:=Tryz.prog) w 22 22 ty 5 p off n c ad m k cur.toArray t ((L.take n).map (Value.int .u8)) hu hz hp (by rw[hl,hmn])
   (fun j x hx=>by
    rw[jK]at hx;by_cases hj:j<(L.take n).length
    ·rw[zP hj]at hx;have hj2:j<L.length:=by rw[qV]at hj;omega
     rw[hc j hj2,←hx,jU];rfl
    ·rw[qD zBY]at hx;cases hx)
   (by rw[hl];simp;omega) (fun x hx=>by obtain⟨y,_,rfl⟩:=jR.1 hx;rfl)
  have e1:cur.toArray.toList.take off++(L.take n).map (Value.int .u8)++cur.toArray.toList.drop (off+((L.take n).map (Value.int .u8)).length)=splice cur off ((L.take n).map (Value.int .u8)):=by
   unfold splice;rw[lH]
  rw[e1,hl]at hrun;exact⟨_,hrun,setRow_heap w p _ _ _ _ hp,fun g=>nC.setRow _⟩
theorem pQ{w:World}(ty:TypeId)(p off n c:Nat)(dp:Option Addr)(hdp:0<n→dp=some ⟨p,off,none⟩)(A:Option Addr)(m k d:Nat)(hd:d=min m n)
  (L:List Int) (hL:L.length=m) (hR:Rd w A L) (Z:List Int) (t:TypeId) (hp:w.heap[p]?=some (.cells (arr Z) t (0,0))) (hn:off+n≤Z.length):
  ∃w',(Builtin.copy_ #[22,22] ty #[.slice dp n c,.slice A m k]).run Tryz.prog w=.ok (.int .i64 (d:Int)) w'∧w'.heap[p]?=some (.cells (arr (splice Z off (L.take n))) t (0,0))∧∀g,nC p g w w':=by
 obtain⟨w',h0,h1,h2⟩:=uE ty p off n c dp hdp A m k d hd L hL hR (Z.map (Value.int .u8)) t hp (by simpa using hn);refine⟨w',h0,?_,h2⟩;rw[h1,aE];rfl
theorem XD(L:List Int):∀u∈L.map (Value.int .u8),u.oneCell'=true:=fun u hu=>by
 obtain⟨y,_,rfl⟩:=jR.1 hu;rfl
theorem T0{w:World}{ad:Addr}{L:List Int}(hc:∀j (h:j<L.length),w.cell? (ad.add j)=some (.int .u8 L[j])):∀j u,(L.map (Value.int .u8))[j]?=some u→w.cell? (ad.add j)=some u:=fun j u hu=>by
 rw[jK]at hu;by_cases hj:j<L.length
 ·rw[zP hj]at hu;rw[hc j hj];exact hu
 ·rw[qD zBY]at hu;cases hu
theorem bH(n:Nat)(x:Int)(hx:x=n)(hn:n≤1000000)(w:World):(Instr.makeSlice 22 (.int .i64 x) (.int .i64 x)).run Tryz.prog w=.ok (.slice (some ⟨w.heap.size,0,none⟩) n n) (w.alloc (.cells (arr (List.replicate n 0)) 5)):=by
 subst hx;obtain⟨i0,hi,hz0,hz1,hz2⟩:=lW rS;have h:=run_make_row (P:=Tryz.prog) 22 5 i0 (.int .u8 0) Tryz.underlying22 hi hz0 hz1 rfl .i64 .i64 n (by rw[hz2];omega) zBY w;rw[h];congr 3
 apply Array.ext'
 unfold arr
 rw[toList_madeCells_one,List.map_replicate]
theorem zHC(g n d:Nat)(hd:d≤n)(D:Option Addr)(hD:D=if n=d then some ⟨g,0,none⟩else some ⟨g,d,none⟩)(w:World):
  (Instr.sliceAt 22 (.slice (some ⟨g,0,none⟩) n n) (some (.int .i64 (d:Int))) none none).run Tryz.prog w=.ok (.slice D (n-d) (n-d)) w:=by
 rw[run_sliceAt_slice (P:=Tryz.prog) w 22 _ _ _ _ Tryz.underlying22,run_slice_l (P:=Tryz.prog) w 22 _ n n Tryz.underlying22 .i64 d zBY zBY,hD];show Result.ok (sliced _ _ _ _ 1) w=_;unfold sliced;by_cases h:n=d
 ·subst h;simp
 ·rw[zL (by simpa using h),zL h];simp[yN]
end
section
open Go.RowKit
def pad(L:List Int)(j:Nat):Int:=L.getD j 0
theorem VT(L:List Int)(j:Nat)(h:j<L.length):pad L j=L[j]:=by simp[pad,h]
theorem zQN(L:List Int)(j:Nat)(h:¬j<L.length):pad L j=0:=by simp[pad,qJ,qD (Nat.le_of_not_lt h)]
def mU:Nat→Int:=fun _=>0
def eqP(P Q:Nat→Int):Bool:=(List.range' 0 16).all fun j=>decide (P j=Q j)
theorem zHB(P Q:Nat→Int):eqP P Q=true↔∀j,j<16→P j=Q j:=by
 unfold eqP;rw[jA];constructor
 ·intro h j hj;exact qZ (h j (by rw[lJ];omega))
 ·intro h j hj;rw[lJ]at hj;exact zO (h j zBY)
def cC(P:Nat→Int):List Int:=(List.range 16).map P
theorem nV(P:Nat→Int):(cC P).length=16:=by simp[cC]
theorem yS(P:Nat→Int)(j:Nat)(h:j<16)(h':j<(cC P).length):(cC P)[j]=P j:=by simp[cC]
end
section
open Go.RowKit Num
def pc(P:Nat→Int):Array Value:=((List.range 16).map fun j=>Value.int .u8 (P j)).toArray
theorem nX(P:Nat→Int):(pc P).size=16:=by simp[pc]
theorem rD(P:Nat→Int)(j:Nat)(hj:j<16):(pc P)[j]?=some (.int .u8 (P j)):=by simp[pc,hj]
theorem KE(P:Nat→Int):cL (pc P):=by
 unfold cL;rw[jV];intro v hv;simp only[pc,lF,jR,j8]at hv;obtain⟨j,_,rfl⟩:=hv;rfl
theorem mD:xX Tryz.prog 23 16:=⟨⟨_,Tryz.underlying23,rfl⟩,by kernel_rfl⟩
theorem UH:Tryz.prog.built 23 []=some (pc mU):=by kernel_rfl
theorem mJ(w:World)(o:Obj):Below w.heap.size w (w.alloc o):=(zB _ _).alloc (zH _) _
theorem zVF(F:Nat→Int)(k:Nat)(hk:k<16)(v:Int):(pc F).setIfInBounds k (.int .u8 v)=pc fun j=>if j=k then v else F j:=by
 apply qH
 intro j
 rw[jJ,nX];by_cases h1:k=j
 ·subst h1;rw[zG rfl,zG hk,rD _ _ hk,zG rfl]
 ·rw[zL h1];by_cases h3:j<16
  ·rw[rD _ _ h3,rD _ _ h3,zL (fun e=>h1 e.symm)]
  ·rw[zE zTD,zE zTD]
theorem pR{P Q:Nat→Int}(h:∀j,j<16→P j=Q j):pc P=pc Q:=by
 apply qH
 intro j
 by_cases h3:j<16
 ·rw[rD _ _ h3,rD _ _ h3,h j h3]
 ·rw[zE zTD,zE zTD]
theorem zVD{g:Nat}{F:Nat→Int}{w:World}(H:Blk g 5 (pc F) w):Rd w (some ⟨g,0,none⟩) (cC F):=fun _=>by
 refine⟨_,rfl,H.lt,fun j hj=>?_⟩;have h16:j<16:=by rw[nV]at hj;exact hj
 rw[yN,qB,H.cell,rD _ _ h16,yS _ _ h16]
theorem XG{ops:Array Oper}{rest:List Oper}{o:Oper}{a:Act}{w w':World}{Q:Exit→Act→World→Prop}(hgd:o.guard=none)(d s:Operand)
  (ho:o.op=.call {callee:=.builtin .copy,args:=#[d,s],argTypes:=#[22,22]}) (X Y r:Value) (hd:a.eval d=X) (hs:a.eval s=Y)
  (hrun:(Builtin.copy_ #[22,22] o.type #[X,Y]).run Tryz.prog w=.ok r w') (t:Nat) (hdst:o.dst=some t) (h:wpList Tryz.prog ops Q rest ⟨a.tmps.setIfInBounds t r,a.defers⟩ w'):wpList Tryz.prog ops Q (o::rest) a w:=
 qL hgd fun K hK=>yH d s ho o.type rfl X Y r hd hs hrun t hdst (hK _ _ h)
theorem zHG(x y:Int)(d:Nat)(w:World):(Op.equalIn (d+1) 5 (.int .u8 x) (.int .u8 y)).run Tryz.prog w=.ok (decide (x=y)) w:=by
 have e:(x==y)=decide (x=y):=by by_cases h:x=y<;>simp[h]
 rw[←e];simp[Op.equalIn,kL Tryz.underlying5,go_sem]
theorem XZ(P:Nat→Int)(j:Nat)(hj:j<16)(w:World):(part 5 (pc P) j).run Tryz.prog w=.ok (.int .u8 (P j)) w:=by
 simp[part,isAgg,qW,kL Tryz.underlying5,rD P j hj]
theorem A7(P Q:Nat→Int)(D:Nat)(hD:∀(x y:Int) (w:World),(Op.equalIn D 5 (.int .u8 x) (.int .u8 y)).run Tryz.prog w=.ok (decide (x=y)) w)(w:World):
  (Op.equalIn (D+1) 23 (.agg (pc P)) (.agg (pc Q))).run Tryz.prog w=.ok (eqP P Q) w:=by
 have hi:(Tryz.prog.info? 5).map (·.size)=some 1:=zBM;cases hq:Tryz.prog.info? 5 with
 |none=>simp[hq]at hi
 |some i=>
  have hs:i.size=1:=zRI
  simp only[Op.equalIn,qW,kL Tryz.underlying23,qX,sizeOf,typeInfo,hq,hs,jW]
  have go:∀l:List Nat,(∀i∈l,i<16)→(forIn (m:=Sem) l ((none:Option Bool),()) (fun i _=>do
      let a←part 5 (pc P) i
      let b←part 5 (pc Q) i
      let r←Op.equalIn D 5 a b
      if r=false then pure (ForInStep.done (some false,()))else pure (ForInStep.yield (none,())))).run Tryz.prog w=.ok ((if l.all (fun j=>decide (P j=Q j))then none else some false),()) w:=by
   intro l;induction l with
   |nil=>intro _;simp
   |cons k l ih=>
    intro hl
    simp only[List.forIn_cons,qW,XZ P k (hl k zBT),XZ Q k (hl k zBT),qX,hD]
    by_cases hk:P k=Q k
    ·simp[hk]
     have:=ih fun i hi=>hl i (by simp[hi])
     simpa using this
    ·simp[hk]
  have hgo:=go (List.range' 0 16) fun i hi=>by have:=lJ.1 hi;omega
  simp[qW,hq,hs,Std.Legacy.Range.forIn_eq_forIn_range']at hgo⊢
  rw[hgo]
  unfold eqP
  have ha:(List.range' 0 16).all (fun j=>decide (P j=Q j))=true↔∀x,x<16→P x=Q x:=by simp[jA,lJ]
  by_cases hall:∀x,x<16→P x=Q x
  ·rw[ha.2 hall];simp only[qX,zG hall];simp
  ·cases hb:(List.range' 0 16).all fun j=>decide (P j=Q j)
   ·simp only[qX,zL hall];simp
   ·exact absurd (ha.1 hb) hall
theorem zZN(P Q:Nat→Int)(d:Nat)(w:World):(Op.equalIn (d+2) 23 (.agg (pc P)) (.agg (pc Q))).run Tryz.prog w=.ok (eqP P Q) w:=A7 P Q (d+1) (fun x y w=>zHG x y d w) w
end
section
open Go.RowKit Num Dec Cpu
def rg(v:Nat→Nat):Array Value:=pc fun j=>(v j:Int)
def prc(q:Pr):Array Value:=#[.int .i64 q.lv,.bool q.sh,.bool q.ki,.bool q.jx,.bool q.lr,.bool q.cl,.bool q.dw,.bool q.fa]
theorem gJ(v:Nat→Nat){j:Nat}(hj:j<16):(rg v)[j]?=some (.int .u8 (v j:Int)):=rD _ j hj
theorem mK(v:Nat→Nat):(rg v).size=16:=nX _
theorem IY(v:Nat→Nat){k:Nat}(hk:k<16)(r:Nat):(rg v).setIfInBounds k (.int .u8 (r:Int))=rg (upd v k r):=by
 unfold rg;rw[zVF _ _ hk];apply pR
 intro j _
 unfold upd;split<;>rfl
theorem FJ:cY Tryz.prog 23 (pc mU):=by unfold cY;kernel_rfl
theorem vT(v:Nat→Nat):cL (rg v):=KE _
theorem vZ{r:Nat}(h:r<256):IntKind.u8.wrap (r:Int)=(r:Int):=by rw[j9];omega
theorem xM{r:Nat}(h:r<65536):IntKind.i64.wrap (r:Int)=(r:Int):=by rw[zU];omega
end
section
open Go.RowKit Dec
def lI(i:Ins):Array Value:=#[.int .i64 i.op,.int .i64 i.x,.int .i64 i.y,.int .i64 i.n,.int .i64 i.nn,.int .i64 i.addr,.int .i64 i.len]
def wQ:Array Value:=#[.int .i64 0,.int .i64 0,.int .i64 0,.int .i64 0,.int .i64 0,.int .i64 0,.int .i64 0]
theorem mN:xX Tryz.prog 47 7:=⟨⟨_,Tryz.underlying47,rfl⟩,by kernel_rfl⟩
end
section
open Go.RowKit
section
variable {P:Program} {ops:Array Oper} {rest:List Oper} {o:Oper} {a:Act} {w:World} {Q:Exit→Act→World→Prop}
theorem mZ(hgd:o.guard=none)(ty:TypeId)(x:Operand)(ho:o.op=.box ty x)(cs:Array Value)(hx:a.eval x=.agg cs)
  (h:wpList P ops Q rest (a.put o.dst (.pointer (some ⟨w.heap.size,0,none⟩))) (w.alloc (.cells cs ty))):wpList P ops Q (o::rest) a w:=by
 refine qL hgd fun K hK=>?_;unfold Oper.wp execOp;simp only[ho,hx,Instr.box,newVar,newRow,newObj,qW,qX,jW];exact hK _ _ h
theorem mW{fn:Func}{p q:Tmp}{ty:TypeId}(h:fn.results=#[.cell p ty,.tmp q])(tmps:Array Value)(w:World)(g:Nat)(t:TypeId)(cs:Array Value)(fr:Nat×Nat)(v:Value)
  (hp:tmps.getD p undef=.pointer (some ⟨g,0,none⟩)) (hq:tmps.getD q undef=v) (hg:w.heap[g]?=some (.cells cs t fr)) {n:Nat} (A:xX P ty n) (hn:cs.size=n):
  (results fn tmps).run P w=.ok (.tuple #[.agg cs,v]) w:=by
 obtain⟨⟨d,hu,hd⟩,hi⟩:=A;have hp':tmps[p]?.getD undef=.pointer (some ⟨g,0,none⟩):=by simpa using hp
 have hq':tmps[q]?.getD undef=v:=by simpa using hq
 have hr:=run_loadVar_row w g t ty cs fr d hg hu zTV (by rw[hi,hn]);simp[results,h,hp',hq',asAddr,hr]
end
abbrev Gr(w w':World):Prop:=Below w.heap.size w w'
theorem Gr.refl(w:World):Gr w w:=zB _ _
theorem Gr.trans{a b c:World}(h:Gr a b)(k:Gr b c):Gr a c:=Below.trans h (k.mono h.size)
section
variable {P:Program} {ops:Array Oper} {Q:Exit→Act→World→Prop} {md:Region.Mode} {C T:World→Prop} {c0:Nat}
def QF(C:World→Prop)(c0:Nat)(listed:Array Bool)(w:World):Prop:=listed.getD c0 true=false→C w
def MG(P:Program)(md:Region.Mode)(ops:Array Oper)(Q:Exit→Act→World→Prop)(C:World→Prop)(c0:Nat):Nat→Array Bool→Act→World→Prop
 |0,listed,a,w=>∀w',Gr w w'→Region.ready md ops listed=[]∧Q .normal a w'
 |n+1,listed,a,w=>∀w',Gr w w'→(Region.ready md ops listed=[]→Q .normal a w')∧
   ∀i∈Region.ready md ops listed,wpOp P ops Q i (fun a'' w''=>QF C c0 (listed.setIfInBounds i true) w''∧MG P md ops Q C c0 n (listed.setIfInBounds i true) a'' w'') a w'
theorem YM{n:Nat}{listed:Array Bool}{a:Act}{w w':World}(h:MG P md ops Q C c0 n listed a w)(g:Gr w w'):MG P md ops Q C c0 n listed a w':=by
 cases n with
 |zero=>exact fun w'' g'=>h w'' (g.trans g')
 |succ n=>exact fun w'' g'=>h w'' (g.trans g')
theorem dH:∀(n:Nat) (listed:Array Bool) (a:Act) (w:World),MG P md ops Q C c0 n listed a w→wpAny P md ops Q n listed a w
 |0,_,_,w,h=>h w (Gr.refl w)
 |n+1,_,_,w,h=>⟨(h w (Gr.refl w)).1,fun i hi=>wpOp_mono (fun a' w' h'=>dH n _ a' w' h'.2) ((h w (Gr.refl w)).2 i hi)⟩
def UN(P:Program)(w:World)(v:Value):Result Next→Prop
 |.ok (.value u) w'=>u=v∧Gr w w'
 |.ok (.enter f args) w'=>w'=w∧Calls P f args w fun e w''=>e=.returned v∧Gr w w''
 |_=>False
def tR(P:Program)(ops:Array Oper)(T:World→Prop)(o:Oper)(v:Value)(a:Act):Prop:=
 (Region.wanted o (yielded ops a.tmps)=true∧∀w,T w→UN P w v ((execOp a.eval o).run P w))∨(Region.wanted o (yielded ops a.tmps)=false∧v=undef)
theorem tR.of_same{o:Oper}{v:Value}{a a':Act}(h:tR P ops T o v a)(he:execOp a'.eval o=execOp a.eval o)(hw:Region.wanted o (yielded ops a'.tmps)=Region.wanted o (yielded ops a.tmps)):tR P ops T o v a':=by
 unfold tR at*;rw[he,hw];exact h
theorem tR.op{i:Nat}{o:Oper}{v:Value}{a:Act}(hi:ops[i]?=some o)(h:tR P ops T o v a){K:Act→World→Prop}{w:World}(hT:T w)(hK:∀w',Gr w w'→K (a.put o.dst v) w'):wpOp P ops Q i K a w:=by
 unfold wpOp;rw[hi];simp only;rcases h with⟨hw,h⟩|⟨hw,rfl⟩
 ·rw[zG hw];refine .inl ?_;have h:=h w hT;unfold Oper.wp;generalize (execOp a.eval o).run P w=r at*;cases r with
  |ok n w'=>
   cases n<;>simp only[UN]at h<;>simp only[Oper.upon]
   case value u=>rw[h.1];exact hK _ h.2
   case enter f args=>
    rw[h.1]
    exact h.2.mono fun e w'' ⟨he,hg⟩=>by subst he;exact hK _ hg
  |halt x w'=>simp only[UN]at h
 ·rw[zL (by rw[hw];decide)];exact hK w (Gr.refl w)
theorem FY{j:Nat}{oi oj:Oper}{v:Value}{X:Act→Prop}(hj:ops[j]?=some oj)(hap:oi.apart ops oj=true)(hsj:∀cs b,oj.op≠ .select cs b)
  (hQ:∀(c:_) (a:Act) (w:World),Q (.panic c) (a.put oi.dst v) w→Q (.panic c) a w) (hX1:∀a u,X a→X (a.put oj.dst u)) (hX2:∀(a:Act) d,X a→X {a with defers:=d::a.defers})
  {K:Act→World→Prop} {a:Act} {w:World} (hx:X a) (h:wpOp P ops Q j K (a.put oi.dst v) w):wpOp P ops Q j (fun a' w'=>X a'∧K (a'.put oi.dst v) w') a w:=by
 obtain⟨h1,h2,_⟩:=Oper.apart_spec hap;have he:=execOp_put oj hsj a oi.dst v h1;have hv:∀(b:Act) u,K ((b.put oi.dst v).put oj.dst u) w→K ((b.put oj.dst u).put oi.dst v) w:=fun b u hk=>by rwa [←Act.put_comm b v u h2]
 unfold wpOp at*;rw[hj]at h⊢;simp only at h⊢;rw[wanted_put oj a oi.dst v h1]at h;by_cases hw:Region.wanted oj (yielded ops a.tmps)=true
 ·rw[zG hw]at h⊢;rcases h with h|⟨ha,hl⟩
  ·refine .inl ?_;unfold Oper.wp at h⊢;rw[he]at h;generalize (execOp a.eval oj).run P w=r at*;cases r with
   |ok n w'=>
    cases n<;>simp only[Oper.upon]at h⊢
    case value u=>exact⟨hX1 _ _ hx,by rw[←Act.put_comm a v u h2];exact h⟩
    case skip=>exact⟨hX1 _ _ hx,by rw[←Act.put_comm a v undef h2];exact h⟩
    case defer d=>
     refine⟨hX1 _ _ (hX2 _ _ hx),?_⟩
     rw[←Act.put_comm _ v undef h2,←Act.put_defers]
     exact h
    case enter f args=>
     refine h.mono fun e w'' hh=>?_
     cases e with
     |returned u=>exact⟨hX1 _ _ hx,by rw[←Act.put_comm a v u h2];exact hh⟩
     |panicked c=>exact hQ _ _ _ hh
     |outgrown=>exact hh
    case row row args=>exact h.mono fun u w'' hh=>⟨hX1 _ _ hx,by rw[←Act.put_comm a v u h2];exact hh⟩
   |halt x w'=>
    cases x<;>simp only[Oper.upon]at h⊢
    case panic u=>exact hQ _ _ _ h
  ·exact .inr ⟨by unfold Oper.asks at*;rw[he]at ha;exact ha,hl⟩
 ·rw[zL hw]at h⊢;exact⟨hX1 _ _ hx,by rw[←Act.put_comm a v undef h2];exact h⟩
theorem sV{i:Nat}{oi:Oper}{v:Value}{I:Array Bool→Prop}(hi:ops[i]?=some oi)(hs:Region.noSelect ops=true)(hQ:∀(c:_) (a:Act) (w:World),Q (.panic c) (a.put oi.dst v) w→Q (.panic c) a w)(hic:i≠c0)
  (hC:∀w w',C w→Gr w w'→C w') (hT:∀(listed:Array Bool) w,I listed→QF C c0 listed w→T w) (hI:∀(listed:Array Bool) j,I listed→listed.getD i true=false→j∈Region.ready md ops listed→j≠i→I (listed.setIfInBounds j true)):
  ∀(n:Nat) (listed:Array Bool) (a:Act) (w:World),(∀j oj,ops[j]?=some oj→j≠i→listed.getD j true=false→(∀e∈oj.after,Region.binds md e=true→e.on≠i)→oi.apart ops oj=true)→
   i∈Region.ready md ops listed→I listed→tR P ops T oi v a→QF C c0 listed w→MG P md ops Q C c0 n (listed.setIfInBounds i true) (a.put oi.dst v) w→MG P md ops Q C c0 (n+1) listed a w:=by
 intro n;have hset:∀(l:Array Bool) (w:World),QF C c0 (l.setIfInBounds i true) w↔QF C c0 l w:=fun l w=>by unfold QF;rw[getD_set_ne true hic]
 have hcl:∀(l:Array Bool) (w w':World),QF C c0 l w→Gr w w'→QF C c0 l w':=fun l w w' h g hc=>hC _ _ (h hc) g;induction n with
 |zero=>
  intro listed a w _ hr hIl hy hS H w' g
  refine⟨fun h=>(by rw[h]at hr;cases hr),fun j hj=>?_⟩
  by_cases hji:j=i
  ·subst hji
   exact hy.op hi (hT _ _ hIl (hcl _ _ _ hS g)) fun w'' g'=>⟨(hset _ _).2 (hcl _ _ _ hS (g.trans g')),YM H (g.trans g')⟩
  ·have h1:=ready_mono hj hji
   rw[(H w' g).1]at h1
   cases h1
 |succ n ih=>
  intro listed a w hfree hr hIl hy hS H w' g
  refine⟨fun h=>(by rw[h]at hr;cases hr),fun j hj=>?_⟩
  by_cases hji:j=i
  ·subst hji
   exact hy.op hi (hT _ _ hIl (hcl _ _ _ hS g)) fun w'' g'=>⟨(hset _ _).2 (hcl _ _ _ hS (g.trans g')),YM H (g.trans g')⟩
  ·have h1:=(H w' g).2 j (ready_mono hj hji)
   obtain⟨hjun,oj,hoj,hall⟩:=mem_ready.1 hj
   have hiun:=(mem_ready.1 hr).1
   have hnot:∀e∈oj.after,Region.binds md e=true→e.on≠i:=fun e he hb heq=>by
    have h2:=hall e he hb;rw[heq]at h2;have hlt:i<listed.size:=by
     rcases kH i listed.size with h'|h'
     ·exact h'
     ·simp[zE h']at h2
    simp[hlt]at hiun h2;rw[hiun]at h2;cases h2
   have hap:=hfree j oj hoj hji hjun hnot
   obtain⟨_,_,h3⟩:=Oper.apart_spec hap
   have hsi:∀cs b,oi.op≠ .select cs b:=fun cs b=>Region.noSelect_spec hs i oi cs b hi
   have h2:=FY (X:=fun a=>tR P ops T oi v a) hoj hap (fun cs b=>Region.noSelect_spec hs j oj cs b hoj) hQ
    (fun a u hx=>hx.of_same (execOp_put oi hsi a oj.dst u h3) (wanted_put oi a oj.dst u h3)) (fun a d hx=>hx.of_same rfl rfl) hy h1
   have hfree':∀k ok,ops[k]?=some ok→k≠i→(listed.setIfInBounds j true).getD k true=false→(∀e∈ok.after,Region.binds md e=true→e.on≠i)→oi.apart ops ok=true:=fun k ok hk hki hun hno=>by
    refine hfree k ok hk hki ?_ hno;by_cases hjk:j=k
    ·subst hjk;exact hjun
    ·rw[getD_set_ne true hjk]at hun;exact hun
   refine wpOp_mono (fun a' w'' h4=>?_) h2
   obtain⟨hy',hS',hA'⟩:=h4
   rw[Array.setIfInBounds_comm _ _ (Ne.symm hji)]at hA' hS'
   exact⟨(hset _ _).1 hS',ih (listed.setIfInBounds j true) a' w'' hfree' (ready_mono hr (Ne.symm hji)) (hI _ _ hIl hiun hj hji) hy' ((hset _ _).1 hS') hA'⟩
def OC(md:Region.Mode)(ops:Array Oper)(listed:Array Bool)(i c0:Nat):Bool:=
 let W:=(List.range ops.size).foldl (fun W m=>match ops[m]? with|some o=>if o.after.any (fun e=>Region.binds md e&&(e.on==i||W.contains e.on))then m::W else W|none=>W) []
 W.contains c0&&W.all fun m=> !listed.getD m true&&match ops[m]? with|some o=>o.after.any (fun e=>Region.binds md e&&(e.on==i||W.contains e.on))|none=>false
theorem NZ{i:Nat}{listed:Array Bool}(h:OC md ops listed i c0=true):∃I:Array Bool→Prop,I listed∧(∀l,I l→l.getD c0 true=false)∧∀(l:Array Bool) j,I l→l.getD i true=false→j∈Region.ready md ops l→j≠i→I (l.setIfInBounds j true):=by
 unfold OC at h;generalize (List.range ops.size).foldl _ _=W at h;simp only[qK,jA]at h;obtain⟨hc,hW⟩:=h;have hc:c0∈W:=by simpa using hc
 refine⟨fun l=>∀m∈W,l.getD m true=false,fun m hm=>by have:=(hW m hm).1;simpa using this,fun l hl=>hl c0 hc,fun l j hl hiu hj hji m hm=>?_⟩;have hjW:j ∉ W:=fun hjm=>by
  obtain⟨_,oj,hoj,hall⟩:=mem_ready.1 hj;have h2:=(hW j hjm).2;rw[hoj]at h2;simp only at h2;obtain⟨e,he,hb⟩:=Array.any_eq_true'.1 h2;simp only[qK,Bool.or_eq_true,beq_iff_eq,List.contains_eq_mem,jG]at hb;have h3:=hall e he hb.1;have h4:l.getD e.on true=false:=by
   rcases hb.2 with h5|h5
   ·rw[h5];exact hiu
   ·exact hl _ h5
  have hlt:e.on<l.size:=by
   rcases kH e.on l.size with h'|h'
   ·exact h'
   ·simp[zE h']at h3
  simp[hlt]at h3 h4;rw[h3]at h4;cases h4
 have hne:j≠m:=fun e=>hjW (e▸hm);rw[getD_set_ne true hne];exact hl m hm
def KZ:Op→Bool
 |.move _| .assign _| .extract ..=>true
 |_=>false
theorem AM{o:Oper}{ρ:Operand→Value}{v:Value}{w:World}(h:KZ o.op=true)(hr:(execOp ρ o).run P w=.ok (.value v) w)(w':World):(execOp ρ o).run P w'=.ok (.value v) w':=by
 obtain⟨dst,op,ty,pos,after,guard⟩:=o;cases op<;>simp[KZ]at h
 case move x=>unfold execOp at hr⊢;simp at hr⊢;exact hr
 case assign x=>unfold execOp at hr⊢;simp at hr⊢;exact hr
 case extract x k=>
  unfold execOp at hr⊢
  simp only at hr⊢
  cases hx:ρ x<;>simp[hx,go_sem]at hr⊢
  all_goals
   first
   |(split at hr<;>simp_all [go_sem];done)
   |(cases hk:_<;>simp_all [go_sem];done)
   |exact hr
def zZH(md:Region.Mode)(ops:Array Oper)(c0:Nat):List Nat→Array Bool→Bool
 |[],_=>true
 |i::is,listed=>(match ops[i]? with|some o=>dZ o.op&&(OC md ops listed i c0||KZ o.op)|none=>false)&&(Region.ready md ops listed).contains i&&Region.free md ops listed i&&decide (i≠c0)&&zZH md ops c0 is (listed.setIfInBounds i true)
theorem bE{o:Oper}{v:Value}{a:Act}(h:YieldsIf P ops T o v a):tR P ops T o v a:=by
 rcases h with⟨hw,h⟩|h
 ·exact .inl ⟨hw,fun w hT=>by rw[h w hT];exact⟨rfl,Gr.refl w⟩⟩
 ·exact .inr h
theorem fQ(hs:Region.noSelect ops=true)(hQ:∀(c:_) (a:Act) (d:Option Tmp) (v:Value) (w:World),Q (.panic c) (a.put d v) w→Q (.panic c) a w)(hC:∀w w',C w→Gr w w'→C w')(n:Nat){w:World}(hw:C w):∀(is:List Nat) (listed:Array Bool) (a:Act),
  zZH md ops c0 is listed=true→wpQuiet P ops C (fun a'=>MG P md ops Q C c0 n (vB listed is) a' w) (lA ops is) a→MG P md ops Q C c0 (n+is.length) listed a w
 |[],listed,a,_,h=>h
 |i::is,listed,a,hB,h=>by
  simp only[zZH,qK,jG]at hB;obtain⟨⟨⟨⟨hp,hr⟩,hf⟩,hic⟩,hB'⟩:=hB;cases ho:ops[i]? with
  |none=>rw[ho]at hp;cases hp
  |some o=>
   rw[ho]at hp
   simp only[qK,Bool.or_eq_true]at hp
   simp only[lA,ho,wpQuiet]at h
   obtain⟨v,hy,hK⟩:=rY hp.1 ⟨w,hw⟩ h
   have hr':i∈Region.ready md ops listed:=by simpa using hr
   rcases hp.2 with hwt|hsm
   ·obtain⟨I,hI0,hI1,hI2⟩:=NZ hwt
    exact sV (T:=C) (I:=I) ho hs (fun c a w=>hQ c a o.dst v w) hic hC (fun l w hl hS=>hS (hI1 l hl)) hI2 _ listed a w (Region.free_spec ho hf) hr' hI0 (bE hy) (fun _=>hw) (fQ hs hQ hC n hw is _ _ hB' hK)
   ·have hy':YieldsIf P ops (fun _=>True) o v a:=by
     rcases hy with⟨h1,h2⟩|h1
     ·exact .inl ⟨h1,fun w' _=>AM hsm (h2 w hw) w'⟩
     ·exact .inr h1
    exact sV (T:=fun _=>True) (I:=fun _=>True) ho hs (fun c a w=>hQ c a o.dst v w) hic hC (fun _ _ _ _=>trivial) (fun _ _ _ _ _ _=>trivial) _ listed a w (Region.free_spec ho hf) hr' trivial (bE hy') (fun _=>hw) (fQ hs hQ hC n hw is _ _ hB' hK)
def OU(md:Region.Mode)(ops:Array Oper)(c0:Nat):List Nat→Array Bool→Bool
 |[],_=>true
 |i::is,listed=>(match ops[i]? with|some o=>dZ o.op|none=>false)&&(Region.ready md ops listed).contains i&&Region.free md ops listed i&&decide (i≠c0)&&OU md ops c0 is (listed.setIfInBounds i true)
theorem YL(hs:Region.noSelect ops=true)(hQ:∀(c:_) (a:Act) (d:Option Tmp) (v:Value) (w:World),Q (.panic c) (a.put d v) w→Q (.panic c) a w)(hC:∀w w',C w→Gr w w'→C w')(n:Nat){w:World}:∀(is:List Nat) (listed:Array Bool) (a:Act),
  listed.getD c0 true=true→OU md ops c0 is listed=true→wpQuiet P ops (fun w=>∃x:rU,w=x.w) (fun a'=>MG P md ops Q C c0 n (vB listed is) a' w) (lA ops is) a→MG P md ops Q C c0 (n+is.length) listed a w
 |[],listed,a,_,_,h=>h
 |i::is,listed,a,hl,hB,h=>by
  simp only[OU,qK,jG]at hB;obtain⟨⟨⟨⟨hp,hr⟩,hf⟩,hic⟩,hB'⟩:=hB;cases ho:ops[i]? with
  |none=>rw[ho]at hp;cases hp
  |some o=>
   rw[ho]at hp
   simp only[lA,ho,wpQuiet]at h
   obtain⟨v,hy,hK⟩:=rY hp ⟨w,rU.any w⟩ h
   have hr':i∈Region.ready md ops listed:=by simpa using hr
   have hl':(listed.setIfInBounds i true).getD c0 true=true:=by rw[getD_set_ne true hic];exact hl
   exact sV (T:=fun w=>∃x:rU,w=x.w) (I:=fun _=>True) ho hs (fun c a w=>hQ c a o.dst v w) hic hC (fun _ w _ _=>rU.any w) (fun _ _ _ _ _ _=>trivial) _ listed a w (Region.free_spec ho hf) hr' trivial (bE hy)
    (fun h=>by rw[hl]at h;cases h) (YL hs hQ hC n is _ _ hl' hB' hK)
def zWW(P:Program)(ops:Array Oper)(Q:Exit→Act→World→Prop)(c0:Nat)(last:List Nat)(a:Act)(w:World):Prop:=
 match ops[c0]? with
 |none=>False
 |some o=>if Region.wanted o (yielded ops a.tmps)then o.wp P a w (fun a'' w''=>wpQuiet P ops (fun w=>∃x:rU,w=x.w) (fun a3=>∀w3,Gr w'' w3→Q .normal a3 w3) (lA ops last) a'') Q else False
def uY(P:Program)(ops:Array Oper)(C:World→Prop)(Q:Exit→Act→World→Prop)(c0:Nat):List (List Nat×Nat×Bool)→List Nat→List Nat→Act→World→Prop
 |[],is0,last,a,w=>wpQuiet P ops C (fun a'=>∀w',Gr w w'→C w'→zWW P ops Q c0 last a' w') (lA ops is0) a
 |(is,c,true)::rest,is0,last,a,w=>wpQuiet P ops C (fun a'=>match ops[c]? with
   |none=>False
   |some o=>∃v,tR P ops C o v a'∧uY P ops C Q c0 rest is0 last (a'.put o.dst v) w) (lA ops is) a
 |(is,c,false)::rest,is0,last,a,w=>wpQuiet P ops C (fun a'=>match ops[c]? with
   |none=>False
   |some o=>∀w',Gr w w'→C w'→if Region.wanted o (yielded ops a'.tmps)then o.wp P a' w' (fun a'' w''=>C w''∧uY P ops C Q c0 rest is0 last a'' w'') Q else False) (lA ops is) a
def QS(md:Region.Mode)(ops:Array Oper)(c0:Nat):List (List Nat×Nat×Bool)→List Nat→List Nat→Array Bool→Bool
 |[],is0,last,listed=>zZH md ops c0 is0 listed&&decide (Region.ready md ops (vB listed is0)=[c0])&&((vB listed is0).setIfInBounds c0 true).getD c0 true&&OU md ops c0 last ((vB listed is0).setIfInBounds c0 true)&&(Region.ready md ops (vB ((vB listed is0).setIfInBounds c0 true) last)).isEmpty
 |(is,c,true)::rest,is0,last,listed=>zZH md ops c0 is listed&&OC md ops (vB listed is) c c0&&(Region.ready md ops (vB listed is)).contains c&&Region.free md ops (vB listed is) c&&decide (c≠c0)&&QS md ops c0 rest is0 last ((vB listed is).setIfInBounds c true)
 |(is,c,false)::rest,is0,last,listed=>zZH md ops c0 is listed&&decide (Region.ready md ops (vB listed is)=[c])&&decide (c≠c0)&&QS md ops c0 rest is0 last ((vB listed is).setIfInBounds c true)
def gT:List (List Nat×Nat×Bool)→List Nat→List Nat→Nat
 |[],is0,last=>last.length+1+is0.length
 |(is,_,_)::rest,is0,last=>gT rest is0 last+1+is.length
theorem eU{K K':Act→Prop}(hK:∀a,K a→K' a):∀(l:List Oper) (a:Act),wpQuiet P ops C K l a→wpQuiet P ops C K' l a:=by
 exact zDO
theorem aL(hs:Region.noSelect ops=true)(hQ:∀(c:_) (a:Act) (d:Option Tmp) (v:Value) (w:World),Q (.panic c) (a.put d v) w→Q (.panic c) a w)(hC:∀w w',C w→Gr w w'→C w')(n:Nat)(is0 last:List Nat):∀(bs:List (List Nat×Nat×Bool)) (listed:Array Bool) (a:Act) (w:World),C w→
  QS md ops c0 bs is0 last listed=true→uY P ops C Q c0 bs is0 last a w→MG P md ops Q C c0 (n+gT bs is0 last) listed a w
 |[],listed,a,w,hw,hB,h=>by
  simp only[QS,qK,jG]at hB;obtain⟨⟨⟨⟨hB1,hB2⟩,hB3⟩,hB4⟩,hB5⟩:=hB;simp only[gT];rw[←qS,←qS];refine fQ hs hQ hC _ hw is0 listed a hB1 (eU (fun a' ha=>?_) _ _ h);intro w' g;refine⟨fun h=>(by rw[hB2]at h;cases h),fun i hi=>?_⟩;rw[hB2]at hi;obtain rfl:i=c0:=by simpa using hi
  have ha:=ha w' g (hC _ _ hw g);unfold zWW at ha;unfold wpOp;cases ho:ops[i]? with
  |none=>rw[ho]at ha;exact ha.elim
  |some o=>
   rw[ho]at ha
   simp only at ha⊢
   by_cases hwt:Region.wanted o (yielded ops a'.tmps)=true
   ·rw[zG hwt]at ha⊢
    refine .inl (Oper.wp_mono (fun a'' w'' h2=>⟨fun h=>(by rw[hB3]at h;cases h),?_⟩) ha)
    refine YL hs hQ hC n last _ a'' hB3 hB4 (eU (fun a3 h3=>?_) _ _ h2)
    have hr:Region.ready md ops (vB ((vB listed is0).setIfInBounds i true) last)=[]:=by simpa using hB5
    cases n with
    |zero=>exact fun w3 g3=>⟨hr,h3 w3 g3⟩
    |succ n=>exact fun w3 g3=>⟨fun _=>h3 w3 g3,fun i hi=>by rw[hr]at hi;cases hi⟩
   ·rw[zL hwt]at ha
    exact ha.elim
 |(is,c,true)::rest,listed,a,w,hw,hB,h=>by
  simp only[QS,qK,jG]at hB;obtain⟨⟨⟨⟨⟨hB1,hB2⟩,hB3⟩,hB4⟩,hB5⟩,hB6⟩:=hB;simp only[gT];rw[←qS];simp only[uY]at h;refine fQ hs hQ hC _ hw is listed a hB1 (eU (fun a' ha=>?_) _ _ h);cases ho:ops[c]? with
  |none=>rw[ho]at ha;exact ha.elim
  |some o=>
   rw[ho]at ha
   obtain⟨v,hy,hK⟩:=ha
   obtain⟨I,hI0,hI1,hI2⟩:=NZ hB2
   rw[←qS]
   exact sV (T:=C) (I:=I) ho hs (fun c a w=>hQ c a o.dst v w) hB5 hC (fun l w hl hS=>hS (hI1 l hl)) hI2 _ _ a' w (Region.free_spec ho hB4) (by simpa using hB3) hI0 hy (fun _=>hw) (aL hs hQ hC n is0 last rest _ _ w hw hB6 hK)
 |(is,c,false)::rest,listed,a,w,hw,hB,h=>by
  simp only[QS,qK,jG]at hB;obtain⟨⟨⟨hB1,hB2⟩,hB3⟩,hB4⟩:=hB;simp only[gT];rw[←qS];simp only[uY]at h;refine fQ hs hQ hC _ hw is listed a hB1 (eU (fun a' ha=>?_) _ _ h);rw[←qS];intro w' g;refine⟨fun h=>(by rw[hB2]at h;cases h),fun i hi=>?_⟩;rw[hB2]at hi;obtain rfl:i=c:=by simpa using hi
  unfold wpOp;cases ho:ops[i]? with
  |none=>rw[ho]at ha;exact ha.elim
  |some o=>
   rw[ho]at ha
   have ha:=ha w' g (hC _ _ hw g)
   simp only at ha⊢
   by_cases hwt:Region.wanted o (yielded ops a'.tmps)=true
   ·rw[zG hwt]at ha⊢
    exact .inl (Oper.wp_mono (fun a'' w'' h2=>⟨fun _=>h2.1,aL hs hQ hC n is0 last rest _ a'' w'' h2.1 hB4 h2.2⟩) ha)
   ·rw[zL hwt]at ha
    exact ha.elim
theorem mX{id:Nat}{a:Act}{w:World}{l:List Oper}(c0:Nat)(bs:List (List Nat×Nat×Bool))(is0 last:List Nat)(hm:P.follows .mixedOrders=true)
  (hB:(Region.noSelect l.toArray&&QS .any l.toArray c0 bs is0 last (Array.replicate l.toArray.size false)&&decide (gT bs is0 last≤l.toArray.size))=true)
  (hQ:∀(c:_) (a:Act) (d:Option Tmp) (v:Value) (w:World),Q (.panic c) (a.put d v) w→Q (.panic c) a w) (hC:∀w w',C w→Gr w w'→C w') (hw:C w.drew)
  (h:∀wd,wd=w.drew→uY P l.toArray C Q c0 bs is0 last a wd):(Code.region id l.toArray true).wp P Q a w:=by
 simp only[qK,jG]at hB;obtain⟨⟨hs,hb⟩,hle⟩:=hB;refine wp_region_any hm (dH (C:=C) (c0:=c0) _ _ _ _ ?_);have:=aL (md:=.any) hs hQ hC (l.toArray.size-gT bs is0 last) is0 last bs (Array.replicate l.toArray.size false) a w.drew hw hb (h _ rfl);rwa [Nat.sub_add_cancel hle]at this
variable {rest:List (List Nat×Nat×Bool)} {is is0 last:List Nat} {c:Nat} {l:List Oper} {o:Oper} {a:Act} {w:World}
def GJ(P:Program)(ops:Array Oper)(C:World→Prop)(Q:Exit→Act→World→Prop)(c0:Nat)(rest:List (List Nat×Nat×Bool))(is0 last:List Nat)(o:Oper)(w:World)(a:Act):Prop:=∃v,tR P ops C o v a∧uY P ops C Q c0 rest is0 last (a.put o.dst v) w
def H8(P:Program)(ops:Array Oper)(C:World→Prop)(Q:Exit→Act→World→Prop)(c0:Nat)(rest:List (List Nat×Nat×Bool))(is0 last:List Nat)(o:Oper)(w:World)(a:Act):Prop:=∀w',Gr w w'→C w'→if Region.wanted o (yielded ops a.tmps)then o.wp P a w' (fun a'' w''=>C w''∧uY P ops C Q c0 rest is0 last a'' w'') Q else False
def H9(P:Program)(ops:Array Oper)(C:World→Prop)(Q:Exit→Act→World→Prop)(last:List Nat)(o:Oper)(w:World)(a:Act):Prop:=∀w',Gr w w'→C w'→if Region.wanted o (yielded ops a.tmps)then o.wp P a w' (fun a'' w''=>wpQuiet P ops (fun w=>∃x:rU,w=x.w) (fun a3=>∀w3,Gr w'' w3→Q .normal a3 w3) (lA ops last) a'') Q else False
theorem m4(hl:lA ops is=l)(ho:ops[c]?=some o)(h:wpQuiet P ops C (GJ P ops C Q c0 rest is0 last o w) l a):uY P ops C Q c0 ((is,c,true)::rest) is0 last a w:=by
 subst hl;simp only[uY,ho];exact h
theorem vW(hl:lA ops is=l)(ho:ops[c]?=some o)(h:wpQuiet P ops C (H8 P ops C Q c0 rest is0 last o w) l a):uY P ops C Q c0 ((is,c,false)::rest) is0 last a w:=by
 subst hl;simp only[uY,ho];exact h
theorem mE(hl:lA ops is0=l)(ho:ops[c0]?=some o)(h:wpQuiet P ops C (H9 P ops C Q last o w) l a):uY P ops C Q c0 [] is0 last a w:=by
 subst hl;simp only[uY,zWW,ho];exact h
theorem fC{o:Oper}{ρ:Operand→Value}{g:Nat}{caps args:Array Value}(x:Operand)(xs:Array Operand)(ts:Array TypeId)(ho:o.op=.call {callee:=.value x,args:=xs,argTypes:=ts})(hx:ρ x=.func (.func g) #[] caps)
  (eg:∀args w,(callFunc g args).run P w=.ok (.enter g args) w) (ha:xs.map ρ++caps=args) (w:World):(execOp ρ o).run P w=.ok (.enter g args) w:=by
 subst ha;unfold execOp;simp only[ho,resolve,hx];simp[go_sem,invoke,eg]
theorem nN{o:Oper}{g:Nat}{caps args:Array Value}{v:Value}(x:Operand)(xs:Array Operand)(ts:Array TypeId)(ho:o.op=.call {callee:=.value x,args:=xs,argTypes:=ts})(hw:Region.wanted o (yielded ops a.tmps)=true)
  (eg:∀args w,(callFunc g args).run P w=.ok (.enter g args) w) (hc:∀w,C w→Calls P g args w fun e w'=>e=.returned v∧Gr w w') (hx:a.eval x=.func (.func g) #[] caps) (ha:xs.map a.eval++caps=args):tR P ops C o v a:=
 .inl ⟨hw,fun w hC=>by rw[fC x xs ts ho hx eg ha w];exact⟨rfl,hc w hC⟩⟩
theorem mF{o:Oper}{g:Nat}{caps args:Array Value}{K:Act→World→Prop}(x:Operand)(xs:Array Operand)(ts:Array TypeId)(ho:o.op=.call {callee:=.value x,args:=xs,argTypes:=ts})(eg:∀args w,(callFunc g args).run P w=.ok (.enter g args) w)(hx:a.eval x=.func (.func g) #[] caps)(ha:xs.map a.eval++caps=args)
  (h:Calls P g args w fun e w'=>∃v,e=.returned v∧K (a.put o.dst v) w'):o.wp P a w K Q:=by
 exact zFS
theorem m5{v:Value}(hy:tR P ops C o v a)(h:uY P ops C Q c0 rest is0 last (a.put o.dst v) w):GJ P ops C Q c0 rest is0 last o w a:=⟨v,hy,h⟩
theorem vV(hw:Region.wanted o (yielded ops a.tmps)=true)(h:∀w',Gr w w'→C w'→∀K:Act→World→Prop,(∀a w,C w→uY P ops C Q c0 rest is0 last a w→K a w)→o.wp P a w' K Q):H8 P ops C Q c0 rest is0 last o w a:=by
 intro w' g hC;rw[zG hw];exact h w' g hC _ fun a w hc h=>⟨hc,h⟩
theorem mC(hw:Region.wanted o (yielded ops a.tmps)=true)(h:∀w',Gr w w'→C w'→∀K:Act→World→Prop,(∀a w,wpQuiet P ops (fun w=>∃x:rU,w=x.w) (fun a3=>∀w3,Gr w w3→Q .normal a3 w3) (lA ops last) a→K a w)→o.wp P a w' K Q):H9 P ops C Q last o w a:=by
 intro w' g hC;rw[zG hw];exact h w' g hC _ fun a w h=>h
end
section
variable {P:Program} {ops:Array Oper} {C:World→Prop}
theorem dG{Q:Exit→Act→World→Prop}:∀(l:List Oper) (a:Act) (w:World),C w→wpQuiet P ops C (fun a'=>∀w',C w'→Q .normal a' w') l a→wpList P ops Q l a w
 |[],a,w,hC,h=>h w hC
 |o::l,a,w,hC,h=>by
  refine wpList_step fun K hK=>?_;simp only[wpQuiet]at h;split
  ·rename_i hw
   rw[zG hw]at h;exact Oper.wp_of_quiet hC (fun a' w' hC' h'=>hK a' w' (dG l a' w' hC' h')) h
  ·rename_i hw
   rw[zL hw]at h;exact hK _ _ (dG l _ w hC h)
theorem bP{id:Nat}{l:List Oper}{Q:Exit→Act→World→Prop}{a:Act}{W:World}
  (h:wpQuiet P l.toArray (fun w'=>∃x:mH W,w'=x.w) (fun a'=>∀w',(∃x:mH W,w'=x.w)→Q .normal a' w') l a):(Code.region id l.toArray false).wp P Q a W:=
 zN (dG l a W ⟨⟨W,zB _ _⟩,rfl⟩ h)
end
structure zLQ(P:Program)(S E:TypeId)(z:Value)(bytes:Nat):Prop where
 u:P.underlying S=some (.slice E)
 i:(P.info? E).map (fun i=>(i.zero,i.size,i.bytes))=some (some z,1,bytes)
 z1:z.cells.size=1
section
variable {P:Program} {S E:TypeId} {z:Value} {bytes:Nat} {α:Type} {enc:α→Value}
theorem KV(K:zLQ P S E z bytes)(h1:∀a,(enc a).oneCell'=true)(w:World)(ty:TypeId)(base:Nat)(v:Value)(n:Nat)(L0:List α)(hown:w.ownsRow base E 1 v n (L0.map enc))(A:Option Addr)(m c:Nat)(L:List α)(hR:Row enc w A L)(hL:L.length=m)
  (h63:n+m≤1000000) (hby:bytes≤64) (hbase:base≤w.heap.size):
  ∃v' w',(Builtin.append_ #[S,S] ty #[v,.slice A m c]).run P w=.ok v' w'∧w'.ownsRow base E 1 v' (n+m) ((L0++L).map enc)∧w.grownBy w' v.ownBlock:=by
 obtain⟨i0,hi,hz0,hz1,hz2⟩:=lW K.i;rcases A with _|ad
 ·have hm:m=0:=by
   rcases Nat.eq_zero_or_pos m with h|h
   ·exact h
   ·obtain⟨b,o,e,_⟩:=hR (by rintro rfl;simp at hL;omega);cases e
  subst hm;obtain rfl:L=[]:=kA hL;refine⟨v,w,?_,by simpa using hown,World.grownBy.refl w _⟩;rcases hown.2 with⟨rfl,rfl⟩|⟨g,cap,cur,rfl,_,_,hnc,_⟩
  ·simp[Builtin.append_,kL K.u,sizeOf,typeInfo,hi,Builtin.lenOf,Builtin.firstCells]
  ·simp[Builtin.append_,kL K.u,sizeOf,typeInfo,hi,Builtin.lenOf,Builtin.firstCells,hnc,storeCells]
 ·have hc:∀j u,(L.map enc)[j]?=some u→w.cell? (ad.add j)=some u:=by
   by_cases hne:L=[]
   ·subst hne;intro j u hu;simp at hu
   ·obtain⟨b,o,e,_,hc⟩:=hR hne;injection e with e
    subst e;intro j u hu;rw[jK]at hu;obtain⟨a,ha,rfl⟩:=kV.1 hu;obtain⟨hj,e2⟩:=kE.1 ha;rw[show(⟨b,o,none⟩:Addr).add j=⟨b,o+j,none⟩ by unfold Addr.add;split<;>simp_all,hc j hj,e2]
  have hb:(n+m)*bytes≤140737488355328:=zD (Nat.mul_le_mul h63 hby) zBH;obtain⟨v',w',hrun,h2,h3,_,_⟩:=run_append_own_at (P:=P) w base S ty E i0 z 1 bytes K.u hi hz0 hz1 hz2 K.z1 zBY v n _ hown ad m c (L.map enc) (by rw[jQ];omega) hc (fun u hu=>by
   obtain⟨a,_,rfl⟩:=jR.1 hu;exact h1 a) zB6 hb hbase
  exact⟨v',w',hrun,by rw[jD];exact h2,h3⟩
theorem aR(K:zLQ P S E z bytes)(h1:∀a,(enc a).oneCell'=true){w:World}{o:Oper}{a:Act}{K':Act→World→Prop}{Q:Exit→Act→World→Prop}(s x:Operand)
  (ho:o.op=.call {callee:=.builtin .append,args:=#[s,x],argTypes:=#[S,S]}) (base:Nat) (v:Value) (n:Nat) (L0:List α) (hs:a.eval s=v) (hown:w.ownsRow base E 1 v n (L0.map enc))
  (A:Option Addr) (m c:Nat) (L:List α) (hx:a.eval x=.slice A m c) (hR:Row enc w A L) (hL:L.length=m) (h63:n+m≤1000000) (hby:bytes≤64) (hbase:base≤w.heap.size)
  (h:∀v' w',w'.ownsRow base E 1 v' (n+m) ((L0++L).map enc)→w.grownBy w' v.ownBlock→K' (a.put o.dst v') w'):o.wp P a w K' Q:=by
 obtain⟨v',w',hrun,h2,h3⟩:=KV K h1 w o.type base v n L0 hown A m c L hR hL h63 hby hbase;unfold Oper.wp execOp;simp only[ho,resolve,invoke,builtin,qW,jW,qX,List.map_toArray,List.map_cons,List.map_nil,hs,hx,hrun];exact h v' w' h2 h3
theorem vX(K:zLQ P S E z bytes)(h1:∀a,(enc a).oneCell'=true){w:World}{ops:Array Oper}{rest:List Oper}{o:Oper}{a:Act}{Q:Exit→Act→World→Prop}(hgd:o.guard=none)(s x:Operand)
  (ho:o.op=.call {callee:=.builtin .append,args:=#[s,x],argTypes:=#[S,S]}) (base:Nat) (v:Value) (n:Nat) (L0:List α) (hs:a.eval s=v) (hown:w.ownsRow base E 1 v n (L0.map enc))
  (A:Option Addr) (m c:Nat) (L:List α) (hx:a.eval x=.slice A m c) (hR:Row enc w A L) (hL:L.length=m) (h63:n+m≤1000000) (hby:bytes≤64) (hbase:base≤w.heap.size)
  (h:∀v' w',w'.ownsRow base E 1 v' (n+m) ((L0++L).map enc)→w.grownBy w' v.ownBlock→wpList P ops Q rest (a.put o.dst v') w'):wpList P ops Q (o::rest) a w:=
 qL hgd fun _ hK=>aR K h1 s x ho base v n L0 hs hown A m c L hx hR hL h63 hby hbase fun v' w' h2 h3=>hK _ _ (h v' w' h2 h3)
end
end
section
open Go.RowKit Num Dec Cpu
structure Sl where
 A:Option Addr
 n:Nat
 c:Nat
def Sl.v(s:Sl):Value:=.slice s.A s.n s.c
structure CS where
 v:Nat→Nat
 i:Int
 pc:Int
 sk:Sl
 M:Sl
 G:Sl
 hi:Bool
 msk:Int
 K:Sl
 dl:Nat
 sd:Nat
 P:Sl
 pt:Nat
 fl:Sl
 L:Sl
 rd:Int
def uI(s:CS):List Value:=[.int .i64 s.i,.int .i64 s.pc,s.sk.v,s.M.v,s.G.v,.bool s.hi,.int .i64 s.msk,s.K.v,.int .u8 (s.dl:Int),.int .u8 (s.sd:Int),s.P.v,.int .u8 (s.pt:Int),s.fl.v,s.L.v,.int .i64 s.rd]
def cst(s:CS):Array Value:=(((List.range 16).map fun j=>Value.int .u8 (s.v j:Int))++uI s).toArray
theorem lC(s:CS):(cst s).size=31:=by simp[cst,uI]
theorem wJ(s:CS){j:Nat}(hj:j<16):(cst s)[j]?=some (.int .u8 (s.v j:Int)):=by
 unfold cst;rw[zX,qA (by simpa using hj)];simp[hj]
theorem nW(s:CS)(j:Nat):(cst s)[16+j]?=(uI s)[j]?:=by
 unfold cst;rw[zX,qP zBT];simp
theorem mM:xX Tryz.prog 43 31:=⟨⟨_,Tryz.underlying43,rfl⟩,by kernel_rfl⟩
def cX:Sl:=⟨none,0,0⟩
def vP:CS:=⟨fun _=>0,0,0,cX,cX,cX,false,0,cX,0,0,cX,0,cX,cX,0⟩
theorem xI:cY Tryz.prog 43 (cst vP):=by unfold cY;kernel_rfl
theorem nZ(s:CS):cL (cst s):=by
 unfold cL;rw[jV];intro u hu;simp only[cst,uI,lF,List.mem_append,jR,j8,List.mem_cons,j6,or_false]at hu;rcases hu with⟨j,_,rfl⟩|h
 ·rfl
 ·rcases h with rfl|rfl|rfl|rfl|rfl|rfl|rfl|rfl|rfl|rfl|rfl|rfl|rfl|rfl|rfl<;>rfl
theorem oV(s:CS){k:Nat}(hk:k<16)(r:Nat):(cst s).setIfInBounds k (.int .u8 (r:Int))=cst {s with v:=upd s.v k r}:=by
 apply qH
 intro j
 rw[jJ,lC];by_cases h1:k=j
 ·subst h1;rw[zG rfl,zG zBY,wJ _ hk];simp[upd]
 ·rw[zL h1];by_cases h3:j<16
  ·rw[wJ _ h3,wJ _ h3];show some (Value.int .u8 (s.v j:Int))=some (Value.int .u8 ((upd s.v k r j:Nat):Int));unfold upd;rw[zL (fun e=>h1 e.symm)]
  ·obtain⟨m,rfl⟩:∃m,j=16+m:=⟨j-16,by omega⟩;rw[nW,nW];rfl
theorem rX(s:CS)(x:Int):(cst s).setIfInBounds 16 (.int .i64 x)=cst {s with i:=x}:=rfl
theorem rJ(s:CS)(x:Int):(cst s).setIfInBounds 17 (.int .i64 x)=cst {s with pc:=x}:=rfl
theorem ZD(s:CS)(x:Sl):(cst s).setIfInBounds 18 x.v=cst {s with sk:=x}:=rfl
theorem ZT(s:CS)(x:Sl):(cst s).setIfInBounds 19 x.v=cst {s with M:=x}:=rfl
theorem zJU(s:CS)(x:Sl):(cst s).setIfInBounds 23 x.v=cst {s with K:=x}:=rfl
theorem YQ(s:CS)(x:Nat):(cst s).setIfInBounds 24 (.int .u8 (x:Int))=cst {s with dl:=x}:=rfl
theorem X9(s:CS)(x:Nat):(cst s).setIfInBounds 25 (.int .u8 (x:Int))=cst {s with sd:=x}:=rfl
theorem zJA(s:CS)(x:Sl):(cst s).setIfInBounds 26 x.v=cst {s with P:=x}:=rfl
theorem zJC(s:CS)(x:Nat):(cst s).setIfInBounds 27 (.int .u8 (x:Int))=cst {s with pt:=x}:=rfl
theorem X4(s:CS)(x:Sl):(cst s).setIfInBounds 28 x.v=cst {s with fl:=x}:=rfl
theorem zJE(s:CS)(x:Int):(cst s).setIfInBounds 30 (.int .i64 x)=cst {s with rd:=x}:=rfl
theorem gA(b:Bool)(w:World):Calls Tryz.prog 149 #[.bool b] w fun e w'=>e=.returned (.int .i64 (b2 b:Nat))∧w=w':=by
 cases b
 all_goals
  go_enter Tryz.func149,Tryz.ntmps149
  go_wp2
  go_ret
  exact⟨rfl,rfl⟩
theorem divs(x P:Nat)(hx:x<256)(hP:0<P):∃q r:Int,(Int.tdiv (x:Int) (P:Int)=q∧IntKind.i64.wrap q=q∧Int.tmod q 2=r∧IntKind.i64.wrap r=r)∧r=((x/P%2:Nat):Int):=by
 have hq:x/P≤x:=Nat.div_le_self _ _;have e:Int.tdiv (x:Int) (P:Int)=((x/P:Nat):Int):=by rw[Int.tdiv_eq_ediv_of_nonneg zBY];rfl
 have e2:Int.tmod ((x/P:Nat):Int) 2=((x/P%2:Nat):Int):=by rw[qT (qG _)];rfl
 generalize x/P=z at*;exact⟨(z:Int),((z%2:Nat):Int),⟨e,by rw[zU];omega,e2,by rw[zU];omega⟩,rfl⟩
theorem rV(x i:Nat)(hx:x<256)(hi:i<8):∃q r:Int,(Int.tdiv (x:Int) ((2^i:Nat):Int)=q∧IntKind.i64.wrap q=q∧Int.tmod q 2=r∧IntKind.i64.wrap r=r)∧r=(aB x i:Nat):=divs x (2^i) hx (Nat.two_pow_pos i)
theorem zMV{i:Nat}(hi:i≤8):2^i≤256:=Nat.pow_le_pow_right (n:=2) zBH hi
theorem iC(x y:Nat)(w:World)(hx:x<256)(hy:y<256):Calls Tryz.prog 148 #[.int .i64 11,.int .i64 (x:Int),.int .i64 (y:Int)] w fun e w'=>e=.returned (.int .i64 ((x|||y:Nat):Int))∧w=w':=by
 have HX:=zW (zY hx hy);have HR:=zW (QG hx hy);have BS:=zW (zH2 x y);obtain⟨f,hf⟩:∃f,x|||y=f:=⟨_,rfl⟩
 exact zTI
theorem fR(x y:Nat)(w:World)(hx:x<256)(hy:y<256):Calls Tryz.prog 148 #[.int .i64 12,.int .i64 (x:Int),.int .i64 (y:Int)] w fun e w'=>e=.returned (.int .i64 ((x&&&y:Nat):Int))∧w=w':=by
 have HX:=zW (zY hx hy);have HR:=zW (dF hx hy);have BS:=zW (PN x y);obtain⟨f,hf⟩:∃f,x&&&y=f:=⟨_,rfl⟩;exact zTI
theorem fB(x y:Nat)(w:World)(hx:x<256)(hy:y<256):Calls Tryz.prog 148 #[.int .i64 13,.int .i64 (x:Int),.int .i64 (y:Int)] w fun e w'=>e=.returned (.int .i64 ((x^^^y:Nat):Int))∧w=w':=by
 have HX:=zW (zY hx hy);have HR:=zW (eP hx hy);have BS:=zW (zYN x y);obtain⟨f,hf⟩:∃f,x^^^y=f:=⟨_,rfl⟩;exact zTI
end
section
open Go.RowKit Num
theorem dW:zLQ Tryz.prog 38 3 (.int .i64 0) 8:=⟨Tryz.underlying38,by kernel_rfl,rfl⟩
theorem dJ(a:Int):(Value.int .i64 a).oneCell'=true:=rfl
theorem KU(w:World):(w.alloc (.cells #[] 3)).ownsRow w.heap.size 3 1 (.slice (some ⟨w.heap.size,0,none⟩) 0 0) 0 (([]:List Int).map (Value.int .i64)):=World.ownsRow_made w #[] 0 (zH _) zB6 rfl
structure oT(base:Nat)(w:World)(A:Option Addr)(n c:Nat)(L:List Int):Prop where
 low:∀ad,A=some ad→base≤ad.block
 row:Row (Value.int .i64) w A L
 len:L.length=n
 cap:n≤c
 max:c≤maxLen
theorem oT.below{base:Nat}{w w':World}{A:Option Addr}{n c:Nat}{L:List Int}(H:oT base w A n c L)(b:Below w.heap.size w w'):oT base w' A n c L:=⟨H.low,H.row.below b,H.len,H.cap,H.max⟩
theorem oT.nil(base:Nat)(w:World):oT base w none 0 0 []:=⟨fun _ e=>by(cases e),Row.nil,rfl,zH _,qE _⟩
theorem TE(base:Nat)(A:Option Addr)(n c:Nat)(L:List Int)(a:Int)(w:World)(H:oT base w A n c L)(n1:n≤1000)(hlt:n<16):
  Calls Tryz.prog 69 #[.slice A n c,.int .i64 a] w fun e w'=>∃A' n' c',e=.returned (.tuple #[.slice A' n' c',.int .i64 0])∧oT w.heap.size w' A' n' c' (L++[a])∧Below w.heap.size w w':=by
 have HH:=zW H;have hn:=H.len;have h:¬16≤n:=zBY;clear H;have hI:¬(n:Int)≥16:=zBY;have HN:=zW (zY hn n1);have O0:=zW (KU w);have B0:=zW ((zB w.heap.size w).alloc (zH _) (.cells #[] 3));clear hn h n1 hlt;go_enter Tryz.func69,Tryz.ntmps69;go_upto_region 3 with fail;refine zN ?_;iterate 6 go_step
 refine vX dW dJ rfl (.tmp 10) (.tmp 11) rfl w.heap.size _ 0 [] rfl O0.out A n c L rfl (HH.out.row.below B0.out) HN.out.1 (by have:=HN.out.2;omega) zBH zBT ?_;intro v1 w1 o1 g1;have B1:=zW (B0.out.grown g1 zBT fun j ej=>(O0.out.lt j ej).1);have O1:=zW o1;clear o1 g1 O0 B0;simp only[Act.put,zQ,zZ,zJ];have R1:=zW (show Row (Value.int .i64) (w1.alloc (.cells #[.int .i64 a] 3)) (some ⟨w1.heap.size,0,none⟩) [a]from fun _=>⟨w1.heap.size,0,rfl,by simp,fun j hj=>by
  have:j=0:=by simp at hj;exact hj
  subst this;simp⟩)
 have B2:=zW (B1.out.alloc B1.out.size (.cells #[.int .i64 a] 3));have O2:=zW (O1.out.alloc (.cells #[.int .i64 a] 3));iterate 6 go_step
 refine vX dW dJ rfl (.tmp 12) (.tmp 14) rfl w.heap.size v1 (0+n) ([]++L) rfl O2.out (some ⟨w1.heap.size,0,none⟩) 1 1 [a] rfl R1.out rfl (by have:=HN.out.2;omega) zBH B2.out.size ?_;intro v2 w2 o2 g2;have B3:=zW (B2.out.grown g2 B2.out.size fun j ej=>(O2.out.lt j ej).1);rw[qB,jP]at o2;obtain⟨A2,c2,e2⟩:=vQ o2;have OR:=zW (show oT w.heap.size w2 A2 (n+1) c2 (L++[a])from⟨fun ad ea=>by
  rw[e2]at o2;subst ea;exact(o2.lt _ rfl).1,by rw[e2]at o2;exact Row.of_own o2,by simp[HN.out.1],by
  rw[e2]at o2;rcases o2.2 with⟨h1,_⟩|⟨g',c',cur,h1,_,_,hc,_⟩
  ·cases h1
  ·injection h1 with _ _ h2
   omega,by
  rw[e2]at o2;rcases o2.2 with⟨h1,_⟩|⟨g',c',cur,h1,_,_,hc,hm,_⟩
  ·cases h1
  ·injection h1 with _ _ h2
   rw[h2];exact hm⟩)
 subst e2;clear o2 g2 O2 O1 B2 B1 R1;simp only[Act.put,zQ,zZ,zJ];go_wp2_with fail;go_ret2;exact⟨A2,n+1,c2,rfl,OR.out,B3.out⟩
theorem zZB(base:Nat)(A:Option Addr)(k c:Nat)(L:List Int)(a:Int)(w:World)(H:oT base w A (k+1) c (L++[a]))(n1:k≤1000):
  Calls Tryz.prog 68 #[.slice A (k+1) c] w fun e w'=>∃c',e=.returned (.tuple #[.slice A k c',.int .i64 a,.int .i64 0])∧oT base w' A k c' L∧Below w.heap.size w w':=by
 have hl:=H.len;have hc:=H.max;have hk:L.length=k:=by simpa using hl
 obtain⟨b,o,rfl,hb,c1⟩:=H.row.at_ (show k<(L++[a]).length by rw[hl];omega);have ea:(L++[a])[k]'(by rw[hl];omega)=a:=by simp[←hk]
 rw[ea]at c1;have HH:=zW (zY H (zY hk hc));have k1:=mH.cell c1 hb;have hcc:=H.cap;have w0:¬((k+1:Nat):Int)=0:=zBY;have w1:IntKind.i64.wrap (((k+1:Nat):Int)-1)=(k:Int):=by rw[zU];omega
 have wk:IntKind.i64.wrap (k:Int)=(k:Int):=by rw[zU];omega
 have ki:(k:Int)<(k:Int)+1:=zBY;have cutK:∀u:World,(Instr.sliceAt 38 (.slice (some ⟨b,o,none⟩) (k+1) c) none (some (.int .i64 (k:Int))) none).run Tryz.prog u=.ok (.slice (some ⟨b,o,none⟩) k c) u:=by
  intro u;rw[run_sliceAt_slice (P:=Tryz.prog) u 38 _ _ _ _ Tryz.underlying38,run_slice_h (P:=Tryz.prog) u 38 _ (k+1) c Tryz.underlying38 .i64 k zBY zBY];show Result.ok (sliced _ _ _ _ 1) u=_;unfold sliced;rw[zL zBY];simp;rfl
 clear ea hl c1 H;go_enter Tryz.func68,Tryz.ntmps68;go_upto_region 3 with fail;refine m8 zBM zBM ?_;repeat(go_big_quiet_step (fail))
 refine zM ?_;intro _ hw';obtain⟨u,rfl⟩:=hw';go_wp2_with fail;exact zT (v:=.tuple #[.slice (some ⟨b,o,none⟩) k c,.int .i64 a,.int .i64 0]) (by simp[results,Tryz.results68,go_sem]) rfl ⟨c,rfl,⟨HH.out.1.low,fun hne=>⟨b,o,rfl,zS hb u.below.size,fun j hj=>by
  obtain⟨b2,o2,e2,hb2,hc2⟩:=(HH.out.1.row) zBT;injection e2 with e2
  injection e2 with e3 e4 _
  subst e3 e4;have h:=(u.below.cell (p:=⟨b,o+j,none⟩) hb).trans (hc2 j zBS);rw[List.getElem_append_left hj]at h;exact h⟩,hk,by omega,hc⟩,u.below⟩
end
section
open Go.RowKit Num Dec Cpu
theorem zX6{r:Nat}(h:r<256):IntKind.u8.wrap (r:Int)=(r:Int):=by rw[j9];omega
theorem zZP(x y:Nat)(w:World)(hx:x<256)(hy:y<256):Calls Tryz.prog 155 #[.int .u8 (x:Int),.int .i64 (y:Int)] w fun e w'=>e=.returned (.int .u8 ((x&&&y:Nat):Int))∧w=w':=by
 have HX:=zW (zY hx hy);have HR:=zW (dF hx hy);have BS:=zW (PN x y);have wx:IntKind.i64.wrap (x:Int)=(x:Int):=by rw[zU];omega
 obtain⟨f,hf⟩:∃f,x&&&y=f:=⟨_,rfl⟩;rw[hf]at HR BS⊢;clear hx hy hf;go_enter Tryz.func155,Tryz.ntmps155;go_wp2_with fail;go_loop [5,6,7] (fun n v i=>∃k:Nat,k≤8∧i=.int .i64 (k:Int)∧v=.int .i64 ((2^k:Nat):Int)∧n=.int .i64 ((f%2^k:Nat):Int)) (fun _ _ i=>8-(intOf i).toNat)
 case atStart=>exact⟨0,by omega,rfl,rfl,by rw[Nat.pow_zero,Nat.mod_one];rfl⟩
 case round=>
  obtain⟨k,hk,rfl,rfl,rfl⟩:=hrel
  by_cases hlt:k<8
  ·have HK:=zW hlt
   obtain⟨q,r,⟨u1,u2,u3,u4⟩,er⟩:=rV x k HX.out.1 hlt
   obtain⟨q',r',⟨v1,v2,v3,v4⟩,er'⟩:=rV y k HX.out.2 hlt
   have ST:=zW (aK f k)
   have BK:=zW (BS.out k)
   have p8:=zMV (show k≤8 by omega)
   have p1:0<2^k:=Nat.two_pow_pos k
   have E2:=zW (show 2^(k+1)=2*2^k by rw[Nat.pow_succ];omega)
   have hki:(k:Int)<8:=zBY
   obtain⟨P,hP⟩:∃P:Nat,2^k=P:=⟨_,rfl⟩
   rw[hP]at u1 v1 ST p8 p1 E2⊢
   have M0:=zW (show f%P<P from kC _ p1)
   obtain⟨m,hm⟩:∃m:Nat,f%P=m:=⟨_,rfl⟩
   rw[hm]at M0 ST⊢
   have PI:¬(P:Int)=0:=zBY
   have P0:=zW (zY p8 p1)
   have W2:IntKind.i64.wrap (2*(P:Int))=((2*P:Nat):Int):=by rw[zU];omega
   have W1:IntKind.i64.wrap ((m:Int)+(P:Int))=((m+P:Nat):Int):=by have:=M0.out;rw[zU];omega
   obtain⟨d2,hd2⟩:∃d2:Int,((2*P:Nat):Int)=d2:=⟨_,rfl⟩
   obtain⟨d1,hd1⟩:∃d1:Int,((m+P:Nat):Int)=d1:=⟨_,rfl⟩
   rw[hd2]at W2
   rw[hd1]at W1
   have D:=zW (zY hd1 hd2)
   have ER:=zW (zY er er')
   clear hd1 hd2 hP hm hk hlt p8 p1 er er'
   rcases gF x k with bx|bx<;>rcases gF y k with by'|by'
   all_goals
    have hr:=ER.out.1
    have hr':=ER.out.2
    rw[bx]at hr
    rw[by']at hr'
    have BK2:=BK.out
    rw[bx,by']at BK2
    have BK3:=zW BK2
    clear BK2
    subst hr hr'
    clear bx by'
    go_wp2_with fail
    refine⟨⟨k+1,HK.out,rfl,?_,?_⟩,by have:=HK.out;simp[intOf];omega⟩
    ·rw[E2.out,D.out.2]
    ·have hb:=BK3.out
     simp[b2]at hb
     rw[ST.out,hb]
     first|(rw[←D.out.1];simp;done)|(simp;done)
  ·obtain rfl:k=8:=by omega
   have e:=zW (show f%2^8=f from kW HR.out)
   have wf:=zX6 HR.out
   clear hk hlt
   rw[e.out]
   go_wp2_with fail
   go_ret
   exact⟨rfl,rfl⟩
theorem oZ:zLQ Tryz.prog 22 5 (.int .u8 0) 1:=⟨Tryz.underlying22,by kernel_rfl,rfl⟩
theorem VP(a:Int):(Value.int .u8 a).oneCell'=true:=rfl
theorem gB{α:Type}(enc:α→Value)(w:World)(a:α)(t:TypeId):Row enc (w.alloc (.cells #[enc a] t)) (some ⟨w.heap.size,0,none⟩) [a]:=fun _=>⟨w.heap.size,0,rfl,by simp,fun j hj=>by
 have:j=0:=by simp at hj;exact hj
 subst this;simp⟩
def vN(v:Nat→Nat)(n:Nat):List Int:=(List.range n).map fun j=>(v j:Int)
theorem BH(v:Nat→Nat)(n:Nat):vN v (n+1)=vN v n++[(v n:Int)]:=by simp[vN,List.range_succ]
theorem bB(v:Nat→Nat)(n:Nat):(vN v n).length=n:=by simp[vN]
theorem KH(s:CS)(n:Nat)(w:World)(hn:n≤16):
  Calls Tryz.prog 154 #[.agg (cst s),.int .i64 (n:Int)] w fun e w'=>∃A c,e=.returned (.slice A n c)∧w'.ownsRow w.heap.size 5 1 (.slice A n c) n ((vN s.v n).map (Value.int .u8))∧Below w.heap.size w w':=by
 have S0:=zW (Blk.new w 43 (cst s));have B0:=zW (mJ w (.cells (cst s) 43));have HN:=zW hn;have hnI:(n:Int)≤16:=zBY;clear hn;go_enter Tryz.func154,Tryz.ntmps154;go_upto_region 0 with fail;refine zN ?_;refine mZ rfl _ (.tmp 0) rfl (cst s) rfl ?_;simp only[Act.put,zQ,zZ,zJ];obtain⟨g,hg⟩:∃g,w.heap.size=g:=⟨_,rfl⟩;have GL:=zW hg;rw[hg]at S0⊢;generalize World.alloc _ _=w1 at S0 B0⊢;clear hg;go_wp2_with fail;go_loopw [5,6] (fun v5 v6 wr=>∃k:Nat,k≤n∧v6=.int .i64 (k:Int)∧wr.ownsRow w.heap.size 5 1 v5 k ((vN s.v k).map (Value.int .u8))∧Blk g 43 (cst s) wr∧Below w.heap.size w wr) (fun _ v6 _=>n-(intOf v6).toNat)
 case atStart=>exact⟨0,qE _,rfl,qO _ _ _ _,S0.out,B0.out⟩
 case round=>
  obtain⟨k,hk,rfl,ho,hs,hb⟩:=hrel
  have HO:=zW ho
  have HS:=zW hs
  have HB:=zW hb
  clear ho hs hb
  by_cases hlt:k<n
  ·have HK:=zW hlt
   have hki:(k:Int)<(n:Int):=zBY
   have k16:(k:Int)<16:=by have:=HN.out;omega
   have ck:=HS.out.cell k
   rw[wJ s (show k<16 by have:=HN.out;omega)]at ck
   obtain⟨A,c,rfl⟩:=vQ HO.out
   clear hk hlt
   go_upto_region 5 with fail
   refine zN ?_
   iterate 18 go_step
   have R1:=zW (gB (Value.int .u8) wr (s.v k:Int) 5)
   have B1:=zW (HB.out.alloc HB.out.size (.cells #[.int .u8 (s.v k:Int)] 5))
   have O1:=zW (HO.out.alloc (.cells #[.int .u8 (s.v k:Int)] 5))
   have S1:=zW (HS.out.alloc (.cells #[.int .u8 (s.v k:Int)] 5))
   refine vX oZ VP rfl (.tmp 12) (.tmp 17) rfl w.heap.size _ k (vN s.v k) rfl O1.out (some ⟨wr.heap.size,0,none⟩) 1 1 [(s.v k:Int)] rfl R1.out rfl (by have:=HK.out;have:=HN.out;omega) zBH B1.out.size ?_
   intro v2 w2 o2 g2
   have B2:=zW (B1.out.grown g2 B1.out.size fun j ej=>(O1.out.lt j ej).1)
   have S2:=zW (show Blk g 43 (cst s) w2 from(g2.block g S1.out.lt (fun e=>vY O1.out S1.out zBH e.symm)).trans S1.out)
   have O2:=zW o2
   clear o2 g2 O1 B1 S1 R1 HO HS HB ck
   simp only[Act.put,zQ,zZ,zJ]
   go_wp2_with fail
   exact⟨⟨k+1,HK.out,rfl,by rw[BH];exact O2.out,S2.out,B2.out⟩,by have:=HK.out;simp[intOf];omega⟩
  ·obtain rfl:k=n:=by omega
   obtain⟨A,c,rfl⟩:=vQ HO.out
   clear hk hlt
   go_wp2_with fail
   go_ret
   exact⟨A,c,rfl,HO.out,HB.out⟩
end
section
open Go.RowKit Num
def onB(M i:Nat):Bool:=decide (M/2^i%2=1)
theorem VE(M i:Nat)(w:World)(hM:M≤10000)(hi:i≤100):Calls Tryz.prog 212 #[.int .i64 (M:Int),.int .i64 (i:Int)] w fun e w'=>e=.returned (.bool (onB M i))∧w=w':=by
 obtain⟨v,hv⟩:∃v,onB M i=v:=⟨_,rfl⟩;rw[hv];have HV:=zW hv;clear hv;go_enter Tryz.func212,Tryz.ntmps212;go_wp2;go_loop [0,5] (fun a t=>∃k X:Nat,k≤i∧a=.int .i64 (X:Int)∧t=.int .i64 (k:Int)∧X=M/2^k) (fun _ t=>i-(intOf t).toNat)
 case atStart=>exact⟨0,M,by omega,rfl,rfl,by simp⟩
 case round=>
  obtain⟨k,X,hk,rfl,rfl,hX⟩:=hrel
  have X1:(X:Int)≤10000:=by have:=Nat.div_le_self M (2^k);rw[←hX]at this;omega
  have HX:=zW hX
  clear hX
  by_cases hlt:k<i
  ·have ki:(k:Int)<(i:Int):=zBY
   go_wp2
   go_round
   case rel=>exact⟨k+1,X/2,by omega,by go_num,by go_num,by rw[HX.out,Nat.div_div_eq_div_mul,←Nat.pow_succ]⟩
   case measure=>simp[intOf];omega
  ·have ke:=zW (show k=i by omega)
   have ki:¬(k:Int)<(i:Int):=zBY
   have e:=HV.out
   unfold onB at e
   rw[←ke.out,←HX.out]at e
   have EE:=zW e
   clear e
   by_cases hodd:X%2=1
   ·have ho:((X:Int)%2==1)=true:=by simp;omega
    go_wp2
    go_ret
    have e:=EE.out
    rw[zO hodd]at e
    subst e
    exact⟨rfl,rfl⟩
   ·have ho:((X:Int)%2==1)=false:=by simp;omega
    go_wp2
    go_ret
    have e:=EE.out
    rw[zC hodd]at e
    subst e
    exact⟨rfl,rfl⟩
def per(n:Nat)(big:Bool):Nat:=if big then 32 else n
theorem zQY(n:Nat)(big:Bool)(w:World):Calls Tryz.prog 213 #[.int .i64 (n:Int),.bool big] w fun e w'=>e=.returned (.int .i64 (per n big:Nat))∧w=w':=by
 cases big
 all_goals
  go_enter Tryz.func213,Tryz.ntmps213
  go_wp2
  go_ret
  exact⟨rfl,rfl⟩
def xJ(M n:Nat)(big:Bool):Nat→Nat
 |0=>0
 |k+1=>xJ M n big k+if onB M k then per n big else 0
theorem JG(M n:Nat)(big:Bool)(hn:n≤32)(k:Nat):xJ M n big k≤32*k:=by
 induction k with
 |zero=>simp[xJ]
 |succ k ih=>
  rw[xJ]
  have:per n big≤32:=by unfold per;split<;>omega
  split<;>omega
theorem GV(M n:Nat)(big:Bool)(w:World)(hM:M≤10000)(hn:n≤32):Calls Tryz.prog 209 #[.int .i64 (M:Int),.int .i64 (n:Int),.bool big] w fun e w'=>e=.returned (.int .i64 (xJ M n big 4:Nat))∧w=w':=by
 obtain⟨Z,hZ⟩:∃Z,xJ M n big 4=Z:=⟨_,rfl⟩;rw[hZ];have ZZ:=zW hZ;clear hZ;obtain⟨d,hd⟩:∃d,per n big=d:=⟨_,rfl⟩;have d1:(d:Int)≤32:=by have:per n big≤32:=by{unfold per;split<;>omega};omega
 have PP:=zW fun w=>hd▸zQY n big w;have DD:=zW hd;clear hd;go_enter Tryz.func209,Tryz.ntmps209;go_wp2;go_loop [7,8] (fun a t=>∃k X:Nat,k≤4∧a=.int .i64 (X:Int)∧t=.int .i64 (k:Int)∧X=xJ M n big k) (fun _ t=>4-(intOf t).toNat)
 case atStart=>exact⟨0,0,by omega,rfl,rfl,rfl⟩
 case round=>
  obtain⟨k,X,hk,rfl,rfl,hX⟩:=hrel
  have X1:(X:Int)≤1000:=by have:=JG M n big hn k;rw[←hX]at this;omega
  have HX:=zW hX
  clear hX
  by_cases hlt:k<4
  ·have ki:(k:Int)<4:=zBY
   obtain⟨v,hv⟩:∃v,onB M k=v:=⟨_,rfl⟩
   have ON:=zW (hv▸VE M k w hM zBY)
   have HV:=zW hv
   clear hv
   cases v
   ·go_wp2_with fail
    refine ON.out.mono ?_
    rintro e w' ⟨rfl,rfl⟩
    go_wp2
    go_round
    case rel=>exact⟨k+1,X,by omega,rfl,by go_num,by rw[xJ,HV.out,HX.out];simp⟩
    case measure=>simp[intOf];omega
   ·go_wp2_with fail
    refine ON.out.mono ?_
    rintro e w' ⟨rfl,rfl⟩
    go_wp2_with fail
    refine(PP.out _).mono ?_
    rintro e w' ⟨rfl,rfl⟩
    go_wp2
    go_round
    case rel=>exact⟨k+1,X+d,by omega,by go_num,by go_num,by rw[xJ,HV.out,←HX.out,DD.out];simp⟩
    case measure=>simp[intOf];omega
  ·have ke:=zW (show k=4 by omega)
   have ki:¬(k:Int)<4:=zBY
   go_wp2
   go_ret
   have e:X=Z:=by rw[HX.out,ke.out,ZZ.out]
   rw[←e]
   exact⟨rfl,rfl⟩
end
section
open Go.RowKit Num Dec Cpu
def upL(x n:Nat):List Int:=(List.range n).map fun j:Nat=>(x:Int)+(j:Int)
def dnL(x n:Nat):List Int:=(List.range n).map fun j:Nat=>(x:Int)-(j:Int)
theorem W4(x n:Nat):upL x (n+1)=upL x n++[(x:Int)+(n:Int)]:=by simp[upL,List.range_succ]
theorem EJ(x n:Nat):dnL x (n+1)=dnL x n++[(x:Int)-(n:Int)]:=by simp[dnL,List.range_succ]
def uM(x y:Nat):List Int:=if x≤y then upL x (y-x+1)else dnL x (x-y+1)
def vD(x y:Nat):Nat:=if x≤y then y-x+1 else x-y+1
theorem gU(x y:Nat):(uM x y).length=vD x y:=by unfold uM vD;split<;>simp[upL,dnL]
theorem zK2(x y:Nat)(w:World)(hx:x≤15)(hy:y≤15)(h:x≤y):
  Calls Tryz.prog 152 #[.int .i64 (x:Int),.int .i64 (y:Int)] w fun e w'=>∃A c,e=.returned (.slice A (y-x+1) c)∧w'.ownsRow w.heap.size 3 1 (.slice A (y-x+1) c) (y-x+1) ((upL x (y-x+1)).map (Value.int .i64))∧Below w.heap.size w w':=by
 have HX:=zW (zY hx (zY hy h));have hI:(x:Int)≤(y:Int):=zBY;obtain⟨m,hm⟩:∃m,y-x+1=m:=⟨_,rfl⟩;rw[hm];have HM:=zW hm;clear hx hy h hm;go_enter Tryz.func152,Tryz.ntmps152;go_wp2_with fail;go_loopw [5,6] (fun v5 v6 wr=>∃k:Nat,k≤m∧v6=.int .i64 ((x:Int)+(k:Int))∧wr.ownsRow w.heap.size 3 1 v5 k ((upL x k).map (Value.int .i64))∧Below w.heap.size w wr) (fun _ v6 _=>m+x-(intOf v6).toNat)
 case atStart=>exact⟨0,qE _,by simp,qO _ _ _ _,zB _ _⟩
 case round=>
  obtain⟨k,hk,rfl,ho,hb⟩:=hrel
  have HO:=zW ho
  have HB:=zW hb
  clear ho hb
  by_cases hlt:k<m
  ·have HK:=zW hlt
   have hki:(x:Int)+(k:Int)≤(y:Int):=by have:=HM.out;have:=HX.out;omega
   have hb1:(x:Int)+(k:Int)≤100:=by have:=HX.out;omega
   have hb0:0≤(x:Int)+(k:Int):=zBY
   obtain⟨A,c,rfl⟩:=vQ HO.out
   clear hk hlt
   go_upto_region 6 with fail
   refine zN ?_
   obtain⟨z,hz⟩:∃z:Int,(x:Int)+(k:Int)=z:=⟨_,rfl⟩
   have HZ:=zW hz
   rw[hz]at hki hb1 hb0⊢
   clear hz
   have R1:=zW (gB (Value.int .i64) wr z 3)
   have B1:=zW (HB.out.alloc HB.out.size (.cells #[.int .i64 z] 3))
   have O1:=zW (HO.out.alloc (.cells #[.int .i64 z] 3))
   iterate 9 go_step
   refine vX dW dJ rfl (.tmp 17) (.tmp 19) rfl w.heap.size _ k (upL x k) rfl O1.out (some ⟨wr.heap.size,0,none⟩) 1 1 [z] rfl R1.out rfl zRD zBH B1.out.size ?_
   intro v2 w2 o2 g2
   have B2:=zW (B1.out.grown g2 B1.out.size fun j ej=>(O1.out.lt j ej).1)
   have O2:=zW o2
   clear o2 g2 O1 B1 R1 HO HB
   simp only[Act.put,zQ,zZ,zJ]
   go_wp2_with fail
   exact⟨⟨k+1,HK.out,by have:=HZ.out;first|rfl|(congr 1;omega)|(congr 1;push_cast;omega),by rw[W4,HZ.out];exact O2.out,B2.out⟩,by have:=HK.out;have:=HZ.out;simp[intOf];omega⟩
  ·obtain rfl:k=m:=by omega
   have hki:¬(x:Int)+(k:Int)≤(y:Int):=by have:=HM.out;have:=HX.out;omega
   obtain⟨A,c,rfl⟩:=vQ HO.out
   clear hk hlt
   go_wp2_with fail
   go_ret
   exact⟨A,c,rfl,HO.out,HB.out⟩
theorem CN(x y:Nat)(w:World)(hx:x≤15)(hy:y≤15)(h:y<x):
  Calls Tryz.prog 152 #[.int .i64 (x:Int),.int .i64 (y:Int)] w fun e w'=>∃A c,e=.returned (.slice A (x-y+1) c)∧w'.ownsRow w.heap.size 3 1 (.slice A (x-y+1) c) (x-y+1) ((dnL x (x-y+1)).map (Value.int .i64))∧Below w.heap.size w w':=by
 have HX:=zW (zY hx (zY hy h));have hI:¬(x:Int)≤(y:Int):=zBY;obtain⟨m,hm⟩:∃m,x-y+1=m:=⟨_,rfl⟩;rw[hm];have HM:=zW hm;clear hx hy h hm;go_enter Tryz.func152,Tryz.ntmps152;go_wp2_with fail;go_loopw [5,7] (fun v5 v6 wr=>∃k:Nat,k≤m∧v6=.int .i64 ((x:Int)-(k:Int))∧wr.ownsRow w.heap.size 3 1 v5 k ((dnL x k).map (Value.int .i64))∧Below w.heap.size w wr) (fun _ v6 _=>(intOf v6+1).toNat)
 case atStart=>exact⟨0,qE _,by simp,qO _ _ _ _,zB _ _⟩
 case round=>
  obtain⟨k,hk,rfl,ho,hb⟩:=hrel
  have HO:=zW ho
  have HB:=zW hb
  clear ho hb
  by_cases hlt:k<m
  ·have HK:=zW hlt
   have hki:(x:Int)-(k:Int)≥(y:Int):=by have:=HM.out;have:=HX.out;omega
   have hb1:(x:Int)-(k:Int)≤100:=by have:=HX.out;omega
   have hb0:0≤(x:Int)-(k:Int):=by have:=HM.out;have:=HX.out;omega
   obtain⟨A,c,rfl⟩:=vQ HO.out
   clear hk hlt
   go_upto_region 11 with fail
   refine zN ?_
   obtain⟨z,hz⟩:∃z:Int,(x:Int)-(k:Int)=z:=⟨_,rfl⟩
   have HZ:=zW hz
   rw[hz]at hki hb1 hb0⊢
   clear hz
   have R1:=zW (gB (Value.int .i64) wr z 3)
   have B1:=zW (HB.out.alloc HB.out.size (.cells #[.int .i64 z] 3))
   have O1:=zW (HO.out.alloc (.cells #[.int .i64 z] 3))
   iterate 9 go_step
   refine vX dW dJ rfl (.tmp 28) (.tmp 30) rfl w.heap.size _ k (dnL x k) rfl O1.out (some ⟨wr.heap.size,0,none⟩) 1 1 [z] rfl R1.out rfl zRD zBH B1.out.size ?_
   intro v2 w2 o2 g2
   have B2:=zW (B1.out.grown g2 B1.out.size fun j ej=>(O1.out.lt j ej).1)
   have O2:=zW o2
   clear o2 g2 O1 B1 R1 HO HB
   simp only[Act.put,zQ,zZ,zJ]
   go_wp2_with fail
   exact⟨⟨k+1,HK.out,by have:=HZ.out;first|rfl|(congr 1;omega)|(congr 1;push_cast;omega),by rw[EJ,HZ.out];exact O2.out,B2.out⟩,by have:=HK.out;have:=HZ.out;simp[intOf];omega⟩
  ·obtain rfl:k=m:=by omega
   have hki:¬(x:Int)-(k:Int)≥(y:Int):=by have:=HM.out;have:=HX.out;omega
   obtain⟨A,c,rfl⟩:=vQ HO.out
   clear hk hlt
   go_wp2_with fail
   go_ret
   exact⟨A,c,rfl,HO.out,HB.out⟩
end
end Go.Proofs.YtcjldabaekbdlaaGreatDoor
