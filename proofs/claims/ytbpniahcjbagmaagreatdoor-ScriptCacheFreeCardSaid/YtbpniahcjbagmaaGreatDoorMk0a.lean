/- Num, DecNum, AluNum, Calm, Row, Mix, Blk, Spl, Arr, Byt, AudNum, Pat, Regs, InsV, Cells, Late, Plain, AppRow, CpuSt, AluRef, StkRef, CpuRef1, ScrNum, CpuRef2, CpuRef3, FontNum, MemNum, MemBlk, AddrNum, FontAdd. -/
import Derived.Test.YtbpniahcjbagmaaGreatDoorRows
import Derived.Test.YtbpniahcjbagmaaGreatDoorProg
import Derived.Test.YtbpniahcjbagmaaGreatDoorMn
set_option maxRecDepth 400000
set_option maxHeartbeats 64000000
set_option linter.unusedVariables false
set_option linter.unusedSimpArgs false
namespace Go.Proofs.YtbpniahcjbagmaaGreatDoor
section
namespace Num
open Go.RowKit
theorem tT(n:Int)(h₀:0≤n)(h₁:n<2^62):IntKind.i64.wrap n=n:=by rw[zU];omega
theorem or256(h l:Int)(h0:0≤h)(h1:h≤255)(l0:0≤l)(l1:l≤255):bits .or .i64 (h*256) l=h*256+l:=
 bits_join .i64 62 zGL tT 8 (h*256) l zGX zGX zGX l0 zGX zGX
theorem zWZ(x:Int)(h0:0≤x)(h1:x≤4294967295):bits .and .i64 x 15=x%16:=
 bits_mask .i64 62 zGL tT 4 zGL x h0 zGX
theorem and255(x:Int)(h0:0≤x)(h1:x≤4294967295):bits .and .i64 x 255=x%256:=
 bits_mask .i64 62 zGL tT 8 zGL x h0 zGX
theorem zN7(x:Int)(h0:0≤x)(h1:x≤4294967295):bits .and .i64 x 4095=x%4096:=
 bits_mask .i64 62 zGL tT 12 zGL x h0 zGX
theorem iI(n k:Int)(h:0≤n):n.tmod k=n%k:=kF h
theorem wM{k:IntKind}{a b:Int}(h:a=b):Ending.returned (.int k a)=.returned (.int k b):=by rw[h]
theorem zJ6{a b c d e f a' b' c' d' e' f':Int}(h1:a=a')(h2:b=b')(h3:c=c')(h4:d=d')(h5:e=e')(h6:f=f'):
  Ending.returned (.agg #[.int .i64 a,.int .i64 b,.int .i64 c,.int .i64 d,.int .i64 e,.int .i64 f])=.returned (.agg #[.int .i64 a',.int .i64 b',.int .i64 c',.int .i64 d',.int .i64 e',.int .i64 f']):=by
 rw[h1,h2,h3,h4,h5,h6]
theorem bd_u8{a:Int}(h:(Lit.int .u8 a).wf=true):0≤a∧a≤255:=by
 simp[Lit.wf,IntKind.min,IntKind.max,IntKind.signed,IntKind.bits]at h;omega
theorem bd_i64{a:Int}(h:(Lit.int .i64 a).wf=true): -9223372036854775808≤a∧a≤9223372036854775807:=by
 simp[Lit.wf,IntKind.min,IntKind.max,IntKind.signed,IntKind.bits]at h;omega
end Num
namespace Dec
inductive Pk|pNone|pX|pN|pXY|pXYN|pXNN|pAddr|pXAddr|pPlanes|pNext
def pkN:Pk→Nat
 |.pNone=>0
 |.pX=>1
 |.pN=>2
 |.pXY=>3
 |.pXYN=>4
 |.pXNN=>5
 |.pAddr=>6
 |.pXAddr=>7
 |.pPlanes=>8
 |.pNext=>9
theorem zY4(a b:Pk)(h:pkN a=pkN b):a=b:=by cases a<;>cases b<;>first|rfl|cases h
instance:DecidableEq Pk:=fun a b=>decidable_of_iff (pkN a=pkN b) ⟨zY4 a b,fun h=>by rw[h]⟩
structure Rl where
 mask:Nat
 code:Nat
 op:Nat
 level:Nat
 pk:Pk
instance:DecidableEq Rl:=fun a b=>decidable_of_iff (a.mask=b.mask∧a.code=b.code∧a.op=b.op∧a.level=b.level∧a.pk=b.pk) ⟨fun⟨h1,h2,h3,h4,h5⟩=>by cases a;cases b;simp only at h1 h2 h3 h4 h5;subst h1 h2 h3 h4 h5;rfl,fun h=>by rw[h];exact⟨rfl,rfl,rfl,rfl,rfl⟩⟩
def zLB:Rl:=⟨0,0,0,0,.pNone⟩
def rls:List Rl:=[
 ⟨65535,224,1,1,.pNone⟩,
 ⟨65535,238,2,1,.pNone⟩,
 ⟨61440,4096,3,1,.pAddr⟩,
 ⟨61440,8192,4,1,.pAddr⟩,
 ⟨61440,12288,5,1,.pXNN⟩,
 ⟨61440,16384,6,1,.pXNN⟩,
 ⟨61455,20480,7,1,.pXY⟩,
 ⟨61440,24576,8,1,.pXNN⟩,
 ⟨61440,28672,9,1,.pXNN⟩,
 ⟨61455,32768,10,1,.pXY⟩,
 ⟨61455,32769,11,1,.pXY⟩,
 ⟨61455,32770,12,1,.pXY⟩,
 ⟨61455,32771,13,1,.pXY⟩,
 ⟨61455,32772,14,1,.pXY⟩,
 ⟨61455,32773,15,1,.pXY⟩,
 ⟨61455,32774,16,1,.pXY⟩,
 ⟨61455,32775,17,1,.pXY⟩,
 ⟨61455,32782,18,1,.pXY⟩,
 ⟨61455,36864,19,1,.pXY⟩,
 ⟨61440,40960,20,1,.pAddr⟩,
 ⟨61440,45056,21,1,.pXAddr⟩,
 ⟨61440,49152,22,1,.pXNN⟩,
 ⟨61455,53248,41,2,.pXY⟩,
 ⟨61440,53248,23,1,.pXYN⟩,
 ⟨61695,57502,24,1,.pX⟩,
 ⟨61695,57505,25,1,.pX⟩,
 ⟨61695,61447,26,1,.pX⟩,
 ⟨61695,61450,27,1,.pX⟩,
 ⟨61695,61461,28,1,.pX⟩,
 ⟨61695,61464,29,1,.pX⟩,
 ⟨61695,61470,30,1,.pX⟩,
 ⟨61695,61481,31,1,.pX⟩,
 ⟨61695,61491,32,1,.pX⟩,
 ⟨61695,61525,33,1,.pX⟩,
 ⟨61695,61541,34,1,.pX⟩,
 ⟨65520,192,35,2,.pN⟩,
 ⟨65535,251,36,2,.pNone⟩,
 ⟨65535,252,37,2,.pNone⟩,
 ⟨65535,253,38,2,.pNone⟩,
 ⟨65535,254,39,2,.pNone⟩,
 ⟨65535,255,40,2,.pNone⟩,
 ⟨61695,61488,42,2,.pX⟩,
 ⟨61695,61557,43,2,.pX⟩,
 ⟨61695,61573,44,2,.pX⟩,
 ⟨65520,208,45,3,.pN⟩,
 ⟨61455,20482,46,3,.pXY⟩,
 ⟨61455,20483,47,3,.pXY⟩,
 ⟨65535,61440,48,3,.pNext⟩,
 ⟨61695,61441,49,3,.pPlanes⟩,
 ⟨65535,61442,50,3,.pNone⟩,
 ⟨61695,61498,51,3,.pX⟩]
def fit(n:Nat)(r:Rl):Bool:=Nat.beq (Nat.land n r.mask) r.code
def tP(n:Nat):List Rl→Rl
 |[]=>zLB
 |r::rs=>bif fit n r then r else tP n rs
def top(n:Nat):Rl:=tP n rls
theorem MA:rls.length=51:=rfl
theorem zZ4(n k:Nat)(h:k<rls.length)(hf:fit n rls[k]=false)(ht:top n=tP n (rls.drop k)):top n=tP n (rls.drop (k+1)):=by
 rw[ht,List.drop_eq_getElem_cons h];simp[tP,hf]
theorem zW6(n k:Nat)(h:k<rls.length)(hf:fit n rls[k]=true)(ht:top n=tP n (rls.drop k)):top n=rls[k]:=by
 rw[ht,List.drop_eq_getElem_cons h];simp[tP,hf]
theorem zW7(n k:Nat)(h:rls.length≤k)(ht:top n=tP n (rls.drop k)):top n=zLB:=by
 rw[ht,List.drop_eq_nil_of_le h];rfl
theorem CR(n:Nat)(r:Rl):fit n r=true↔n&&&r.mask=r.code:=by
 unfold fit;rw[Nat.beq_eq];rfl
theorem zNM{n:Nat}{r:Rl}(h:n&&&r.mask=r.code):fit n r=true:=(CR n r).2 h
theorem fit_no{n:Nat}{r:Rl}(h:¬n&&&r.mask=r.code):fit n r=false:=by
 cases hf:fit n r
 ·rfl
 ·exact absurd ((CR n r).1 hf) h
theorem zYF(p:Rl→Bool)(h:rls.all p=true)(k:Nat)(hk:k<rls.length):p rls[k]=true:=jJ.1 h _ (j4 hk)
theorem JQ(p:Rl→Bool)(hz:p zLB=true)(n:Nat):∀l:List Rl,l.all p=true→p (tP n l)=true
 |[],_=>hz
 |r::rs,h=>by
  rw[List.all_cons,zC]at h;unfold tP;cases fit n r
  ·exact JQ p hz n rs h.2
  ·exact h.1
theorem zW8(p:Rl→Bool)(hz:p zLB=true)(h:rls.all p=true)(n:Nat):p (top n)=true:=JQ p hz n rls h
structure Ins where
 op:Int
 x:Int
 y:Int
 n:Int
 nn:Int
 addr:Int
 len:Int
instance:DecidableEq Ins:=fun a b=>decidable_of_iff (a.op=b.op∧a.x=b.x∧a.y=b.y∧a.n=b.n∧a.nn=b.nn∧a.addr=b.addr∧a.len=b.len) ⟨fun⟨h1,h2,h3,h4,h5,h6,h7⟩=>by cases a;cases b;simp only at h1 h2 h3 h4 h5 h6 h7;subst h1 h2 h3 h4 h5 h6 h7;rfl,fun h=>by rw[h];exact⟨rfl,rfl,rfl,rfl,rfl,rfl,rfl⟩⟩
def pX(p:Pk)(x:Int):Int:=match p with| .pX| .pXY| .pXYN| .pXNN| .pXAddr=>x|_=>0
def pY(p:Pk)(y:Int):Int:=match p with| .pXY| .pXYN=>y|_=>0
def pN(p:Pk)(x n:Int):Int:=match p with| .pN| .pXYN=>n| .pPlanes=>x|_=>0
def pNN(p:Pk)(nn:Int):Int:=match p with| .pXNN=>nn|_=>0
def pA(p:Pk)(nnn next:Int):Int:=match p with| .pAddr| .pXAddr=>nnn| .pNext=>next|_=>0
def PS(l x:Int):Bool:=decide ((l=2∧0≤x∧x≤7)∨(l=3∧0≤x∧x≤15))
def alw(r:Rl)(l x:Int):Bool:=bif (r.op==43||r.op==44)then PS l x else(decide ((r.level:Int)≤l)&&decide (l≤3))
def skl(h l:Nat)(level:Int):Int:=if level=3∧h=240∧l=0 then 4 else 2
def dx(h:Nat):Nat:=h%16
def ok(b0 b1:Nat)(l:Int):Bool:=(top (b0*256+b1)).op !=0&&alw (top (b0*256+b1)) l (dx b0:Nat)
def dec(b0 b1 b2 b3:Nat)(l:Int):Ins:=bif ok b0 b1 l then
  ⟨(top (b0*256+b1)).op,pX (top (b0*256+b1)).pk (dx b0:Nat),pY (top (b0*256+b1)).pk (b1/16:Nat),pN (top (b0*256+b1)).pk (dx b0:Nat) (b1%16:Nat),pNN (top (b0*256+b1)).pk (b1:Nat),pA (top (b0*256+b1)).pk (dx b0*256+b1:Nat) (b2*256+b3:Nat),skl b0 b1 l⟩
 else⟨0,0,0,0,0,0,skl b0 b1 l⟩
def lvOf(op:Int):List Rl→Int
 |[]=>0
 |r::rs=>if(r.op:Int)=op then r.level else lvOf op rs
def lv(op:Int):Int:=lvOf op rls
def lvR(op:Int):Int:=if op<1∨51<op then 0 else if op≤34 then 1 else if op≤44 then 2 else 3
def xF:Nat→(Nat→Bool)→Bool
 |0,_=>true
 |n+1,f=>f n&&xF n f
theorem nX:∀(n:Nat) (f:Nat→Bool),xF n f=true→∀k,k<n→f k=true
 |n+1,f,h,k,hk=>by
  unfold xF at h;rw[zC]at h;rcases Nat.lt_succ_iff_lt_or_eq.1 hk with h1|h1
  ·exact nX n f h.2 k h1
  ·rw[h1];exact h.1
end Dec
namespace Cpu
open Dec
structure Pr where
 lv:Int
 sh:Bool
 ki:Bool
 jx:Bool
 lr:Bool
 cl:Bool
 dw:Bool
 fa:Bool
def b2(b:Bool):Nat:=if b=true then 1 else 0
def upd(v:Nat→Nat)(k r:Nat):Nat→Nat:=fun j=>if j=k then r else v j
def OkV(v:Nat→Nat):Prop:=∀j,j<16→v j<256
def gE(op:Int)(x y s nn:Nat):Nat:=
 if op=8 then nn else if op=9 then(x+nn)%256 else if op=10 then y else if op=11 then x|||y else if op=12 then x&&&y else if op=13 then x^^^y else
 if op=14 then(x+y)%256 else if op=15 then(x+256-y)%256 else if op=16 then s/2 else if op=17 then(y+256-x)%256 else 2*s%256
def pF(op:Int)(x y s:Nat)(lr:Bool):Option Nat:=
 if op=11∨op=12∨op=13 then(if lr=true then some 0 else none)else if op=14 then some (b2 (decide (255<x+y)))else if op=15 then some (b2 (decide (y≤x)))else
 if op=16 then some (s%2)else if op=17 then some (b2 (decide (x≤y)))else if op=18 then some (s/128)else none
def eW(op:Int):Bool:=decide (8≤op)&&decide (op≤18)
def shX(v:Nat→Nat)(i:Ins)(q:Pr):Nat:=if q.sh=true then v i.y.toNat else v i.x.toNat
def bQ(v:Nat→Nat)(i:Ins)(q:Pr):Nat→Nat:=
 if eW i.op=true then
  match pF i.op (v i.x.toNat) (v i.y.toNat) (shX v i q) q.lr with
  |none=>upd v i.x.toNat (gE i.op (v i.x.toNat) (v i.y.toNat) (shX v i q) i.nn.toNat)
  |some f=>upd (upd v i.x.toNat (gE i.op (v i.x.toNat) (v i.y.toNat) (shX v i q) i.nn.toNat)) 15 f
 else v
def fX(op:Int):Bool:=decide (op=5)||(decide (op=6)||(decide (op=7)||decide (op=19)))
def skB(v:Nat→Nat)(i:Ins):Bool:=
 if i.op=5 then decide ((v i.x.toNat:Int)=i.nn)else if i.op=6 then !decide ((v i.x.toNat:Int)=i.nn)else if i.op=7 then decide (v i.x.toNat=v i.y.toNat)else if i.op=19 then !decide (v i.x.toNat=v i.y.toNat)else false
theorem zXF{x y:Nat}(hx:x<256)(hy:y<256):x|||y<256:=Nat.or_lt_two_pow (n:=8) hx hy
theorem LH{x y:Nat}(hx:x<256)(hy:y<256):x^^^y<256:=Nat.xor_lt_two_pow (n:=8) hx hy
theorem PT{x y:Nat}(hx:x<256)(hy:y<256):x&&&y<256:=Nat.lt_of_le_of_lt Nat.and_le_left hx
theorem aP(b:Bool):b2 b≤1:=by unfold b2;split<;>omega
theorem zN9{op:Int}{x y s nn:Nat}(hx:x<256)(hy:y<256)(hs:s<256)(hn:nn<256):gE op x y s nn<256:=by
 unfold gE;have:=zXF hx hy;have:=LH hx hy;have:=PT hx hy;repeat' split
 all_goals omega
theorem zHQ{op:Int}{x y s f:Nat}{lr:Bool}(hs:s<256)(h:pF op x y s lr=some f):f≤1:=by
 unfold pF at h;have h1:=aP (decide (255<x+y));have h2:=aP (decide (y≤x));have h3:=aP (decide (x≤y));split at h
 ·split at h
  ·injection h with h;omega
  ·cases h
 ·split at h
  ·injection h with h;omega
  ·split at h
   ·injection h with h;omega
   ·split at h
    ·injection h with h;omega
    ·split at h
     ·injection h with h;omega
     ·split at h
      ·injection h with h;omega
      ·cases h
theorem eF{v:Nat→Nat}(h:OkV v)(k r:Nat)(hr:r<256):OkV (upd v k r):=fun j hj=>by
 unfold upd;split
 ·exact hr
 ·exact h j hj
end Cpu
end
section
open Go.RowKit
def lA(W:World):Type:={w':World//Below W.heap.size W w'}
def lA.w{W:World}(x:lA W):World:=x.1
theorem lA.below{W:World}(x:lA W):Below W.heap.size W x.w:=x.2
instance(W:World):Nonempty (lA W):=⟨⟨W,zB _ _⟩⟩
theorem lA.cell{W:World}{b o:Nat}{v:Value}(h:W.cell? ⟨b,o,none⟩=some v)(hb:b<W.heap.size)(x:lA W):x.w.cell? ⟨b,o,none⟩=some v:=
 (x.below.cell (p:=⟨b,o,none⟩) hb).trans h
theorem m7{P:Program}{id:Nat}{l:List Oper}{Q:Exit→Act→World→Prop}{a:Act}{W:World}(hm:P.follows .mixedOrders=true)(hB:Region.lexB .any l.toArray=true)
  (h:wpQuiet P l.toArray (fun w'=>∃x:lA W,w'=x.w) (fun a'=>∀w',(∃x:lA W,w'=x.w)→Q .normal a' w') l a):(Code.region id l.toArray true).wp P Q a W:=
 wp_region_quiet (C:=fun w'=>∃x:lA W,w'=x.w) hm hB ⟨⟨W.drew,(zB _ _).drew⟩,rfl⟩ (by simpa using h)
theorem nK{P:Program}{f:FuncId}{args:Array Value}{v:Value}{W:World}{x:lA W}(h:Calls P f args x.w fun e w'=>e=.returned v∧Below x.w.heap.size x.w w'):
  Calls P f args x.w fun e w''=>e=.returned v∧∃y:lA W,w''=y.w:=
 h.mono fun _ w' ⟨he,hb⟩=>⟨he,⟨w',x.below.trans (hb.mono x.below.size)⟩,rfl⟩
theorem cJ{P:Program}{f:FuncId}{args:Array Value}{v:Value}{W:World}{x:lA W}(h:Calls P f args x.w fun e w'=>e=.returned v∧x.w=w'):
  Calls P f args x.w fun e w''=>e=.returned v∧∃y:lA W,w''=y.w:=
 h.mono fun _ _ ⟨he,hb⟩=>⟨he,x,hb.symm⟩
def Row{α:Type}(enc:α→Value)(w:World)(A:Option Addr)(L:List α):Prop:=
 L≠[]→∃b o,A=some ⟨b,o,none⟩∧b<w.heap.size∧∀j (h:j<L.length),w.cell? ⟨b,o+j,none⟩=some (enc L[j])
section
variable {α:Type} {enc:α→Value} {w w':World} {A:Option Addr} {L:List α}
theorem Row.nil:Row enc w A []:=fun h=>absurd rfl h
theorem Row.at_(h:Row enc w A L){k:Nat}(hk:k<L.length):∃b o,A=some ⟨b,o,none⟩∧b<w.heap.size∧w.cell? ⟨b,o+k,none⟩=some (enc L[k]):=by
 obtain⟨b,o,hA,hb,hc⟩:=h zG2;exact⟨b,o,hA,hb,hc k hk⟩
theorem Row.below(h:Row enc w A L)(hb:Below w.heap.size w w'):Row enc w' A L:=fun hne=>by
 obtain⟨b,o,hA,hlt,hc⟩:=h hne;exact⟨b,o,hA,zD hlt hb.size,fun j hj=>(hb.cell (p:=⟨b,o+j,none⟩) hlt).trans (hc j hj)⟩
theorem Row.of_own{base:Nat}{e:TypeId}{n c:Nat}(h:w.ownsRow base e 1 (.slice A n c) n (L.map enc)):Row enc w A L:=fun hne=>by
 have hl:L.length=n:=by have:=h.1;simpa using this
 have hpos:0<n:=by rw[←hl];exact List.length_pos_iff.2 hne
 obtain⟨g,cap,hv,_,hlt⟩:=h.form hpos;have hA:A=some ⟨g,0,none⟩:=by injection hv
 subst hA;refine⟨g,0,rfl,hlt,fun j hj=>?_⟩;have:=h.cellAt (g:=g) j zGX;rw[qL,this];simp[hj]
end
theorem uN{w:World}{base n:Nat}{e:TypeId}{v:Value}{xs:List Value}(h:w.ownsRow base e 1 v n xs):∃A cap,v=.slice A n cap:=by
 rcases h.2 with⟨rfl,rfl⟩|⟨g,cap,cur,rfl,_⟩
 ·exact⟨none,0,rfl⟩
 ·exact⟨_,cap,rfl⟩
theorem bR{w:World}{base base' size n:Nat}{e:TypeId}{v:Value}{xs:List Value}(h:w.ownsRow base e size v n xs)(hb:base'≤base):w.ownsRow base' e size v n xs:=by
 refine⟨h.1,h.2.imp id ?_⟩;rintro⟨g,cap,cur,hv,hg,r⟩;exact⟨g,cap,cur,hv,zR hb hg,r⟩
section
variable {P:Program} {ops:Array Oper} {C:World→Prop} {Q:Exit→Act→World→Prop} {md:Region.Mode}
def tJ:Op→Bool
 |.move _| .assign _| .pick ..| .binOp ..| .unOp ..| .slice ..| .convert ..| .index ..| .indexAddr ..| .load ..| .fieldAddr ..| .field ..| .extract ..| .nilCheck _| .build ..=>true
 |.call c=>match c.callee with| .builtin .len| .builtin .cap=>true|_=>false
 |_=>false
theorem eV{s:Sem Value}{w w':World}{n:Next}(hr:(Sem.run P (do pure (.value (←s)):Sem Next) w)=.ok n w'):∃u,n=.value u:=by
 rw[zA]at hr;cases h:s.run P w with
 |ok u w1=>rw[h]at hr;simp[Result.andThen]at hr;exact⟨u,hr.1.symm⟩
 |halt x w1=>rw[h]at hr;simp[Result.andThen]at hr
theorem VH{o:Oper}{ρ:Operand→Value}{w w':World}{n:Next}(h:tJ o.op=true)(hr:(execOp ρ o).run P w=.ok n w'):∃u,n=.value u:=by
 obtain⟨dst,op,ty,pos,after,guard⟩:=o;cases op
 case call c=>
  obtain⟨callee,args,ats⟩:=c
  cases callee
  case builtin b=>
   cases b<;>simp[tJ]at h
   all_goals
    rw[BigFrame.execOp_builtin]at hr
    first|rw[BigFrame.builtin_len]at hr|rw[BigFrame.builtin_cap]at hr
    exact eV hr
  all_goals simp[tJ]at h
 case move x=>unfold execOp at hr;simp at hr;exact⟨_,hr.1.symm⟩
 case assign x=>unfold execOp at hr;simp at hr;exact⟨_,hr.1.symm⟩
 case pick c a b=>
  unfold execOp at hr
  simp only[zA]at hr
  cases hc:(asBool (ρ c)).run P w with
  |ok u w1=>rw[hc]at hr;simp[Result.andThen]at hr;exact⟨_,hr.1.symm⟩
  |halt x w1=>rw[hc]at hr;simp[Result.andThen]at hr
 case nilCheck x=>
  unfold execOp at hr
  simp only at hr
  split at hr
  all_goals first|(simp at hr;exact⟨_,hr.1.symm⟩)|(simp[runtimePanic,goPanic]at hr;done)|skip
  split at hr
  ·simp[runtimePanic,goPanic]at hr
  ·simp only[zA]at hr
   revert hr
   cases Sem.run P program w<;>simp[Result.andThen]
   rename_i p w1
   cases Sem.run P (nilAhead (p.types.size+Made.depth) _ _ _) w1<;>simp
   rename_i b w2
   intro hr
   split at hr
   all_goals first
    |(simp at hr;exact⟨_,hr.1.symm⟩)
    |(simp at hr;done)
    |(revert hr;cases Sem.run P (unsupported _:Sem PUnit) w2<;>simp[Result.andThen];intro h _;exact⟨_,h.symm⟩)
  all_goals (simp at hr;exact⟨_,hr.1.symm⟩)
 all_goals first|(simp[tJ]at h;done)|(unfold execOp at hr;exact eV hr)
theorem uJ{o:Oper}{a:Act}{K:Act→Prop}(hp:tJ o.op=true)(hne:∃w,C w)
  (h:if Region.wanted o (yielded ops a.tmps)then o.quiet P a C K else K (a.put o.dst undef)):∃v,YieldsIf P ops C o v a∧K (a.put o.dst v):=by
 by_cases hw:Region.wanted o (yielded ops a.tmps)=true
 ·simp only[hw,if_true]at h;obtain⟨v,h1,h2⟩:=h;refine⟨v,.inl ⟨hw,fun w hC=>?_⟩,h2⟩;have h3:=h1 w hC;unfold Oper.quietAt at h3;cases hr:(execOp a.eval o).run P w with
  |ok n w'=>
   obtain⟨u,rfl⟩:=VH hp hr
   rw[hr]at h3
   simp only[Oper.quietUpon]at h3
   obtain⟨rfl,rfl⟩:=h3
   rfl
  |halt x w'=>rw[hr]at h3;simp only[Oper.quietUpon]at h3
 ·simp only[hw]at h;exact⟨undef,.inr ⟨by simpa using hw,rfl⟩,h⟩
def lW(ops:Array Oper):List Nat→List Oper
 |[]=>[]
 |i::is=>match ops[i]? with|some o=>o::lW ops is|none=>lW ops is
def nL(listed:Array Bool):List Nat→Array Bool
 |[]=>listed
 |i::is=>nL (listed.setIfInBounds i true) is
def QG(md:Region.Mode)(ops:Array Oper):List Nat→Array Bool→Bool
 |[],_=>true
 |i::is,listed=>(match ops[i]? with|some o=>tJ o.op|none=>false)&&(Region.ready md ops listed).contains i&&Region.free md ops listed i&&QG md ops is (listed.setIfInBounds i true)
theorem wS(hs:Region.noSelect ops=true)(hQ:∀(c:_) (a:Act) (d:Option Tmp) (v:Value) (w:World),Q (.panic c) (a.put d v) w→Q (.panic c) a w)(fuel:Nat){w:World}(hC:C w):∀(is:List Nat) (listed:Array Bool) (a:Act),
  QG md ops is listed=true→wpQuiet P ops C (fun a'=>wpAnyH P md ops Q C fuel (nL listed is) a' w) (lW ops is) a→wpAnyH P md ops Q C (fuel+is.length) listed a w
 |[],listed,a,_,h=>h
 |i::is,listed,a,hB,h=>by
  simp only[QG,zC]at hB;obtain⟨⟨⟨hp,hr⟩,hf⟩,hB'⟩:=hB;cases ho:ops[i]? with
  |none=>rw[ho]at hp;cases hp
  |some o=>
   rw[ho]at hp
   simp only[lW,ho,wpQuiet]at h
   obtain⟨v,hy,hK⟩:=uJ hp ⟨w,hC⟩ h
   exact wpAnyH_take ho hs hf hr (fun c a w=>hQ c a o.dst v w) hy hC (wS hs hQ fuel hC is _ _ hB' hK)
def rK(P:Program)(ops:Array Oper)(C:World→Prop)(Q:Exit→Act→World→Prop):List (List Nat×Nat)→List Nat→Act→World→Prop
 |[],last,a,w=>wpQuiet P ops C (fun a'=>Q .normal a' w) (lW ops last) a
 |(is,c)::rest,last,a,w=>wpQuiet P ops C (fun a'=>match ops[c]? with
   |none=>False
   |some o=>if Region.wanted o (yielded ops a'.tmps)then o.wp P a' w (fun a'' w''=>C w''∧rK P ops C Q rest last a'' w'') Q else rK P ops C Q rest last (a'.put o.dst undef) w) (lW ops is) a
def zX8(md:Region.Mode)(ops:Array Oper):List (List Nat×Nat)→List Nat→Array Bool→Bool
 |[],last,listed=>QG md ops last listed&&(Region.ready md ops (nL listed last)).isEmpty
 |(is,c)::rest,last,listed=>QG md ops is listed&&decide (Region.ready md ops (nL listed is)=[c])&&zX8 md ops rest last ((nL listed is).setIfInBounds c true)
def sQ:List (List Nat×Nat)→List Nat→Nat
 |[],last=>last.length
 |(is,c)::rest,last=>sQ rest last+1+is.length
theorem Z6(hs:Region.noSelect ops=true)(hQ:∀(c:_) (a:Act) (d:Option Tmp) (v:Value) (w:World),Q (.panic c) (a.put d v) w→Q (.panic c) a w)(k:Nat)(last:List Nat):∀(bs:List (List Nat×Nat)) (listed:Array Bool) (a:Act) (w:World),C w→
  zX8 md ops bs last listed=true→rK P ops C Q bs last a w→wpAnyH P md ops Q C (k+sQ bs last) listed a w
 |[],listed,a,w,hC,hB,h=>by
  simp only[zX8,zC]at hB;have hr:Region.ready md ops (nL listed last)=[]:=by simpa using hB.2
  refine wS hs hQ k hC last listed a hB.1 ?_;have mono:∀(l:List Oper) (a:Act),wpQuiet P ops C (fun a'=>Q .normal a' w) l a→wpQuiet P ops C (fun a'=>wpAnyH P md ops Q C k (nL listed last) a' w) l a:=by
   intro l;induction l with
   |nil=>intro a h;exact wpAnyH_done hr h k
   |cons o l ih=>
    intro a h
    simp only[wpQuiet]at h⊢
    split
    ·rename_i hw;simp only[hw,if_true]at h;exact Oper.quiet_mono (fun a h=>ih a h) h
    ·rename_i hw;simp only[hw]at h;exact ih _ h
  exact mono _ _ h
 |(is,c)::rest,listed,a,w,hC,hB,h=>by
  simp only[zX8,zC]at hB;obtain⟨⟨hB1,hB2⟩,hB3⟩:=hB;have hr:Region.ready md ops (nL listed is)=[c]:=by simpa using hB2
  simp only[sQ];rw[←qP];refine wS hs hQ _ hC is listed a hB1 ?_;simp only[rK]at h;have step:∀a':Act,(match ops[c]? with
   |none=>False
   |some o=>if Region.wanted o (yielded ops a'.tmps)then o.wp P a' w (fun a'' w''=>C w''∧rK P ops C Q rest last a'' w'') Q else rK P ops C Q rest last (a'.put o.dst undef) w)→wpAnyH P md ops Q C (k+(sQ rest last+1)) (nL listed is) a' w:=by
   intro a' ha;rw[←qP];refine wpAnyH_all hr zGN fun i hi=>?_;obtain rfl:i=c:=by simpa using hi
   unfold wpOp;cases ho:ops[i]? with
   |none=>rw[ho]at ha;exact ha.elim
   |some o=>
    rw[ho]at ha
    simp only at ha⊢
    split
    ·rename_i hw
     simp only[hw,if_true]at ha
     exact .inl (Oper.wp_mono (fun a'' w'' ⟨h1,h2⟩=>⟨h1,Z6 hs hQ k last rest _ a'' w'' h1 hB3 h2⟩) ha)
    ·rename_i hw
     simp only[hw]at ha
     exact⟨hC,Z6 hs hQ k last rest _ _ w hC hB3 ha⟩
  have mono:∀(l:List Oper) (a:Act),wpQuiet P ops C (fun a'=>match ops[c]? with
   |none=>False
   |some o=>if Region.wanted o (yielded ops a'.tmps)then o.wp P a' w (fun a'' w''=>C w''∧rK P ops C Q rest last a'' w'') Q else rK P ops C Q rest last (a'.put o.dst undef) w) l a→wpQuiet P ops C (fun a'=>wpAnyH P md ops Q C (k+(sQ rest last+1)) (nL listed is) a' w) l a:=by
   intro l;induction l with
   |nil=>intro a h;exact step a h
   |cons o l ih=>
    intro a h
    simp only[wpQuiet]at h⊢
    split
    ·rename_i hw;simp only[hw,if_true]at h;exact Oper.quiet_mono (fun a h=>ih a h) h
    ·rename_i hw;simp only[hw]at h;exact ih _ h
  exact mono _ _ h
theorem mT{id:Nat}{a:Act}{w:World}{l:List Oper}(bs:List (List Nat×Nat))(last:List Nat)(hm:P.follows .mixedOrders=true)
  (hB:(Region.noSelect l.toArray&&zX8 .any l.toArray bs last (Array.replicate l.toArray.size false)&&decide (sQ bs last≤l.toArray.size))=true)
  (hQ:∀(c:_) (a:Act) (d:Option Tmp) (v:Value) (w:World),Q (.panic c) (a.put d v) w→Q (.panic c) a w) (hC:C w.drew)
  (h:∀wd,wd=w.drew→rK P l.toArray C Q bs last a wd):(Code.region id l.toArray true).wp P Q a w:=by
 simp only[zC,qK]at hB;obtain⟨⟨hs,hb⟩,hle⟩:=hB;refine wp_region_held (S:=C) hm ?_;have:=Z6 (md:=.any) hs hQ (l.toArray.size-sQ bs last) last bs (Array.replicate l.toArray.size false) a w.drew hC hb (h _ rfl);rwa [Nat.sub_add_cancel hle]at this
def NT(P:Program)(ops:Array Oper)(C:World→Prop)(Q:Exit→Act→World→Prop)(rest:List (List Nat×Nat))(last:List Nat)(o:Oper)(w:World)(a:Act):Prop:=
 if Region.wanted o (yielded ops a.tmps)then o.wp P a w (fun a'' w''=>C w''∧rK P ops C Q rest last a'' w'') Q else rK P ops C Q rest last (a.put o.dst undef) w
theorem mD{is last:List Nat}{c:Nat}{rest:List (List Nat×Nat)}{l:List Oper}{o:Oper}{a:Act}{w:World}(hl:lW ops is=l)(ho:ops[c]?=some o)(h:wpQuiet P ops C (NT P ops C Q rest last o w) l a):rK P ops C Q ((is,c)::rest) last a w:=by
 subst hl;unfold rK;rw[ho];exact h
theorem vW{last:List Nat}{l:List Oper}{a:Act}{w:World}(hl:lW ops last=l)(h:wpQuiet P ops C (fun a'=>Q .normal a' w) l a):rK P ops C Q [] last a w:=by
 subst hl;exact h
theorem mH{rest:List (List Nat×Nat)}{last:List Nat}{o:Oper}{a:Act}{w:World}(hw:Region.wanted o (yielded ops a.tmps)=true)(h:∀K:Act→World→Prop,(∀a w,C w→rK P ops C Q rest last a w→K a w)→o.wp P a w K Q):NT P ops C Q rest last o w a:=by
 unfold NT;rw[zN hw];exact h _ fun a w hc h=>⟨hc,h⟩
end
structure yM where
 w:World
theorem yM.any(w:World):∃x:yM,w=x.w:=⟨⟨w⟩,rfl⟩
instance:Nonempty yM:=⟨⟨default⟩⟩
structure vZ(P:Program)(T:TypeId)(n:Nat):Prop where
 u:∃d,P.underlying T=some d∧d.isRow=true
 i:(P.info? T).map (·.size)=some n
def nH(P:Program)(T:TypeId)(z:Array Value):Prop:=(P.info? T).map (fun i=>(i.zero,i.size))=some (some (.agg z),z.size)
def n8(cs:Array Value):Prop:=cs.all (·.oneCell')=true
def Blk(b:Nat)(T:TypeId)(cs:Array Value)(w:World):Prop:=w.heap[b]?=some (.cells cs T (0,0))
theorem lU{B:Nat}{a w:World}(h:Below B a w){g:Nat}(hg:B≤g)(cs:Array Value):Below B a (w.setRow g cs):=
 h.trans ⟨rfl,rfl,rfl,by simp[World.setRow],fun k hk=>qQ w g k cs zGX⟩
section
variable {b:Nat} {T:TypeId} {cs ds:Array Value} {w w':World}
theorem Blk.lt(H:Blk b T cs w):b<w.heap.size:=(qM.1 H).1
theorem Blk.below(H:Blk b T cs w){n:Nat}(hb:Below n w w')(hn:b<n):Blk b T cs w':=(hb.block b hn).trans H
theorem Blk.step(H:Blk b T cs w)(hb:Below w.heap.size w w'):Blk b T cs w':=H.below hb H.lt
theorem Blk.new(w:World)(T:TypeId)(cs:Array Value):Blk w.heap.size T cs (w.alloc (.cells cs T)):=jH _ _
theorem Blk.alloc(H:Blk b T cs w)(o:Obj):Blk b T cs (w.alloc o):=H.step ((zB _ _).alloc (zG _) _)
theorem Blk.drew(H:Blk b T cs w):Blk b T cs w.drew:=H
theorem Blk.other(H:Blk b T cs w){g:Nat}(hg:b≠g)(o:Nat)(v:Value):Blk b T cs (w.setCell ⟨g,o,none⟩ v):=(qD w ⟨g,o,none⟩ v b hg).trans H
theorem Blk.otherRow(H:Blk b T cs w){g:Nat}(hg:b≠g)(ds:Array Value):Blk b T cs (w.setRow g ds):=(qQ w g b ds hg).trans H
theorem Blk.cell(H:Blk b T cs w)(j:Nat):w.cell? ⟨b,j,none⟩=cs[j]?:=jO w b j cs T (0,0) H
theorem Blk.frozen(H:Blk b T cs w)(j:Nat):w.frozen? ⟨b,j,none⟩=false:=frozen_of_row w b j cs T H
theorem Blk.store(H:Blk b T cs w)(ds:Array Value):Blk b T ds (w.setRow b ds):=setRow_heap w b _ _ T (0,0) H
theorem Blk.put(H:Blk b T cs w)(j:Nat)(v:Value):Blk b T (cs.setIfInBounds j v) (w.setCell ⟨b,j,none⟩ v):=heap_setCell_same w b j _ _ v H
theorem Blk.eq(H:Blk b T cs w)(e:cs=ds):Blk b T ds w:=e▸H
def lP(cs:Array Value)(o:Nat)(ds:Array Value):Array Value:=(cs.toList.take o++ds.toList++cs.toList.drop (o+ds.size)).toArray
end
section
variable {P:Program} {ops:Array Oper} {T ty:TypeId} {b o n:Nat} {cs ds:Array Value} {w:World} {Q:Exit→Act→World→Prop}
theorem QN(A:vZ P ty n)(H:Blk b T cs w)(ho:o+n≤cs.size):(loadVar ty ⟨b,o,none⟩).run P w=.ok (.agg (cs.extract o (o+n))) w:=by
 obtain⟨d,hu,hd⟩:=A.u;have h:=run_loadVar_mid (P:=P) w b o ty (cs.extract o (o+n)).toList d (World.rangeAt_of_block H o n) hu hd (by rw[A.i];simp;omega);rwa [Array.toArray_toList]at h
theorem rG{op:Oper}{ρ:Operand→Value}(A:vZ P ty n)(H:Blk b T cs w)(hn:o+n≤cs.size)(x:Operand)(ho:op.op=.load ty x)(hx:ρ x=.pointer (some ⟨b,o,none⟩)):(execOp ρ op).run P w=.ok (.value (.agg (cs.extract o (o+n)))) w:=by
 unfold execOp;simp only[ho,hx,Instr.loadAt,Instr.sureAddr,zA,Sem.run_pure,Result.andThen_ok,QN A H hn]
theorem eZ{op:Oper}{ρ:Operand→Value}(A:vZ P ty n)(H:Blk b T cs w)(hn:cs.size=n)(x:Operand)(ho:op.op=.load ty x)(hx:ρ x=.pointer (some ⟨b,0,none⟩)):(execOp ρ op).run P w=.ok (.value (.agg cs)) w:=by
 have h:=rG A H (by omega:0+n≤cs.size) x ho hx;rw[h];subst hn;simp
theorem oY(A:vZ P ty n)(H:Blk b T cs w)(hn:ds.size=n)(ho:o+n≤cs.size)(h1:n8 ds):(storeVar ty ⟨b,o,none⟩ (.agg ds)).run P w=.ok () (w.setRow b (lP cs o ds)):=by
 have h:=run_storeCells_at P b o T ds.toList 0 cs w H zGH (fun v hv=>(qC.1 h1) v (by simpa using hv));have hi:=A.i;cases hq:P.info? ty with
 |none=>simp[hq]at hi
 |some i=>
  have hs:i.size=n:=zG5
  simp[storeVar,sizeOf,typeInfo,hq,Value.cells,hs,hn,h,lP]
theorem mS{op:Oper}{a:Act}{K:Act→World→Prop}(A:vZ P ty n)(H:Blk b T cs w)(hn:ds.size=n)(hl:o+n≤cs.size)(h1:n8 ds)(x y:Operand)(ho:op.op=.store ty x y)(hx:a.eval x=.pointer (some ⟨b,o,none⟩))(hy:a.eval y=.agg ds)
  (h:K (a.put op.dst undef) (w.setRow b (lP cs o ds))):op.wp P a w K Q:=by
 unfold Oper.wp execOp;simp only[ho,hx,hy,Instr.storeAt,Instr.sureAddr,zA,Sem.run_pure,Result.andThen_ok,oY A H hn hl h1];exact h
theorem YF(h:ds.size=cs.size):lP cs 0 ds=ds:=by
 unfold lP;rw[qL,h];simp[List.drop_eq_nil_of_le]
theorem nY{op:Oper}{a:Act}{K:Act→World→Prop}(A:vZ P ty n)(H:Blk b T cs w)(hc:cs.size=n)(hn:ds.size=n)(h1:n8 ds)(x y:Operand)(ho:op.op=.store ty x y)(hx:a.eval x=.pointer (some ⟨b,0,none⟩))(hy:a.eval y=.agg ds)
  (h:K (a.put op.dst undef) (w.setRow b ds)):op.wp P a w K Q:=
 mS A H hn zGX h1 x y ho hx hy (by rw[YF zGX];exact h)
variable {rest:List Oper} {op:Oper} {a:Act}
theorem zKV(hgd:op.guard=none)(v:Value)(h1:(execOp a.eval op).run P w=.ok (.value v) w)(h:wpList P ops Q rest (a.put op.dst v) w):wpList P ops Q (op::rest) a w:=
 qZ hgd fun K hK=>by unfold Oper.wp;rw[h1];exact hK _ _ h
theorem m6(A:vZ P ty n)(H:Blk b T cs w)(hn:o+n≤cs.size)(hgd:op.guard=none)(x:Operand)(ho:op.op=.load ty x)(hx:a.eval x=.pointer (some ⟨b,o,none⟩))
  (h:wpList P ops Q rest (a.put op.dst (.agg (cs.extract o (o+n)))) w):wpList P ops Q (op::rest) a w:=
 qZ hgd fun K hK=>by unfold Oper.wp;rw[rG A H hn x ho hx];exact hK _ _ h
theorem lL(A:vZ P ty n)(H:Blk b T cs w)(hn:cs.size=n)(hgd:op.guard=none)(x:Operand)(ho:op.op=.load ty x)(hx:a.eval x=.pointer (some ⟨b,0,none⟩))
  (h:wpList P ops Q rest (a.put op.dst (.agg cs)) w):wpList P ops Q (op::rest) a w:=
 qZ hgd fun K hK=>by unfold Oper.wp;rw[eZ A H hn x ho hx];exact hK _ _ h
theorem lM(A:vZ P ty n)(H:Blk b T cs w)(hc:cs.size=n)(hn:ds.size=n)(h1:n8 ds)(hgd:op.guard=none)(x y:Operand)(ho:op.op=.store ty x y)(hx:a.eval x=.pointer (some ⟨b,0,none⟩))(hy:a.eval y=.agg ds)
  (h:wpList P ops Q rest (a.put op.dst undef) (w.setRow b ds)):wpList P ops Q (op::rest) a w:=
 qZ hgd fun K hK=>nY A H hc hn h1 x y ho hx hy (hK _ _ h)
theorem nN(A:vZ P ty n)(H:Blk b T cs w)(hn:ds.size=n)(hl:o+n≤cs.size)(h1:n8 ds)(hgd:op.guard=none)(x y:Operand)(ho:op.op=.store ty x y)(hx:a.eval x=.pointer (some ⟨b,o,none⟩))(hy:a.eval y=.agg ds)
  (h:wpList P ops Q rest (a.put op.dst undef) (w.setRow b (lP cs o ds))):wpList P ops Q (op::rest) a w:=
 qZ hgd fun K hK=>mS A H hn hl h1 x y ho hx hy (hK _ _ h)
theorem MV(W:World)(cs cs':Array Value)(t:TypeId):(W.alloc (.cells cs t)).setRow W.heap.size cs'=W.alloc (.cells cs' t):=by
 unfold World.setRow World.alloc;congr 1
 apply qH
 intro i
 simp only[Array.getElem?_modify,Array.getElem?_push]
 by_cases e:W.heap.size=i
 ·subst e;simp
 ·rw[zL e,zL (fun h=>e h.symm),zL (fun h=>e h.symm)]
theorem uO{z:Array Value}(Z:nH P ty z):(zeroValue ty).run P w=.ok (.agg z) w:=by
 unfold nH at Z;unfold zeroValue typeInfo;cases hq:P.info? ty with
 |none=>simp[hq]at Z
 |some i=>
  simp only[hq,Option.map_some,kZ,kQ]at Z
  simp[zA,hq,Z.1]
theorem nJ{K:Act→World→Prop}{z:Array Value}(Z:nH P ty z)(ho:op.op=.alloc ty)(h:K (a.put op.dst (.pointer (some ⟨w.heap.size,0,none⟩))) (w.alloc (.cells z ty))):op.wp P a w K Q:=by
 unfold Oper.wp execOp;simp only[ho,Instr.alloc,newVar,newRow,newObj,zA,uO Z,Result.andThen_ok,Sem.run_pure];exact h
theorem lO{o1 o2:Oper}{z:Array Value}(A:vZ P ty n)(Z:nH P ty z)(hz:z.size=n)(hn:ds.size=n)(h1:n8 ds)(g1:o1.guard=none)(ho1:o1.op=.alloc ty)(g2:o2.guard=none)(x y:Operand)(ho2:o2.op=.store ty x y)
  (hx:(a.put o1.dst (.pointer (some ⟨w.heap.size,0,none⟩))).eval x=.pointer (some ⟨w.heap.size,0,none⟩)) (hy:(a.put o1.dst (.pointer (some ⟨w.heap.size,0,none⟩))).eval y=.agg ds)
  (h:wpList P ops Q rest ((a.put o1.dst (.pointer (some ⟨w.heap.size,0,none⟩))).put o2.dst undef) (w.alloc (.cells ds ty))):wpList P ops Q (o1::o2::rest) a w:=by
 refine qZ g1 fun K hK=>nJ Z ho1 (hK _ _ ?_);refine lM A (Blk.new w ty z) hz hn h1 g2 x y ho2 hx hy ?_;rw[MV];exact h
theorem lC{cs:Array Value}{parts:Array (Nat×Operand)}(hgd:op.guard=none)(ho:op.op=.build ty parts)(hb:P.built ty (parts.map fun(i,x)=>(i,a.eval x)).toList=some cs)
  (h:wpList P ops Q rest (a.put op.dst (.agg cs)) w):wpList P ops Q (op::rest) a w:=
 wpList_build hgd ty parts ho (by rw[hb];rfl) (by rw[hb];exact h)
end
section
variable {P:Program} {ops:Array Oper} {C:World→Prop} {ty T:TypeId} {b o n:Nat} {cs:Array Value}
theorem u7{Q:Act→Prop}{op:Oper}{rest:List Oper}{a:Act}(hw:Region.wanted op (yielded ops a.tmps)=true)(v:Value)(h1:∀w,C w→(execOp a.eval op).run P w=.ok (.value v) w)(h:wpQuiet P ops C Q rest (a.put op.dst v)):wpQuiet P ops C Q (op::rest) a:=by
 exact zRC
theorem mN{Q:Act→Prop}{op:Oper}{rest:List Oper}{a:Act}(A:vZ P ty n)(H:∀w,C w→Blk b T cs w)(hn:cs.size=n)(hw:Region.wanted op (yielded ops a.tmps)=true)(x:Operand)(ho:op.op=.load ty x)(hx:a.eval x=.pointer (some ⟨b,0,none⟩))
  (h:wpQuiet P ops C Q rest (a.put op.dst (.agg cs))):wpQuiet P ops C Q (op::rest) a:=
 u7 hw _ (fun w hC=>eZ A (H w hC) hn x ho hx) h
theorem lR{Q:Act→Prop}{op:Oper}{rest:List Oper}{a:Act}(A:vZ P ty n)(H:∀w,C w→Blk b T cs w)(hn:o+n≤cs.size)(hw:Region.wanted op (yielded ops a.tmps)=true)(x:Operand)(ho:op.op=.load ty x)(hx:a.eval x=.pointer (some ⟨b,o,none⟩))
  (h:wpQuiet P ops C Q rest (a.put op.dst (.agg (cs.extract o (o+n))))):wpQuiet P ops C Q (op::rest) a:=
 u7 hw _ (fun w hC=>rG A (H w hC) hn x ho hx) h
theorem QD{op:Oper}{ρ:Operand→Value}{w:World}{v:Value}{ad:Addr}(hu:∃d,P.underlying ty=some d∧d.isRow=false)(hc:w.cell? ad=some v)(x:Operand)(ho:op.op=.load ty x)(hx:ρ x=.pointer (some ad)):(execOp ρ op).run P w=.ok (.value v) w:=by
 obtain⟨d,hu,hd⟩:=hu;have hagg:(isAgg ty).run P w=.ok false w:=by
  unfold isAgg;rw[zA,jV hu w];cases d<;>simp_all
 unfold execOp;simp[ho,hx,Instr.loadAt,Instr.sureAddr,loadVar,zA,hagg,hc]
theorem oF{Q:Act→Prop}{op:Oper}{rest:List Oper}{a:Act}{v:Value}{ad:Addr}(hu:∃d,P.underlying ty=some d∧d.isRow=false)(H:∀w,C w→w.cell? ad=some v)(hw:Region.wanted op (yielded ops a.tmps)=true)(x:Operand)(ho:op.op=.load ty x)(hx:a.eval x=.pointer (some ad))
  (h:wpQuiet P ops C Q rest (a.put op.dst v)):wpQuiet P ops C Q (op::rest) a:=
 u7 hw _ (fun w hC=>QD hu (H w hC) x ho hx) h
theorem vV{Q:Act→Prop}{op:Oper}{rest:List Oper}{a:Act}{cs:Array Value}{parts:Array (Nat×Operand)}(hw:Region.wanted op (yielded ops a.tmps)=true)(ho:op.op=.build ty parts)(hb:P.built ty (parts.map fun(i,x)=>(i,a.eval x)).toList=some cs)
  (h:wpQuiet P ops C Q rest (a.put op.dst (.agg cs))):wpQuiet P ops C Q (op::rest) a:=
 u7 hw (.agg cs) (fun w _=>by
  unfold execOp;simp only[ho,zA,run_build w ty _ cs hb,Result.andThen_ok,Sem.run_pure]) h
end
end
section
theorem yR{α:Type}(L:List α)(off:Nat)(cs:List α)(h:off+cs.length≤L.length):(splice L off cs).length=L.length:=length_splice L off cs h
theorem yT{α:Type}(L:List α)(off:Nat)(cs:List α)(h:off+cs.length≤L.length)(j:Nat):
  (splice L off cs)[j]?=if j<off then L[j]? else if j<off+cs.length then cs[j-off]? else L[j]?:=by
 unfold splice;by_cases h1:j<off
 ·rw[zN h1,qF zGH,List.getElem?_take,zN h1]
 ·rw[zL h1,qE zGH];have e:(L.take off).length=off:=by simp;omega
  rw[e];by_cases h2:j<off+cs.length
  ·rw[zN h2,qF zGX]
  ·rw[zL h2,qE zGX,j5];congr 1
   omega
theorem eP{α β:Type}(f:α→β)(L:List α)(off:Nat)(cs:List α):splice (L.map f) off (cs.map f)=(splice L off cs).map f:=by
 simp[splice]
end
section
open Go.RowKit Num
def arr(L:List Int):Array Value:=(L.map (Value.int .u8)).toArray
theorem ZO(L:List Int):(arr L).size=L.length:=by simp[arr]
theorem pT(L:List Int)(j:Nat)(h:j<L.length):(arr L)[j]?=some (.int .u8 L[j]):=by simp[arr,h]
theorem uU{P:Program}{ops:Array Oper}{rest:List Oper}{o:Oper}{a:Act}{w:World}{Q:Exit→Act→World→Prop}(hgd:o.guard=none)(ty:TypeId)(x:Operand)(ho:o.op=.load ty x)
  (ad:Addr) (hx:a.eval x=.pointer (some ad)) (L:List Int) (d:TypeDesc) (hc:∀j (h:j<L.length),w.cell? (ad.add j)=some (.int .u8 L[j]))
  (hu:P.underlying ty=some d) (hd:(match d with| .struct _| .array _ _=>true|_=>false)=true) (hi:(P.info? ty).map (·.size)=some L.length)
  (h:wpList P ops Q rest (a.put o.dst (.agg (arr L))) w):wpList P ops Q (o::rest) a w:=by
 have hl:(loadCells ad (L.map (Value.int .u8)).length).run P w=.ok (L.map (Value.int .u8)).toArray w:=
  run_loadCells_list (P:=P) w ad (L.map (Value.int .u8)) (fun j v hv=>by
   rw[jX]at hv;by_cases hj:j<L.length
   ·rw[zS hj]at hv;rw[hc j hj];exact hv
   ·rw[qR (Nat.le_of_not_lt hj)]at hv;cases hv)
 rw[qI]at hl;refine qZ hgd fun K hK=>?_;have hlv:(loadVar ty ad).run P w=.ok (.agg (arr L)) w:=by
  cases hq:P.info? ty with
  |none=>simp[hq]at hi
  |some i=>
   have hs:i.size=L.length:=zG5
   have hagg:(isAgg ty).run P w=.ok true w:=by
    unfold isAgg;rw[zA,jV hu w];cases d<;>simp_all
   simp[loadVar,zA,hagg,sizeOf,typeInfo,hq,hs,hl,arr]
 unfold Oper.wp execOp;simp only[ho,hx,Instr.loadAt,Instr.sureAddr,zA,Sem.run_pure,Result.andThen_ok,hlv];exact hK _ _ h
theorem eK{W:World}{B:Nat}{t e:TypeId}{cs:Array Value}(h:W.heap[B]?=some (.cells cs t (0,0)))(hte:t≠e){base size k:Nat}{v:Value}{xs:List Value}(hr:W.ownsRow base e size v k xs):some B≠v.ownBlock:=by
 rcases hr.2 with⟨rfl,_⟩|⟨g,cap,cur,rfl,_,hg,_⟩
 ·intro c;simp[Value.ownBlock]at c
 ·intro c;simp only[Value.ownBlock,kZ]at c;subst c;rw[hg]at h;simp only[kZ,Obj.cells.injEq]at h;exact hte h.2.1.symm
theorem ZA{w w':World}{B:Nat}{o:Obj}{row:Option Nat}(tmp:Obj)(h:w.heap[B]?=some o)(hg:(w.alloc tmp).grownBy w' row)(hne:some B≠row):w'.heap[B]?=some o:=by
 have hlt:B<w.heap.size:=(qM.1 h).1;rw[hg.block B zGH hne,heap_alloc_old w tmp hlt];exact h
theorem JZ{X:List Int}{k:Nat}(h:k<X.length):X.take (k+1)=X.take k++[X[k]]:=by simp
def dK(ty:TypeId)(L:List Int)(w:World)(e:Ending)(w':World):Prop:=∃v,e=.returned v∧w'.ownsRow w.heap.size ty 1 v L.length (L.map (Value.int .u8))∧Below w.heap.size w w'
theorem t7:(Tryz.prog.info? 5).map (fun i=>(i.zero,i.size,i.bytes))=some (some (.int .u8 0),1,1):=by kernel_rfl
structure nW(p:Nat)(g:Option Nat)(w w':World):Prop where
 os:w'.os=w.os
 tape:w'.tape=w.tape
 output:w'.output=w.output
 size:w.heap.size≤w'.heap.size
 block:∀k,k<w.heap.size→k≠p→some k≠g→w'.heap[k]?=w.heap[k]?
section
variable {p:Nat} {g:Option Nat} {u w w':World}
theorem nW.refl:nW p g w w:=⟨rfl,rfl,rfl,zG _,fun _ _ _ _=>rfl⟩
theorem nW.trans(h:nW p g u w)(k:nW p g w w'):nW p g u w':=
 ⟨k.os.trans h.os,k.tape.trans h.tape,k.output.trans h.output,zR h.size k.size,fun i hi h1 h2=>(k.block i (zD hi h.size) h1 h2).trans (h.block i hi h1 h2)⟩
theorem nW.drew(h:nW p g u w):nW p g u w.drew:=⟨h.os,h.tape,h.output,h.size,h.block⟩
theorem nW.of_grown(h:w.grownBy w' g):nW p g w w':=⟨h.os,h.tape,h.output,h.size,fun k hk _ hg=>h.block k hk hg⟩
theorem nW.of_below(h:Below w.heap.size w w'):nW p g w w':=⟨h.os,h.tape,h.output,h.size,fun k hk _ _=>h.block k hk⟩
theorem nW.setRow(cs:Array Value):nW p g w (w.setRow p cs):=⟨rfl,rfl,rfl,by simp[World.setRow],fun k hk hp _=>qQ w p k cs hp⟩
theorem nW.setCell(o:Nat)(v:Value):nW p g w (w.setCell ⟨p,o,none⟩ v):=⟨rfl,rfl,rfl,by simp,fun k hk hp _=>qD w _ v k hp⟩
theorem nW.below(h:nW p g w w'){B:Nat}(hB:B≤w.heap.size)(hp:B≤p)(hg:∀k,g=some k→B≤k):Below B w w':=
 ⟨h.os,h.tape,h.output,h.size,fun k hk=>h.block k zGX zGX (fun e=>by have:=hg k e.symm;omega)⟩
end
def Rd(w:World)(A:Option Addr)(L:List Int):Prop:=L≠[]→∃ad,A=some ad∧ad.block<w.heap.size∧∀j (h:j<L.length),w.cell? (ad.add j)=some (.int .u8 L[j])
theorem y9(a:Addr)(n:Nat):(a.add n).block=a.block:=by unfold Addr.add;split<;>rfl
theorem zHV(a:Addr)(i j:Nat):(a.add i).add j=a.add (i+j):=by
 unfold Addr.add;by_cases hi:i=0<;>by_cases hj:j=0<;>simp[hi,hj,qP]
theorem xE(g o j:Nat):(⟨g,o,none⟩:Addr).add j=⟨g,o+j,none⟩:=by unfold Addr.add;split<;>simp_all
section
variable {w w':World} {A:Option Addr} {L:List Int}
theorem Rd.nil:Rd w A []:=fun h=>absurd rfl h
theorem Rd.at_(h:Rd w A L){k:Nat}(hk:k<L.length):∃ad,A=some ad∧ad.block<w.heap.size∧w.cell? (ad.add k)=some (.int .u8 L[k]):=by
 obtain⟨ad,e,hb,hc⟩:=h zG2;exact⟨ad,e,hb,hc k hk⟩
theorem Rd.keep(h:Rd w A L)(hs:w.heap.size≤w'.heap.size)(hk:∀ad,A=some ad→ad.block<w.heap.size→w'.heap[ad.block]?=w.heap[ad.block]?):Rd w' A L:=fun hne=>by
 obtain⟨ad,rfl,hb,hc⟩:=h hne;exact⟨ad,rfl,by omega,fun j hj=>(qU (a:=ad.add j) (by rw[y9];exact hk ad rfl hb)).trans (hc j hj)⟩
theorem Rd.below(h:Rd w A L)(hb:Below w.heap.size w w'):Rd w' A L:=fun hne=>by
 obtain⟨ad,rfl,hlt,hc⟩:=h hne;exact⟨ad,rfl,zD hlt hb.size,fun j hj=>(hb.cell (p:=ad.add j) (by rw[y9];exact hlt)).trans (hc j hj)⟩
theorem Rd.of_row(h:Row (Value.int .u8) w A L):Rd w A L:=fun hne=>by
 obtain⟨b,o,rfl,hb,hc⟩:=h hne;exact⟨_,rfl,hb,fun j hj=>by rw[xE];exact hc j hj⟩
theorem Rd.cut(h:Rd w A L){k cap:Nat}(hc:L.length≤cap):Rd w (if cap=k then A else A.map (·.add k)) (L.drop k):=fun hne=>by
 have hk:k<L.length:=by
  rcases jU k L.length with h1|h1
  ·exact h1
  ·exact absurd (List.drop_eq_nil_of_le h1) hne
 obtain⟨ad,rfl,hlt,hcell⟩:=h zG2;rw[zL zGX];refine⟨ad.add k,rfl,by rw[y9];exact hlt,fun j hj=>?_⟩;rw[jF]at hj;rw[zHV,hcell (k+j) zGX,List.getElem_drop]
end
theorem NH{w:World}{base:Nat}{e:TypeId}{n c:Nat}{A:Option Addr}{L:List Int}(h:w.ownsRow base e 1 (.slice A n c) n (L.map (Value.int .u8))):Rd w A L:=Rd.of_row (Row.of_own h)
theorem tI{w w':World}{base size n:Nat}{e:TypeId}{v:Value}{xs:List Value}{p:Nat}{g:Option Nat}(h:w.ownsRow base e size v n xs)(ha:nW p g w w')
  (hp:v.ownBlock≠some p) (hg:∀k,g=some k→v.ownBlock≠some k):w'.ownsRow base e size v n xs:=by
 refine⟨h.1,h.2.imp id ?_⟩;rintro⟨b,cap,cur,rfl,hb,hh,r⟩;refine⟨b,cap,cur,rfl,hb,(ha.block b ((qM.1 hh).1) (fun e=>hp (by rw[←e];rfl)) (fun e=>hg b e.symm rfl)).trans hh,r⟩
theorem tX{w:World}{base size n:Nat}{e t:TypeId}{v:Value}{xs:List Value}{b:Nat}{cs:Array Value}{fr:Nat×Nat}(h:w.ownsRow base e size v n xs)(hb:w.heap[b]?=some (.cells cs t fr))(hne:e≠t):v.ownBlock≠some b:=by
 rcases h.2 with⟨rfl,_⟩|⟨g,cap,cur,rfl,_,hh,_⟩
 ·intro c;cases c
 ·intro c;injection c with c
  have c:g=b:=c;subst c;rw[hh]at hb;injection hb with hb
  injection hb with _ ht _
  exact hne ht
theorem U3{w:World}{base size n:Nat}{e:TypeId}{v:Value}{xs:List Value}(h:w.ownsRow base e size v n xs){b:Nat}(hb:v.ownBlock=some b):base≤b∧∃cs,w.heap[b]?=some (.cells cs e (0,0)):=by
 rcases h.2 with⟨rfl,_⟩|⟨g,cap,cur,rfl,hg,hh,_⟩
 ·cases hb
 ·injection hb with hb
  have hb:g=b:=hb;subst hb;exact⟨hg,cur,hh⟩
theorem cK{o:Oper}{a:Act}{w w':World}{K:Act→World→Prop}{Q:Exit→Act→World→Prop}(d s:Operand)
  (ho:o.op=.call {callee:=.builtin .copy,args:=#[d,s],argTypes:=#[22,22]}) (ty:TypeId) (ht:o.type=ty) (X Y r:Value) (hd:a.eval d=X) (hs:a.eval s=Y)
  (hrun:(Builtin.copy_ #[22,22] ty #[X,Y]).run Tryz.prog w=.ok r w') (t:Nat) (hdst:o.dst=some t) (h:K ⟨a.tmps.setIfInBounds t r,a.defers⟩ w'):o.wp Tryz.prog a w K Q:=by
 subst ht;replace h:K (a.put o.dst r) w':=by rw[hdst];exact h
 unfold Oper.wp;simp[execOp,ho,resolve,invoke,builtin,hd,hs,hrun,Result.andThen];exact h
theorem xQ{w:World}(ty:TypeId)(p off n c:Nat)(dp:Option Addr)(hdp:0<n→dp=some ⟨p,off,none⟩)(A:Option Addr)(m k d:Nat)(hd:d=min m n)
  (L:List Int) (hL:L.length=m) (hR:Rd w A L) (cur:List Value) (t:TypeId) (hp:w.heap[p]?=some (.cells cur.toArray t (0,0))) (hn:off+n≤cur.length):
  ∃w',(Builtin.copy_ #[22,22] ty #[.slice dp n c,.slice A m k]).run Tryz.prog w=.ok (.int .i64 (d:Int)) w'∧w'.heap[p]?=some (.cells (splice cur off ((L.take n).map (Value.int .u8))).toArray t (0,0))∧∀g,nW p g w w':=by
 have hl:((L.take n).map (Value.int .u8)).length=d:=by rw[qI,qX,hL,hd];exact Nat.min_comm _ _
 have hu:Tryz.prog.underlying 22=some (.slice 5):=Tryz.underlying22;have hz:(Tryz.prog.info? 5).map (·.size)=some 1:=zGV;have hmn:Nat.min m n=d:=hd.symm;by_cases h0:d=0
 ·have hrun:=run_copy_none (P:=Tryz.prog) w 22 22 ty 5 dp A n c m k hu hz (by rw[hmn,h0]);have e0:L.take n=[]:=jE (by rw[qI]at hl;omega);refine⟨w,by rw[hrun,h0];rfl,by rw[e0];simpa [splice]using hp,fun g=>nW.refl⟩
 ·obtain rfl:=hdp zGX;obtain⟨ad,rfl,hb,hc⟩:=hR (by rintro rfl;simp at hL;omega);have hrun:=run_copy_row (P:=Tryz.prog) w 22 22 ty 5 p off n c ad m k cur.toArray t ((L.take n).map (Value.int .u8)) hu hz hp (by rw[hl,hmn])
   (fun j x hx=>by
    rw[jX]at hx;by_cases hj:j<(L.take n).length
    ·rw[zS hj]at hx;have hj2:j<L.length:=by rw[qX]at hj;omega
     rw[hc j hj2,←hx,jB];rfl
    ·rw[qR zGX]at hx;cases hx)
   (by rw[hl];simp;omega) (fun x hx=>by obtain⟨y,_,rfl⟩:=jG.1 hx;rfl)
  have e1:cur.toArray.toList.take off++(L.take n).map (Value.int .u8)++cur.toArray.toList.drop (off+((L.take n).map (Value.int .u8)).length)=splice cur off ((L.take n).map (Value.int .u8)):=by
   unfold splice;rw[kJ]
  rw[e1,hl]at hrun;exact⟨_,hrun,setRow_heap w p _ _ _ _ hp,fun g=>nW.setRow _⟩
theorem bL{w:World}(ty:TypeId)(p off n c:Nat)(dp:Option Addr)(hdp:0<n→dp=some ⟨p,off,none⟩)(A:Option Addr)(m k d:Nat)(hd:d=min m n)
  (L:List Int) (hL:L.length=m) (hR:Rd w A L) (Z:List Int) (t:TypeId) (hp:w.heap[p]?=some (.cells (arr Z) t (0,0))) (hn:off+n≤Z.length):
  ∃w',(Builtin.copy_ #[22,22] ty #[.slice dp n c,.slice A m k]).run Tryz.prog w=.ok (.int .i64 (d:Int)) w'∧w'.heap[p]?=some (.cells (arr (splice Z off (L.take n))) t (0,0))∧∀g,nW p g w w':=by
 obtain⟨w',h0,h1,h2⟩:=xQ ty p off n c dp hdp A m k d hd L hL hR (Z.map (Value.int .u8)) t hp (by simpa using hn);refine⟨w',h0,?_,h2⟩;rw[h1,eP];rfl
theorem O7(L:List Int):∀u∈L.map (Value.int .u8),u.oneCell'=true:=fun u hu=>by
 obtain⟨y,_,rfl⟩:=jG.1 hu;rfl
theorem zXZ{w:World}{ad:Addr}{L:List Int}(hc:∀j (h:j<L.length),w.cell? (ad.add j)=some (.int .u8 L[j])):∀j u,(L.map (Value.int .u8))[j]?=some u→w.cell? (ad.add j)=some u:=fun j u hu=>by
 rw[jX]at hu;by_cases hj:j<L.length
 ·rw[zS hj]at hu;rw[hc j hj];exact hu
 ·rw[qR zGX]at hu;cases hu
theorem ZK(n:Nat)(x:Int)(hx:x=n)(hn:n≤1000000)(w:World):(Instr.makeSlice 22 (.int .i64 x) (.int .i64 x)).run Tryz.prog w=.ok (.slice (some ⟨w.heap.size,0,none⟩) n n) (w.alloc (.cells (arr (List.replicate n 0)) 5)):=by
 subst hx;obtain⟨i0,hi,hz0,hz1,hz2⟩:=kA t7;have h:=run_make_row (P:=Tryz.prog) 22 5 i0 (.int .u8 0) Tryz.underlying22 hi hz0 hz1 rfl .i64 .i64 n (by rw[hz2];omega) zGX w;rw[h];congr 3
 apply Array.ext'
 unfold arr
 rw[toList_madeCells_one,List.map_replicate]
theorem zNE(g n d:Nat)(hd:d≤n)(D:Option Addr)(hD:D=if n=d then some ⟨g,0,none⟩else some ⟨g,d,none⟩)(w:World):
  (Instr.sliceAt 22 (.slice (some ⟨g,0,none⟩) n n) (some (.int .i64 (d:Int))) none none).run Tryz.prog w=.ok (.slice D (n-d) (n-d)) w:=by
 rw[run_sliceAt_slice (P:=Tryz.prog) w 22 _ _ _ _ Tryz.underlying22,run_slice_l (P:=Tryz.prog) w 22 _ n n Tryz.underlying22 .i64 d zGX zGX,hD];show Result.ok (sliced _ _ _ _ 1) w=_;unfold sliced;by_cases h:n=d
 ·subst h;simp
 ·rw[zL (by simpa using h),zL h];simp[xE]
end
section
open Go.RowKit
def pad(L:List Int)(j:Nat):Int:=L.getD j 0
theorem zXR(L:List Int)(j:Nat)(h:j<L.length):pad L j=L[j]:=by simp[pad,h]
theorem zY8(L:List Int)(j:Nat)(h:¬j<L.length):pad L j=0:=by simp[pad,qJ,qR (Nat.le_of_not_lt h)]
def mM:Nat→Int:=fun _=>0
def eqP(P Q:Nat→Int):Bool:=(List.range' 0 16).all fun j=>decide (P j=Q j)
theorem zNR(P Q:Nat→Int):eqP P Q=true↔∀j,j<16→P j=Q j:=by
 unfold eqP;rw[jJ];constructor
 ·intro h j hj;exact qA (h j (by rw[kX];omega))
 ·intro h j hj;rw[kX]at hj;exact qY (h j zGX)
def xB(P:Nat→Int):List Int:=(List.range 16).map P
theorem m5(P:Nat→Int):(xB P).length=16:=by simp[xB]
theorem wT(P:Nat→Int)(j:Nat)(h:j<16)(h':j<(xB P).length):(xB P)[j]=P j:=by simp[xB]
end
section
open Go.RowKit Num
def pc(P:Nat→Int):Array Value:=((List.range 16).map fun j=>Value.int .u8 (P j)).toArray
theorem nF(P:Nat→Int):(pc P).size=16:=by simp[pc]
theorem uL(P:Nat→Int)(j:Nat)(hj:j<16):(pc P)[j]?=some (.int .u8 (P j)):=by simp[pc,hj]
theorem NY(P:Nat→Int):n8 (pc P):=by
 unfold n8;rw[qC];intro v hv;simp only[pc,kV,jG,jD]at hv;obtain⟨j,_,rfl⟩:=hv;rfl
theorem xP:vZ Tryz.prog 43 16:=⟨⟨_,Tryz.underlying43,rfl⟩,by kernel_rfl⟩
theorem E4:Tryz.prog.built 43 []=some (pc mM):=by kernel_rfl
theorem lV(w:World)(o:Obj):Below w.heap.size w (w.alloc o):=(zB _ _).alloc (zG _) _
theorem pc_put(F:Nat→Int)(k:Nat)(hk:k<16)(v:Int):(pc F).setIfInBounds k (.int .u8 v)=pc fun j=>if j=k then v else F j:=by
 apply qH
 intro j
 rw[qB,nF];by_cases h1:k=j
 ·subst h1;rw[zN rfl,zN hk,uL _ _ hk,zN rfl]
 ·rw[zL h1];by_cases h3:j<16
  ·rw[uL _ _ h3,uL _ _ h3,zL (fun e=>h1 e.symm)]
  ·rw[zF zBK,zF zBK]
theorem zXG{P Q:Nat→Int}(h:∀j,j<16→P j=Q j):pc P=pc Q:=by
 apply qH
 intro j
 by_cases h3:j<16
 ·rw[uL _ _ h3,uL _ _ h3,h j h3]
 ·rw[zF zBK,zF zBK]
theorem JC{ops:Array Oper}{rest:List Oper}{o:Oper}{a:Act}{w w':World}{Q:Exit→Act→World→Prop}(hgd:o.guard=none)(d s:Operand)
  (ho:o.op=.call {callee:=.builtin .copy,args:=#[d,s],argTypes:=#[22,22]}) (X Y r:Value) (hd:a.eval d=X) (hs:a.eval s=Y)
  (hrun:(Builtin.copy_ #[22,22] o.type #[X,Y]).run Tryz.prog w=.ok r w') (t:Nat) (hdst:o.dst=some t) (h:wpList Tryz.prog ops Q rest ⟨a.tmps.setIfInBounds t r,a.defers⟩ w'):wpList Tryz.prog ops Q (o::rest) a w:=
 qZ hgd fun K hK=>cK d s ho o.type rfl X Y r hd hs hrun t hdst (hK _ _ h)
theorem IQ(x y:Int)(d:Nat)(w:World):(Op.equalIn (d+1) 5 (.int .u8 x) (.int .u8 y)).run Tryz.prog w=.ok (decide (x=y)) w:=by
 have e:(x==y)=decide (x=y):=by by_cases h:x=y<;>simp[h]
 rw[←e];simp[Op.equalIn,jV Tryz.underlying5,go_sem]
theorem JB(P:Nat→Int)(j:Nat)(hj:j<16)(w:World):(part 5 (pc P) j).run Tryz.prog w=.ok (.int .u8 (P j)) w:=by
 simp[part,isAgg,zA,jV Tryz.underlying5,uL P j hj]
theorem GM(P Q:Nat→Int)(D:Nat)(hD:∀(x y:Int) (w:World),(Op.equalIn D 5 (.int .u8 x) (.int .u8 y)).run Tryz.prog w=.ok (decide (x=y)) w)(w:World):
  (Op.equalIn (D+1) 43 (.agg (pc P)) (.agg (pc Q))).run Tryz.prog w=.ok (eqP P Q) w:=by
 have hi:(Tryz.prog.info? 5).map (·.size)=some 1:=zGV;cases hq:Tryz.prog.info? 5 with
 |none=>simp[hq]at hi
 |some i=>
  have hs:i.size=1:=zG5
  simp only[Op.equalIn,zA,jV Tryz.underlying43,Result.andThen_ok,sizeOf,typeInfo,hq,hs,Sem.run_pure]
  have go:∀l:List Nat,(∀i∈l,i<16)→(forIn (m:=Sem) l ((none:Option Bool),()) (fun i _=>do
      let a←part 5 (pc P) i
      let b←part 5 (pc Q) i
      let r←Op.equalIn D 5 a b
      if r=false then pure (ForInStep.done (some false,()))else pure (ForInStep.yield (none,())))).run Tryz.prog w=.ok ((if l.all (fun j=>decide (P j=Q j))then none else some false),()) w:=by
   intro l;induction l with
   |nil=>intro _;simp
   |cons k l ih=>
    intro hl
    simp only[List.forIn_cons,zA,JB P k (hl k zGN),JB Q k (hl k zGN),Result.andThen_ok,hD]
    by_cases hk:P k=Q k
    ·simp[hk]
     have:=ih fun i hi=>hl i (by simp[hi])
     simpa using this
    ·simp[hk]
  have hgo:=go (List.range' 0 16) fun i hi=>by have:=kX.1 hi;omega
  simp[zA,hq,hs,Std.Legacy.Range.forIn_eq_forIn_range']at hgo⊢
  rw[hgo]
  unfold eqP
  have ha:(List.range' 0 16).all (fun j=>decide (P j=Q j))=true↔∀x,x<16→P x=Q x:=by simp[jJ,kX]
  by_cases hall:∀x,x<16→P x=Q x
  ·rw[ha.2 hall];simp only[Result.andThen_ok,zN hall];simp
  ·cases hb:(List.range' 0 16).all fun j=>decide (P j=Q j)
   ·simp only[Result.andThen_ok,zL hall];simp
   ·exact absurd (ha.1 hb) hall
theorem UH(P Q:Nat→Int)(d:Nat)(w:World):(Op.equalIn (d+2) 43 (.agg (pc P)) (.agg (pc Q))).run Tryz.prog w=.ok (eqP P Q) w:=GM P Q (d+1) (fun x y w=>IQ x y d w) w
end
section
open Go.RowKit Num Dec Cpu
def rg(v:Nat→Nat):Array Value:=pc fun j=>(v j:Int)
def prc(q:Pr):Array Value:=#[.int .i64 q.lv,.bool q.sh,.bool q.ki,.bool q.jx,.bool q.lr,.bool q.cl,.bool q.dw,.bool q.fa]
theorem e8(v:Nat→Nat){j:Nat}(hj:j<16):(rg v)[j]?=some (.int .u8 (v j:Int)):=uL _ j hj
theorem vE(v:Nat→Nat):(rg v).size=16:=nF _
theorem GC(v:Nat→Nat){k:Nat}(hk:k<16)(r:Nat):(rg v).setIfInBounds k (.int .u8 (r:Int))=rg (upd v k r):=by
 unfold rg;rw[pc_put _ _ hk];apply zXG
 intro j _
 unfold upd;split<;>rfl
theorem zeroRg:nH Tryz.prog 43 (pc mM):=by unfold nH;kernel_rfl
theorem M7(v:Nat→Nat):n8 (rg v):=NY _
theorem WW{r:Nat}(h:r<65536):IntKind.i64.wrap (r:Int)=(r:Int):=by rw[zU];omega
end
section
open Go.RowKit Dec
def lB(i:Ins):Array Value:=#[.int .i64 i.op,.int .i64 i.x,.int .i64 i.y,.int .i64 i.n,.int .i64 i.nn,.int .i64 i.addr,.int .i64 i.len]
def nD:Array Value:=#[.int .i64 0,.int .i64 0,.int .i64 0,.int .i64 0,.int .i64 0,.int .i64 0,.int .i64 0]
theorem mP:vZ Tryz.prog 128 7:=⟨⟨_,Tryz.underlying128,rfl⟩,by kernel_rfl⟩
end
section
open Go.RowKit
section
variable {P:Program} {ops:Array Oper} {rest:List Oper} {o:Oper} {a:Act} {w:World} {Q:Exit→Act→World→Prop}
theorem iJ(hgd:o.guard=none)(ty:TypeId)(x:Operand)(ho:o.op=.load ty x)
  (ad:Addr) (hx:a.eval x=.pointer (some ad)) (L:Array Value) {n:Nat} (A:vZ P ty n) (hn:L.size=n) (hc:∀j v,L[j]?=some v→w.cell? (ad.add j)=some v)
  (h:wpList P ops Q rest (a.put o.dst (.agg L)) w):wpList P ops Q (o::rest) a w:=by
 obtain⟨⟨d,hu,hd⟩,hi⟩:=A;obtain⟨L⟩:=L;have hl:(loadCells ad L.length).run P w=.ok L.toArray w:=
  run_loadCells_list (P:=P) w ad L (fun j v hv=>hc j v (by simpa using hv))
 have hlv:(loadVar ty ad).run P w=.ok (.agg L.toArray) w:=by
  cases hq:P.info? ty with
  |none=>simp[hq]at hi
  |some i=>
   have hs:i.size=L.length:=by simp[hq]at hi;rw[hi,←hn];simp
   have hagg:(isAgg ty).run P w=.ok true w:=by
    unfold isAgg;rw[zA,jV hu w];cases d<;>simp_all [TypeDesc.isRow]
   simp[loadVar,zA,hagg,sizeOf,typeInfo,hq,hs,hl]
 refine zKV hgd _ ?_ h;unfold execOp;simp only[ho,hx,Instr.loadAt,Instr.sureAddr,zA,Sem.run_pure,Result.andThen_ok,hlv]
theorem lE(hgd:o.guard=none)(ty:TypeId)(x:Operand)(ho:o.op=.box ty x)(cs:Array Value)(hx:a.eval x=.agg cs)
  (h:wpList P ops Q rest (a.put o.dst (.pointer (some ⟨w.heap.size,0,none⟩))) (w.alloc (.cells cs ty))):wpList P ops Q (o::rest) a w:=by
 refine qZ hgd fun K hK=>?_;unfold Oper.wp execOp;simp only[ho,hx,Instr.box,newVar,newRow,newObj,zA,Result.andThen_ok,Sem.run_pure];exact hK _ _ h
theorem mL{fn:Func}{p q:Tmp}{ty:TypeId}(h:fn.results=#[.cell p ty,.tmp q])(tmps:Array Value)(w:World)(g:Nat)(t:TypeId)(cs:Array Value)(fr:Nat×Nat)(v:Value)
  (hp:tmps.getD p undef=.pointer (some ⟨g,0,none⟩)) (hq:tmps.getD q undef=v) (hg:w.heap[g]?=some (.cells cs t fr)) {n:Nat} (A:vZ P ty n) (hn:cs.size=n):
  (results fn tmps).run P w=.ok (.tuple #[.agg cs,v]) w:=by
 obtain⟨⟨d,hu,hd⟩,hi⟩:=A;have hp':tmps[p]?.getD undef=.pointer (some ⟨g,0,none⟩):=by simpa using hp
 have hq':tmps[q]?.getD undef=v:=by simpa using hq
 have hr:=run_loadVar_row w g t ty cs fr d hg hu (by cases d<;>simp_all [TypeDesc.isRow]) (by rw[hi,hn]);simp[results,h,hp',hq',asAddr,hr]
end
abbrev Gr(w w':World):Prop:=Below w.heap.size w w'
theorem Gr.refl(w:World):Gr w w:=zB _ _
theorem Gr.trans{a b c:World}(h:Gr a b)(k:Gr b c):Gr a c:=Below.trans h (k.mono h.size)
section
variable {P:Program} {ops:Array Oper} {Q:Exit→Act→World→Prop} {md:Region.Mode} {C T:World→Prop} {c0:Nat}
def aG(C:World→Prop)(c0:Nat)(listed:Array Bool)(w:World):Prop:=listed.getD c0 true=false→C w
def Z2(P:Program)(md:Region.Mode)(ops:Array Oper)(Q:Exit→Act→World→Prop)(C:World→Prop)(c0:Nat):Nat→Array Bool→Act→World→Prop
 |0,listed,a,w=>∀w',Gr w w'→Region.ready md ops listed=[]∧Q .normal a w'
 |n+1,listed,a,w=>∀w',Gr w w'→(Region.ready md ops listed=[]→Q .normal a w')∧
   ∀i∈Region.ready md ops listed,wpOp P ops Q i (fun a'' w''=>aG C c0 (listed.setIfInBounds i true) w''∧Z2 P md ops Q C c0 n (listed.setIfInBounds i true) a'' w'') a w'
theorem KF{n:Nat}{listed:Array Bool}{a:Act}{w w':World}(h:Z2 P md ops Q C c0 n listed a w)(g:Gr w w'):Z2 P md ops Q C c0 n listed a w':=by
 cases n with
 |zero=>exact fun w'' g'=>h w'' (g.trans g')
 |succ n=>exact fun w'' g'=>h w'' (g.trans g')
theorem tN:∀(n:Nat) (listed:Array Bool) (a:Act) (w:World),Z2 P md ops Q C c0 n listed a w→wpAny P md ops Q n listed a w
 |0,_,_,w,h=>h w (Gr.refl w)
 |n+1,_,_,w,h=>⟨(h w (Gr.refl w)).1,fun i hi=>wpOp_mono (fun a' w' h'=>tN n _ a' w' h'.2) ((h w (Gr.refl w)).2 i hi)⟩
def EU(P:Program)(w:World)(v:Value):Result Next→Prop
 |.ok (.value u) w'=>u=v∧Gr w w'
 |.ok (.enter f args) w'=>w'=w∧Calls P f args w fun e w''=>e=.returned v∧Gr w w''
 |_=>False
def wY(P:Program)(ops:Array Oper)(T:World→Prop)(o:Oper)(v:Value)(a:Act):Prop:=
 (Region.wanted o (yielded ops a.tmps)=true∧∀w,T w→EU P w v ((execOp a.eval o).run P w))∨(Region.wanted o (yielded ops a.tmps)=false∧v=undef)
theorem wY.of_same{o:Oper}{v:Value}{a a':Act}(h:wY P ops T o v a)(he:execOp a'.eval o=execOp a.eval o)(hw:Region.wanted o (yielded ops a'.tmps)=Region.wanted o (yielded ops a.tmps)):wY P ops T o v a':=by
 unfold wY at*;rw[he,hw];exact h
theorem wY.op{i:Nat}{o:Oper}{v:Value}{a:Act}(hi:ops[i]?=some o)(h:wY P ops T o v a){K:Act→World→Prop}{w:World}(hT:T w)(hK:∀w',Gr w w'→K (a.put o.dst v) w'):wpOp P ops Q i K a w:=by
 unfold wpOp;rw[hi];simp only;rcases h with⟨hw,h⟩|⟨hw,rfl⟩
 ·rw[zN hw];refine .inl ?_;have h:=h w hT;unfold Oper.wp;generalize (execOp a.eval o).run P w=r at*;cases r with
  |ok n w'=>
   cases n<;>simp only[EU]at h<;>simp only[Oper.upon]
   case value u=>rw[h.1];exact hK _ h.2
   case enter f args=>
    rw[h.1]
    exact h.2.mono fun e w'' ⟨he,hg⟩=>by subst he;exact hK _ hg
  |halt x w'=>simp only[EU]at h
 ·rw[zL (by rw[hw];decide)];exact hK w (Gr.refl w)
theorem TO{j:Nat}{oi oj:Oper}{v:Value}{X:Act→Prop}(hj:ops[j]?=some oj)(hap:oi.apart ops oj=true)(hsj:∀cs b,oj.op≠ .select cs b)
  (hQ:∀(c:_) (a:Act) (w:World),Q (.panic c) (a.put oi.dst v) w→Q (.panic c) a w) (hX1:∀a u,X a→X (a.put oj.dst u)) (hX2:∀(a:Act) d,X a→X {a with defers:=d::a.defers})
  {K:Act→World→Prop} {a:Act} {w:World} (hx:X a) (h:wpOp P ops Q j K (a.put oi.dst v) w):wpOp P ops Q j (fun a' w'=>X a'∧K (a'.put oi.dst v) w') a w:=by
 obtain⟨h1,h2,_⟩:=Oper.apart_spec hap;have he:=execOp_put oj hsj a oi.dst v h1;have hv:∀(b:Act) u,K ((b.put oi.dst v).put oj.dst u) w→K ((b.put oj.dst u).put oi.dst v) w:=fun b u hk=>by rwa [←Act.put_comm b v u h2]
 unfold wpOp at*;rw[hj]at h⊢;simp only at h⊢;rw[wanted_put oj a oi.dst v h1]at h;by_cases hw:Region.wanted oj (yielded ops a.tmps)=true
 ·rw[zN hw]at h⊢;rcases h with h|⟨ha,hl⟩
  ·refine .inl ?_;unfold Oper.wp at h⊢;rw[he]at h;generalize (execOp a.eval oj).run P w=r at*;cases r with
   |ok n w'=>
    cases n<;>simp only[Oper.upon]at h⊢
    case value u=>exact⟨hX1 _ _ hx,by rw[←Act.put_comm a v u h2];exact h⟩
    case skip=>exact⟨hX1 _ _ hx,by rw[←Act.put_comm a v undef h2];exact h⟩
    case defer d=>
     refine⟨hX1 _ _ (hX2 _ _ hx),?_⟩
     rw[←Act.put_comm _ v undef h2,←Act.put_defers]
     exact h
    case enter f args=>
     refine h.mono fun e w'' hh=>?_
     cases e with
     |returned u=>exact⟨hX1 _ _ hx,by rw[←Act.put_comm a v u h2];exact hh⟩
     |panicked c=>exact hQ _ _ _ hh
     |outgrown=>exact hh
    case row row args=>exact h.mono fun u w'' hh=>⟨hX1 _ _ hx,by rw[←Act.put_comm a v u h2];exact hh⟩
   |halt x w'=>
    cases x<;>simp only[Oper.upon]at h⊢
    case panic u=>exact hQ _ _ _ h
  ·exact .inr ⟨by unfold Oper.asks at*;rw[he]at ha;exact ha,hl⟩
 ·rw[zL hw]at h⊢;exact⟨hX1 _ _ hx,by rw[←Act.put_comm a v undef h2];exact h⟩
theorem gP{i:Nat}{oi:Oper}{v:Value}{I:Array Bool→Prop}(hi:ops[i]?=some oi)(hs:Region.noSelect ops=true)(hQ:∀(c:_) (a:Act) (w:World),Q (.panic c) (a.put oi.dst v) w→Q (.panic c) a w)(hic:i≠c0)
  (hC:∀w w',C w→Gr w w'→C w') (hT:∀(listed:Array Bool) w,I listed→aG C c0 listed w→T w) (hI:∀(listed:Array Bool) j,I listed→listed.getD i true=false→j∈Region.ready md ops listed→j≠i→I (listed.setIfInBounds j true)):
  ∀(n:Nat) (listed:Array Bool) (a:Act) (w:World),(∀j oj,ops[j]?=some oj→j≠i→listed.getD j true=false→(∀e∈oj.after,Region.binds md e=true→e.on≠i)→oi.apart ops oj=true)→
   i∈Region.ready md ops listed→I listed→wY P ops T oi v a→aG C c0 listed w→Z2 P md ops Q C c0 n (listed.setIfInBounds i true) (a.put oi.dst v) w→Z2 P md ops Q C c0 (n+1) listed a w:=by
 intro n;have hset:∀(l:Array Bool) (w:World),aG C c0 (l.setIfInBounds i true) w↔aG C c0 l w:=fun l w=>by unfold aG;rw[getD_set_ne true hic]
 have hcl:∀(l:Array Bool) (w w':World),aG C c0 l w→Gr w w'→aG C c0 l w':=fun l w w' h g hc=>hC _ _ (h hc) g;induction n with
 |zero=>
  intro listed a w _ hr hIl hy hS H w' g
  refine⟨fun h=>(by rw[h]at hr;cases hr),fun j hj=>?_⟩
  by_cases hji:j=i
  ·subst hji
   exact hy.op hi (hT _ _ hIl (hcl _ _ _ hS g)) fun w'' g'=>⟨(hset _ _).2 (hcl _ _ _ hS (g.trans g')),KF H (g.trans g')⟩
  ·have h1:=ready_mono hj hji
   rw[(H w' g).1]at h1
   cases h1
 |succ n ih=>
  intro listed a w hfree hr hIl hy hS H w' g
  refine⟨fun h=>(by rw[h]at hr;cases hr),fun j hj=>?_⟩
  by_cases hji:j=i
  ·subst hji
   exact hy.op hi (hT _ _ hIl (hcl _ _ _ hS g)) fun w'' g'=>⟨(hset _ _).2 (hcl _ _ _ hS (g.trans g')),KF H (g.trans g')⟩
  ·have h1:=(H w' g).2 j (ready_mono hj hji)
   obtain⟨hjun,oj,hoj,hall⟩:=mem_ready.1 hj
   have hiun:=(mem_ready.1 hr).1
   have hnot:∀e∈oj.after,Region.binds md e=true→e.on≠i:=fun e he hb heq=>by
    have h2:=hall e he hb;rw[heq]at h2;have hlt:i<listed.size:=by
     rcases jU i listed.size with h'|h'
     ·exact h'
     ·simp[zF h']at h2
    simp[hlt]at hiun h2;rw[hiun]at h2;cases h2
   have hap:=hfree j oj hoj hji hjun hnot
   obtain⟨_,_,h3⟩:=Oper.apart_spec hap
   have hsi:∀cs b,oi.op≠ .select cs b:=fun cs b=>Region.noSelect_spec hs i oi cs b hi
   have h2:=TO (X:=fun a=>wY P ops T oi v a) hoj hap (fun cs b=>Region.noSelect_spec hs j oj cs b hoj) hQ
    (fun a u hx=>hx.of_same (execOp_put oi hsi a oj.dst u h3) (wanted_put oi a oj.dst u h3)) (fun a d hx=>hx.of_same rfl rfl) hy h1
   have hfree':∀k ok,ops[k]?=some ok→k≠i→(listed.setIfInBounds j true).getD k true=false→(∀e∈ok.after,Region.binds md e=true→e.on≠i)→oi.apart ops ok=true:=fun k ok hk hki hun hno=>by
    refine hfree k ok hk hki ?_ hno;by_cases hjk:j=k
    ·subst hjk;exact hjun
    ·rw[getD_set_ne true hjk]at hun;exact hun
   refine wpOp_mono (fun a' w'' h4=>?_) h2
   obtain⟨hy',hS',hA'⟩:=h4
   rw[Array.setIfInBounds_comm _ _ (Ne.symm hji)]at hA' hS'
   exact⟨(hset _ _).1 hS',ih (listed.setIfInBounds j true) a' w'' hfree' (ready_mono hr (Ne.symm hji)) (hI _ _ hIl hiun hj hji) hy' ((hset _ _).1 hS') hA'⟩
def F6(md:Region.Mode)(ops:Array Oper)(listed:Array Bool)(i c0:Nat):Bool:=
 let W:=(List.range ops.size).foldl (fun W m=>match ops[m]? with|some o=>if o.after.any (fun e=>Region.binds md e&&(e.on==i||W.contains e.on))then m::W else W|none=>W) []
 W.contains c0&&W.all fun m=> !listed.getD m true&&match ops[m]? with|some o=>o.after.any (fun e=>Region.binds md e&&(e.on==i||W.contains e.on))|none=>false
theorem Q8{i:Nat}{listed:Array Bool}(h:F6 md ops listed i c0=true):∃I:Array Bool→Prop,I listed∧(∀l,I l→l.getD c0 true=false)∧∀(l:Array Bool) j,I l→l.getD i true=false→j∈Region.ready md ops l→j≠i→I (l.setIfInBounds j true):=by
 unfold F6 at h;generalize (List.range ops.size).foldl _ _=W at h;simp only[zC,jJ]at h;obtain⟨hc,hW⟩:=h;have hc:c0∈W:=zG6;refine⟨fun l=>∀m∈W,l.getD m true=false,fun m hm=>by have:=(hW m hm).1;simpa using this,fun l hl=>hl c0 hc,fun l j hl hiu hj hji m hm=>?_⟩;have hjW:j ∉ W:=fun hjm=>by
  obtain⟨_,oj,hoj,hall⟩:=mem_ready.1 hj;have h2:=(hW j hjm).2;rw[hoj]at h2;simp only at h2;obtain⟨e,he,hb⟩:=Array.any_eq_true'.1 h2;simp only[zC,Bool.or_eq_true,beq_iff_eq,List.contains_eq_mem,qK]at hb;have h3:=hall e he hb.1;have h4:l.getD e.on true=false:=by
   rcases hb.2 with h5|h5
   ·rw[h5];exact hiu
   ·exact hl _ h5
  have hlt:e.on<l.size:=by
   rcases jU e.on l.size with h'|h'
   ·exact h'
   ·simp[zF h']at h3
  simp[hlt]at h3 h4;rw[h3]at h4;cases h4
 have hne:j≠m:=fun e=>hjW (e▸hm);rw[getD_set_ne true hne];exact hl m hm
def oW:Op→Bool
 |.move _| .assign _| .extract ..=>true
 |_=>false
theorem H8{o:Oper}{ρ:Operand→Value}{v:Value}{w:World}(h:oW o.op=true)(hr:(execOp ρ o).run P w=.ok (.value v) w)(w':World):(execOp ρ o).run P w'=.ok (.value v) w':=by
 obtain⟨dst,op,ty,pos,after,guard⟩:=o;cases op<;>simp[oW]at h
 case move x=>unfold execOp at hr⊢;simp at hr⊢;exact hr
 case assign x=>unfold execOp at hr⊢;simp at hr⊢;exact hr
 case extract x k=>
  unfold execOp at hr⊢
  simp only at hr⊢
  cases hx:ρ x<;>simp[hx,go_sem]at hr⊢
  all_goals
   first
   |(split at hr<;>simp_all [go_sem];done)
   |(cases hk:_<;>simp_all [go_sem];done)
   |exact hr
def UG(md:Region.Mode)(ops:Array Oper)(c0:Nat):List Nat→Array Bool→Bool
 |[],_=>true
 |i::is,listed=>(match ops[i]? with|some o=>tJ o.op&&(F6 md ops listed i c0||oW o.op)|none=>false)&&(Region.ready md ops listed).contains i&&Region.free md ops listed i&&decide (i≠c0)&&UG md ops c0 is (listed.setIfInBounds i true)
theorem rD{o:Oper}{v:Value}{a:Act}(h:YieldsIf P ops T o v a):wY P ops T o v a:=by
 rcases h with⟨hw,h⟩|h
 ·exact .inl ⟨hw,fun w hT=>by rw[h w hT];exact⟨rfl,Gr.refl w⟩⟩
 ·exact .inr h
theorem dQ(hs:Region.noSelect ops=true)(hQ:∀(c:_) (a:Act) (d:Option Tmp) (v:Value) (w:World),Q (.panic c) (a.put d v) w→Q (.panic c) a w)(hC:∀w w',C w→Gr w w'→C w')(n:Nat){w:World}(hw:C w):∀(is:List Nat) (listed:Array Bool) (a:Act),
  UG md ops c0 is listed=true→wpQuiet P ops C (fun a'=>Z2 P md ops Q C c0 n (nL listed is) a' w) (lW ops is) a→Z2 P md ops Q C c0 (n+is.length) listed a w
 |[],listed,a,_,h=>h
 |i::is,listed,a,hB,h=>by
  simp only[UG,zC,qK]at hB;obtain⟨⟨⟨⟨hp,hr⟩,hf⟩,hic⟩,hB'⟩:=hB;cases ho:ops[i]? with
  |none=>rw[ho]at hp;cases hp
  |some o=>
   rw[ho]at hp
   simp only[zC,Bool.or_eq_true]at hp
   simp only[lW,ho,wpQuiet]at h
   obtain⟨v,hy,hK⟩:=uJ hp.1 ⟨w,hw⟩ h
   have hr':i∈Region.ready md ops listed:=by simpa using hr
   rcases hp.2 with hwt|hsm
   ·obtain⟨I,hI0,hI1,hI2⟩:=Q8 hwt
    exact gP (T:=C) (I:=I) ho hs (fun c a w=>hQ c a o.dst v w) hic hC (fun l w hl hS=>hS (hI1 l hl)) hI2 _ listed a w (Region.free_spec ho hf) hr' hI0 (rD hy) (fun _=>hw) (dQ hs hQ hC n hw is _ _ hB' hK)
   ·have hy':YieldsIf P ops (fun _=>True) o v a:=by
     rcases hy with⟨h1,h2⟩|h1
     ·exact .inl ⟨h1,fun w' _=>H8 hsm (h2 w hw) w'⟩
     ·exact .inr h1
    exact gP (T:=fun _=>True) (I:=fun _=>True) ho hs (fun c a w=>hQ c a o.dst v w) hic hC (fun _ _ _ _=>trivial) (fun _ _ _ _ _ _=>trivial) _ listed a w (Region.free_spec ho hf) hr' trivial (rD hy') (fun _=>hw) (dQ hs hQ hC n hw is _ _ hB' hK)
def F8(md:Region.Mode)(ops:Array Oper)(c0:Nat):List Nat→Array Bool→Bool
 |[],_=>true
 |i::is,listed=>(match ops[i]? with|some o=>tJ o.op|none=>false)&&(Region.ready md ops listed).contains i&&Region.free md ops listed i&&decide (i≠c0)&&F8 md ops c0 is (listed.setIfInBounds i true)
theorem KT(hs:Region.noSelect ops=true)(hQ:∀(c:_) (a:Act) (d:Option Tmp) (v:Value) (w:World),Q (.panic c) (a.put d v) w→Q (.panic c) a w)(hC:∀w w',C w→Gr w w'→C w')(n:Nat){w:World}:∀(is:List Nat) (listed:Array Bool) (a:Act),
  listed.getD c0 true=true→F8 md ops c0 is listed=true→wpQuiet P ops (fun w=>∃x:yM,w=x.w) (fun a'=>Z2 P md ops Q C c0 n (nL listed is) a' w) (lW ops is) a→Z2 P md ops Q C c0 (n+is.length) listed a w
 |[],listed,a,_,_,h=>h
 |i::is,listed,a,hl,hB,h=>by
  simp only[F8,zC,qK]at hB;obtain⟨⟨⟨⟨hp,hr⟩,hf⟩,hic⟩,hB'⟩:=hB;cases ho:ops[i]? with
  |none=>rw[ho]at hp;cases hp
  |some o=>
   rw[ho]at hp
   simp only[lW,ho,wpQuiet]at h
   obtain⟨v,hy,hK⟩:=uJ hp ⟨w,yM.any w⟩ h
   have hr':i∈Region.ready md ops listed:=by simpa using hr
   have hl':(listed.setIfInBounds i true).getD c0 true=true:=by rw[getD_set_ne true hic];exact hl
   exact gP (T:=fun w=>∃x:yM,w=x.w) (I:=fun _=>True) ho hs (fun c a w=>hQ c a o.dst v w) hic hC (fun _ w _ _=>yM.any w) (fun _ _ _ _ _ _=>trivial) _ listed a w (Region.free_spec ho hf) hr' trivial (rD hy)
    (fun h=>by rw[hl]at h;cases h) (KT hs hQ hC n is _ _ hl' hB' hK)
def zKM(P:Program)(ops:Array Oper)(Q:Exit→Act→World→Prop)(c0:Nat)(last:List Nat)(a:Act)(w:World):Prop:=
 match ops[c0]? with
 |none=>False
 |some o=>if Region.wanted o (yielded ops a.tmps)then o.wp P a w (fun a'' w''=>wpQuiet P ops (fun w=>∃x:yM,w=x.w) (fun a3=>∀w3,Gr w'' w3→Q .normal a3 w3) (lW ops last) a'') Q else False
def cA(P:Program)(ops:Array Oper)(C:World→Prop)(Q:Exit→Act→World→Prop)(c0:Nat):List (List Nat×Nat×Bool)→List Nat→List Nat→Act→World→Prop
 |[],is0,last,a,w=>wpQuiet P ops C (fun a'=>∀w',Gr w w'→C w'→zKM P ops Q c0 last a' w') (lW ops is0) a
 |(is,c,true)::rest,is0,last,a,w=>wpQuiet P ops C (fun a'=>match ops[c]? with
   |none=>False
   |some o=>∃v,wY P ops C o v a'∧cA P ops C Q c0 rest is0 last (a'.put o.dst v) w) (lW ops is) a
 |(is,c,false)::rest,is0,last,a,w=>wpQuiet P ops C (fun a'=>match ops[c]? with
   |none=>False
   |some o=>∀w',Gr w w'→C w'→if Region.wanted o (yielded ops a'.tmps)then o.wp P a' w' (fun a'' w''=>C w''∧cA P ops C Q c0 rest is0 last a'' w'') Q else False) (lW ops is) a
def aB(md:Region.Mode)(ops:Array Oper)(c0:Nat):List (List Nat×Nat×Bool)→List Nat→List Nat→Array Bool→Bool
 |[],is0,last,listed=>UG md ops c0 is0 listed&&decide (Region.ready md ops (nL listed is0)=[c0])&&((nL listed is0).setIfInBounds c0 true).getD c0 true&&F8 md ops c0 last ((nL listed is0).setIfInBounds c0 true)&&(Region.ready md ops (nL ((nL listed is0).setIfInBounds c0 true) last)).isEmpty
 |(is,c,true)::rest,is0,last,listed=>UG md ops c0 is listed&&F6 md ops (nL listed is) c c0&&(Region.ready md ops (nL listed is)).contains c&&Region.free md ops (nL listed is) c&&decide (c≠c0)&&aB md ops c0 rest is0 last ((nL listed is).setIfInBounds c true)
 |(is,c,false)::rest,is0,last,listed=>UG md ops c0 is listed&&decide (Region.ready md ops (nL listed is)=[c])&&decide (c≠c0)&&aB md ops c0 rest is0 last ((nL listed is).setIfInBounds c true)
def rQ:List (List Nat×Nat×Bool)→List Nat→List Nat→Nat
 |[],is0,last=>last.length+1+is0.length
 |(is,_,_)::rest,is0,last=>rQ rest is0 last+1+is.length
theorem gX{K K':Act→Prop}(hK:∀a,K a→K' a):∀(l:List Oper) (a:Act),wpQuiet P ops C K l a→wpQuiet P ops C K' l a:=by
 exact zB2
theorem dO(hs:Region.noSelect ops=true)(hQ:∀(c:_) (a:Act) (d:Option Tmp) (v:Value) (w:World),Q (.panic c) (a.put d v) w→Q (.panic c) a w)(hC:∀w w',C w→Gr w w'→C w')(n:Nat)(is0 last:List Nat):∀(bs:List (List Nat×Nat×Bool)) (listed:Array Bool) (a:Act) (w:World),C w→
  aB md ops c0 bs is0 last listed=true→cA P ops C Q c0 bs is0 last a w→Z2 P md ops Q C c0 (n+rQ bs is0 last) listed a w
 |[],listed,a,w,hw,hB,h=>by
  simp only[aB,zC,qK]at hB;obtain⟨⟨⟨⟨hB1,hB2⟩,hB3⟩,hB4⟩,hB5⟩:=hB;simp only[rQ];rw[←qP,←qP];refine dQ hs hQ hC _ hw is0 listed a hB1 (gX (fun a' ha=>?_) _ _ h);intro w' g;refine⟨fun h=>(by rw[hB2]at h;cases h),fun i hi=>?_⟩;rw[hB2]at hi;obtain rfl:i=c0:=by simpa using hi
  have ha:=ha w' g (hC _ _ hw g);unfold zKM at ha;unfold wpOp;cases ho:ops[i]? with
  |none=>rw[ho]at ha;exact ha.elim
  |some o=>
   rw[ho]at ha
   simp only at ha⊢
   by_cases hwt:Region.wanted o (yielded ops a'.tmps)=true
   ·rw[zN hwt]at ha⊢
    refine .inl (Oper.wp_mono (fun a'' w'' h2=>⟨fun h=>(by rw[hB3]at h;cases h),?_⟩) ha)
    refine KT hs hQ hC n last _ a'' hB3 hB4 (gX (fun a3 h3=>?_) _ _ h2)
    have hr:Region.ready md ops (nL ((nL listed is0).setIfInBounds i true) last)=[]:=by simpa using hB5
    cases n with
    |zero=>exact fun w3 g3=>⟨hr,h3 w3 g3⟩
    |succ n=>exact fun w3 g3=>⟨fun _=>h3 w3 g3,fun i hi=>by rw[hr]at hi;cases hi⟩
   ·rw[zL hwt]at ha
    exact ha.elim
 |(is,c,true)::rest,listed,a,w,hw,hB,h=>by
  simp only[aB,zC,qK]at hB;obtain⟨⟨⟨⟨⟨hB1,hB2⟩,hB3⟩,hB4⟩,hB5⟩,hB6⟩:=hB;simp only[rQ];rw[←qP];simp only[cA]at h;refine dQ hs hQ hC _ hw is listed a hB1 (gX (fun a' ha=>?_) _ _ h);cases ho:ops[c]? with
  |none=>rw[ho]at ha;exact ha.elim
  |some o=>
   rw[ho]at ha
   obtain⟨v,hy,hK⟩:=ha
   obtain⟨I,hI0,hI1,hI2⟩:=Q8 hB2
   rw[←qP]
   exact gP (T:=C) (I:=I) ho hs (fun c a w=>hQ c a o.dst v w) hB5 hC (fun l w hl hS=>hS (hI1 l hl)) hI2 _ _ a' w (Region.free_spec ho hB4) (by simpa using hB3) hI0 hy (fun _=>hw) (dO hs hQ hC n is0 last rest _ _ w hw hB6 hK)
 |(is,c,false)::rest,listed,a,w,hw,hB,h=>by
  simp only[aB,zC,qK]at hB;obtain⟨⟨⟨hB1,hB2⟩,hB3⟩,hB4⟩:=hB;simp only[rQ];rw[←qP];simp only[cA]at h;refine dQ hs hQ hC _ hw is listed a hB1 (gX (fun a' ha=>?_) _ _ h);rw[←qP];intro w' g;refine⟨fun h=>(by rw[hB2]at h;cases h),fun i hi=>?_⟩;rw[hB2]at hi;obtain rfl:i=c:=by simpa using hi
  unfold wpOp;cases ho:ops[i]? with
  |none=>rw[ho]at ha;exact ha.elim
  |some o=>
   rw[ho]at ha
   have ha:=ha w' g (hC _ _ hw g)
   simp only at ha⊢
   by_cases hwt:Region.wanted o (yielded ops a'.tmps)=true
   ·rw[zN hwt]at ha⊢
    exact .inl (Oper.wp_mono (fun a'' w'' h2=>⟨fun _=>h2.1,dO hs hQ hC n is0 last rest _ a'' w'' h2.1 hB4 h2.2⟩) ha)
   ·rw[zL hwt]at ha
    exact ha.elim
theorem lT{id:Nat}{a:Act}{w:World}{l:List Oper}(c0:Nat)(bs:List (List Nat×Nat×Bool))(is0 last:List Nat)(hm:P.follows .mixedOrders=true)
  (hB:(Region.noSelect l.toArray&&aB .any l.toArray c0 bs is0 last (Array.replicate l.toArray.size false)&&decide (rQ bs is0 last≤l.toArray.size))=true)
  (hQ:∀(c:_) (a:Act) (d:Option Tmp) (v:Value) (w:World),Q (.panic c) (a.put d v) w→Q (.panic c) a w) (hC:∀w w',C w→Gr w w'→C w') (hw:C w.drew)
  (h:∀wd,wd=w.drew→cA P l.toArray C Q c0 bs is0 last a wd):(Code.region id l.toArray true).wp P Q a w:=by
 simp only[zC,qK]at hB;obtain⟨⟨hs,hb⟩,hle⟩:=hB;refine wp_region_any hm (tN (C:=C) (c0:=c0) _ _ _ _ ?_);have:=dO (md:=.any) hs hQ hC (l.toArray.size-rQ bs is0 last) is0 last bs (Array.replicate l.toArray.size false) a w.drew hw hb (h _ rfl);rwa [Nat.sub_add_cancel hle]at this
variable {rest:List (List Nat×Nat×Bool)} {is is0 last:List Nat} {c:Nat} {l:List Oper} {o:Oper} {a:Act} {w:World}
def ZQ(P:Program)(ops:Array Oper)(C:World→Prop)(Q:Exit→Act→World→Prop)(c0:Nat)(rest:List (List Nat×Nat×Bool))(is0 last:List Nat)(o:Oper)(w:World)(a:Act):Prop:=∃v,wY P ops C o v a∧cA P ops C Q c0 rest is0 last (a.put o.dst v) w
def VP(P:Program)(ops:Array Oper)(C:World→Prop)(Q:Exit→Act→World→Prop)(c0:Nat)(rest:List (List Nat×Nat×Bool))(is0 last:List Nat)(o:Oper)(w:World)(a:Act):Prop:=∀w',Gr w w'→C w'→if Region.wanted o (yielded ops a.tmps)then o.wp P a w' (fun a'' w''=>C w''∧cA P ops C Q c0 rest is0 last a'' w'') Q else False
def o9(P:Program)(ops:Array Oper)(C:World→Prop)(Q:Exit→Act→World→Prop)(last:List Nat)(o:Oper)(w:World)(a:Act):Prop:=∀w',Gr w w'→C w'→if Region.wanted o (yielded ops a.tmps)then o.wp P a w' (fun a'' w''=>wpQuiet P ops (fun w=>∃x:yM,w=x.w) (fun a3=>∀w3,Gr w'' w3→Q .normal a3 w3) (lW ops last) a'') Q else False
theorem mV(hl:lW ops is=l)(ho:ops[c]?=some o)(h:wpQuiet P ops C (ZQ P ops C Q c0 rest is0 last o w) l a):cA P ops C Q c0 ((is,c,true)::rest) is0 last a w:=by
 subst hl;simp only[cA,ho];exact h
theorem DN(h:wpQuiet P ops C (ZQ P ops C Q c0 rest is0 last o w) l a)(hl:lW ops is=l:=by simp only[lW,zX,zK,zV];rfl)(ho:ops[c]?=some o:=by simp only[zX,zK,zV];rfl):cA P ops C Q c0 ((is,c,true)::rest) is0 last a w:=mV hl ho h
theorem cD(hl:lW ops is=l)(ho:ops[c]?=some o)(h:wpQuiet P ops C (VP P ops C Q c0 rest is0 last o w) l a):cA P ops C Q c0 ((is,c,false)::rest) is0 last a w:=by
 subst hl;simp only[cA,ho];exact h
theorem mZ(hl:lW ops is0=l)(ho:ops[c0]?=some o)(h:wpQuiet P ops C (o9 P ops C Q last o w) l a):cA P ops C Q c0 [] is0 last a w:=by
 subst hl;simp only[cA,zKM,ho];exact h
theorem DM(h:wpQuiet P ops C (o9 P ops C Q last o w) l a)(hl:lW ops is0=l:=by simp only[lW,zX,zK,zV];rfl)(ho:ops[c0]?=some o:=by simp only[zX,zK,zV];rfl):cA P ops C Q c0 [] is0 last a w:=mZ hl ho h
theorem dD{o:Oper}{ρ:Operand→Value}{g:Nat}{caps args:Array Value}(x:Operand)(xs:Array Operand)(ts:Array TypeId)(ho:o.op=.call {callee:=.value x,args:=xs,argTypes:=ts})(hx:ρ x=.func (.func g) #[] caps)
  (eg:∀args w,(callFunc g args).run P w=.ok (.enter g args) w) (ha:xs.map ρ++caps=args) (w:World):(execOp ρ o).run P w=.ok (.enter g args) w:=by
 subst ha;unfold execOp;simp only[ho,resolve,hx];simp[go_sem,invoke,eg]
theorem mC{o:Oper}{g:Nat}{caps args:Array Value}{v:Value}(x:Operand)(xs:Array Operand)(ts:Array TypeId)(ho:o.op=.call {callee:=.value x,args:=xs,argTypes:=ts})(hw:Region.wanted o (yielded ops a.tmps)=true)
  (eg:∀args w,(callFunc g args).run P w=.ok (.enter g args) w) (hc:∀w,C w→Calls P g args w fun e w'=>e=.returned v∧Gr w w') (hx:a.eval x=.func (.func g) #[] caps) (ha:xs.map a.eval++caps=args):wY P ops C o v a:=
 .inl ⟨hw,fun w hC=>by rw[dD x xs ts ho hx eg ha w];exact⟨rfl,hc w hC⟩⟩
theorem mK{o:Oper}{g:Nat}{caps args:Array Value}{K:Act→World→Prop}(x:Operand)(xs:Array Operand)(ts:Array TypeId)(ho:o.op=.call {callee:=.value x,args:=xs,argTypes:=ts})(eg:∀args w,(callFunc g args).run P w=.ok (.enter g args) w)(hx:a.eval x=.func (.func g) #[] caps)(ha:xs.map a.eval++caps=args)
  (h:Calls P g args w fun e w'=>∃v,e=.returned v∧K (a.put o.dst v) w'):o.wp P a w K Q:=by
 exact zRD
theorem mW{v:Value}(hy:wY P ops C o v a)(h:cA P ops C Q c0 rest is0 last (a.put o.dst v) w):ZQ P ops C Q c0 rest is0 last o w a:=⟨v,hy,h⟩
theorem cR(hw:Region.wanted o (yielded ops a.tmps)=true)(h:∀w',Gr w w'→C w'→∀K:Act→World→Prop,(∀a w,C w→cA P ops C Q c0 rest is0 last a w→K a w)→o.wp P a w' K Q):VP P ops C Q c0 rest is0 last o w a:=by
 intro w' g hC;rw[zN hw];exact h w' g hC _ fun a w hc h=>⟨hc,h⟩
theorem mJ(hw:Region.wanted o (yielded ops a.tmps)=true)(h:∀w',Gr w w'→C w'→∀K:Act→World→Prop,(∀a w,wpQuiet P ops (fun w=>∃x:yM,w=x.w) (fun a3=>∀w3,Gr w w3→Q .normal a3 w3) (lW ops last) a→K a w)→o.wp P a w' K Q):o9 P ops C Q last o w a:=by
 intro w' g hC;rw[zN hw];exact h w' g hC _ fun a w h=>h
end
section
variable {P:Program} {ops:Array Oper} {C:World→Prop}
theorem tH{Q:Exit→Act→World→Prop}:∀(l:List Oper) (a:Act) (w:World),C w→wpQuiet P ops C (fun a'=>∀w',C w'→Q .normal a' w') l a→wpList P ops Q l a w
 |[],a,w,hC,h=>h w hC
 |o::l,a,w,hC,h=>by
  refine wpList_step fun K hK=>?_;simp only[wpQuiet]at h;split
  ·rename_i hw
   rw[zN hw]at h;exact Oper.wp_of_quiet hC (fun a' w' hC' h'=>hK a' w' (tH l a' w' hC' h')) h
  ·rename_i hw
   rw[zL hw]at h;exact hK _ _ (tH l _ w hC h)
theorem gD{id:Nat}{l:List Oper}{Q:Exit→Act→World→Prop}{a:Act}{W:World}
  (h:wpQuiet P l.toArray (fun w'=>∃x:lA W,w'=x.w) (fun a'=>∀w',(∃x:lA W,w'=x.w)→Q .normal a' w') l a):(Code.region id l.toArray false).wp P Q a W:=
 zH (tH l a W ⟨⟨W,zB _ _⟩,rfl⟩ h)
end
structure zWR(P:Program)(S E:TypeId)(z:Value)(bytes:Nat):Prop where
 u:P.underlying S=some (.slice E)
 i:(P.info? E).map (fun i=>(i.zero,i.size,i.bytes))=some (some z,1,bytes)
 z1:z.cells.size=1
section
variable {P:Program} {S E:TypeId} {z:Value} {bytes:Nat} {α:Type} {enc:α→Value}
theorem oL(K:zWR P S E z bytes)(h1:∀a,(enc a).oneCell'=true)(w:World)(ty:TypeId)(base:Nat)(v:Value)(n:Nat)(L0:List α)(hown:w.ownsRow base E 1 v n (L0.map enc))(A:Option Addr)(m c:Nat)(L:List α)(hR:Row enc w A L)(hL:L.length=m)
  (h63:n+m≤1000000) (hby:bytes≤64) (hbase:base≤w.heap.size):
  ∃v' w',(Builtin.append_ #[S,S] ty #[v,.slice A m c]).run P w=.ok v' w'∧w'.ownsRow base E 1 v' (n+m) ((L0++L).map enc)∧w.grownBy w' v.ownBlock:=by
 obtain⟨i0,hi,hz0,hz1,hz2⟩:=kA K.i;rcases A with _|ad
 ·have hm:m=0:=by
   rcases Nat.eq_zero_or_pos m with h|h
   ·exact h
   ·obtain⟨b,o,e,_⟩:=hR (by rintro rfl;simp at hL;omega);cases e
  subst hm;obtain rfl:L=[]:=jE hL;refine⟨v,w,?_,by simpa using hown,World.grownBy.refl w _⟩;rcases hown.2 with⟨rfl,rfl⟩|⟨g,cap,cur,rfl,_,_,hnc,_⟩
  ·simp[Builtin.append_,jV K.u,sizeOf,typeInfo,hi,Builtin.lenOf,Builtin.firstCells]
  ·simp[Builtin.append_,jV K.u,sizeOf,typeInfo,hi,Builtin.lenOf,Builtin.firstCells,hnc,storeCells]
 ·have hc:∀j u,(L.map enc)[j]?=some u→w.cell? (ad.add j)=some u:=by
   by_cases hne:L=[]
   ·subst hne;intro j u hu;simp at hu
   ·obtain⟨b,o,e,_,hc⟩:=hR hne;injection e with e
    subst e;intro j u hu;rw[jX]at hu;obtain⟨a,ha,rfl⟩:=kT.1 hu;obtain⟨hj,e2⟩:=jP.1 ha;rw[show(⟨b,o,none⟩:Addr).add j=⟨b,o+j,none⟩ by unfold Addr.add;split<;>simp_all,hc j hj,e2]
  have hb:(n+m)*bytes≤140737488355328:=zR (Nat.mul_le_mul h63 hby) zGL;obtain⟨v',w',hrun,h2,h3,_,_⟩:=run_append_own_at (P:=P) w base S ty E i0 z 1 bytes K.u hi hz0 hz1 hz2 K.z1 zGX v n _ hown ad m c (L.map enc) (by rw[qI];omega) hc (fun u hu=>by
   obtain⟨a,_,rfl⟩:=jG.1 hu;exact h1 a) zGD hb hbase
  exact⟨v',w',hrun,by rw[kY];exact h2,h3⟩
theorem QW(K:zWR P S E z bytes)(h1:∀a,(enc a).oneCell'=true){w:World}{o:Oper}{a:Act}{K':Act→World→Prop}{Q:Exit→Act→World→Prop}(s x:Operand)
  (ho:o.op=.call {callee:=.builtin .append,args:=#[s,x],argTypes:=#[S,S]}) (base:Nat) (v:Value) (n:Nat) (L0:List α) (hs:a.eval s=v) (hown:w.ownsRow base E 1 v n (L0.map enc))
  (A:Option Addr) (m c:Nat) (L:List α) (hx:a.eval x=.slice A m c) (hR:Row enc w A L) (hL:L.length=m) (h63:n+m≤1000000) (hby:bytes≤64) (hbase:base≤w.heap.size)
  (h:∀v' w',w'.ownsRow base E 1 v' (n+m) ((L0++L).map enc)→w.grownBy w' v.ownBlock→K' (a.put o.dst v') w'):o.wp P a w K' Q:=by
 obtain⟨v',w',hrun,h2,h3⟩:=oL K h1 w o.type base v n L0 hown A m c L hR hL h63 hby hbase;unfold Oper.wp execOp;simp only[ho,resolve,invoke,builtin,zA,Sem.run_pure,Result.andThen_ok,List.map_toArray,List.map_cons,List.map_nil,hs,hx,hrun];exact h v' w' h2 h3
theorem xL(K:zWR P S E z bytes)(h1:∀a,(enc a).oneCell'=true){w:World}{ops:Array Oper}{rest:List Oper}{o:Oper}{a:Act}{Q:Exit→Act→World→Prop}(hgd:o.guard=none)(s x:Operand)
  (ho:o.op=.call {callee:=.builtin .append,args:=#[s,x],argTypes:=#[S,S]}) (base:Nat) (v:Value) (n:Nat) (L0:List α) (hs:a.eval s=v) (hown:w.ownsRow base E 1 v n (L0.map enc))
  (A:Option Addr) (m c:Nat) (L:List α) (hx:a.eval x=.slice A m c) (hR:Row enc w A L) (hL:L.length=m) (h63:n+m≤1000000) (hby:bytes≤64) (hbase:base≤w.heap.size)
  (h:∀v' w',w'.ownsRow base E 1 v' (n+m) ((L0++L).map enc)→w.grownBy w' v.ownBlock→wpList P ops Q rest (a.put o.dst v') w'):wpList P ops Q (o::rest) a w:=
 qZ hgd fun _ hK=>QW K h1 s x ho base v n L0 hs hown A m c L hx hR hL h63 hby hbase fun v' w' h2 h3=>hK _ _ (h v' w' h2 h3)
end
end
section
open Go.RowKit Num Dec Cpu
structure Sl where
 A:Option Addr
 n:Nat
 c:Nat
def Sl.v(s:Sl):Value:=.slice s.A s.n s.c
structure CS where
 v:Nat→Nat
 i:Int
 pc:Int
 sk:Sl
 M:Sl
 G:Sl
 hi:Bool
 msk:Int
 K:Sl
 dl:Nat
 sd:Nat
 P:Sl
 pt:Nat
 fl:Sl
 L:Sl
 rd:Int
def cstT(s:CS):List Value:=[.int .i64 s.i,.int .i64 s.pc,s.sk.v,s.M.v,s.G.v,.bool s.hi,.int .i64 s.msk,s.K.v,.int .u8 (s.dl:Int),.int .u8 (s.sd:Int),s.P.v,.int .u8 (s.pt:Int),s.fl.v,s.L.v,.int .i64 s.rd]
def cst(s:CS):Array Value:=(((List.range 16).map fun j=>Value.int .u8 (s.v j:Int))++cstT s).toArray

end
section
open Go.RowKit Num
theorem IJ:zWR Tryz.prog 52 3 (.int .i64 0) 8:=⟨Tryz.underlying52,by kernel_rfl,rfl⟩
theorem A5(a:Int):(Value.int .i64 a).oneCell'=true:=rfl
structure zZG(base:Nat)(w:World)(A:Option Addr)(n c:Nat)(L:List Int):Prop where
 low:∀ad,A=some ad→base≤ad.block
 row:Row (Value.int .i64) w A L
 len:L.length=n
 cap:n≤c
 max:c≤maxLen
theorem zZG.below{base:Nat}{w w':World}{A:Option Addr}{n c:Nat}{L:List Int}(H:zZG base w A n c L)(b:Below w.heap.size w w'):zZG base w' A n c L:=⟨H.low,H.row.below b,H.len,H.cap,H.max⟩
theorem zZG.nil(base:Nat)(w:World):zZG base w none 0 0 []:=⟨fun _ e=>by(cases e),Row.nil,rfl,zG _,qW _⟩
end
section
open Go.RowKit Num Dec Cpu
theorem WP:zWR Tryz.prog 22 5 (.int .u8 0) 1:=⟨Tryz.underlying22,by kernel_rfl,rfl⟩
theorem zXP(a:Int):(Value.int .u8 a).oneCell'=true:=rfl
theorem iM{α:Type}(enc:α→Value)(w:World)(a:α)(t:TypeId):Row enc (w.alloc (.cells #[enc a] t)) (some ⟨w.heap.size,0,none⟩) [a]:=fun _=>⟨w.heap.size,0,rfl,by simp,fun j hj=>by
 have:j=0:=by simp at hj;exact hj
 subst this;simp⟩
def vY(v:Nat→Nat)(n:Nat):List Int:=(List.range n).map fun j=>(v j:Int)
theorem sZ(v:Nat→Nat)(n:Nat):(vY v n).length=n:=by simp[vY]
end
section
open Go.RowKit Num
def onB(M i:Nat):Bool:=decide (M/2^i%2=1)
def per(n:Nat)(big:Bool):Nat:=if big then 32 else n
def uZ(M n:Nat)(big:Bool):Nat→Nat
 |0=>0
 |k+1=>uZ M n big k+if onB M k then per n big else 0
theorem zLD(M n:Nat)(big:Bool)(hn:n≤32)(k:Nat):uZ M n big k≤32*k:=by
 induction k with
 |zero=>simp[uZ]
 |succ k ih=>
  rw[uZ]
  have:per n big≤32:=by unfold per;split<;>omega
  split<;>omega
end
section
open Go.RowKit Num Dec Cpu
def upL(x n:Nat):List Int:=(List.range n).map fun j:Nat=>(x:Int)+(j:Int)
def dnL(x n:Nat):List Int:=(List.range n).map fun j:Nat=>(x:Int)-(j:Int)
theorem zZ2(x n:Nat):upL x (n+1)=upL x n++[(x:Int)+(n:Int)]:=by simp[upL,List.range_succ]
theorem zVL(x n:Nat):dnL x (n+1)=dnL x n++[(x:Int)-(n:Int)]:=by simp[dnL,List.range_succ]
def rM(x y:Nat):List Int:=if x≤y then upL x (y-x+1)else dnL x (x-y+1)
def vG(x y:Nat):Nat:=if x≤y then y-x+1 else x-y+1
theorem dY(x y:Nat):(rM x y).length=vG x y:=by unfold rM vG;split<;>simp[upL,dnL]
def spN(M:Nat)(op:Int)(x y n:Nat):Nat:=
 if op=23 then uZ M n false 4 else if op=41 then uZ M 0 true 4 else if op=32 then 3 else if op=33∨op=34 then x+1
 else if op=46∨op=47 then vG x y else if op=50 then 16 else 0
def caN(N:Nat)(i:Int)(M:Nat)(op:Int)(x y n:Nat)(fa:Bool):Int:=
 if op=0 then 1 else if op=4∧N=16 then 2 else if op=2∧N=0 then 3 else if fa=true∧i+(spN M op x y n:Int)>65536 then 4 else 0
end
section
def vQ:List Int:=[240,144,144,144,240,32,96,32,32,112,240,16,240,128,240,240,16,240,16,240,144,144,240,16,16,240,128,240,16,240,240,128,240,144,240,240,16,32,64,64,240,144,240,144,240,240,144,240,16,240,240,144,240,144,144,224,144,224,144,224,240,128,128,128,240,224,144,144,144,224,240,128,240,128,240,240,128,240,128,128]
def wK:List Int:=[60,126,231,195,195,195,195,231,126,60,24,56,88,24,24,24,24,24,24,60,62,127,195,6,12,24,48,96,255,255,60,126,195,3,14,14,3,195,126,60,6,14,30,54,102,198,255,255,6,6,255,255,192,192,252,254,3,195,126,60,62,124,224,192,252,254,195,195,126,60,255,255,3,6,12,24,48,96,96,96,60,126,195,195,126,126,195,195,126,60,60,126,195,195,127,63,3,3,62,124,126,255,195,195,195,255,255,195,195,195,252,252,195,195,252,252,195,195,252,252,60,255,195,192,192,192,192,195,255,60,252,254,195,195,195,195,195,195,254,252,255,255,192,192,255,255,192,192,255,255,255,255,192,192,255,255,192,192,192,192]
def bX(k:Nat):List Int:=(vQ.drop (5*k)).take 5
def TJ(k:Nat):List Int:=(wK.drop (10*k)).take 10
theorem cW:vQ.length=80:=by decide+kernel
theorem yY:wK.length=160:=by decide+kernel
theorem H6{k:Nat}(h:k<16):(bX k).length=5:=by simp[bX,cW];omega
theorem zV8{k:Nat}(h:k<16):(TJ k).length=10:=by simp[TJ,yY];omega
theorem H4(k:Nat):vQ.take (5*(k+1))=vQ.take (5*k)++bX k:=by rw[Nat.mul_add];exact List.take_add
theorem zV6(k:Nat):wK.take (10*(k+1))=wK.take (10*k)++TJ k:=by rw[Nat.mul_add];exact List.take_add
theorem H7{k j:Nat}(hj:j<(bX k).length)(h:5*k+j<vQ.length):(bX k)[j]=vQ[5*k+j]:=by simp[bX]
theorem zV9{k j:Nat}(hj:j<(TJ k).length)(h:10*k+j<wK.length):(TJ k)[j]=wK[10*k+j]:=by simp[TJ]
theorem five{L:List Int}(h:L.length=5):∃x0 x1 x2 x3 x4,L=[x0,x1,x2,x3,x4]:=by
 match L,h with
 |[x0,x1,x2,x3,x4],_=>exact⟨x0,x1,x2,x3,x4,rfl⟩
theorem ten{L:List Int}(h:L.length=10):∃x0 x1 x2 x3 x4 x5 x6 x7 x8 x9,L=[x0,x1,x2,x3,x4,x5,x6,x7,x8,x9]:=by
 match L,h with
 |[x0,x1,x2,x3,x4,x5,x6,x7,x8,x9],_=>exact⟨x0,x1,x2,x3,x4,x5,x6,x7,x8,x9,rfl⟩
def put(M:List Int)(a:Int):List Int→List Int
 |[]=>M
 |x::b=>put (M.set (a%65536).toNat x) (a+1) b
theorem zY1(M:List Int)(a:Int):put M a []=M:=rfl
theorem VW(M:List Int)(a x:Int)(b:List Int):put M a (x::b)=put (M.set (a%65536).toNat x) (a+1) b:=rfl
theorem xZ(b:List Int):∀(M:List Int) (a:Int),(put M a b).length=M.length:=by
 induction b with
 |nil=>intro M a;rfl
 |cons x b ih=>intro M a;rw[VW,ih,List.length_set]
theorem iB(b:List Int):∀(M:List Int) (a:Int) (hb:b.length≤65536) (hM:M.length=65536) (j:Nat) (hj:j<65536),
  (put M a b)[j]?=if(((j:Int)-a)%65536).toNat<b.length then b[(((j:Int)-a)%65536).toNat]? else M[j]?:=by
 induction b with
 |nil=>intro M a hb hM j hj;simp[zY1]
 |cons x b ih=>
  intro M a hb hM j hj
  simp only[List.length_cons]at hb⊢
  rw[VW,ih _ _ zGX (by rw[List.length_set];exact hM) j hj]
  by_cases h0:(((j:Int)-a)%65536).toNat=0
  ·have e:(a%65536).toNat=j:=zGX
   rw[zL zGX,zN zGX,h0,e,List.getElem?_set_self zGX]
   rfl
  ·obtain⟨k,hk⟩:∃k,(((j:Int)-a)%65536).toNat=k+1:=⟨_,(Nat.succ_pred h0).symm⟩
   have e1:(((j:Int)-(a+1))%65536).toNat=k:=zGX
   rw[hk,e1,zK,List.getElem?_set_ne zGX]
   by_cases h:k<b.length
   ·rw[zN h,zN zGX]
   ·rw[zL h,zL zGX]
theorem WL{M:List Int}(hM:M.length=65536){j:Nat}(h:¬j<65536):M[j]?=none:=qR zGX
theorem CD{M N:List Int}(hM:M.length=65536)(hN:N.length=65536)(h:∀j,j<65536→M[j]?=N[j]?):M=N:=by
 apply kN
 intro j
 by_cases hj:j<65536
 ·exact h j hj
 ·rw[WL hM hj,WL hN hj]
theorem eS(M b:List Int)(off:Nat)(hM:M.length=65536)(h:off+b.length≤65536):splice M off b=put M off b:=by
 refine CD (by rw[yR _ _ _ zGX];exact hM) (by rw[xZ];exact hM) fun j hj=>?_;rw[yT _ _ _ zGX,iB b M off zGX hM j hj];by_cases h1:j<off
 ·rw[zN h1,zL zGX]
 ·rw[zL h1];by_cases h2:j<off+b.length
  ·rw[zN h2,zN zGX];congr 1
   omega
  ·rw[zL h2,zL zGX]
theorem MQ(M b:List Int)(a:Int)(at_ d:Nat)(ha:(a%65536).toNat=at_)(hd:d=min b.length (65536-at_))(hM:M.length=65536)(hb:b.length≤65536):
  splice (splice M at_ (b.take d)) 0 (b.drop d)=put M a b:=by
 have l1:(b.take d).length=d:=by rw[qX];omega
 have l2:(b.drop d).length=b.length-d:=jF;have l3:(splice M at_ (b.take d)).length=65536:=by rw[yR _ _ _ zGX];exact hM
 refine CD (by rw[yR _ _ _ zGX];exact l3) (by rw[xZ];exact hM) fun j hj=>?_;rw[yT _ _ _ zGX,yT _ _ _ zGX,iB b M a hb hM j hj,zL zGX,l1,l2];by_cases h1:j<b.length-d
 ·rw[zN zGX,zN zGX,j5];congr 1
  omega
 ·rw[zL zGX];by_cases h2:j<at_
  ·rw[zN h2,zL zGX]
  ·rw[zL h2];by_cases h3:j<at_+d
   ·rw[zN h3,zN zGX,List.getElem?_take,zN zGX];congr 1
    omega
   ·rw[zL h3,zL zGX]
theorem QL(M b:List Int)(a:Int)(k d:Nat)(ha:a%65536=k)(hd:d=min b.length (65536-k))(hM:M.length=65536)(hb:b.length≤65536):
  splice (splice M k (b.take (65536-k))) 0 ((b.drop d).take 65536)=put M a b:=by
 have e1:(b.drop d).take 65536=b.drop d:=qV (by rw[jF];omega);have e2:b.take (65536-k)=b.take d:=by
  by_cases h:b.length≤65536-k
  ·rw[qV h,qV zGX]
  ·have e:d=65536-k:=zGX;rw[e]
 rw[e1,e2];exact MQ M b a k d zGX zGX hM hb
def seg(M:List Int)(a:Int)(n:Nat):List Int:=(List.range n).map fun i:Nat=>M.getD ((a+(i:Int))%65536).toNat 0
theorem cO(M:List Int)(a:Int)(n:Nat):(seg M a n).length=n:=by simp[seg]
theorem rO(M:List Int)(a:Int)(n j:Nat)(hM:M.length=65536)(hj:j<n):(seg M a n)[j]?=M[((a+(j:Int))%65536).toNat]?:=by
 have h:((a+(j:Int))%65536).toNat<M.length:=zGX;simp[seg,hj,h]
theorem YD(M Z:List Int)(a:Int)(at_ n d:Nat)(ha:(a%65536).toNat=at_)(hd:d=min (65536-at_) n)(hM:M.length=65536)(hn:n≤65536)(hZ:Z.length=n):
  splice (splice Z 0 ((M.drop at_).take d)) d (M.take (n-d))=seg M a n:=by
 have l1:((M.drop at_).take d).length=d:=by rw[qX,jF];omega
 have l2:(M.take (n-d)).length=n-d:=by rw[qX];omega
 have l3:(splice Z 0 ((M.drop at_).take d)).length=n:=by rw[yR _ _ _ zGX];exact hZ
 apply kN
 intro j
 by_cases hj:j<n
 ·rw[rO M a n j hM hj,yT _ _ _ zGX,yT _ _ _ zGX,l1,l2];by_cases h1:j<d
  ·rw[zN h1,zL zGX,zN zGX,List.getElem?_take,zN zGX,j5];congr 1
   omega
  ·rw[zL h1,zN zGX,List.getElem?_take,zN zGX];congr 1
   omega
 ·rw[qR (by rw[yR _ _ _ zGX];omega),qR zBJ]
theorem MZ(M Z:List Int)(a:Int)(k n d:Nat)(ha:a%65536=k)(hd:d=min (65536-k) n)(hM:M.length=65536)(hn:n≤65536)(hZ:Z.length=n):
  splice (splice Z 0 ((M.drop k).take n)) d (M.take (n-d))=seg M a n:=by
 have e:(M.drop k).take n=(M.drop k).take d:=by
  by_cases h:n≤65536-k
  ·have e:d=n:=zGX;rw[e]
  ·rw[qV (by rw[jF];omega),qV (by rw[jF];omega)]
 rw[e];exact YD M Z a k n d zGX zGX hM hn hZ
def xM:List Int:=List.replicate 65536 0
theorem xX:xM.length=65536:=List.length_replicate
def wH(rom:List Int):List Int:=put (put (put xM 80 vQ) 160 wK) 512 rom
theorem aR(rom:List Int):(wH rom).length=65536:=by unfold wH;rw[xZ,xZ,xZ,xX]
end
section
open Go.RowKit Num
def z6:List Value:=[.int .u8 0,.int .u8 0,.int .u8 0,.int .u8 0,.int .u8 0,.int .u8 0,.int .u8 0,.int .u8 0,.int .u8 0,.int .u8 0,.int .u8 0,.int .u8 0,.int .u8 0,.int .u8 0,.int .u8 0,.int .u8 0,.int .u8 0,.int .u8 0,.int .u8 0,.int .u8 0,.int .u8 0,.int .u8 0,.int .u8 0,.int .u8 0,.int .u8 0,.int .u8 0,.int .u8 0,.int .u8 0,.int .u8 0,.int .u8 0,.int .u8 0,.int .u8 0,.int .u8 0,.int .u8 0,.int .u8 0,.int .u8 0,.int .u8 0,.int .u8 0,.int .u8 0,.int .u8 0,.int .u8 0,.int .u8 0,.int .u8 0,.int .u8 0,.int .u8 0,.int .u8 0,.int .u8 0,.int .u8 0,.int .u8 0,.int .u8 0,.int .u8 0,.int .u8 0,.int .u8 0,.int .u8 0,.int .u8 0,.int .u8 0,.int .u8 0,.int .u8 0,.int .u8 0,.int .u8 0,.int .u8 0,.int .u8 0,.int .u8 0,.int .u8 0]
def z7:List Value:=List.append z6 z6
def z8:List Value:=List.append z7 z7
def z9:List Value:=List.append z8 z8
def z10:List Value:=List.append z9 z9
def z11:List Value:=List.append z10 z10
def z12:List Value:=List.append z11 z11
def z13:List Value:=List.append z12 z12
def z14:List Value:=List.append z13 z13
def z15:List Value:=List.append z14 z14
theorem M8{L:List Value}{n:Nat}(h:L=List.replicate n (.int .u8 0)):List.append L L=List.replicate (n+n) (.int .u8 0):=by subst h;exact List.replicate_append_replicate
theorem zHD:z6=List.replicate 64 (.int .u8 0):=rfl
theorem zHT:z7=List.replicate 128 (.int .u8 0):=M8 zHD
theorem zHR:z8=List.replicate 256 (.int .u8 0):=M8 zHT
theorem zHB:z9=List.replicate 512 (.int .u8 0):=M8 zHR
theorem zZC:z10=List.replicate 1024 (.int .u8 0):=M8 zHB
theorem zZE:z11=List.replicate 2048 (.int .u8 0):=M8 zZC
theorem zZP:z12=List.replicate 4096 (.int .u8 0):=M8 zZE
theorem zZS:z13=List.replicate 8192 (.int .u8 0):=M8 zZP
theorem zZF:z14=List.replicate 16384 (.int .u8 0):=M8 zZS
theorem z15_eq:z15=List.replicate 32768 (.int .u8 0):=M8 zZF
def zraw:List Value:=List.append z15 (List.append z14 (List.append z13 (List.append z12 (List.append z11 (List.append z10 (List.append z9 (List.append z8 (List.append z7 (List.append z6 (List.append [.int .u8 0,.int .u8 0,.int .u8 0,.int .u8 0,.int .u8 0,.int .u8 0,.int .u8 0,.int .u8 0,.int .u8 0,.int .u8 0,.int .u8 0,.int .u8 0,.int .u8 0,.int .u8 0,.int .u8 0,.int .u8 0,.int .u8 0,.int .u8 0,.int .u8 0,.int .u8 0,.int .u8 0,.int .u8 0,.int .u8 0,.int .u8 0,.int .u8 0,.int .u8 0,.int .u8 0,.int .u8 0,.int .u8 0,.int .u8 0,.int .u8 0,.int .u8 0] [.int .u8 0,.int .u8 0,.int .u8 0,.int .u8 0,.int .u8 0,.int .u8 0,.int .u8 0,.int .u8 0,.int .u8 0,.int .u8 0,.int .u8 0,.int .u8 0,.int .u8 0,.int .u8 0,.int .u8 0,.int .u8 0,.int .u8 0,.int .u8 0,.int .u8 0,.int .u8 0,.int .u8 0,.int .u8 0,.int .u8 0,.int .u8 0,.int .u8 0,.int .u8 0,.int .u8 0,.int .u8 0,.int .u8 0,.int .u8 0,.int .u8 0,.int .u8 0,.slice none 0 0]))))))))))
theorem uV{n m:Nat}{L R:List Value}(h:L=List.replicate n (.int .u8 0)){S:List Value}(hS:R=List.replicate m (.int .u8 0)++S):List.append L R=List.replicate (n+m) (.int .u8 0)++S:=by
 subst h;subst hS;show List.replicate n (Value.int .u8 0)++(List.replicate m (Value.int .u8 0)++S)=_;rw[←kJ,List.replicate_append_replicate]
theorem zWD:zraw=List.replicate 65536 (.int .u8 0)++[.slice none 0 0]:=
 uV z15_eq (uV zZF (uV zZS (uV zZP (uV zZE (uV zZC (uV zHB (uV zHR (uV zHT (uV zHD (uV (n:=32) (m:=32) rfl rfl))))))))))
def cells(M:List Int)(v:Value):Array Value:=(M.map (Value.int .u8)++[v]).toArray
theorem YJ:zraw.toArray=cells xM (.slice none 0 0):=by
 rw[zWD];unfold cells xM;rw[List.map_replicate]
theorem CN:(Tryz.prog.info? 144).map (fun i=>(i.zero,i.size))=some (some (.agg (cells xM (.slice none 0 0))),65537):=by
 rw[←YJ];kernel_rfl
theorem zWE(w:World):(zeroValue 144).run Tryz.prog w=.ok (.agg (cells xM (.slice none 0 0))) w:=(zero_of_info CN).1 w
def nV(p:Nat)(M:List Int)(v:Value)(w:World):Prop:=w.heap[p]?=some (.cells (cells M v) 144 (0,0))
section
variable {p:Nat} {M:List Int} {v:Value} {w w':World}
theorem nV.lt(h:nV p M v w):p<w.heap.size:=(qM.1 h).1
theorem nV.cell(h:nV p M v w)(hM:M.length=65536)(j:Nat)(hj:j<65536):w.cell? ⟨p,j,none⟩=some (.int .u8 (M[j]' zGX)):=by
 rw[jO w p j _ _ _ h];unfold cells;rw[zX,qF zGH,jX,zS zGX];rfl
theorem nV.log(h:nV p M v w)(hM:M.length=65536):w.cell? ⟨p,65536,none⟩=some v:=by
 rw[jO w p _ _ _ _ h];unfold cells;rw[zX,qE zGH];simp[hM]
theorem nV.frozen(h:nV p M v w)(j:Nat):w.frozen? ⟨p,j,none⟩=false:=frozen_of_row w p j _ _ h
theorem nV.keep(h:nV p M v w)(hk:w'.heap[p]?=w.heap[p]?):nV p M v w':=hk.trans h
theorem nV.new(w:World):nV w.heap.size xM (.slice none 0 0) (w.alloc (.cells (cells xM (.slice none 0 0)) 144)):=jH _ _
theorem nV.setLog(h:nV p M v w)(hM:M.length=65536)(v':Value):nV p M v' (w.setCell ⟨p,65536,none⟩ v'):=by
 unfold nV;rw[setCell_eq_setRow w p _ _ _ _ v' h,setRow_heap w p _ _ _ _ h];congr 2
 unfold cells
 apply Array.ext'
 simp[hM]
end
theorem MJ(M b:List Int)(v:Value)(off:Nat)(hM:M.length=65536)(h:off+b.length≤65536):
  (splice (M.map (Value.int .u8)++[v]) off (b.map (Value.int .u8))).toArray=cells (splice M off b) v:=by
 unfold cells splice;congr 1
 have e1:(M.map (Value.int .u8)++[v]).take off=(M.take off).map (Value.int .u8):=by
  rw[List.take_append_of_le_length zGH,List.map_take]
 have e2:(M.map (Value.int .u8)++[v]).drop (off+(b.map (Value.int .u8)).length)=(M.drop (off+b.length)).map (Value.int .u8)++[v]:=by
  rw[List.drop_append_of_le_length zGH,List.map_drop,qI]
 rw[e1,e2];simp
theorem uK{w:World}(ty:TypeId)(p off n c:Nat)(A:Option Addr)(m k d:Nat)(hd:d=min m n)
  (L:List Int) (hL:L.length=m) (hR:Rd w A L) (M:List Int) (v:Value) (hM:M.length=65536) (hp:nV p M v w) (hn:off+n=65536):
  ∃w',(Builtin.copy_ #[22,22] ty #[.slice (some ⟨p,off,none⟩) n c,.slice A m k]).run Tryz.prog w=.ok (.int .i64 (d:Int)) w'∧nV p (splice M off (L.take n)) v w'∧∀g,nW p g w w':=by
 have hll:(L.take n).length≤n:=by rw[qX];omega
 obtain⟨w',h0,h1,h2⟩:=xQ ty p off n c _ (fun _=>rfl) A m k d hd L hL hR (M.map (Value.int .u8)++[v]) 144 hp (by simp[hM];omega);refine⟨w',h0,?_,h2⟩;unfold nV;rw[h1,MJ M (L.take n) v off hM zGX]
end
section
namespace Num
open Go.RowKit
theorem TW(x:Int):bits .and .i64 x 65535=x%65536:=by
 have h:(BitVec.ofInt 64 x&&&BitVec.ofInt 64 65535).toNat=(x%18446744073709551616).toNat%65536:=by
  have e:(BitVec.ofInt 64 65535).toNat=2^16-1:=zGL;rw[BitVec.toNat_and,e,Nat.and_two_pow_sub_one_eq_mod,BitVec.toNat_ofInt];rfl
 show IntKind.i64.wrap (((BitVec.ofInt 64 x&&&BitVec.ofInt 64 65535).toNat:Nat):Int)=_;rw[h,zU];omega
def lst(a:Int)(n:Nat):List Int:=(List.range n).map fun(i:Nat)=>(a+(i:Int))%65536
end Num
end
section
open Go.RowKit Num
theorem add5(X:List Int)(hX:X.length=5)(v:Value)(n:Nat)(M:List Int)(base:Nat)(w:World)
  (hown:w.ownsRow base 5 1 v n (M.map (Value.int .u8))) (hbase:base≤w.heap.size) (hn:n≤1000):
  Calls Tryz.prog 81 #[v,.agg (arr X)] w fun e w'=>∃v',e=.returned v'∧w'.ownsRow base 5 1 v' (n+5) ((M++X).map (Value.int .u8))∧Below base w w':=by
 obtain⟨i0,hi,hz0,hz1,hz2⟩:=kA t7;have hown1:=hown.alloc (.cells (arr X) 172);have hbox:(w.alloc (.cells (arr X) 172)).heap[w.heap.size]?=some (.cells (arr X) 172 (0,0)):=jH _ _;have hb1:Below base w (w.alloc (.cells (arr X) 172)):=(zB _ _).alloc hbase _;go_enter Tryz.func81,Tryz.ntmps81;go_upto_region 1 with fail;refine zH ?_;refine kL rfl 172 (.tmp 3) rfl w.heap.size rfl 172 (arr X) (0,0) _ hbox Tryz.underlying172 rfl (by rw[ZO,hX];kernel_rfl) ?_;generalize w.alloc (Obj.cells (arr X) 172)=w1 at*;clear hown;go_wp2;go_loopw [0,5,8] (fun o i c wr=>∃k:Nat,k≤5∧c=.int .i64 k∧wr.ownsRow base 5 1 o (n+k) ((M++X.take k).map (Value.int .u8))∧Below base w wr∧wr.heap[w.heap.size]?=some (.cells (arr X) 172 (0,0))) (fun _ _ c _=>5-(intOf c).toNat)
 case atStart=>exact⟨0,qW _,rfl,by simpa using hown1,hb1,hbox⟩
 case round=>
  obtain⟨k,hk,rfl,hown,hb,hbox2⟩:=hrel
  have hne:=eK hbox2 zGL hown
  clear hbox hown1 hb1
  by_cases hlt:k<5
  ·have hkX:k<X.length:=zGX
   have hc:wr.cell? ⟨w.heap.size,k,none⟩=some (.int .u8 X[k]):=(jO wr _ k _ _ _ hbox2).trans (pT X k hkX)
   have ht:=JZ hkX
   obtain⟨x,hx⟩:∃x,X[k]=x:=⟨_,rfl⟩
   rw[hx]at hc ht
   clear hx
   go_wp2_with ((at_builtin;refine wpList_append_own _ rfl _ _ 22 rfl base 5 i0 (.int .u8 0) 1 1 Tryz.underlying22 hi hz0 hz1 hz2 rfl zGL _ _ _ rfl (hown.alloc _) ⟨_,0,none⟩ 1 1 [.int .u8 x] rfl rfl (cell_one_new _ _ _) zBW zGD zGX zGO ?_;intro v' w2 hown' hgrow _))
   go_roundw
   case rel=>
    refine⟨k+1,by omega,by go_num,?_,(hb.alloc (zR hbase hb.size) _).grown hgrow zGO fun j ej=>(hown.lt j ej).1,ZA _ hbox2 hgrow hne⟩
    rw[ht,←kJ,kY]
    simpa [qP]using hown'
   case measure=>simp[intOf];omega
  ·have hkn:k=5:=zGX
   subst hkn
   rw[qV zGX]at hown
   go_wp2
   go_ret
   exact⟨_,rfl,hown,hb⟩
theorem add10(X:List Int)(hX:X.length=10)(v:Value)(n:Nat)(M:List Int)(base:Nat)(w:World)
  (hown:w.ownsRow base 5 1 v n (M.map (Value.int .u8))) (hbase:base≤w.heap.size) (hn:n≤1000):
  Calls Tryz.prog 82 #[v,.agg (arr X)] w fun e w'=>∃v',e=.returned v'∧w'.ownsRow base 5 1 v' (n+10) ((M++X).map (Value.int .u8))∧Below base w w':=by
 obtain⟨i0,hi,hz0,hz1,hz2⟩:=kA t7;have hown1:=hown.alloc (.cells (arr X) 175);have hbox:(w.alloc (.cells (arr X) 175)).heap[w.heap.size]?=some (.cells (arr X) 175 (0,0)):=jH _ _;have hb1:Below base w (w.alloc (.cells (arr X) 175)):=(zB _ _).alloc hbase _;go_enter Tryz.func82,Tryz.ntmps82;go_upto_region 1 with fail;refine zH ?_;refine kL rfl 175 (.tmp 3) rfl w.heap.size rfl 175 (arr X) (0,0) _ hbox Tryz.underlying175 rfl (by rw[ZO,hX];kernel_rfl) ?_;generalize w.alloc (Obj.cells (arr X) 175)=w1 at*;clear hown;go_wp2;go_loopw [0,5,8] (fun o i c wr=>∃k:Nat,k≤10∧c=.int .i64 k∧wr.ownsRow base 5 1 o (n+k) ((M++X.take k).map (Value.int .u8))∧Below base w wr∧wr.heap[w.heap.size]?=some (.cells (arr X) 175 (0,0))) (fun _ _ c _=>10-(intOf c).toNat)
 case atStart=>exact⟨0,qW _,rfl,by simpa using hown1,hb1,hbox⟩
 case round=>
  obtain⟨k,hk,rfl,hown,hb,hbox2⟩:=hrel
  have hne:=eK hbox2 zGL hown
  clear hbox hown1 hb1
  by_cases hlt:k<10
  ·have hkX:k<X.length:=zGX
   have hc:wr.cell? ⟨w.heap.size,k,none⟩=some (.int .u8 X[k]):=(jO wr _ k _ _ _ hbox2).trans (pT X k hkX)
   have ht:=JZ hkX
   obtain⟨x,hx⟩:∃x,X[k]=x:=⟨_,rfl⟩
   rw[hx]at hc ht
   clear hx
   go_wp2_with ((at_builtin;refine wpList_append_own _ rfl _ _ 22 rfl base 5 i0 (.int .u8 0) 1 1 Tryz.underlying22 hi hz0 hz1 hz2 rfl zGL _ _ _ rfl (hown.alloc _) ⟨_,0,none⟩ 1 1 [.int .u8 x] rfl rfl (cell_one_new _ _ _) zBW zGD zGX zGO ?_;intro v' w2 hown' hgrow _))
   go_roundw
   case rel=>
    refine⟨k+1,by omega,by go_num,?_,(hb.alloc (zR hbase hb.size) _).grown hgrow zGO fun j ej=>(hown.lt j ej).1,ZA _ hbox2 hgrow hne⟩
    rw[ht,←kJ,kY]
    simpa [qP]using hown'
   case measure=>simp[intOf];omega
  ·have hkn:k=10:=zGX
   subst hkn
   rw[qV zGX]at hown
   go_wp2
   go_ret
   exact⟨_,rfl,hown,hb⟩
end
end Go.Proofs.YtbpniahcjbagmaaGreatDoor
