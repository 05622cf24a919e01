/- MemNum, MemBlk, AddrNum, FontAdd, FontCat, FontTab, Mem, MemLog, MemWrite, MemNew, MemBytes, FontRef, Tail, MemPut, MemRef2, Opc, FlaAllow, Put1, PixNum, PopNum, PixMath, PlaneNum, PlaneFwd, PlaneBox, Fork, Words16. -/
import Derived.Test.YthknmadinmigfaaGreatDoorRows
import Derived.Test.YthknmadinmigfaaGreatDoorProg
import Derived.Test.YthknmadinmigfaaGreatDoorMk0a
set_option maxRecDepth 400000
set_option maxHeartbeats 64000000
set_option linter.unusedVariables false
set_option linter.unusedSimpArgs false
namespace Go.Proofs.YthknmadinmigfaaGreatDoor
section
def put(M:List Int)(a:Int):List Int→List Int
 |[]=>M
 |x::b=>put (M.set (a%65536).toNat x) (a+1) b
theorem zKY(M:List Int)(a:Int):put M a []=M:=rfl
theorem NH(M:List Int)(a x:Int)(b:List Int):put M a (x::b)=put (M.set (a%65536).toNat x) (a+1) b:=rfl
theorem cQ(b:List Int):∀(M:List Int) (a:Int),(put M a b).length=M.length:=by
 induction b with
 |nil=>intro M a;rfl
 |cons x b ih=>intro M a;rw[NH,ih,List.length_set]
theorem fO(b:List Int):∀(M:List Int) (a:Int) (hb:b.length≤65536) (hM:M.length=65536) (j:Nat) (hj:j<65536),
  (put M a b)[j]?=if(((j:Int)-a)%65536).toNat<b.length then b[(((j:Int)-a)%65536).toNat]? else M[j]?:=by
 induction b with
 |nil=>intro M a hb hM j hj;simp[zKY]
 |cons x b ih=>
  intro M a hb hM j hj
  simp only[List.length_cons]at hb⊢
  rw[NH,ih _ _ zLS (by rw[List.length_set];exact hM) j hj]
  by_cases h0:(((j:Int)-a)%65536).toNat=0
  ·have e:(a%65536).toNat=j:=zLS
   rw[zL zLS,zN zLS,h0,e,List.getElem?_set_self zLS]
   rfl
  ·obtain⟨k,hk⟩:∃k,(((j:Int)-a)%65536).toNat=k+1:=⟨_,(Nat.succ_pred h0).symm⟩
   have e1:(((j:Int)-(a+1))%65536).toNat=k:=zLS
   rw[hk,e1,zK,List.getElem?_set_ne zLS]
   by_cases h:k<b.length
   ·rw[zN h,zN zLS]
   ·rw[zL h,zL zLS]
theorem XL{M:List Int}(hM:M.length=65536){j:Nat}(h:¬j<65536):M[j]?=none:=qW zLS
theorem BP{M N:List Int}(hM:M.length=65536)(hN:N.length=65536)(h:∀j,j<65536→M[j]?=N[j]?):M=N:=by
 apply kQ
 intro j
 by_cases hj:j<65536
 ·exact h j hj
 ·rw[XL hM hj,XL hN hj]
theorem dW(M b:List Int)(off:Nat)(hM:M.length=65536)(h:off+b.length≤65536):splice M off b=put M off b:=by
 refine BP (by rw[xC _ _ _ zLS];exact hM) (by rw[cQ];exact hM) fun j hj=>?_;rw[xA _ _ _ zLS,fO b M off zLS hM j hj];by_cases h1:j<off
 ·rw[zN h1,zL zLS]
 ·rw[zL h1];by_cases h2:j<off+b.length
  ·rw[zN h2,zN zLS];congr 1
   omega
  ·rw[zL h2,zL zLS]
theorem Q0(M b:List Int)(a:Int)(at_ d:Nat)(ha:(a%65536).toNat=at_)(hd:d=min b.length (65536-at_))(hM:M.length=65536)(hb:b.length≤65536):
  splice (splice M at_ (b.take d)) 0 (b.drop d)=put M a b:=by
 have l1:(b.take d).length=d:=by rw[qT];omega
 have l2:(b.drop d).length=b.length-d:=jH;have l3:(splice M at_ (b.take d)).length=65536:=by rw[xC _ _ _ zLS];exact hM
 refine BP (by rw[xC _ _ _ zLS];exact l3) (by rw[cQ];exact hM) fun j hj=>?_;rw[xA _ _ _ zLS,xA _ _ _ zLS,fO b M a hb hM j hj,zL zLS,l1,l2];by_cases h1:j<b.length-d
 ·rw[zN zLS,zN zLS,jF];congr 1
  omega
 ·rw[zL zLS];by_cases h2:j<at_
  ·rw[zN h2,zL zLS]
  ·rw[zL h2];by_cases h3:j<at_+d
   ·rw[zN h3,zN zLS,List.getElem?_take,zN zLS];congr 1
    omega
   ·rw[zL h3,zL zLS]
theorem oM(M b:List Int)(a:Int)(k d:Nat)(ha:a%65536=k)(hd:d=min b.length (65536-k))(hM:M.length=65536)(hb:b.length≤65536):
  splice (splice M k (b.take (65536-k))) 0 ((b.drop d).take 65536)=put M a b:=by
 have e1:(b.drop d).take 65536=b.drop d:=qR (by rw[jH];omega);have e2:b.take (65536-k)=b.take d:=by
  by_cases h:b.length≤65536-k
  ·rw[qR h,qR zLS]
  ·have e:d=65536-k:=zLS;rw[e]
 rw[e1,e2];exact Q0 M b a k d zLS zLS hM hb
def seg(M:List Int)(a:Int)(n:Nat):List Int:=(List.range n).map fun i:Nat=>M.getD ((a+(i:Int))%65536).toNat 0
theorem vI(M:List Int)(a:Int)(n:Nat):(seg M a n).length=n:=by simp[seg]
theorem wC(M:List Int)(a:Int)(n j:Nat)(hM:M.length=65536)(hj:j<n):(seg M a n)[j]?=M[((a+(j:Int))%65536).toNat]?:=by
 have h:((a+(j:Int))%65536).toNat<M.length:=zLS;simp[seg,hj,h]
theorem MN(M Z:List Int)(a:Int)(at_ n d:Nat)(ha:(a%65536).toNat=at_)(hd:d=min (65536-at_) n)(hM:M.length=65536)(hn:n≤65536)(hZ:Z.length=n):
  splice (splice Z 0 ((M.drop at_).take d)) d (M.take (n-d))=seg M a n:=by
 have l1:((M.drop at_).take d).length=d:=by rw[qT,jH];omega
 have l2:(M.take (n-d)).length=n-d:=by rw[qT];omega
 have l3:(splice Z 0 ((M.drop at_).take d)).length=n:=by rw[xC _ _ _ zLS];exact hZ
 apply kQ
 intro j
 by_cases hj:j<n
 ·rw[wC M a n j hM hj,xA _ _ _ zLS,xA _ _ _ zLS,l1,l2];by_cases h1:j<d
  ·rw[zN h1,zL zLS,zN zLS,List.getElem?_take,zN zLS,jF];congr 1
   omega
  ·rw[zL h1,zN zLS,List.getElem?_take,zN zLS];congr 1
   omega
 ·rw[qW (by rw[xC _ _ _ zLS];omega),qW zMD]
theorem Q7(M Z:List Int)(a:Int)(k n d:Nat)(ha:a%65536=k)(hd:d=min (65536-k) n)(hM:M.length=65536)(hn:n≤65536)(hZ:Z.length=n):
  splice (splice Z 0 ((M.drop k).take n)) d (M.take (n-d))=seg M a n:=by
 have e:(M.drop k).take n=(M.drop k).take d:=by
  by_cases h:n≤65536-k
  ·have e:d=n:=zLS;rw[e]
  ·rw[qR (by rw[jH];omega),qR (by rw[jH];omega)]
 rw[e];exact MN M Z a k n d zLS zLS hM hn hZ
def cN:List Int:=List.replicate 65536 0
theorem cX:cN.length=65536:=List.length_replicate
def uL(rom:List Int):List Int:=put (put (put cN 80 nB) 160 uX) 512 rom
theorem pI(rom:List Int):(uL rom).length=65536:=by unfold uL;rw[cQ,cQ,cQ,cX]
end
section
open Go.RowKit Num
def z6:List Value:=[.int .u8 0,.int .u8 0,.int .u8 0,.int .u8 0,.int .u8 0,.int .u8 0,.int .u8 0,.int .u8 0,.int .u8 0,.int .u8 0,.int .u8 0,.int .u8 0,.int .u8 0,.int .u8 0,.int .u8 0,.int .u8 0,.int .u8 0,.int .u8 0,.int .u8 0,.int .u8 0,.int .u8 0,.int .u8 0,.int .u8 0,.int .u8 0,.int .u8 0,.int .u8 0,.int .u8 0,.int .u8 0,.int .u8 0,.int .u8 0,.int .u8 0,.int .u8 0,.int .u8 0,.int .u8 0,.int .u8 0,.int .u8 0,.int .u8 0,.int .u8 0,.int .u8 0,.int .u8 0,.int .u8 0,.int .u8 0,.int .u8 0,.int .u8 0,.int .u8 0,.int .u8 0,.int .u8 0,.int .u8 0,.int .u8 0,.int .u8 0,.int .u8 0,.int .u8 0,.int .u8 0,.int .u8 0,.int .u8 0,.int .u8 0,.int .u8 0,.int .u8 0,.int .u8 0,.int .u8 0,.int .u8 0,.int .u8 0,.int .u8 0,.int .u8 0]
def z7:List Value:=List.append z6 z6
def z8:List Value:=List.append z7 z7
def z9:List Value:=List.append z8 z8
def z10:List Value:=List.append z9 z9
def z11:List Value:=List.append z10 z10
def z12:List Value:=List.append z11 z11
def z13:List Value:=List.append z12 z12
def z14:List Value:=List.append z13 z13
def z15:List Value:=List.append z14 z14
theorem JG{L:List Value}{n:Nat}(h:L=List.replicate n (.int .u8 0)):List.append L L=List.replicate (n+n) (.int .u8 0):=by subst h;exact List.replicate_append_replicate
theorem zY3:z6=List.replicate 64 (.int .u8 0):=rfl
theorem zY2:z7=List.replicate 128 (.int .u8 0):=JG zY3
theorem zY1:z8=List.replicate 256 (.int .u8 0):=JG zY2
theorem zY0:z9=List.replicate 512 (.int .u8 0):=JG zY1
theorem I2:z10=List.replicate 1024 (.int .u8 0):=JG zY0
theorem II:z11=List.replicate 2048 (.int .u8 0):=JG I2
theorem IU:z12=List.replicate 4096 (.int .u8 0):=JG II
theorem IA:z13=List.replicate 8192 (.int .u8 0):=JG IU
theorem IC:z14=List.replicate 16384 (.int .u8 0):=JG IA
theorem z15_eq:z15=List.replicate 32768 (.int .u8 0):=JG IC
def zraw:List Value:=List.append z15 (List.append z14 (List.append z13 (List.append z12 (List.append z11 (List.append z10 (List.append z9 (List.append z8 (List.append z7 (List.append z6 (List.append [.int .u8 0,.int .u8 0,.int .u8 0,.int .u8 0,.int .u8 0,.int .u8 0,.int .u8 0,.int .u8 0,.int .u8 0,.int .u8 0,.int .u8 0,.int .u8 0,.int .u8 0,.int .u8 0,.int .u8 0,.int .u8 0,.int .u8 0,.int .u8 0,.int .u8 0,.int .u8 0,.int .u8 0,.int .u8 0,.int .u8 0,.int .u8 0,.int .u8 0,.int .u8 0,.int .u8 0,.int .u8 0,.int .u8 0,.int .u8 0,.int .u8 0,.int .u8 0] [.int .u8 0,.int .u8 0,.int .u8 0,.int .u8 0,.int .u8 0,.int .u8 0,.int .u8 0,.int .u8 0,.int .u8 0,.int .u8 0,.int .u8 0,.int .u8 0,.int .u8 0,.int .u8 0,.int .u8 0,.int .u8 0,.int .u8 0,.int .u8 0,.int .u8 0,.int .u8 0,.int .u8 0,.int .u8 0,.int .u8 0,.int .u8 0,.int .u8 0,.int .u8 0,.int .u8 0,.int .u8 0,.int .u8 0,.int .u8 0,.int .u8 0,.int .u8 0,.slice none 0 0]))))))))))
theorem yB{n m:Nat}{L R:List Value}(h:L=List.replicate n (.int .u8 0)){S:List Value}(hS:R=List.replicate m (.int .u8 0)++S):List.append L R=List.replicate (n+m) (.int .u8 0)++S:=by
 subst h;subst hS;show List.replicate n (Value.int .u8 0)++(List.replicate m (Value.int .u8 0)++S)=_;rw[←j9,List.replicate_append_replicate]
theorem zJ5:zraw=List.replicate 65536 (.int .u8 0)++[.slice none 0 0]:=
 yB z15_eq (yB IC (yB IA (yB IU (yB II (yB I2 (yB zY0 (yB zY1 (yB zY2 (yB zY3 (yB (n:=32) (m:=32) rfl rfl))))))))))
def cells(M:List Int)(v:Value):Array Value:=(M.map (Value.int .u8)++[v]).toArray
theorem LS:zraw.toArray=cells cN (.slice none 0 0):=by
 rw[zJ5];unfold cells cN;rw[List.map_replicate]
theorem BH:(Tryz.prog.info? 150).map (fun i=>(i.zero,i.size))=some (some (.agg (cells cN (.slice none 0 0))),65537):=by
 rw[←LS];kernel_rfl
theorem zJ8(w:World):(zeroValue 150).run Tryz.prog w=.ok (.agg (cells cN (.slice none 0 0))) w:=(zero_of_info BH).1 w
def mP(p:Nat)(M:List Int)(v:Value)(w:World):Prop:=w.heap[p]?=some (.cells (cells M v) 150 (0,0))
section
variable {p:Nat} {M:List Int} {v:Value} {w w':World}
theorem mP.lt(h:mP p M v w):p<w.heap.size:=(qK.1 h).1
theorem mP.cell(h:mP p M v w)(hM:M.length=65536)(j:Nat)(hj:j<65536):w.cell? ⟨p,j,none⟩=some (.int .u8 (M[j]' zLS)):=by
 rw[jC w p j _ _ _ h];unfold cells;rw[zX,qS zL2,jQ,zP zLS];rfl
theorem mP.log(h:mP p M v w)(hM:M.length=65536):w.cell? ⟨p,65536,none⟩=some v:=by
 rw[jC w p _ _ _ _ h];unfold cells;rw[zX,qP zL2];simp[hM]
theorem mP.frozen(h:mP p M v w)(j:Nat):w.frozen? ⟨p,j,none⟩=false:=frozen_of_row w p j _ _ h
theorem mP.keep(h:mP p M v w)(hk:w'.heap[p]?=w.heap[p]?):mP p M v w':=hk.trans h
theorem mP.new(w:World):mP w.heap.size cN (.slice none 0 0) (w.alloc (.cells (cells cN (.slice none 0 0)) 150)):=jL _ _
theorem mP.setLog(h:mP p M v w)(hM:M.length=65536)(v':Value):mP p M v' (w.setCell ⟨p,65536,none⟩ v'):=by
 unfold mP;rw[setCell_eq_setRow w p _ _ _ _ v' h,setRow_heap w p _ _ _ _ h];congr 2
 unfold cells
 apply Array.ext'
 simp[hM]
end
theorem Q8(M b:List Int)(v:Value)(off:Nat)(hM:M.length=65536)(h:off+b.length≤65536):
  (splice (M.map (Value.int .u8)++[v]) off (b.map (Value.int .u8))).toArray=cells (splice M off b) v:=by
 unfold cells splice;congr 1
 have e1:(M.map (Value.int .u8)++[v]).take off=(M.take off).map (Value.int .u8):=by
  rw[List.take_append_of_le_length zL2,List.map_take]
 have e2:(M.map (Value.int .u8)++[v]).drop (off+(b.map (Value.int .u8)).length)=(M.drop (off+b.length)).map (Value.int .u8)++[v]:=by
  rw[List.drop_append_of_le_length zL2,List.map_drop,jE]
 rw[e1,e2];simp
theorem yG{w:World}(ty:TypeId)(p off n c:Nat)(A:Option Addr)(m k d:Nat)(hd:d=min m n)
  (L:List Int) (hL:L.length=m) (hR:Rd w A L) (M:List Int) (v:Value) (hM:M.length=65536) (hp:mP p M v w) (hn:off+n=65536):
  ∃w',(Builtin.copy_ #[22,22] ty #[.slice (some ⟨p,off,none⟩) n c,.slice A m k]).run Tryz.prog w=.ok (.int .i64 (d:Int)) w'∧mP p (splice M off (L.take n)) v w'∧∀g,mC p g w w':=by
 have hll:(L.take n).length≤n:=by rw[qT];omega
 obtain⟨w',h0,h1,h2⟩:=vO ty p off n c _ (fun _=>rfl) A m k d hd L hL hR (M.map (Value.int .u8)++[v]) 150 hp (by simp[hM];omega);refine⟨w',h0,?_,h2⟩;unfold mP;rw[h1,Q8 M (L.take n) v off hM zLS]
end
section
namespace Num
open Go.RowKit
theorem YF(x:Int):bits .and .i64 x 65535=x%65536:=by
 have h:(BitVec.ofInt 64 x&&&BitVec.ofInt 64 65535).toNat=(x%18446744073709551616).toNat%65536:=by
  have e:(BitVec.ofInt 64 65535).toNat=2^16-1:=zLA;rw[BitVec.toNat_and,e,Nat.and_two_pow_sub_one_eq_mod,BitVec.toNat_ofInt];rfl
 show IntKind.i64.wrap (((BitVec.ofInt 64 x&&&BitVec.ofInt 64 65535).toNat:Nat):Int)=_;rw[h,qQ];omega
def lst(a:Int)(n:Nat):List Int:=(List.range n).map fun(i:Nat)=>(a+(i:Int))%65536
end Num
end
section
open Go.RowKit Num
theorem add5(X:List Int)(hX:X.length=5)(v:Value)(n:Nat)(M:List Int)(base:Nat)(w:World)
  (hown:w.ownsRow base 5 1 v n (M.map (Value.int .u8))) (hbase:base≤w.heap.size) (hn:n≤1000):
  Calls Tryz.prog 115 #[v,.agg (arr X)] w fun e w'=>∃v',e=.returned v'∧w'.ownsRow base 5 1 v' (n+5) ((M++X).map (Value.int .u8))∧Below base w w':=by
 obtain⟨i0,hi,hz0,hz1,hz2⟩:=kM rI;have hown1:=hown.alloc (.cells (arr X) 188);have hbox:(w.alloc (.cells (arr X) 188)).heap[w.heap.size]?=some (.cells (arr X) 188 (0,0)):=jL _ _;have hb1:Below base w (w.alloc (.cells (arr X) 188)):=(zB _ _).alloc hbase _;go_enter Tryz.func115,Tryz.ntmps115;go_upto_region 1 with fail;refine zG ?_;refine j5 rfl 188 (.tmp 3) rfl w.heap.size rfl 188 (arr X) (0,0) _ hbox Tryz.underlying188 rfl (by rw[i3,hX];kernel_rfl) ?_;generalize w.alloc (Obj.cells (arr X) 188)=w1 at*;clear hown;go_wp2;go_loopw [0,5,8] (fun o i c wr=>∃k:Nat,k≤5∧c=.int .i64 k∧wr.ownsRow base 5 1 o (n+k) ((M++X.take k).map (Value.int .u8))∧Below base w wr∧wr.heap[w.heap.size]?=some (.cells (arr X) 188 (0,0))) (fun _ _ c _=>5-(intOf c).toNat)
 case atStart=>exact⟨0,qI _,rfl,by simpa using hown1,hb1,hbox⟩
 case round=>
  obtain⟨k,hk,rfl,hown,hb,hbox2⟩:=hrel
  have hne:=bU hbox2 zLA hown
  clear hbox hown1 hb1
  by_cases hlt:k<5
  ·have hkX:k<X.length:=zLS
   have hc:wr.cell? ⟨w.heap.size,k,none⟩=some (.int .u8 X[k]):=(jC wr _ k _ _ _ hbox2).trans (aJ X k hkX)
   have ht:=oU hkX
   obtain⟨x,hx⟩:∃x,X[k]=x:=⟨_,rfl⟩
   rw[hx]at hc ht
   clear hx
   go_wp2_with ((at_builtin;refine wpList_append_own _ rfl _ _ 22 rfl base 5 i0 (.int .u8 0) 1 1 Tryz.underlying22 hi hz0 hz1 hz2 rfl zLA _ _ _ rfl (hown.alloc _) ⟨_,0,none⟩ 1 1 [.int .u8 x] rfl rfl (cell_one_new _ _ _) zMS zL6 zLS zMX ?_;intro v' w2 hown' hgrow _))
   go_roundw
   case rel=>
    refine⟨k+1,by omega,by go_num,?_,(hb.alloc (zR hbase hb.size) _).grown hgrow zMX fun j ej=>(hown.lt j ej).1,iI _ hbox2 hgrow hne⟩
    rw[ht,←j9,kY]
    simpa [qF]using hown'
   case measure=>simp[intOf];omega
  ·have hkn:k=5:=zLS
   subst hkn
   rw[qR zLS]at hown
   go_wp2
   go_ret
   exact⟨_,rfl,hown,hb⟩
theorem add10(X:List Int)(hX:X.length=10)(v:Value)(n:Nat)(M:List Int)(base:Nat)(w:World)
  (hown:w.ownsRow base 5 1 v n (M.map (Value.int .u8))) (hbase:base≤w.heap.size) (hn:n≤1000):
  Calls Tryz.prog 116 #[v,.agg (arr X)] w fun e w'=>∃v',e=.returned v'∧w'.ownsRow base 5 1 v' (n+10) ((M++X).map (Value.int .u8))∧Below base w w':=by
 obtain⟨i0,hi,hz0,hz1,hz2⟩:=kM rI;have hown1:=hown.alloc (.cells (arr X) 191);have hbox:(w.alloc (.cells (arr X) 191)).heap[w.heap.size]?=some (.cells (arr X) 191 (0,0)):=jL _ _;have hb1:Below base w (w.alloc (.cells (arr X) 191)):=(zB _ _).alloc hbase _;go_enter Tryz.func116,Tryz.ntmps116;go_upto_region 1 with fail;refine zG ?_;refine j5 rfl 191 (.tmp 3) rfl w.heap.size rfl 191 (arr X) (0,0) _ hbox Tryz.underlying191 rfl (by rw[i3,hX];kernel_rfl) ?_;generalize w.alloc (Obj.cells (arr X) 191)=w1 at*;clear hown;go_wp2;go_loopw [0,5,8] (fun o i c wr=>∃k:Nat,k≤10∧c=.int .i64 k∧wr.ownsRow base 5 1 o (n+k) ((M++X.take k).map (Value.int .u8))∧Below base w wr∧wr.heap[w.heap.size]?=some (.cells (arr X) 191 (0,0))) (fun _ _ c _=>10-(intOf c).toNat)
 case atStart=>exact⟨0,qI _,rfl,by simpa using hown1,hb1,hbox⟩
 case round=>
  obtain⟨k,hk,rfl,hown,hb,hbox2⟩:=hrel
  have hne:=bU hbox2 zLA hown
  clear hbox hown1 hb1
  by_cases hlt:k<10
  ·have hkX:k<X.length:=zLS
   have hc:wr.cell? ⟨w.heap.size,k,none⟩=some (.int .u8 X[k]):=(jC wr _ k _ _ _ hbox2).trans (aJ X k hkX)
   have ht:=oU hkX
   obtain⟨x,hx⟩:∃x,X[k]=x:=⟨_,rfl⟩
   rw[hx]at hc ht
   clear hx
   go_wp2_with ((at_builtin;refine wpList_append_own _ rfl _ _ 22 rfl base 5 i0 (.int .u8 0) 1 1 Tryz.underlying22 hi hz0 hz1 hz2 rfl zLA _ _ _ rfl (hown.alloc _) ⟨_,0,none⟩ 1 1 [.int .u8 x] rfl rfl (cell_one_new _ _ _) zMS zL6 zLS zMX ?_;intro v' w2 hown' hgrow _))
   go_roundw
   case rel=>
    refine⟨k+1,by omega,by go_num,?_,(hb.alloc (zR hbase hb.size) _).grown hgrow zMX fun j ej=>(hown.lt j ej).1,iI _ hbox2 hgrow hne⟩
    rw[ht,←j9,kY]
    simpa [qF]using hown'
   case measure=>simp[intOf];omega
  ·have hkn:k=10:=zLS
   subst hkn
   rw[qR zLS]at hown
   go_wp2
   go_ret
   exact⟨_,rfl,hown,hb⟩
theorem index5(k:Nat)(h:k<16):∀w:World,(Instr.index 189 (.agg (arr nB)) (.int .i64 k)).run Tryz.prog w=.ok (.agg (arr (t7 k))) w:=by
 exact zNL
theorem zYQ(w:World):Calls Tryz.prog 76 #[.agg (arr nB)] w (gS 5 nB w):=by
 obtain⟨i0,hi,hz0,hz1,hz2⟩:=kM rI;have hbox:(w.alloc (.cells (arr nB) 189)).heap[w.heap.size]?=some (.cells (arr nB) 189 (0,0)):=jL _ _;have hb1:Below w.heap.size w (w.alloc (.cells (arr nB) 189)):=(zB _ _).alloc (zH _) _;go_enter Tryz.func76,Tryz.ntmps76;go_upto_region 2 with fail;refine zG ?_;refine j5 rfl 189 (.tmp 1) rfl w.heap.size rfl 189 (arr nB) (0,0) _ hbox Tryz.underlying189 rfl zLE ?_;generalize w.alloc (Obj.cells (arr nB) 189)=w1 at*;go_wp2;go_loopw [3,7] (fun o c wr=>∃k:Nat,k≤16∧c=.int .i64 k∧wr.ownsRow w.heap.size 5 1 o (5*k) ((nB.take (5*k)).map (Value.int .u8))∧Below w.heap.size w wr) (fun _ c _=>16-(intOf c).toNat)
 case atStart=>exact⟨0,qI _,rfl,kZ _ _ _ _,hb1⟩
 case round=>
  obtain⟨k,hk,rfl,hown,hb⟩:=hrel
  clear hb1 hbox
  by_cases hlt:k<16
  ·have ik:=index5 k hlt
   have ht:=VB k
   obtain⟨x0,x1,x2,x3,x4,hx⟩:=five (VT hlt)
   rw[hx]at ik ht
   have ik':∀w:World,(Instr.index 189 (.agg (arr nB)) (.int .i64 k)).run Tryz.prog w=.ok (.agg #[.int .u8 x0,.int .u8 x1,.int .u8 x2,.int .u8 x3,.int .u8 x4]) w:=ik
   clear ik hx
   go_wp2_with fail
   refine(add5 [x0,x1,x2,x3,x4] rfl _ (5*k) (nB.take (5*k)) w.heap.size _ (hown.alloc _) zMX zLS).mono ?_
   rintro e w' ⟨v',rfl,hown',hb'⟩
   go_wp2
   go_roundw
   case rel=>exact⟨k+1,by omega,by go_num,by rw[ht];exact hown',(hb.alloc hb.size _).trans hb'⟩
   case measure=>simp[intOf];omega
  ·have hkn:k=16:=zLS
   subst hkn
   go_wp2
   go_ret
   rw[qR (by rw[vG];decide)]at hown
   exact⟨_,rfl,by rw[vG];exact hown,hb⟩
theorem zVV(k:Nat)(h:k<16):∀w:World,(Instr.index 192 (.agg (arr uX)) (.int .i64 k)).run Tryz.prog w=.ok (.agg (arr (YT k))) w:=by
 exact zNL
theorem zZ8(w:World):Calls Tryz.prog 77 #[.agg (arr uX)] w (gS 5 uX w):=by
 obtain⟨i0,hi,hz0,hz1,hz2⟩:=kM rI;have hbox:(w.alloc (.cells (arr uX) 192)).heap[w.heap.size]?=some (.cells (arr uX) 192 (0,0)):=jL _ _;have hb1:Below w.heap.size w (w.alloc (.cells (arr uX) 192)):=(zB _ _).alloc (zH _) _;go_enter Tryz.func77,Tryz.ntmps77;go_upto_region 2 with fail;refine zG ?_;refine j5 rfl 192 (.tmp 1) rfl w.heap.size rfl 192 (arr uX) (0,0) _ hbox Tryz.underlying192 rfl zLE ?_;generalize w.alloc (Obj.cells (arr uX) 192)=w1 at*;go_wp2;go_loopw [3,7] (fun o c wr=>∃k:Nat,k≤16∧c=.int .i64 k∧wr.ownsRow w.heap.size 5 1 o (10*k) ((uX.take (10*k)).map (Value.int .u8))∧Below w.heap.size w wr) (fun _ c _=>16-(intOf c).toNat)
 case atStart=>exact⟨0,qI _,rfl,kZ _ _ _ _,hb1⟩
 case round=>
  obtain⟨k,hk,rfl,hown,hb⟩:=hrel
  clear hb1 hbox
  by_cases hlt:k<16
  ·have ik:=zVV k hlt
   have ht:=zJM k
   obtain⟨x0,x1,x2,x3,x4,x5,x6,x7,x8,x9,hx⟩:=ten (zJH hlt)
   rw[hx]at ik ht
   have ik':∀w:World,(Instr.index 192 (.agg (arr uX)) (.int .i64 k)).run Tryz.prog w=.ok (.agg #[.int .u8 x0,.int .u8 x1,.int .u8 x2,.int .u8 x3,.int .u8 x4,.int .u8 x5,.int .u8 x6,.int .u8 x7,.int .u8 x8,.int .u8 x9]) w:=ik
   clear ik hx
   go_wp2_with fail
   refine(add10 [x0,x1,x2,x3,x4,x5,x6,x7,x8,x9] rfl _ (10*k) (uX.take (10*k)) w.heap.size _ (hown.alloc _) zMX zLS).mono ?_
   rintro e w' ⟨v',rfl,hown',hb'⟩
   go_wp2
   go_roundw
   case rel=>exact⟨k+1,by omega,by go_num,by rw[ht];exact hown',(hb.alloc hb.size _).trans hb'⟩
   case measure=>simp[intOf];omega
  ·have hkn:k=16:=zLS
   subst hkn
   go_wp2
   go_ret
   rw[qR (by rw[xG];decide)]at hown
   exact⟨_,rfl,by rw[xG];exact hown,hb⟩
structure xX(w:World):Prop where
 lt:1<w.heap.size
 big:∀j (h:j<uX.length),w.cell? ⟨1,j,none⟩=some (.int .u8 uX[j])
 small:∀j (h:j<nB.length),w.cell? ⟨0,j,none⟩=some (.int .u8 nB[j])
theorem xX.below{w w':World}{n:Nat}(h:xX w)(hb:Below n w w')(hn:1<n):xX w':=
 ⟨zF h.lt hb.size,fun j hj=>(hb.cell (p:=⟨1,j,none⟩) zL2).trans (h.big j hj),fun j hj=>(hb.cell (p:=⟨0,j,none⟩) zL2).trans (h.small j hj)⟩
theorem xX.step{w w':World}(h:xX w)(hb:Below w.heap.size w w'):xX w':=h.below hb h.lt
theorem e8(g o j:Nat):(⟨g,o,none⟩:Addr).add j=⟨g,o+j,none⟩:=by unfold Addr.add;split<;>simp_all
theorem EU(w:World)(hL:xX w):Calls Tryz.prog 65 #[] w (gS 5 nB w):=by
 go_enter Tryz.func65,Tryz.ntmps65;go_upto_region 1 with fail;refine zG ?_;refine yO rfl 189 (.global 0) rfl ⟨0,0,none⟩ rfl nB _ (fun j h=>by rw[e8,qY];exact hL.small j h) Tryz.underlying189 rfl (by rw[vG];kernel_rfl) ?_;go_wp2_with fail;refine(zYQ _).mono ?_;rintro e w' ⟨v,rfl,hown,hb⟩;go_wp2;go_ret;exact⟨_,rfl,hown,hb⟩
theorem zYV(w:World)(hL:xX w):Calls Tryz.prog 66 #[] w (gS 5 uX w):=by
 go_enter Tryz.func66,Tryz.ntmps66;go_upto_region 1 with fail;refine zG ?_;refine yO rfl 192 (.global 1) rfl ⟨1,0,none⟩ rfl uX _ (fun j h=>by rw[e8,qY];exact hL.big j h) Tryz.underlying192 rfl (by rw[xG];kernel_rfl) ?_;go_wp2_with fail;refine(zZ8 _).mono ?_;rintro e w' ⟨v,rfl,hown,hb⟩;go_wp2;go_ret;exact⟨_,rfl,hown,hb⟩
theorem rA(n:Int)(k:Nat)(w:World)(h:n%65536=k):Calls Tryz.prog 71 #[.int .i64 n] w fun e w'=>e=.returned (.int .i64 k)∧w'=w:=by
 have hb:=YF n;rw[h]at hb;clear h;go_enter Tryz.func71,Tryz.ntmps71;go_wp2;exact zNT
def Reads(v:Value)(w:World)(e:Ending)(w':World):Prop:=e=.returned v∧∃n,w'=w.drewN n
theorem F6:(Tryz.prog.info? 144).map (fun i=>(i.zero,i.size,i.bytes))=some (some (.agg #[.int .i64 0,.int .i64 0]),2,16):=by kernel_rfl
def zJI(p:Nat)(M:List Int)(base n:Nat)(xs:List Value)(v:Value)(w:World)(e:Ending)(w':World):Prop:=
 e=.returned (.tuple #[])∧∃v',mP p M v' w'∧w'.ownsRow base 144 2 v' n xs∧mC p v.ownBlock w w'∧(v'.ownBlock=v.ownBlock∨∃g,v'.ownBlock=some g∧w.heap.size≤g)
theorem zQF(w:World)(x y:Value)(t:TypeId):∀j u,[x,y][j]?=some u→(w.alloc (.cells #[x,y] t)).cell? ((⟨w.heap.size,0,none⟩:Addr).add j)=some u:=by
 intro j u hj;rw[cO,jC _ _ _ _ _ _ (jL w _)];simpa using hj
theorem F9{p:Nat}{M:List Int}{v:Value}{w1 w2:World}{base n:Nat}{xs:List Value}{o:Obj}(hp:mP p M v w1)(hv:w1.ownsRow base 144 2 v n xs)(hg:(w1.drew.alloc o).grownBy w2 v.ownBlock):mP p M v w2:=by
 have hlt:=hp.lt;have hne:=rQ hv hp zLA;refine hp.keep ((hg.block p zL2 (fun e=>hne e.symm)).trans ?_);exact heap_alloc_old w1.drew _ hlt
theorem DO{p:Nat}{M:List Int}{v:Value}{base n cap gg:Nat}{xs:List Value}{w w1 w2:World}{o:Obj}(hM:M.length=65536)(ha:mC p v.ownBlock w w1)(hs:w1.heap.size=w.heap.size+1)(q:mP p M v w2)
  (hown:w2.ownsRow base 144 2 (.slice (some ⟨gg,0,none⟩) (n+1) cap) (n+1) xs) (hg:(w1.alloc o).drew.grownBy w2 v.ownBlock) (hat:v.ownBlock=some gg∨gg=(w1.alloc o).drew.heap.size):
  zJI p M base (n+1) xs v w (.returned (.tuple #[])) (w2.setCell ⟨p,65536,none⟩ (.slice (some ⟨gg,0,none⟩) (n+1) cap)):=by
 have hne:=rQ hown q zLA;refine⟨rfl,_,q.setLog hM _,rE hown (p:=p) (g:=none) (mC.setCell _ _) hne (fun k hk=>by cases hk),?_,?_⟩
 ·have h1:mC p v.ownBlock w1 (w1.alloc o).drew:=(mC.of_below ((zB _ _).alloc (zH _) _)).drew;exact((ha.trans h1).trans (mC.of_grown hg)).trans (mC.setCell _ _)
 ·rcases hat with h|h
  ·exact .inl h.symm
  ·refine .inr ⟨gg,rfl,?_⟩;rw[h];show w.heap.size≤(w1.alloc o).heap.size;simp;omega
theorem zYS(p:Nat)(M:List Int)(v:Value)(n base:Nat)(xs:List Value)(x y:Int)(w:World)(hM:M.length=65536)(hp:mP p M v w)(hv:w.ownsRow base 144 2 v n xs)(hb:base≤w.heap.size)(hn:n≤1000):
  Calls Tryz.prog 194 #[.pointer (some ⟨p,65536,none⟩),.agg #[.int .i64 x,.int .i64 y]] w (zJI p M base (n+1) (xs++[.int .i64 x,.int .i64 y]) v w):=by
 obtain⟨i0,hi,hz0,hz1,hz2⟩:=kM F6;have hlt:=hp.lt;have cl:(w.alloc (.cells #[.int .i64 x,.int .i64 y] 144)).cell? ⟨p,65536,none⟩=some v:=by
  rw[qE (w:=w) (heap_alloc_old _ _ hlt)];exact hp.log hM
 have clf:(w.alloc (.cells #[.int .i64 x,.int .i64 y] 144)).frozen? ⟨p,65536,none⟩=false:=by
  rw[World.frozen?_of_block (w:=w) (heap_alloc_old _ _ hlt)];exact hp.frozen _
 have c0:(w.alloc (.cells #[.int .i64 x,.int .i64 y] 144)).cell? ⟨w.heap.size,0,none⟩=some (.int .i64 x):=by rw[jC _ _ _ _ _ _ (jL w _)];rfl
 have c1:(w.alloc (.cells #[.int .i64 x,.int .i64 y] 144)).cell? ⟨w.heap.size,1,none⟩=some (.int .i64 y):=by rw[jC _ _ _ _ _ _ (jL w _)];rfl
 have P:=zW (zM hp hv);clear hp hv;go_enter Tryz.func194,Tryz.ntmps194;go_wp2;obtain⟨w1,hw1⟩:∃w1,w1=w.alloc (.cells #[.int .i64 x,.int .i64 y] 144):=⟨_,rfl⟩;rw[←hw1]at cl clf c0 c1⊢;have hp1:mP p M v w1:=P.out.1.keep (by rw[hw1];exact heap_alloc_old _ _ hlt);have hv1:w1.ownsRow base 144 2 v n xs:=by rw[hw1];exact P.out.2.alloc _
 have hs1:w1.heap.size=w.heap.size+1:=by rw[hw1];simp
 have ha1:mC p v.ownBlock w w1:=by rw[hw1];exact mC.of_below ((zB _ _).alloc (zH _) _)
 have Q:=zW (zM hp1 (zM hv1 (zM ha1 hs1)));clear hw1 hp1 hv1 ha1 hs1;have g1:w.heap.size<w1.heap.size:=by have:=Q.out.2.2.2;omega
 have g2:p<w1.heap.size:=zLS;go_region_law ((refine step_append_lies _ zLI _ _ _ zLI base 144 i0 _ 2 16 Tryz.underlying111 hi hz0 hz1 hz2 rfl zLS v n xs zLI (World.ownsRow.alloc (w:=w1.drew) Q.out.2.1 _) ⟨w1.heap.size,0,none⟩ 1 1 [.int .i64 x,.int .i64 y] zLI zLI (zQF w1.drew _ _ _) zMS zLS zL6 zLS zL2 _ rfl ?_;intro gg cap w2 hown2 hgrow hat hlt2;have q2:=F9 Q.out.1 Q.out.2.1 hgrow;have ql:=q2.log hM;have qf:=q2.frozen 65536;have Q2:=zW (zM q2 (zM hown2 (zM hgrow hat)));clear q2 hown2 hgrow hat))
 all_goals
  go_wp2
  go_end0
  exact DO hM Q.out.2.2.1 Q.out.2.2.2 Q2.out.1 Q2.out.2.1 Q2.out.2.2.1 Q2.out.2.2.2
def Took(p:Nat)(M:List Int)(v:Value)(w:World)(e:Ending)(w':World):Prop:=e=.returned v∧mP p M (.slice none 0 0) w'∧∀g,mC p g w w'
theorem UL(p:Nat)(M:List Int)(A:Option Addr)(n c:Nat)(w:World)(hM:M.length=65536)(hp:mP p M (.slice A n c) w):
  Calls Tryz.prog 58 #[.pointer (some ⟨p,65536,none⟩)] w (Took p M (.slice A n c) w):=by
 have cl:=hp.log hM;have clf:=hp.frozen 65536;have P:=zW (zM hp hM);clear hp hM;go_enter Tryz.func58,Tryz.ntmps58;go_wp2;go_ret;exact⟨rfl,P.out.1.setLog P.out.2 _,fun g=>mC.setCell _ _⟩
theorem AE(p:Nat)(M:List Int)(A:Option Addr)(n c:Nat)(w:World)(hM:M.length=65536)(hp:mP p M (.slice A n c) w):
  Calls Tryz.prog 36 #[.pointer (some ⟨p,0,none⟩)] w (Took p M (.slice A n c) w):=by
 have P:=zW (zM hp hM);clear hp hM;go_enter Tryz.func36,Tryz.ntmps36;go_wp2_with fail;refine(UL p M A n c _ P.out.2 P.out.1).mono ?_;rintro e w' ⟨rfl,h⟩;go_wp2;go_ret;exact⟨rfl,h⟩
theorem WB:Tryz.prog.arrayLen 146=65536:=by kernel_rfl
theorem eS(p k:Nat)(hk:k<65536)(w:World):(Instr.sliceAt 146 (.pointer (some ⟨p,0,none⟩)) (some (.int .i64 (k:Int))) none none).run Tryz.prog w=.ok (.slice (some ⟨p,k,none⟩) (65536-k) (65536-k)) w:=by
 have h:=run_sliceAt_array_l (P:=Tryz.prog) w 146 ⟨p,0,none⟩ Tryz.underlying146 .i64 k zLS (by rw[WB];omega);rw[h,WB];show Result.ok (slicedAt _ _ _ _ 1) w=_;unfold slicedAt;rw[zL zL2,cO];simp
theorem DV(p N:Nat)(hN:N=65536)(w:World):(Instr.sliceAt 146 (.pointer (some ⟨p,0,none⟩)) none none none).run Tryz.prog w=.ok (.slice (some ⟨p,0,none⟩) N N) w:=by
 subst hN;have h:=run_sliceAt_array_all (P:=Tryz.prog) w 146 ⟨p,0,none⟩ Tryz.underlying146;rw[h,WB];show Result.ok (slicedAt _ _ _ _ 1) w=_;unfold slicedAt;rw[zL zLS,cO]
theorem EQ(p:Nat)(M:List Int)(v:Value)(n base:Nat)(xs:List Value)(a:Int)(k:Nat)(A:Option Addr)(m c:Nat)(L:List Int)(w:World)(hM:M.length=65536)(hp:mP p M v w)
  (hv:w.ownsRow base 144 2 v n xs) (hb:base≤w.heap.size) (hn:n≤1000) (hk:a%65536=k) (hL:L.length=m) (m0:0<m) (m1:m≤65536) (hmc:m≤c) (hR:Rd w A L) (hA:∀ad,A=some ad→ad.block≠p):
  Calls Tryz.prog 165 #[.pointer (some ⟨p,0,none⟩),.int .i64 a,.slice A m c] w (zJI p (put M a L) base (n+1) (xs++[.int .i64 k,.int .i64 m]) v w):=by
 have k0:0≤(k:Int):=zLS;have k1:(k:Int)<65536:=zLS;have k2:k<65536:=zLS;have ks:=eS p k k2;have k3:((m:Int)==0)=false:=by simp;omega
 have H:=zW (zM hk (zM hL (zM hM (zM hp (zM hv (zM hR hA))))));clear hk hL hM hp hv hR hA;go_enter Tryz.func165,Tryz.ntmps165;go_wp2_with fail;refine(rA _ _ _ H.out.1).mono ?_;rintro e w0 ⟨rfl,h⟩;subst h;go_wp2_with fail;obtain⟨d,hd⟩:∃d,d=min m (65536-k):=⟨_,rfl⟩;obtain⟨w1,hrun,hp1,ha1⟩:=yG 3 p k (65536-k) (65536-k) A m c d hd L H.out.2.1 H.out.2.2.2.2.2.1 M v H.out.2.2.1 H.out.2.2.2.1 zLS;have D:=zW hd;have d0:0≤(d:Int):=zLS;have d1:(d:Int)≤(m:Int):=zLS;have d2:(d:Int)≤(c:Int):=zLS;have P1:=zW (zM hp1 ha1);clear hd hp1 ha1;rw[hrun];clear hrun ks;go_wp2_with fail;obtain⟨N,hN⟩:∃N,N=65536:=⟨_,rfl⟩;have kl:=DV p N hN;have HN:=zW hN;clear hN;refine mJ (C:=fun w'=>∃x:xR,w'=x.w) [([0,1,2,3,4,5,6],7)] [] zLE zLE (fun _ _ d _ _ h=>by cases d<;>exact h) (xR.any _) ?_;intro wd hwd;have P2:mP p (splice M k (L.take (65536-k))) v wd∧∀g,mC p g w0 wd:=by rw[hwd];exact⟨P1.out.1,fun g=>(P1.out.2 g).drew⟩
 have PD:=zW P2;clear hwd P2 P1;refine mV zLC zLI ?_;repeat(go_big_quiet_step (fail))
 refine zY ?_;refine lA zLI ?_;intro K hK;have hl1:(splice M k (L.take (65536-k))).length=65536:=by
  have h1:=H.out.2.1;have h2:=H.out.2.2.1;rw[xC _ _ _ (by rw[qT];omega)];exact h2
 have R1:Rd wd A L:=H.out.2.2.2.2.2.1.keep ((PD.out.2 none).size) fun ad e hlt=>(PD.out.2 none).block ad.block hlt (H.out.2.2.2.2.2.2 ad e) zLO;obtain⟨w2,hrun,hp2,ha2⟩:=yG 3 p 0 N N (if c=d then A else A.map (·.add d)) (m-d) (c-d) (m-d) (by have:=HN.out;omega) (L.drop d) (by rw[jH,H.out.2.1]) (R1.cut (by rw[H.out.2.1];exact hmc)) _ v hl1 PD.out.1 (by have:=HN.out;omega);refine vH (.tmp 27) (.tmp 30) rfl 3 rfl _ _ _ zLI zLI hrun 31 zLI ?_;simp only[zQ,zZ,zJ];refine hK _ _ (xR.any _) ?_;clear hK K hrun;generalize Value.slice (if c=d then A else A.map (·.add d)) (m-d) (c-d)=V1;generalize Value.int .i64 ((m-d:Nat):Int)=V2;refine nF zLC ?_;repeat(go_big_quiet_step (fail))
 refine zY ?_;have e2:splice (splice M k (L.take (65536-k))) 0 ((L.drop d).take N)=put M a L:=by
  rw[HN.out];have h1:=H.out.2.1;have h4:=D.out;exact oM M L a k d H.out.1 zLS H.out.2.2.1 zLS
 rw[e2]at hp2;have a02:∀g,mC p g w0 w2:=fun g=>(PD.out.2 g).trans (ha2 g);have P2:=zW (zM hp2 a02);clear e2 hl1 hp2 ha2 kl a02 R1;go_wp2_with fail;have hv2:w2.ownsRow base 144 2 v n xs:=rE (g:=none) H.out.2.2.2.2.1 (P2.out.2 none) (rQ H.out.2.2.2.2.1 H.out.2.2.2.1 zLA) (fun k hk=>by cases hk);refine(zYS p (put M a L) v n base xs k m w2 (by rw[cQ];exact H.out.2.2.1) P2.out.1 hv2 (zR hb (P2.out.2 none).size) hn).mono ?_;rintro e w3 ⟨rfl,h⟩;have H3:=zW h;clear h;go_wp2;go_end0
 obtain⟨v',h1,h2,h3,h4⟩:=H3.out;refine⟨rfl,v',h1,h2,(P2.out.2 _).trans h3,h4.imp id ?_⟩;rintro⟨g,e,h⟩;exact⟨g,e,zR (P2.out.2 none).size h⟩
def Made(L:List Int)(w:World)(e:Ending)(w':World):Prop:=
 ∃p,e=.returned (.tuple #[.pointer (some ⟨p,0,none⟩),.int .i64 0])∧w.heap.size≤p∧mP p (uL L) (.slice none 0 0) w'∧Below w.heap.size w w'
theorem gS.slice{ty:TypeId}{L:List Int}{w w':World}{e:Ending}{n:Nat}(h:gS ty L w e w')(hn:L.length=n)(h0:0<n):
  ∃g c,e=.returned (.slice (some ⟨g,0,none⟩) n c)∧n≤c∧w.heap.size≤g∧Rd w' (some ⟨g,0,none⟩) L∧Below w.heap.size w w':=by
 obtain⟨v,rfl,hown,hb⟩:=h;rw[hn]at hown;obtain⟨g,c,rfl,hg,hlt⟩:=hown.form h0;refine⟨g,c,rfl,?_,hg,JF hown,hb⟩;rcases hown.2 with⟨h1,_⟩|⟨g',c',cur,h1,_,_,hc,_⟩
 ·cases h1
 ·injection h1 with _ _ h2
  omega
theorem new_no(A:Option Addr)(n c:Nat)(w:World)(hn:65024<n):
  Calls Tryz.prog 46 #[.slice A n c] w fun e w'=>e=.returned (.tuple #[.pointer none,.int .i64 7])∧w=w':=by
 have k1:(65024:Int)<(n:Int):=zLS;go_enter Tryz.func46,Tryz.ntmps46;go_wp2;go_ret2;exact⟨rfl,rfl⟩
theorem zK5(A:Option Addr)(n c:Nat)(L:List Int)(w:World)(hn:n≤65024)(hL:L.length=n)(hR:Rd w A L)(hF:xX w):
  Calls Tryz.prog 46 #[.slice A n c] w (Made L w):=by
 have k1:¬(65024:Int)<(n:Int):=zLS;have hz:=zJ8;have H:=zW (zM hL (zM hR hF));clear hL hR hF;go_enter Tryz.func46,Tryz.ntmps46;go_wp2_with fail;clear hz;have B1:Below w.heap.size w (w.alloc (.cells (cells cN (.slice none 0 0)) 150)):=(zB _ _).alloc (zH _) _;have M1:=mP.new w;obtain⟨p,hp⟩:∃p,p=w.heap.size:=⟨_,rfl⟩;generalize w.alloc (.cells (cells cN (.slice none 0 0)) 150)=w1 at*;rw[←hp]at M1⊢;have P1:=zW (zM B1 (zM M1 hp));clear B1 M1 hp;have c80:∀w,(Instr.sliceAt 146 (.pointer (some ⟨p,0,none⟩)) (some (.int .i64 80)) none none).run Tryz.prog w=.ok (.slice (some ⟨p,80,none⟩) 65456 65456) w:=eS p 80 zLS;have c160:∀w,(Instr.sliceAt 146 (.pointer (some ⟨p,0,none⟩)) (some (.int .i64 160)) none none).run Tryz.prog w=.ok (.slice (some ⟨p,160,none⟩) 65376 65376) w:=eS p 160 zLS;have c512:∀w,(Instr.sliceAt 146 (.pointer (some ⟨p,0,none⟩)) (some (.int .i64 512)) none none).run Tryz.prog w=.ok (.slice (some ⟨p,512,none⟩) 65024 65024) w:=eS p 512 zLS;refine mJ (C:=fun w'=>∃x:xR,w'=x.w) [([0,1,2,3],4),([],5)] [] zLE zLE (fun _ _ d _ _ h=>by cases d<;>exact h) (xR.any _) ?_;intro wd hwd;have P2:Below w.heap.size w wd∧mP p cN (.slice none 0 0) wd∧p=w.heap.size:=by rw[hwd];exact⟨P1.out.1.drew,P1.out.2⟩
 have PD:=zW P2;clear hwd P2 P1;refine mV zLC zLI ?_;repeat(go_big_quiet_step (fail))
 refine zY ?_;refine lA zLI ?_;intro K hK;go_wp2_with fail;refine(EU _ (H.out.2.2.step PD.out.1)).mono ?_;rintro e w2 h;obtain⟨g,c2,rfl,_,_,R2,b2⟩:=h.slice vG zLS;have P2:Below w.heap.size w w2∧mP p cN (.slice none 0 0) w2∧p=w.heap.size:=⟨PD.out.1.trans (b2.mono PD.out.1.size),PD.out.2.1.keep (b2.block p PD.out.2.1.lt),PD.out.2.2⟩;obtain⟨v2,hrun,hm2,ha2⟩:=yG 3 p 80 65456 65456 (some ⟨g,0,none⟩) 80 c2 80 zLS nB vG R2 cN (.slice none 0 0) (by exact cX) P2.2.1 zLS;rw[qR (by rw[vG];omega),dW _ _ _ (by exact cX) (by rw[vG];omega)]at hm2;have Q2:=zW (zM (P2.1.trans ((ha2 none).below P2.1.size (by have:=P2.2.2;omega) (fun k hk=>by cases hk))) (zM hm2 P2.2.2));clear h PD R2 b2 P2 hm2 ha2;simp only[];refine hK _ _ (xR.any _) ?_;clear hK K;refine mV zLC zLI ?_;refine zY ?_;refine lA zLI ?_;intro K hK;refine vH (.tmp 12) (.tmp 13) rfl 3 rfl _ _ _ zLI zLI hrun 14 zLI ?_;simp only[zQ,zZ,zJ];refine hK _ _ (xR.any _) ?_;clear hK K hrun;refine nF zLC ?_;refine zY ?_;clear c80;go_wp2_with fail;refine mJ (C:=fun w'=>∃x:xR,w'=x.w) [([0,1,2,3],4),([],5)] [] zLE zLE (fun _ _ d _ _ h=>by cases d<;>exact h) (xR.any _) ?_;intro wd hwd;have P2:Below w.heap.size w wd∧mP p (put cN 80 nB) (.slice none 0 0) wd∧p=w.heap.size:=by rw[hwd];exact⟨Q2.out.1.drew,Q2.out.2⟩
 have PD:=zW P2;clear hwd P2 Q2;refine mV zLC zLI ?_;repeat(go_big_quiet_step (fail))
 refine zY ?_;refine lA zLI ?_;intro K hK;go_wp2_with fail;refine(zYV _ (H.out.2.2.step PD.out.1)).mono ?_;rintro e w3 h;obtain⟨g,c3,rfl,_,_,R3,b3⟩:=h.slice xG zLS;have P3:Below w.heap.size w w3∧mP p (put cN 80 nB) (.slice none 0 0) w3∧p=w.heap.size:=⟨PD.out.1.trans (b3.mono PD.out.1.size),PD.out.2.1.keep (b3.block p PD.out.2.1.lt),PD.out.2.2⟩;obtain⟨v3,hrun,hm3,ha3⟩:=yG 3 p 160 65376 65376 (some ⟨g,0,none⟩) 160 c3 160 zLS uX xG R3 (put cN 80 nB) (.slice none 0 0) (by rw[cQ];exact cX) P3.2.1 zLS;rw[qR (by rw[xG];omega),dW _ _ _ (by rw[cQ];exact cX) (by rw[xG];omega)]at hm3;have Q3:=zW (zM (P3.1.trans ((ha3 none).below P3.1.size (by have:=P3.2.2;omega) (fun k hk=>by cases hk))) (zM hm3 P3.2.2));clear h PD R3 b3 P3 hm3 ha3;simp only[];refine hK _ _ (xR.any _) ?_;clear hK K;refine mV zLC zLI ?_;refine zY ?_;refine lA zLI ?_;intro K hK;refine vH (.tmp 18) (.tmp 19) rfl 3 rfl _ _ _ zLI zLI hrun 20 zLI ?_;simp only[zQ,zZ,zJ];refine hK _ _ (xR.any _) ?_;clear hK K hrun;refine nF zLC ?_;refine zY ?_;clear c160;go_wp2_with fail;have R3:Rd v3 A L:=H.out.2.1.below Q3.out.1;obtain⟨w4,hrun,hm4,ha4⟩:=yG 3 p 512 65024 65024 A n c n zLS L H.out.1 R3 (put (put cN 80 nB) 160 uX) (.slice none 0 0) (by rw[cQ,cQ];exact cX) Q3.out.2.1 zLS;rw[qR (by rw[H.out.1];omega),dW _ _ _ (by rw[cQ,cQ];exact cX) (by rw[H.out.1];omega)]at hm4;have Q4:=zW (zM (Q3.out.1.trans ((ha4 none).below Q3.out.1.size (by have:=Q3.out.2.2;omega) (fun k hk=>by cases hk))) (zM hm4 Q3.out.2.2));clear R3 hm4 ha4 Q3 c512;rw[hrun];clear hrun;go_wp2;go_ret2;exact⟨p,rfl,by have:=Q4.out.2.2;omega,Q4.out.2.1,Q4.out.1⟩
def Gave(n:Nat)(L:List Int)(w:World)(e:Ending)(w':World):Prop:=
 ∃g,e=.returned (.slice (some ⟨g,0,none⟩) n n)∧w.heap.size≤g∧Rd w' (some ⟨g,0,none⟩) L∧Below w.heap.size w w'
theorem QQ(p:Nat)(M:List Int)(v:Value)(a:Int)(k n:Nat)(w:World)(hM:M.length=65536)(hp:mP p M v w)(hk:a%65536=k)(hn:n≤65536):
  Calls Tryz.prog 68 #[.pointer (some ⟨p,0,none⟩),.int .i64 a,.int .i64 (n:Int)] w (Gave n (seg M a n) w):=by
 have m1:max (n:Int) 0=n:=zLS;have m2:min (n:Int) 65536=n:=zLS;have mk:=WN n n rfl zLS;have H:=zW (zM hM (zM hp hk));clear hM hp hk;go_enter Tryz.func68,Tryz.ntmps68;go_wp2_with fail;clear mk m1 m2;have B1:Below w.heap.size w (w.alloc (.cells (arr (List.replicate n 0)) 5)):=(zB _ _).alloc (zH _) _;have G1:(w.alloc (.cells (arr (List.replicate n 0)) 5)).heap[w.heap.size]?=some (.cells (arr (List.replicate n 0)) 5 (0,0)):=jL _ _;obtain⟨g,hg⟩:∃g,g=w.heap.size:=⟨_,rfl⟩;generalize w.alloc (.cells (arr (List.replicate n 0)) 5)=w1 at*;rw[←hg]at G1⊢;have P1:=zW (zM B1 (zM G1 hg));clear B1 G1 hg;have k2:k<65536:=by have:=H.out.2.2;omega
 have c1:=eS p k k2;obtain⟨N,hN⟩:∃N,N=65536:=⟨_,rfl⟩;have c2:=DV p N hN;obtain⟨d,hd⟩:∃d,d=min (65536-k) n:=⟨_,rfl⟩;obtain⟨D,hD⟩:∃D,D=if n=d then some (⟨g,0,none⟩:Addr)else some ⟨g,d,none⟩:=⟨_,rfl⟩;have c3:=zW7 g n d zLS D hD;have HD:=zW (zM hN (zM hd hD));clear hN hd hD;refine mJ (C:=fun w'=>∃x:xR,w'=x.w) [([0,1,2,3,4],5),([6],7)] [8] zLE zLE (fun _ _ d _ _ h=>by cases d<;>exact h) (xR.any _) ?_;intro wd hwd;have P2:Below w.heap.size w wd∧wd.heap[g]?=some (.cells (arr (List.replicate n 0)) 5 (0,0))∧g=w.heap.size:=by rw[hwd];exact⟨P1.out.1.drew,P1.out.2⟩
 have PD:=zW P2;clear hwd P2 P1;refine mV zLC zLI ?_;repeat(go_big_quiet_step (fail))
 refine zY ?_;refine lA zLI ?_;intro K hK;go_wp2_with fail;refine(rA _ k _ H.out.2.2).mono ?_;rintro e w' ⟨rfl,h⟩;replace h:=h.symm;subst h;simp only[];refine hK _ _ (xR.any _) ?_;clear hK K;refine mV zLC zLI ?_;repeat(go_big_quiet_step (fail))
 refine zY ?_;refine lA zLI ?_;intro K hK;have mp:mP p M v wd:=H.out.2.1.keep (PD.out.1.block p H.out.2.1.lt);have R1:Rd wd (some ⟨p,k,none⟩) (M.drop k):=fun _=>⟨_,rfl,mp.lt,fun j hj=>by
  have hM:=H.out.1;rw[jH]at hj;rw[cO,mp.cell hM (k+j) zLS,List.getElem_drop]⟩
 obtain⟨w2,hrun,hg2,ha2⟩:=t9 3 g 0 n n (some ⟨g,0,none⟩) (fun _=>rfl) (some ⟨p,k,none⟩) (65536-k) (65536-k) d HD.out.2.1 (M.drop k) (by rw[jH,H.out.1]) R1 (List.replicate n 0) 5 PD.out.2.1 zLO;refine vH (.tmp 15) (.tmp 21) rfl 3 rfl _ _ _ zLI zLI hrun 22 zLI ?_;simp only[zQ,zZ,zJ];refine hK _ _ (xR.any _) ?_;have Q2:=zW (zM (PD.out.1.trans ((ha2 none).below PD.out.1.size (by have:=PD.out.2.2;omega) (fun k hk=>by cases hk))) (zM hg2 PD.out.2.2));clear hK K hrun hg2 ha2 mp R1 PD c1;refine nF zLC ?_;repeat(go_big_quiet_step (fail))
 refine zY ?_;go_wp2_with fail;refine mJ (C:=fun w'=>∃x:xR,w'=x.w) [([0,1,2,3,4,5,6],7)] [] zLE zLE (fun _ _ d _ _ h=>by cases d<;>exact h) (xR.any _) ?_;intro wd hwd;have P2:Below w.heap.size w wd∧wd.heap[g]?=some (.cells (arr (splice (List.replicate n 0) 0 ((M.drop k).take n))) 5 (0,0))∧g=w.heap.size:=by rw[hwd];exact⟨Q2.out.1.drew,Q2.out.2⟩
 have PD:=zW P2;clear hwd P2 Q2;refine mV zLC zLI ?_;repeat(go_big_quiet_step (fail))
 refine zY ?_;refine lA zLI ?_;intro K hK;have mp:mP p M v wd:=H.out.2.1.keep (PD.out.1.block p H.out.2.1.lt);have R1:Rd wd (some ⟨p,0,none⟩) M:=fun _=>⟨_,rfl,mp.lt,fun j hj=>by
  have hM:=H.out.1;rw[cO,qY,mp.cell hM j zLS]⟩
 have hl2:(splice (List.replicate n (0:Int)) 0 ((M.drop k).take n)).length=n:=by
  rw[xC _ _ _ (by rw[qT,List.length_replicate];omega),List.length_replicate]
 have hdn:d≤n:=by have:=HD.out.2.1;omega
 obtain⟨w3,hrun,hg3,ha3⟩:=t9 3 g d (n-d) (n-d) D (fun h=>by rw[HD.out.2.2,zL zLS]) (some ⟨p,0,none⟩) N N (n-d) (by have:=HD.out.1;omega) M (by rw[HD.out.1];exact H.out.1) R1 _ 5 PD.out.2.1 (by rw[hl2];omega);refine vH (.tmp 25) (.tmp 29) rfl 3 rfl _ _ _ zLI zLI hrun 30 zLI ?_;simp only[zQ,zZ,zJ];refine hK _ _ (xR.any _) ?_;rw[Q7 M (List.replicate n 0) a k n d H.out.2.2 HD.out.2.1 H.out.1 hn List.length_replicate]at hg3;have Q3:=zW (zM (PD.out.1.trans ((ha3 none).below PD.out.1.size (by have:=PD.out.2.2;omega) (fun k hk=>by cases hk))) (zM hg3 PD.out.2.2));clear hK K hrun hg3 ha3 mp R1 PD hl2 c2 c3;refine nF zLC ?_;refine zY ?_;go_wp2;go_ret;refine⟨g,rfl,by have:=Q3.out.2.2;omega,?_,Q3.out.1⟩;intro _;have hg:=Q3.out.2.1;refine⟨_,rfl,(qK.1 hg).1,fun j hj=>?_⟩;rw[cO,qY,jC _ _ _ _ _ _ hg];exact aJ _ j hj

end
section
open Go.RowKit
theorem wE{P:Program}{id:Nat}{Q:Exit→Act→World→Prop}{a:Act}{w:World}{l:List Oper}(n:Nat)(hm:P.follows .mixedOrders=true)(hB:Region.lexTailB .any l.toArray n=true)
  (h:∀wd,wd=w.drew→wpStill P l.toArray wd (fun a'=>wpList P l.toArray Q (l.drop n) a' wd) (l.take n) a):(Code.region id l.toArray true).wp P Q a w:=
 wp_region_still_tail n hm hB (h w.drew rfl)
end
section
open Go.RowKit Num

theorem gS.bytes{L:List Int}{w w':World}{e:Ending}{n:Nat}(h:gS 5 L w e w')(hn:L.length=n)(h0:0<n):
  ∃g c,e=.returned (.slice (some ⟨g,0,none⟩) n c)∧w.heap.size≤g∧g<w'.heap.size∧w'.ownsRow w.heap.size 5 1 (.slice (some ⟨g,0,none⟩) n c) n (L.map (Value.int .u8))∧Below w.heap.size w w':=by
 obtain⟨v,rfl,hown,hb⟩:=h;rw[hn]at hown;obtain⟨g,c,rfl,hg,hlt⟩:=hown.form h0;exact⟨g,c,rfl,hg,hlt,hown,hb⟩
theorem iK(h l:Int)(w:World)(h0:0≤h)(h1:h≤255)(l0:0≤l)(l1:l≤255):
  Calls Tryz.prog 80 #[.int .u8 h,.int .u8 l] w fun e w'=>e=.returned (.int .i64 (h*256+l))∧w=w':=by
 go_enter Tryz.func80,Tryz.ntmps80;go_wp2;go_ret;exact⟨uW (or256 h l h0 h1 l0 l1),rfl⟩
theorem ED(h l:Int)(w:World)(h0:0≤h)(h1:h≤255)(l0:0≤l)(l1:l≤255):
  Calls Tryz.prog 78 #[.int .u8 h,.int .u8 l] w fun e w'=>
   e=.returned (.agg #[.int .i64 (h/16),.int .i64 (h%16),.int .i64 (l/16),.int .i64 (l%16),.int .i64 l,.int .i64 (h%16*256+l)])∧Below w.heap.size w w':=by
 go_enter Tryz.func78,Tryz.ntmps78;go_wp2_with (go_at_call 80;refine(iK _ _ _ h0 h1 l0 l1).mono ?_;rintro e w' ⟨rfl,rfl⟩);go_returns;refine⟨?_,by go_grown⟩;rw[zJR _ zLS zLS,zJR _ zLS zLS,zJR _ zLS zLS,and255 _ zLS zLS,zYH _ zLS zLS];exact OH zLS zLS zLS zLS zLS zLS
end
section
open Go.RowKit Num Go.Maps
theorem cY{H:Type}{P:Program}(w:World){ops:Array Oper}{rest:List Oper}{o:Oper}{a:Act}{Q:Exit→Act→World→Prop}
  (hg:o.guard=none) (m x v:Operand) (t:TypeId) (hop:o.op=Op.insert t m x v)
  (k e:TypeId) (K:Keyed P k) (ht:P.underlying t=some (.map k e)) (R:Value→Option (DataW H×List MemPlace)) (b n:Nat) (D:DataW H)
  (hm:a.eval m=.map (some b)) (hown:w.ownsMap P k R b n D) (hn:n<maxLen) (key val:Value) (kl:Lit) (hx:a.eval x=key) (hv:a.eval v=val) (hkey:keyOf P k key=some kl)
  (d:DataW H) (ps:List MemPlace) (hval:R val=some (d,ps))
  (hK:∀w',w'.ownsMap P k R b (n+1) (D.put kl d)→w.grownBy w' (some b)→wpList P ops Q rest (a.put o.dst undef) w'):
  wpList P ops Q (o::rest) a w:=by
 refine qH hg fun K' hK'=>?_;obtain⟨w',hrun,r1,r2⟩:=hown.update K ht hn hkey hval;unfold Oper.wp;simp[execOp,hop,hm,hx,hv,hrun,Result.andThen];exact hK' _ _ (hK w' r1 r2)
def i9(l x:Int):Bool:=decide ((l=2∧0≤x∧x≤7)∨(l=3∧0≤x∧x≤15))
theorem yS:Keyed Tryz.prog 3:=int_keyed Tryz.underlying3
theorem uC(l:Int)(h:(Lit.int .i64 l).wf=true):keyOf Tryz.prog 3 (.int .i64 l)=some (.int .i64 l):=keyOf_int_mk Tryz.underlying3 h
theorem zJ9(w:World):(zeroValue 3).run Tryz.prog w=.ok (.int .i64 0) w:=by kernel_rfl
def sG:DataW Unit:=((DataW.map []).put (.int .i64 2) (.lit (.int .i64 7))).put (.int .i64 3) (.lit (.int .i64 15))
theorem BV(l:Int):WideAt.IsKeyLit (.int .i64 l):=by first|trivial|simp[WideAt.IsKeyLit]
theorem J0:IsMap (DataW.map []:DataW Unit):=⟨_,rfl⟩
theorem FO(l:Int):has sG (.int .i64 l)=(decide (l=2)||decide (l=3)):=by
 unfold sG;by_cases h3:l=3
 ·subst h3;rw[has_put_same (J0.put _ _) (BV 3)];rfl
 ·rw[has_put_other (by intro c;injection c with _ c;exact h3 c),zU h3,Bool.or_false];by_cases h2:l=2
  ·subst h2;rw[has_put_same J0 (BV 2)];rfl
  ·rw[has_put_other (by intro c;injection c with _ c;exact h2 c),zU h2];rfl
theorem zQ7(l:Int)(z:DataW Unit):sG.atKey (.int .i64 l) z=if l=3 then .lit (.int .i64 15)else if l=2 then .lit (.int .i64 7)else z:=by
 unfold sG;by_cases h3:l=3
 ·subst h3;rw[zN rfl,atKey_put_same (J0.put _ _) (BV 3)]
 ·rw[zL h3,atKey_put_other (by intro c;injection c with _ c;exact h3 c)];by_cases h2:l=2
  ·subst h2;rw[zN rfl,atKey_put_same J0 (BV 2)]
  ·rw[zL h2,atKey_put_other (by intro c;injection c with _ c;exact h2 c)];rfl
theorem J3(w:World):Calls Tryz.prog 157 #[] w fun e w'=>∃b,e=.returned (.map (some b))∧w'.ownsMap Tryz.prog 3 (plainElem Tryz.prog 3) b 2 sG∧Below w.heap.size w w':=by
 have hmm:= @run_makeMap Tryz.prog;go_enter Tryz.func157,Tryz.ntmps157;go_upto_region 1 with fail;refine zG ?_;iterate 3 go_step
 have B0:=zW ((zB w.heap.size w).alloc (zH _) (.map #[] 0));refine cY (H:=Unit) _ rfl (.tmp 1) (.const (.int .i64 2)) (.const (.int .i64 7)) 240 rfl 3 3 yS Tryz.underlying240 (plainElem Tryz.prog 3) w.heap.size 0 (.map []) rfl (World.ownsMap_made w _ _ _) zL6 _ _ (.int .i64 2) rfl rfl (uC 2 zLA) (.lit (.int .i64 7)) [] (plainElem_int Tryz.underlying3 zLA) ?_;intro w1 o1 g1;have B1:=zW (B0.out.grown g1 B0.out.size (fun j hj=>by cases hj;exact zH _));have O1:=zW o1;clear o1 g1 B0 hmm;simp only[Act.put];refine cY _ rfl (.tmp 1) (.const (.int .i64 3)) (.const (.int .i64 15)) 240 rfl 3 3 yS Tryz.underlying240 (plainElem Tryz.prog 3) w.heap.size 1 _ rfl O1.out zL6 _ _ (.int .i64 3) rfl rfl (uC 3 zLA) (.lit (.int .i64 15)) [] (plainElem_int Tryz.underlying3 zLA) ?_;intro w2 o2 g2;have Z:=zW (zM o2 (B1.out.grown g2 B1.out.size (fun j hj=>by cases hj;exact zH _)));clear o2 g2 O1 B1;simp only[Act.put];go_wp2_with fail;go_ret;exact⟨_,rfl,Z.out.1,Z.out.2⟩
theorem fZ(l x:Int)(w:World)(hl:(Lit.int .i64 l).wf=true):Calls Tryz.prog 118 #[.int .i64 l,.int .i64 x] w fun e w'=>e=.returned (.bool (i9 l x))∧Below w.heap.size w w':=by
 have hk:=zW (uC l hl);clear hl;go_enter Tryz.func118,Tryz.ntmps118;go_wp2_with fail;refine(J3 _).mono ?_;rintro e w1 ⟨b,rfl,ho,hb⟩;have O:=zW (zM ho hb);clear ho hb;simp only[];go_at_K
 iterate 4 go_step
 refine wpList_lookup_own_ok_int _ rfl (.tmp 8) (.tmp 9) 240 rfl 3 3 .i64 yS Tryz.underlying240 Tryz.underlying3 (zJ9 _) b 2 sG rfl O.out.1 _ _ rfl hk.out ?_;intro c hat _;rw[FO];rw[zQ7]at hat;have F:i9 l x=((decide (l=2)||decide (l=3))&&(decide (0≤x)&&decide (x≤c))):=by
  unfold i9;by_cases h3:l=3
  ·rw[zN h3]at hat;injection hat with hat
   injection hat with _ hat
   subst hat h3;simp[Bool.decide_and]
  ·rw[zL h3]at hat;by_cases h2:l=2
   ·rw[zN h2]at hat;injection hat with hat
    injection hat with _ hat
    subst hat h2;simp[Bool.decide_and]
   ·simp[h2,h3]
 have FH:=zW F;clear F hat;generalize (decide (l=2)||decide (l=3))=s at*;simp only[Act.put];have B:=zW O.out.2;clear O hk;cases s
 ·go_wp2;go_ret;exact⟨by rw[FH.out];rfl,B.out⟩
 ·by_cases hx:0≤x
  ·by_cases hc:x≤c
   ·have e:=zW (show i9 l x=true by rw[FH.out];simp[hx,hc]);exact zN9
   ·have e:=zW (show i9 l x=false by rw[FH.out];simp only[zU hc,Bool.and_false]);exact zN9
  ·have e:=zW (show i9 l x=false by rw[FH.out];simp only[zU hx,Bool.false_and,Bool.and_false]);exact zN9
end
section
open Go.RowKit
section
variable {P:Program} {b:Nat} {T:TypeId} {cs:Array Value} {w:World}
end
end
section
namespace Num
open Go.RowKit
def hi(r:BitVec 128):BitVec 64:=r.extractLsb' 64 64
def lo(r:BitVec 128):BitVec 64:=r.extractLsb' 0 64
theorem uQ(h l:BitVec 64):hi (h++l)=h:=by
 apply BitVec.eq_of_getLsbD_eq
 intro i hi'
 simp only[hi,BitVec.getLsbD_extractLsb',BitVec.getLsbD_append];rw[zL zLS,show 64+i-64=i by omega];simp[hi']
theorem y9(h l:BitVec 64):lo (h++l)=l:=by
 apply BitVec.eq_of_getLsbD_eq
 intro i hi'
 simp only[lo,BitVec.getLsbD_extractLsb',BitVec.getLsbD_append];rw[zN zLS,show 0+i=i by omega];simp[hi']
theorem pO(r:BitVec 128):hi r++lo r=r:=by
 apply BitVec.eq_of_getLsbD_eq
 intro i hi'
 simp only[hi,lo,BitVec.getLsbD_extractLsb',BitVec.getLsbD_append];split
 ·rename_i h;simp[h]
 ·rename_i h
  rw[show 64+(i-64)=i by omega];simp;omega
theorem KU(h l h' l':BitVec 64):(h++l)&&&(h'++l')=(h&&&h')++(l&&&l'):=by
 apply kJ
 intro i _
 simp only[BitVec.getMsbD_and,jO];split<;>rfl
theorem KA(h l h' l':BitVec 64):(h++l)^^^(h'++l')=(h^^^h')++(l^^^l'):=by
 apply kJ
 intro i _
 simp only[BitVec.getMsbD_xor,jO];split<;>rfl
theorem zYY{h l h' l':BitVec 64}:h++l=h'++l'↔h=h'∧l=l':=
 ⟨fun e=>⟨by rw[←uQ h l,e,uQ],by rw[←y9 h l,e,y9]⟩,fun⟨a,b⟩=>by rw[a,b]⟩
def rv(r:BitVec 128):Value:=.agg #[.int .u64 ((hi r).toNat:Int),.int .u64 ((lo r).toNat:Int)]
theorem lP(h l:BitVec 64):rv (h++l)=.agg #[.int .u64 (h.toNat:Int),.int .u64 (l.toNat:Int)]:=by rw[rv,uQ,y9]
theorem U0(u:BitVec 64)(c:Int):(u.toNat:Int)*2^min c.toNat 64%18446744073709551616=((u<<<c.toNat).toNat:Int):=by
 rw[BitVec.toNat_shiftLeft,Nat.shiftLeft_eq];rcases jT c.toNat 64 with h|h
 ·rw[Nat.min_eq_left zLS];simp
 ·rw[Nat.min_eq_right zLS];have e1:u.toNat*2^c.toNat%2^64=0:=by
   rw[show c.toNat=(c.toNat-64)+64 by omega,Nat.pow_add,←Nat.mul_assoc];exact Nat.mul_mod_left _ _
  rw[e1];omega
theorem zY7(u:BitVec 64)(c:Int):(u.toNat:Int)/2^min c.toNat 64=((u>>>c.toNat).toNat:Int):=by
 rw[BitVec.toNat_ushiftRight,Nat.shiftRight_eq_div_pow];rcases jT c.toNat 64 with h|h
 ·rw[Nat.min_eq_left zLS];simp
 ·rw[Nat.min_eq_right zLS];have h2:u.toNat<2^c.toNat:=zF u.isLt (Nat.pow_le_pow_right zLA zLS);rw[Nat.div_eq_of_lt h2];have:=u.isLt;omega
theorem gI(u:BitVec 64):BitVec.ofInt 64 (u.toNat:Int)=u:=by
 apply BitVec.eq_of_toNat_eq
 rw[BitVec.toNat_ofInt]
 have:=u.isLt;omega
theorem QF(u:BitVec 64):IntKind.u64.wrap (u.toNat:Int)=(u.toNat:Int):=by
 rw[IntKind.wrap_u64];have:=u.isLt;omega
theorem zKF(u v:BitVec 64):bits .or .u64 (u.toNat:Int) (v.toNat:Int)=((u|||v).toNat:Int):=by
 show IntKind.u64.wrap (((BitVec.ofInt 64 (u.toNat:Int)|||BitVec.ofInt 64 (v.toNat:Int)).toNat:Nat):Int)=_;rw[gI,gI,QF]
theorem zLG(u v:BitVec 64):bits .and .u64 (u.toNat:Int) (v.toNat:Int)=((u&&&v).toNat:Int):=by
 show IntKind.u64.wrap (((BitVec.ofInt 64 (u.toNat:Int)&&&BitVec.ofInt 64 (v.toNat:Int)).toNat:Nat):Int)=_;rw[gI,gI,QF]
theorem zY4(u v:BitVec 64):bits .xor .u64 (u.toNat:Int) (v.toNat:Int)=((u^^^v).toNat:Int):=by
 show IntKind.u64.wrap (((BitVec.ofInt 64 (u.toNat:Int)^^^BitVec.ofInt 64 (v.toNat:Int)).toNat:Nat):Int)=_;rw[gI,gI,QF]
theorem tW{n:Nat}(x:BitVec n)(i:Nat)(h:n≤i):x.getMsbD i=false:=by
 rw[BitVec.getMsbD_eq_getLsbD,zU zLS];rfl
theorem ON(h l:BitVec 64)(k k1 k2:Nat)(e:(k≤64∧k1=64-k)∨(64<k∧64≤k1))(e2:(64≤k∧k2=k-64)∨(k<64∧64≤k2)):
  (h>>>k)++(l>>>k|||h<<<k1|||h>>>k2)=(h++l)>>>k:=by
 apply kJ
 intro i hi'
 simp only[jO,BitVec.getMsbD_ushiftRight,BitVec.getMsbD_or,BitVec.getMsbD_shiftLeft];by_cases hlt:64≤i
 ·rw[zN hlt];rcases e with⟨a,b⟩|⟨a,b⟩
  ·rcases e2 with⟨c,d⟩|⟨c,d⟩
   ·have hk:k=64:=zLS;subst hk;subst b;subst d;rw[zL zLS];simp;rw[show decide (i-64<64)=true by simp;omega,show decide (i<128)=true by simp;omega,show decide (i<64)=false by simp;omega];simp
   ·rw[show decide (i-64<k2)=true by simp;omega,show decide (i-64<64)=true by simp;omega];subst b;by_cases hik:i-64<k
    ·rw[zL zLS,show i-64+(64-k)=i-k by omega,show decide (i-64<k)=true by simp;omega,show decide (i<k)=false by simp;omega];simp;omega
    ·rw[zN zLS,show decide (i-64<k)=false by simp;omega,show decide (i<k)=false by simp;omega,tW h (i-64+(64-k)) zLS,show i-64-k=i-k-64 by omega];simp;omega
  ·rcases e2 with⟨c,d⟩|⟨c,d⟩
   ·rw[show decide (i-64<64)=true by simp;omega,show decide (i-64<k)=true by simp;omega,tW h (i-64+k1) zLS];subst d;rw[zL zLS];by_cases hik:i<k
    ·rw[show decide (i-64<k-64)=true by simp;omega,show decide (i<k)=true by simp;omega];simp
    ·rw[show decide (i-64<k-64)=false by simp;omega,show decide (i<k)=false by simp;omega,show i-64-(k-64)=i-k by omega];simp;omega
   ·omega
 ·rw[zL hlt,zL zLS,show decide (i<64)=true by simp;omega,show decide (i<64+64)=true by simp;omega]
theorem zK9(h l:BitVec 64)(k k1 k2:Nat)(e:(k≤64∧k1=64-k)∨(64<k∧64≤k1))(e2:(64≤k∧k2=k-64)∨(k<64∧64≤k2)):
  (h<<<k|||l>>>k1|||l<<<k2)++(l<<<k)=(h++l)<<<k:=by
 apply kJ
 intro i hi'
 simp only[jO,BitVec.getMsbD_ushiftRight,BitVec.getMsbD_or,BitVec.getMsbD_shiftLeft];by_cases hlt:64≤i
 ·rw[zN hlt,zN zLS,show i-64+k=i+k-64 by omega]
 ·rw[zL hlt,show decide (i<64)=true by simp;omega];rcases e with⟨a,b⟩|⟨a,b⟩
  ·subst b;rcases e2 with⟨c,d⟩|⟨c,d⟩
   ·have hk:k=64:=zLS;subst hk;subst d;rw[zN zLS,tW h (i+64) zLS];simp
   ·rw[tW l (i+k2) zLS];by_cases hik:i+k<64
    ·rw[zL zLS,show decide (i<64-k)=true by simp;omega];simp
    ·rw[zN zLS,tW h (i+k) zLS,show decide (i<64-k)=false by simp;omega,show i-(64-k)=i+k-64 by omega];simp
  ·rcases e2 with⟨c,d⟩|⟨c,d⟩
   ·subst d;rw[zN zLS,tW h (i+k) zLS,show decide (i<k1)=true by simp;omega,show i+(k-64)=i+k-64 by omega];simp
   ·omega
def mv(r:BitVec 128)(n:Int):BitVec 128:=if n<0 then r<<<(-n).toNat else r>>>n.toNat
def uZ(n:Int):BitVec 128:=mv (BitVec.allOnes 128) (n-128)
def yI(r:BitVec 128)(n width:Int):BitVec 128:=mv r n&&&uZ width
def px(r:BitVec 128)(x:Nat):Bool:=r.getMsbD x
theorem gZ{r s:BitVec 128}(h:∀x,x<128→px r x=px s x):r=s:=kJ h
theorem OA(r:BitVec 128)(x:Nat)(h:128≤x):px r x=false:=tW r x h
theorem OU(r s:BitVec 128)(x:Nat):px (r&&&s) x=(px r x&&px s x):=BitVec.getMsbD_and
theorem OE(r s:BitVec 128)(x:Nat):px (r^^^s) x=(px r x^^px s x):=BitVec.getMsbD_xor
theorem wI(x:Nat):px 0#128 x=false:=by simp[px]
def pxi(r:BitVec 128)(x:Int):Bool:=decide (0≤x)&&px r x.toNat
theorem OC(r:BitVec 128)(n:Int)(x:Nat)(hx:x<128):px (mv r n) x=pxi r (x-n):=by
 unfold mv px pxi px;split
 ·rw[BitVec.getMsbD_shiftLeft,qJ zLS,show((x:Int)-n).toNat=x+(-n).toNat by omega];rfl
 ·rw[BitVec.getMsbD_ushiftRight,qJ hx];by_cases h:x<n.toNat
  ·rw[qJ h,zU zLS];rfl
  ·rw[zU h,qJ zLS,show((x:Int)-n).toNat=x-n.toNat by omega];rfl
theorem PJ(n:Int)(x:Nat)(hx:x<128)(hn:n≤128):px (uZ n) x=decide ((x:Int)<n):=by
 unfold uZ;rw[OC _ _ _ hx,pxi,px,BitVec.getMsbD_allOnes,Bool.eq_iff_iff];simp;omega
theorem NL(r:BitVec 128)(n width:Int)(x:Nat)(hx:x<128)(hn:width≤128):px (yI r n width) x=(pxi r (x-n)&&decide ((x:Int)<width)):=by
 unfold yI;rw[OU,OC _ _ _ hx,PJ _ _ hx hn]
end Num
namespace Num
open Go.RowKit
def pcn(f:Nat→Bool):Nat→Nat
 |0=>0
 |k+1=>pcn f k+(f k).toNat
theorem PY{f g:Nat→Bool}(k:Nat)(h:∀i,i<k→f i=g i):pcn f k=pcn g k:=by
 induction k with
 |zero=>rfl
 |succ k ih=>rw[pcn,pcn,ih fun i hi=>h i zLS,h k zLS]
theorem zKH(f:Nat→Bool)(j k:Nat):pcn f (j+k)=pcn f j+pcn (fun i=>f (j+i)) k:=by
 induction k with
 |zero=>rfl
 |succ k ih=>rw[←qF,pcn,pcn,ih];omega
theorem zQQ{f:Nat→Bool}{k:Nat}:pcn f k=0↔∀i,i<k→f i=false:=by
 induction k with
 |zero=>simp[pcn]
 |succ k ih=>
  rw[pcn]
  constructor
  ·intro h i hi
   rcases jT i k with hlt|hge
   ·exact ih.1 zLS i hlt
   ·have:i=k:=by omega
    subst this
    cases hf:f i
    ·rfl
    ·rw[hf]at h;simp at h
  ·intro h
   rw[ih.2 fun i hi=>h i zLS,h k zLS]
   rfl
def V:List Nat→Nat
 |[]=>0
 |d::ds=>256*V ds+d
def t1(d:Nat):Nat:=(d/2&&&85)+(d&&&85)
def t2(d:Nat):Nat:=(d/4&&&51)+(d&&&51)
def t3(d:Nat):Nat:=(d/16+d)&&&15
def zZ9(r:BitVec 128):Nat:=pcn (px r) 128
theorem YK(r:BitVec 128):zZ9 r=0↔r=0#128:=by
 rw[zZ9,zQQ];constructor
 ·intro h;exact gZ fun x hx=>by rw[h x hx,wI]
 ·rintro rfl x _;exact wI x
end Num
namespace Num
open Go.RowKit
def spF(b c x m:Nat)(clip:Bool)(k j:Nat):Bool:=
 (decide (x≤j∧j<x+c∧j<m∧c+x≤j+k)&&b.testBit (c-1-(j-x)))||(!clip&&(decide (j+m<x+c∧c+x≤j+m+k)&&b.testBit (c-1-(j+m-x))))
def sp0(b c:Nat):BitVec 128:=(BitVec.ofNat 64 b<<<(64-c))++0#64
def u7(b c x m:Nat)(clip:Bool):BitVec 128:=if clip then yI (sp0 b c) x m else yI (sp0 b c) x m^^^mv (sp0 b c) ((x:Int)-m)
theorem px_sp0(b c i:Nat)(c1:c≤16):px (sp0 b c) i=(decide (i<c)&&b.testBit (c-1-i)):=by
 unfold sp0 px;rw[jO];split
 ·rw[zU zLS];simp
 ·rw[BitVec.getMsbD_shiftLeft,BitVec.getMsbD_eq_getLsbD,BitVec.getLsbD_ofNat];by_cases h:i<c
  ·rw[qJ zLS,qJ zLS,qJ h,show 64-1-(i+(64-c))=c-1-i by omega];simp
  ·rw[zU (p:=i+(64-c)<64) zLS,zU h];rfl
theorem GM(b c:Nat)(i:Int)(c1:c≤16):pxi (sp0 b c) i=(decide (0≤i∧i<c)&&b.testBit (c-1-i.toNat)):=by
 unfold pxi;rw[px_sp0 b c _ c1];by_cases h:0≤i
 ·rw[qJ h,show decide (i.toNat<c)=decide (0≤i∧i<c) by congr 1;simp;omega];rfl
 ·rw[zU h,zU (p:=0≤i∧i<(c:Int)) zLS];rfl
theorem SI(b c x m:Nat)(clip:Bool)(c1:c≤16)(hm:16≤m)(m1:m≤128)(hx:x<m)(j:Nat)(hj:j<128):px (u7 b c x m clip) j=spF b c x m clip c j:=by
 have e1:px (yI (sp0 b c) x m) j=(decide (x≤j∧j<x+c∧j<m∧c+x≤j+c)&&b.testBit (c-1-(j-x))):=by
  rw[NL _ _ _ _ hj zLS,GM _ _ _ c1,show((j:Int)-(x:Int)).toNat=j-x by omega];by_cases h:x≤j∧j<x+c∧j<m
  ·rw[qJ (p:=0≤(j:Int)-x∧(j:Int)-x<c) zLS,qJ (p:=(j:Int)<(m:Int)) zLS,qJ zLS];simp
  ·rw[zU (p:=x≤j∧_) zLS];by_cases h2:(j:Int)<(m:Int)
   ·rw[zU (p:=0≤(j:Int)-x∧(j:Int)-x<c) zLS];rfl
   ·rw[zU h2];simp
 have e2:px (mv (sp0 b c) ((x:Int)-m)) j=(decide (j+m<x+c∧c+x≤j+m+c)&&b.testBit (c-1-(j+m-x))):=by
  rw[OC _ _ _ hj,GM _ _ _ c1,show((j:Int)-((x:Int)-(m:Int))).toNat=j+m-x by omega,
   show decide (0≤(j:Int)-((x:Int)-(m:Int))∧(j:Int)-((x:Int)-(m:Int))<c)=decide (j+m<x+c∧c+x≤j+m+c) by congr 1;simp;omega]
 unfold u7 spF;cases clip
 ·rw[zL zLO,OE,e1,e2];by_cases h:x≤j
  ·rw[zU (p:=j+m<x+c∧_) zLS];simp
  ·rw[zU (p:=x≤j∧_) zLS];simp
 ·rw[zN rfl,e1];simp
theorem GN(r:BitVec 128)(i:Int)(h:i<0):pxi r i=false:=by
 rw[pxi,zU zLS,Bool.false_and]
theorem fI(r:BitVec 128)(i:Nat):pxi r (i:Int)=px r i:=by
 rw[pxi,qJ zLS,Bool.true_and,Int.toNat_natCast]
def LR(r:BitVec 128)(m:Nat):Prop:=∀i:Int,m≤i→pxi r i=false
theorem OP(i:Int):pxi 0#128 i=false:=by rw[pxi,wI,Bool.and_false]
theorem xW(r:BitVec 128):∃h l:BitVec 64,r=h++l:=⟨hi r,lo r,(pO r).symm⟩
end Num
namespace Num
open Go.RowKit
def sm(g:Nat→Nat):Nat→Nat
 |0=>0
 |k+1=>sm g k+g k
theorem MF{f g:Nat→Nat}(k:Nat)(h:∀i,i<k→f i=g i):sm f k=sm g k:=by
 induction k with
 |zero=>rfl
 |succ k ih=>rw[sm,sm,ih fun i hi=>h i zLS,h k zLS]
theorem GX{f:Nat→Nat}(k:Nat)(h:∀i,i<k→f i=0):sm f k=0:=by
 induction k with
 |zero=>rfl
 |succ k ih=>rw[sm,ih fun i hi=>h i zLS,h k zLS]
theorem MD{f:Nat→Nat}{k:Nat}:sm f k=0↔∀i,i<k→f i=0:=by
 refine⟨?_,GX k⟩;induction k with
 |zero=>intro _ i hi;omega
 |succ k ih=>
  rw[sm]
  intro h i hi
  rcases jT i k with hlt|hge
  ·exact ih zLS i hlt
  ·obtain rfl:i=k:=by omega
   omega
theorem zQZ(f:Nat→Bool)(n k:Nat):pcn f (n*k)=sm (fun y=>pcn (fun x=>f (n*y+x)) n) k:=by
 induction k with
 |zero=>rfl
 |succ k ih=>rw[Nat.mul_succ,zKH,sm,ih]
abbrev Pl:=Nat→BitVec 128
def zLR(P:Pl)(m h:Nat):Prop:=(∀y,LR (P y) m)∧∀y,h≤y→P y=0#128
def pcount(P:Pl):Nat:=sm (fun y=>zZ9 (P y)) 64
def mH(P:Pl)(dx dy:Int)(m h:Nat):Pl:=fun y=>if(0≤(y:Int)-dy∧(y:Int)-dy<h)∧y<h then yI (P ((y:Int)-dy).toNat) dx m else 0#128
def spr(bits:Nat→Nat)(len c x y m h:Nat)(clip:Bool):Pl:=fun j=>
 if y≤j∧j<y+len∧j<h then u7 (bits (j-y)) c x m clip else if clip=false∧j+h<y+len then u7 (bits (j+h-y)) c x m clip else 0#128
def wB(A B:Pl):Pl:=fun y=>A y^^^B y
theorem Y6(m:Nat):LR 0#128 m:=fun i _=>OP i
theorem UP(bits:Nat→Nat)(c x y m h:Nat)(clip:Bool)(hy:y<h)(j:Nat):spr bits 0 c x y m h clip j=0#128:=by
 unfold spr;rw[zL zLS];by_cases hc:clip=false∧j+h<y+0
 ·omega
 ·rw[zL hc]
theorem spr_in(bits:Nat→Nat)(i c x y m h:Nat)(clip:Bool)(hi:i<h)(hy:y<h)(hin:y+i<h)(j:Nat):
  spr bits (i+1) c x y m h clip j=if j=y+i then u7 (bits i) c x m clip else spr bits i c x y m h clip j:=by
 unfold spr;by_cases e:j=y+i
 ·rw[zN e,zN zLS,show j-y=i by omega]
 ·rw[zL e];by_cases h1:y≤j∧j<y+i∧j<h
  ·rw[zN h1,zN zLS]
  ·rw[zL h1,zL zLS];by_cases h2:clip=false∧j+h<y+i
   ·omega
   ·rw[zL h2,zL zLS]
theorem zXC(bits:Nat→Nat)(i c x y m h:Nat)(hi:i<h)(hy:y<h)(hout:h≤y+i)(j:Nat):
  spr bits (i+1) c x y m h false j=if j=y+i-h then u7 (bits i) c x m false else spr bits i c x y m h false j:=by
 unfold spr;by_cases e:j=y+i-h
 ·rw[zN e,zL zLS,zN ⟨rfl,by omega⟩,show j+h-y=i by omega]
 ·rw[zL e];by_cases h1:y≤j∧j<y+i∧j<h
  ·rw[zN h1,zN zLS]
  ·rw[zL h1,zL zLS];by_cases h2:j+h<y+i
   ·rw[zN (show false=false∧j+h<y+(i+1)from⟨rfl,by omega⟩),zN (show false=false∧j+h<y+i from⟨rfl,h2⟩)]
   ·rw[zL zLS,zL zLS]
theorem UE(bits:Nat→Nat)(i c x y m h:Nat)(hout:h≤y+i)(j:Nat):spr bits (i+1) c x y m h true j=spr bits i c x y m h true j:=by
 unfold spr;by_cases h1:y≤j∧j<y+i∧j<h
 ·rw[zN h1,zN zLS]
 ·rw[zL h1,zL zLS,zL zLO,zL zLO]
theorem eZ(b c x m:Nat)(clip:Bool)(c1:c≤16)(hm:16≤m)(m1:m≤128)(hx:x<m):LR (u7 b c x m clip) m:=fun i hi=>by
 obtain⟨k,rfl⟩:=jY (show 0≤i by omega);rw[fI];by_cases hk:k<128
 ·rw[SI b c x m clip c1 hm m1 hx k hk];unfold spF;rw[zU (p:=x≤k∧_) zLS,zU (p:=k+m<x+c∧_) zLS];simp
 ·exact OA _ _ zLS
theorem zXE(bits:Nat→Nat)(len c x y m h:Nat)(clip:Bool)(c1:c≤16)(hm:16≤m)(m1:m≤128)(hx:x<m)(hl:len≤h)(hy:y<h):zLR (spr bits len c x y m h clip) m h:=by
 refine⟨fun j=>?_,fun j hj=>?_⟩
 ·unfold spr;split
  ·exact eZ _ _ _ _ _ c1 hm m1 hx
  ·split
   ·exact eZ _ _ _ _ _ c1 hm m1 hx
   ·exact Y6 m
 ·unfold spr;rw[zL zLS,zL zLS]
end Num
namespace Num
open Go.RowKit
def acc(g:Nat→Bool):Nat→Nat
 |0=>0
 |k+1=>2*acc g k+(g k).toNat
theorem acc_lt(g:Nat→Bool)(k:Nat):acc g k<2^k:=by
 induction k with
 |zero=>simp[acc]
 |succ k ih=>
  rw[acc,Nat.pow_succ]
  have:=Bool.toNat_le (g k)
  omega
theorem zYE(g:Nat→Bool)(k j:Nat):(acc g k).testBit j=(decide (j<k)&&g (k-1-j)):=by
 induction k generalizing j with
 |zero=>simp[acc]
 |succ k ih=>
  rw[acc]
  cases j with
  |zero=>
   rw[Nat.testBit_zero]
   cases hg:g k<;>simp[hg]<;>omega
  |succ j=>
   rw[Nat.testBit_succ,show(2*acc g k+(g k).toNat)/2=acc g k by have:=Bool.toNat_le (g k);omega,ih j,show k+1-1-(j+1)=k-1-j by omega,
    show decide (j<k)=decide (j+1<k+1) by congr 1;simp]
def wd(g:Nat→Bool):BitVec 64:=BitVec.ofNat 64 (acc g 64)
theorem wd_nat(g:Nat→Bool):(wd g).toNat=acc g 64:=by
 have:=acc_lt g 64;rw[wd,BitVec.toNat_ofNat,kV this]
theorem I9(g:Nat→Bool)(i:Nat)(hi:i<64):(wd g).getMsbD i=g i:=by
 rw[BitVec.getMsbD_eq_getLsbD,←BitVec.testBit_toNat,wd_nat,zYE,qJ hi,qJ zLS,show 64-1-(64-1-i)=i by omega,Bool.true_and,Bool.true_and]
def fwd(f:Nat→Bool):Pl:=fun y=>wd (fun i=>f (128*y+i))++wd (fun i=>f (128*y+(64+i)))
theorem yR(f:Nat→Bool)(y x:Nat)(hx:x<128):px (fwd f y) x=f (128*y+x):=by
 unfold fwd px;rw[jO];split
 ·rw[I9 _ _ zLS,show 64+(x-64)=x by omega]
 ·rw[I9 _ _ zLS]
def xB(f:Nat→Bool)(m h:Nat):Prop:=∀i,f i=true→i%128<m∧i/128<h
theorem zVH{f:Nat→Bool}{m h:Nat}(hf:xB f m h):zLR (fwd f) m h:=by
 refine⟨fun y i hi=>?_,fun y hy=>gZ fun x hx=>?_⟩
 ·by_cases h0:0≤i
  ·obtain⟨k,rfl⟩:=jY h0;rw[fI];by_cases hk:k<128
   ·rw[yR _ _ _ hk];cases hg:f (128*y+k)
    ·rfl
    ·have:=(hf _ hg).1;omega
   ·exact OA _ _ zLS
  ·exact GN _ _ zLS
 ·rw[yR _ _ _ hx,wI];cases hg:f (128*y+x)
  ·rfl
  ·have:=(hf _ hg).2;omega
theorem WV(f:Nat→Bool):pcount (fwd f)=pcn f (128*64):=by
 rw[zQZ];exact MF 64 fun y hy=>PY 128 fun x hx=>yR f y x hx
def eK(f:Nat→Bool)(dx dy:Int)(m h:Nat)(i:Nat):Bool:=
 decide ((i/128<h∧i%128<m)∧(0≤((i%128:Nat):Int)-dx∧((i%128:Nat):Int)-dx<m)∧(0≤((i/128:Nat):Int)-dy∧((i/128:Nat):Int)-dy<h))&&f (128*(((i/128:Nat):Int)-dy)+(((i%128:Nat):Int)-dx)).toNat
theorem W0(f:Nat→Bool)(dx dy:Int)(m h:Nat)(hm:m≤128)(hf:xB f m h)(y:Nat):fwd (eK f dx dy m h) y=mH (fwd f) dx dy m h y:=gZ fun x hx=>by
 rw[yR _ _ _ hx];unfold eK mH;rw[show(128*y+x)/128=y by omega,show(128*y+x)%128=x by omega];by_cases h1:(0≤(y:Int)-dy∧(y:Int)-dy<h)∧y<h
 ·rw[zN h1,NL _ _ _ _ hx zLS];obtain⟨d,hd⟩:∃d:Nat,(y:Int)-dy=(d:Int):=⟨((y:Int)-dy).toNat,by omega⟩;rw[hd,Int.toNat_natCast];by_cases h2:x<m
  ·rw[qJ (p:=(x:Int)<(m:Int)) zLS,Bool.and_true];by_cases h3:0≤(x:Int)-dx∧(x:Int)-dx<m
   ·obtain⟨e,he⟩:∃e:Nat,(x:Int)-dx=(e:Int):=⟨((x:Int)-dx).toNat,by omega⟩;rw[he,fI,yR _ _ _ zLS,qJ zLS,Bool.true_and,show(128*(d:Int)+(e:Int)).toNat=128*d+e by omega]
   ·rw[zU zLS,Bool.false_and];rcases Int.lt_or_le ((x:Int)-dx) 0 with h0|h0
    ·rw[GN _ _ h0]
    ·rw[(zVH hf).1 d _ zLS]
  ·rw[zU zLS,zU (p:=(x:Int)<(m:Int)) zLS,Bool.false_and,Bool.and_false]
 ·rw[zL h1,wI,zU zLS,Bool.false_and]
def zX2(bits:Nat→Nat)(len c x y m h:Nat)(clip:Bool)(i:Nat):Bool:=px (spr bits len c x y m h clip (i/128)) (i%128)
theorem WO(bits:Nat→Nat)(len c x y m h:Nat)(clip:Bool)(j:Nat):fwd (zX2 bits len c x y m h clip) j=spr bits len c x y m h clip j:=gZ fun k hk=>by
 rw[yR _ _ _ hk,zX2,show(128*j+k)/128=j by omega,show(128*j+k)%128=k by omega]
theorem AY(f g:Nat→Bool)(y:Nat):fwd (fun i=>f i^^g i) y=wB (fwd f) (fwd g) y:=gZ fun x hx=>by
 show _=px (fwd f y^^^fwd g y) x;rw[yR _ _ _ hx,OE,yR _ _ _ hx,yR _ _ _ hx]
theorem zVG(f g:Nat→Bool)(y:Nat):fwd (fun i=>f i&&g i) y=fwd f y&&&fwd g y:=gZ fun x hx=>by
 rw[yR _ _ _ hx,OU,yR _ _ _ hx,yR _ _ _ hx]
theorem KV(f g:Nat→Bool):pcn (fun i=>f i&&g i) (128*64)=sm (fun y=>zZ9 (fwd f y&&&fwd g y)) 64:=by
 rw[←WV];exact MF 64 fun y _=>by rw[zVG]
def tP(A B:Pl):Bool:=decide (sm (fun y=>zZ9 (A y&&&B y)) 64≠0)
theorem O9(A B:Pl):tP A B=true↔∃y,y<64∧A y&&&B y≠0#128:=by
 unfold tP;rw[qB];constructor
 ·intro h;rcases Classical.em (∃y,y<64∧A y&&&B y≠0#128)with h2|h2
  ·exact h2
  ·refine absurd (GX 64 fun y hy=>(YK _).2 ?_) h;rcases Classical.em (A y&&&B y=0#128)with h3|h3
   ·exact h3
   ·exact absurd ⟨y,hy,h3⟩ h2
 ·rintro⟨y,hy,h⟩ h2;exact h ((YK _).1 (MD.1 h2 y hy))
theorem WA(f g:Nat→Bool):tP (fwd f) (fwd g)=decide (0<pcn (fun i=>f i&&g i) (128*64)):=by
 rw[KV];unfold tP;rw[Bool.eq_iff_iff,qB,qB];omega
theorem gN(m h:Nat):xB (fun _=>false) m h:=fun i hi=>by cases hi
theorem zX3(f:Nat→Bool)(dx dy:Int)(m h:Nat):xB (eK f dx dy m h) m h:=fun i hi=>by
 unfold eK at hi;have:=qA (Bool.and_eq_true_iff.1 hi).1;exact⟨this.1.2,this.1.1⟩
end Num
end
section
open Go.RowKit Num
def cV(P:Pl)(j:Nat):Int:=if j%2=0 then((hi (P (j/2))).toNat:Int)else((lo (P (j/2))).toNat:Int)
def kA(P:Pl):Array Value:=((List.range 128).map fun j=>Value.int .u64 (cV P j)).toArray
theorem lZ(P:Pl):(kA P).size=128:=by simp[kA]
theorem cR(P:Pl)(j:Nat)(hj:j<128):(kA P)[j]?=some (.int .u64 (cV P j)):=by simp[kA,hj]
theorem sX(P:Pl)(y:Nat):cV P (2*y)=((hi (P y)).toNat:Int):=by
 rw[cV,zN zLS,show 2*y/2=y by omega]
theorem aW(P:Pl)(y:Nat):cV P (2*y+1)=((lo (P y)).toNat:Int):=by
 rw[cV,zL zLS,show(2*y+1)/2=y by omega]
theorem JR{P Q:Pl}(h:∀y,y<64→P y=Q y):kA P=kA Q:=by
 unfold kA;congr 1
 refine List.map_congr_left fun j hj=>?_
 have hj:=jM.1 hj;unfold cV;rw[h (j/2) zLS]
theorem vY(P:Pl):(kA P).all (·.oneCell')=true:=by
 rw[qC];intro v hv;simp[kA]at hv;obtain⟨j,_,rfl⟩:=hv;rfl
def L9(P:Pl)(y:Nat)(r:BitVec 128):Pl:=fun j=>if j=y then r else P j
theorem rH(P:Pl)(y:Nat)(r:BitVec 128):L9 P y r y=r:=by simp[L9]
theorem rG(P:Pl)(y j:Nat)(r:BitVec 128)(h:j≠y):L9 P y r j=P j:=by simp[L9,h]
theorem WW(P:Pl)(y:Nat)(h l:BitVec 64)(hy:y<64):((kA P).setIfInBounds (2*y) (.int .u64 (h.toNat:Int))).setIfInBounds (2*y+1) (.int .u64 (l.toNat:Int))=kA (L9 P y (h++l)):=by
 apply qZ
 intro j
 by_cases hj:j<128
 ·rw[cR _ _ hj,qX,qX];by_cases e1:2*y+1=j
  ·subst e1;rw[zN rfl,zN (by simp[lZ];omega),aW,rH,y9]
  ·rw[zL e1];by_cases e0:2*y=j
   ·subst e0;rw[zN rfl,zN (by simp[lZ];omega),sX,rH,uQ]
   ·rw[zL e0,cR _ _ hj];unfold cV;rw[rG _ _ _ _ zLS]
 ·rw[zD (by simp[lZ];omega),zD (by simp[lZ];omega)]
def mR(b:Nat)(t:TypeId)(P:Pl)(w:World):Prop:=w.heap[b]?=some (.cells (kA P) t (0,0))
section
variable {b:Nat} {t:TypeId} {P Q:Pl} {w w':World}
theorem mR.lt(H:mR b t P w):b<w.heap.size:=(qK.1 H).1
theorem mR.below(H:mR b t P w){n:Nat}(hb:Below n w w')(hn:b<n):mR b t P w':=(hb.block b hn).trans H
theorem mR.step(H:mR b t P w)(hb:Below w.heap.size w w'):mR b t P w':=H.below hb H.lt
theorem mR.new(w:World)(P:Pl)(t:TypeId):mR w.heap.size t P (w.alloc (.cells (kA P) t)):=jL _ _
theorem mR.alloc(H:mR b t P w)(o:Obj):mR b t P (w.alloc o):=H.step ((zB _ _).alloc (zH _) _)
theorem mR.drew(H:mR b t P w):mR b t P w.drew:=H
theorem mR.congr(H:mR b t P w)(h:∀y,y<64→P y=Q y):mR b t Q w:=by
 unfold mR at*;rw[←JR h];exact H
theorem mR.other(H:mR b t P w){g:Nat}(hg:b≠g)(o:Nat)(v:Value):mR b t P (w.setCell ⟨g,o,none⟩ v):=(qL w ⟨g,o,none⟩ v b hg).trans H
theorem mR.otherRow(H:mR b t P w){g:Nat}(hg:b≠g)(cs:Array Value):mR b t P (w.setRow g cs):=(zO w g b cs hg).trans H
theorem mR.cell(H:mR b t P w)(j:Nat)(hj:j<128):w.cell? ⟨b,j,none⟩=some (.int .u64 (cV P j)):=by
 rw[jC w b j (kA P) t (0,0) H];exact cR P j hj
theorem mR.left(H:mR b t P w)(y:Nat)(hy:y<64):w.cell? ⟨b,y*2,none⟩=some (.int .u64 ((hi (P y)).toNat:Int)):=by
 rw[Nat.mul_comm y 2,H.cell _ zLS,sX]
theorem mR.right(H:mR b t P w)(y:Nat)(hy:y<64):w.cell? ⟨b,y*2+1,none⟩=some (.int .u64 ((lo (P y)).toNat:Int)):=by
 rw[Nat.mul_comm y 2,H.cell _ zLS,aW]
theorem mR.frozen(H:mR b t P w)(j:Nat):w.frozen? ⟨b,j,none⟩=false:=frozen_of_row w b j (kA P) t H
theorem mR.store(H:mR b t P w)(Q:Pl):mR b t Q (w.setRow b (kA Q)):=setRow_heap w b _ _ t (0,0) H
theorem mR.row(H:mR b t P w)(y:Nat)(hy:y<64)(h l:BitVec 64):mR b t (L9 P y (h++l)) ((w.setCell ⟨b,y*2,none⟩ (.int .u64 (h.toNat:Int))).setCell ⟨b,y*2+1,none⟩ (.int .u64 (l.toNat:Int))):=by
 rw[Nat.mul_comm y 2];have e1:=setCell_eq_setRow w b (2*y) (kA P) t (0,0) (.int .u64 (h.toNat:Int)) H;have H1:(w.setRow b ((kA P).setIfInBounds (2*y) (.int .u64 (h.toNat:Int)))).heap[b]?=_:=setRow_heap w b _ _ t (0,0) H;have e2:=setCell_eq_setRow _ b (2*y+1) _ t (0,0) (.int .u64 (l.toNat:Int)) H1;rw[e1,e2,WW P y h l hy];exact setRow_heap _ b _ _ t (0,0) H1
end
theorem vS{B:Nat}{a w:World}(h:Below B a w){g:Nat}(hg:B≤g)(cs:Array Value):Below B a (w.setRow g cs):=
 h.trans ⟨rfl,rfl,rfl,by simp[World.setRow],fun k hk=>zO w g k cs zLS⟩
section
variable {P:Program}
theorem xJ(t:TypeId)(d:TypeDesc)(xs:Array Value)(off sz:Nat)(w:World)(hd:(match d with| .struct _| .array _ _=>true|_=>false)=true)(hu:P.underlying t=some d)(hi:(P.info? t).map (·.size)=some sz):
  (part t xs off).run P w=.ok (.agg (xs.extract off (off+sz))) w:=by
 cases hq:P.info? t with
 |none=>simp[hq]at hi
 |some i=>
  have hs:i.size=sz:=zMG
  have hagg:(isAgg t).run P w=.ok true w:=by
   unfold isAgg;rw[zA,q9 hu w];cases d<;>simp_all
  simp[part,zA,hagg,sizeOf,typeInfo,hq,hs]
end
end
section
open Go.RowKit
inductive fD where
 |last (is:List Nat)
 |call (is:List Nat) (c:Nat) (t:fD)
 |fork (is:List Nat) (c1:Nat) (t1:fD) (c2:Nat) (t2:fD)
section
variable {P:Program} {ops:Array Oper} {C:World→Prop} {Q:Exit→Act→World→Prop} {md:Region.Mode}
def cW(P:Program)(ops:Array Oper)(C:World→Prop)(Q:Exit→Act→World→Prop)(c:Nat)(F:Act→World→Prop)(a:Act)(w:World):Prop:=
 match ops[c]? with
 |none=>False
 |some o=>if Region.wanted o (yielded ops a.tmps)then o.wp P a w (fun a'' w''=>C w''∧F a'' w'') Q else F (a.put o.dst undef) w
def vJ(P:Program)(ops:Array Oper)(C:World→Prop)(Q:Exit→Act→World→Prop):fD→Act→World→Prop
 |.last is,a,w=>wpQuiet P ops C (fun a'=>Q .normal a' w) (kC ops is) a
 |.call is c t,a,w=>wpQuiet P ops C (fun a'=>cW P ops C Q c (fun a w=>vJ P ops C Q t a w) a' w) (kC ops is) a
 |.fork is c1 t1 c2 t2,a,w=>wpQuiet P ops C (fun a'=>cW P ops C Q c1 (fun a w=>vJ P ops C Q t1 a w) a' w∧cW P ops C Q c2 (fun a w=>vJ P ops C Q t2 a w) a' w) (kC ops is) a
def pP(md:Region.Mode)(ops:Array Oper):fD→Array Bool→Bool
 |.last is,listed=>oG md ops is listed&&(Region.ready md ops (mA listed is)).isEmpty
 |.call is c t,listed=>oG md ops is listed&&decide (Region.ready md ops (mA listed is)=[c])&&pP md ops t ((mA listed is).setIfInBounds c true)
 |.fork is c1 t1 c2 t2,listed=>oG md ops is listed&&decide (Region.ready md ops (mA listed is)=[c1,c2])&&pP md ops t1 ((mA listed is).setIfInBounds c1 true)&&pP md ops t2 ((mA listed is).setIfInBounds c2 true)
def tH:fD→Nat
 |.last is=>is.length
 |.call is _ t=>tH t+1+is.length
 |.fork is _ t1 _ _=>tH t1+1+is.length
def ZE:fD→Bool
 |.last _=>true
 |.call _ _ t=>ZE t
 |.fork _ _ t1 _ t2=>ZE t1&&ZE t2&&decide (tH t1=tH t2)
theorem rP{K K':Act→Prop}(hK:∀a,K a→K' a):∀(l:List Oper) (a:Act),wpQuiet P ops C K l a→wpQuiet P ops C K' l a:=by
 exact zNK
theorem f8{c:Nat}{F G:Act→World→Prop}{a:Act}{w:World}(hC:C w)(h:cW P ops C Q c F a w)(hF:∀a w,C w→F a w→G a w):wpOp P ops Q c (fun a' w'=>C w'∧G a' w') a w:=by
 unfold cW at h;unfold wpOp;cases ho:ops[c]? with
 |none=>rw[ho]at h;exact h.elim
 |some o=>
  rw[ho]at h
  simp only at h⊢
  split
  ·rename_i hw
   simp only[hw,if_true]at h
   exact .inl (Oper.wp_mono (fun a'' w'' ⟨h1,h2⟩=>⟨h1,hF _ _ h1 h2⟩) h)
  ·rename_i hw
   simp only[hw]at h
   exact⟨hC,hF _ _ hC h⟩
theorem bD(hs:Region.noSelect ops=true)(hQ:∀(c:_) (a:Act) (d:Option Tmp) (v:Value) (w:World),Q (.panic c) (a.put d v) w→Q (.panic c) a w)(k:Nat):∀(t:fD) (listed:Array Bool) (a:Act) (w:World),C w→
  ZE t=true→pP md ops t listed=true→vJ P ops C Q t a w→wpAnyH P md ops Q C (k+tH t) listed a w
 |.last is,listed,a,w,hC,_,hB,h=>by
  simp only[pP,zC]at hB;have hr:Region.ready md ops (mA listed is)=[]:=by simpa using hB.2
  refine uT hs hQ k hC is listed a hB.1 ?_;simp only[vJ]at h;exact rP (fun a h=>wpAnyH_done hr h k) _ _ h
 |.call is c t,listed,a,w,hC,he,hB,h=>by
  simp only[pP,zC]at hB;obtain⟨⟨hB1,hB2⟩,hB3⟩:=hB;have hr:Region.ready md ops (mA listed is)=[c]:=by simpa using hB2
  simp only[tH];rw[←qF];refine uT hs hQ _ hC is listed a hB1 ?_;simp only[vJ]at h;refine rP (fun a' ha=>?_) _ _ h;rw[←qF];refine wpAnyH_all hr zLO fun i hi=>?_;obtain rfl:i=c:=by simpa using hi
  exact f8 hC ha fun a'' w'' h1 h2=>bD hs hQ k t _ a'' w'' h1 he hB3 h2
 |.fork is c1 t1 c2 t2,listed,a,w,hC,he,hB,h=>by
  simp only[pP,zC]at hB;obtain⟨⟨⟨hB1,hB2⟩,hB3⟩,hB4⟩:=hB;have hr:Region.ready md ops (mA listed is)=[c1,c2]:=by simpa using hB2
  simp only[ZE,zC,qB]at he;obtain⟨⟨e1,e2⟩,e3⟩:=he;simp only[tH];rw[←qF];refine uT hs hQ _ hC is listed a hB1 ?_;simp only[vJ]at h;refine rP (fun a' ha=>?_) _ _ h;rw[←qF];refine wpAnyH_all hr zLO fun i hi=>?_;rcases(by simpa using hi:i=c1∨i=c2)with rfl|rfl
  ·exact f8 hC ha.1 fun a'' w'' h1 h2=>bD hs hQ k t1 _ a'' w'' h1 e1 hB3 h2
  ·refine f8 hC ha.2 fun a'' w'' h1 h2=>?_;rw[e3];exact bD hs hQ k t2 _ a'' w'' h1 e2 hB4 h2
theorem yN{id:Nat}{a:Act}{w:World}{l:List Oper}(t:fD)(hm:P.follows .mixedOrders=true)
  (hB:(Region.noSelect l.toArray&&pP .any l.toArray t (Array.replicate l.toArray.size false)&&ZE t&&decide (tH t≤l.toArray.size))=true)
  (hQ:∀(c:_) (a:Act) (d:Option Tmp) (v:Value) (w:World),Q (.panic c) (a.put d v) w→Q (.panic c) a w) (hC:C w.drew)
  (h:∀wd,wd=w.drew→vJ P l.toArray C Q t a wd):(Code.region id l.toArray true).wp P Q a w:=by
 simp only[zC,qB]at hB;obtain⟨⟨⟨hs,hb⟩,he⟩,hle⟩:=hB;refine wp_region_held (S:=C) hm ?_;have:=bD (md:=.any) hs hQ (l.toArray.size-tH t) t (Array.replicate l.toArray.size false) a w.drew hC he hb (h _ rfl);rwa [Nat.sub_add_cancel hle]at this
theorem tY{is:List Nat}{l:List Oper}{a:Act}{w:World}(hl:kC ops is=l)(h:wpQuiet P ops C (fun a'=>Q .normal a' w) l a):vJ P ops C Q (.last is) a w:=by
 subst hl;exact h
theorem tM{is:List Nat}{c:Nat}{t:fD}{l:List Oper}{a:Act}{w:World}(hl:kC ops is=l)(h:wpQuiet P ops C (cW P ops C Q c (fun a w=>vJ P ops C Q t a w) · w) l a):vJ P ops C Q (.call is c t) a w:=by
 subst hl;exact h
theorem tL{is:List Nat}{c1 c2:Nat}{t1 t2:fD}{l:List Oper}{a:Act}{w:World}(hl:kC ops is=l)
  (h:wpQuiet P ops C (fun a=>cW P ops C Q c1 (fun a w=>vJ P ops C Q t1 a w) a w∧cW P ops C Q c2 (fun a w=>vJ P ops C Q t2 a w) a w) l a):vJ P ops C Q (.fork is c1 t1 c2 t2) a w:=by
 subst hl;exact h
theorem m7{c:Nat}{t:fD}{o:Oper}{a:Act}{w:World}(ho:ops[c]?=some o)(hw:Region.wanted o (yielded ops a.tmps)=true)(h:∀K:Act→World→Prop,(∀a w,C w→vJ P ops C Q t a w→K a w)→o.wp P a w K Q):cW P ops C Q c (fun a w=>vJ P ops C Q t a w) a w:=by
 unfold cW;rw[ho];simp only[hw,if_true];exact h _ fun a w hc h=>⟨hc,h⟩
end
end
section
open Go.RowKit Go.ChangeShapes Go.WideShapes Num
def tQ(w:World)(A:Option Addr)(L:List Nat):Prop:=L≠[]→∃ad,A=some ad∧ad.block<w.heap.size∧∀j (h:j<L.length),w.cell? (ad.add j)=some (.int .u16 (L[j]:Int))
theorem fX(a:Addr)(n:Nat):(a.add n).block=a.block:=by unfold Addr.add;split<;>rfl
section
variable {w w':World} {A:Option Addr} {L:List Nat}
theorem tQ.nil:tQ w A []:=fun h=>absurd rfl h
theorem tQ.at_(h:tQ w A L){k:Nat}(hk:k<L.length):∃ad,A=some ad∧ad.block<w.heap.size∧w.cell? (ad.add k)=some (.int .u16 (L.getD k 0:Int)):=by
 obtain⟨ad,hA,hb,hc⟩:=h zMW;exact⟨ad,hA,hb,by rw[hc k hk];simp[hk]⟩
theorem tQ.below(h:tQ w A L)(hb:Below w.heap.size w w'):tQ w' A L:=fun hne=>by
 obtain⟨ad,hA,hlt,hc⟩:=h hne;exact⟨ad,hA,zF hlt hb.size,fun j hj=>(hb.cell (p:=ad.add j) (by rw[fX];exact hlt)).trans (hc j hj)⟩
end
def nth(L:List Nat)(i:Nat):Nat:=L.getD i 0
theorem nth_le{L:List Nat}(h:∀x∈L,x≤65535)(i:Nat):nth L i≤65535:=by
 unfold nth;rw[qV];rcases jT i L.length with hi|hi
 ·rw[zP hi];exact h _ (kX hi)
 ·rw[qW hi];simp
section
variable {H:Type} {enc:TypeId×Value→H} {W:World} {r:Reach} {base:Nat}
end
end
end Go.Proofs.YthknmadinmigfaaGreatDoor
