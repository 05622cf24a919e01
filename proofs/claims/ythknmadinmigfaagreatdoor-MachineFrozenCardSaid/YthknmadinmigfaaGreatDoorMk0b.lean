/- MemNum, MemBlk, AddrNum, FontAdd, FontCat, FontTab, Mem, MemLog, MemWrite, MemNew, MemBytes, FontRef, Tail, MemPut, MemRef2, Opc, FlaAllow, Put1, PixNum, PopNum, PixMath, PlaneNum, PlaneFwd, PlaneBox, Fork, Words16. -/
import Derived.Test.YthknmadinmigfaaGreatDoorRows
import Derived.Test.YthknmadinmigfaaGreatDoorProg
import Derived.Test.YthknmadinmigfaaGreatDoorMk0a
set_option maxRecDepth 400000
set_option maxHeartbeats 64000000
set_option linter.unusedVariables false
set_option linter.unusedSimpArgs false
namespace Go.Proofs.YthknmadinmigfaaGreatDoor
section
def put(M:List Int)(a:Int):List Int→List Int
 |[]=>M
 |x::b=>put (M.set (a%65536).toNat x) (a+1) b
theorem zJ4(M:List Int)(a:Int):put M a []=M:=rfl
theorem LU(M:List Int)(a x:Int)(b:List Int):put M a (x::b)=put (M.set (a%65536).toNat x) (a+1) b:=rfl
theorem vC(b:List Int):∀(M:List Int) (a:Int),(put M a b).length=M.length:=by
 induction b with
 |nil=>intro M a;rfl
 |cons x b ih=>intro M a;rw[LU,ih,List.length_set]
theorem fJ(b:List Int):∀(M:List Int) (a:Int) (hb:b.length≤65536) (hM:M.length=65536) (j:Nat) (hj:j<65536),
  (put M a b)[j]?=if(((j:Int)-a)%65536).toNat<b.length then b[(((j:Int)-a)%65536).toNat]? else M[j]?:=by
 induction b with
 |nil=>intro M a hb hM j hj;simp[zJ4]
 |cons x b ih=>
  intro M a hb hM j hj
  simp only[List.length_cons]at hb⊢
  rw[LU,ih _ _ zYQ (by rw[List.length_set];exact hM) j hj]
  by_cases h0:(((j:Int)-a)%65536).toNat=0
  ·have e:(a%65536).toNat=j:=zYQ
   rw[zL zYQ,zN zYQ,h0,e,List.getElem?_set_self zYQ]
   rfl
  ·obtain⟨k,hk⟩:∃k,(((j:Int)-a)%65536).toNat=k+1:=⟨_,(Nat.succ_pred h0).symm⟩
   have e1:(((j:Int)-(a+1))%65536).toNat=k:=zYQ
   rw[hk,e1,zK,List.getElem?_set_ne zYQ]
   by_cases h:k<b.length
   ·rw[zN h,zN zYQ]
   ·rw[zL h,zL zYQ]
theorem NY{M:List Int}(hM:M.length=65536){j:Nat}(h:¬j<65536):M[j]?=none:=qX zYQ
theorem TO{M N:List Int}(hM:M.length=65536)(hN:N.length=65536)(h:∀j,j<65536→M[j]?=N[j]?):M=N:=by
 apply kZ
 intro j
 by_cases hj:j<65536
 ·exact h j hj
 ·rw[NY hM hj,NY hN hj]
theorem bG(M b:List Int)(off:Nat)(hM:M.length=65536)(h:off+b.length≤65536):splice M off b=put M off b:=by
 refine TO (by rw[xN _ _ _ zYQ];exact hM) (by rw[vC];exact hM) fun j hj=>?_;rw[xH _ _ _ zYQ,fJ b M off zYQ hM j hj];by_cases h1:j<off
 ·rw[zN h1,zL zYQ]
 ·rw[zL h1];by_cases h2:j<off+b.length
  ·rw[zN h2,zN zYQ];congr 1
   omega
  ·rw[zL h2,zL zYQ]
theorem Z6(M b:List Int)(a:Int)(at_ d:Nat)(ha:(a%65536).toNat=at_)(hd:d=min b.length (65536-at_))(hM:M.length=65536)(hb:b.length≤65536):
  splice (splice M at_ (b.take d)) 0 (b.drop d)=put M a b:=by
 have l1:(b.take d).length=d:=by rw[qB];omega
 have l2:(b.drop d).length=b.length-d:=jW;have l3:(splice M at_ (b.take d)).length=65536:=by rw[xN _ _ _ zYQ];exact hM
 refine TO (by rw[xN _ _ _ zYQ];exact l3) (by rw[vC];exact hM) fun j hj=>?_;rw[xH _ _ _ zYQ,xH _ _ _ zYQ,fJ b M a hb hM j hj,zL zYQ,l1,l2];by_cases h1:j<b.length-d
 ·rw[zN zYQ,zN zYQ,jF];congr 1
  omega
 ·rw[zL zYQ];by_cases h2:j<at_
  ·rw[zN h2,zL zYQ]
  ·rw[zL h2];by_cases h3:j<at_+d
   ·rw[zN h3,zN zYQ,List.getElem?_take,zN zYQ];congr 1
    omega
   ·rw[zL h3,zL zYQ]
theorem iD(M b:List Int)(a:Int)(k d:Nat)(ha:a%65536=k)(hd:d=min b.length (65536-k))(hM:M.length=65536)(hb:b.length≤65536):
  splice (splice M k (b.take (65536-k))) 0 ((b.drop d).take 65536)=put M a b:=by
 have e1:(b.drop d).take 65536=b.drop d:=qR (by rw[jW];omega);have e2:b.take (65536-k)=b.take d:=by
  by_cases h:b.length≤65536-k
  ·rw[qR h,qR zYQ]
  ·have e:d=65536-k:=zYQ;rw[e]
 rw[e1,e2];exact Z6 M b a k d zYQ zYQ hM hb
def seg(M:List Int)(a:Int)(n:Nat):List Int:=(List.range n).map fun i:Nat=>M.getD ((a+(i:Int))%65536).toNat 0
theorem vP(M:List Int)(a:Int)(n:Nat):(seg M a n).length=n:=by simp[seg]
theorem wN(M:List Int)(a:Int)(n j:Nat)(hM:M.length=65536)(hj:j<n):(seg M a n)[j]?=M[((a+(j:Int))%65536).toNat]?:=by
 have h:((a+(j:Int))%65536).toNat<M.length:=zYQ;simp[seg,hj,h]
theorem KG(M Z:List Int)(a:Int)(at_ n d:Nat)(ha:(a%65536).toNat=at_)(hd:d=min (65536-at_) n)(hM:M.length=65536)(hn:n≤65536)(hZ:Z.length=n):
  splice (splice Z 0 ((M.drop at_).take d)) d (M.take (n-d))=seg M a n:=by
 have l1:((M.drop at_).take d).length=d:=by rw[qB,jW];omega
 have l2:(M.take (n-d)).length=n-d:=by rw[qB];omega
 have l3:(splice Z 0 ((M.drop at_).take d)).length=n:=by rw[xN _ _ _ zYQ];exact hZ
 apply kZ
 intro j
 by_cases hj:j<n
 ·rw[wN M a n j hM hj,xH _ _ _ zYQ,xH _ _ _ zYQ,l1,l2];by_cases h1:j<d
  ·rw[zN h1,zL zYQ,zN zYQ,List.getElem?_take,zN zYQ,jF];congr 1
   omega
  ·rw[zL h1,zN zYQ,List.getElem?_take,zN zYQ];congr 1
   omega
 ·rw[qX (by rw[xN _ _ _ zYQ];omega),qX zLQ]
theorem Z7(M Z:List Int)(a:Int)(k n d:Nat)(ha:a%65536=k)(hd:d=min (65536-k) n)(hM:M.length=65536)(hn:n≤65536)(hZ:Z.length=n):
  splice (splice Z 0 ((M.drop k).take n)) d (M.take (n-d))=seg M a n:=by
 have e:(M.drop k).take n=(M.drop k).take d:=by
  by_cases h:n≤65536-k
  ·have e:d=n:=zYQ;rw[e]
  ·rw[qR (by rw[jW];omega),qR (by rw[jW];omega)]
 rw[e];exact KG M Z a k n d zYQ zYQ hM hn hZ
def cX:List Int:=List.replicate 65536 0
theorem vU:cX.length=65536:=List.length_replicate
def uQ(rom:List Int):List Int:=put (put (put cX 80 nH) 160 yI) 512 rom
theorem sO(rom:List Int):(uQ rom).length=65536:=by unfold uQ;rw[vC,vC,vC,vU]
end
section
open Go.RowKit Num
def z6:List Value:=[.int .u8 0,.int .u8 0,.int .u8 0,.int .u8 0,.int .u8 0,.int .u8 0,.int .u8 0,.int .u8 0,.int .u8 0,.int .u8 0,.int .u8 0,.int .u8 0,.int .u8 0,.int .u8 0,.int .u8 0,.int .u8 0,.int .u8 0,.int .u8 0,.int .u8 0,.int .u8 0,.int .u8 0,.int .u8 0,.int .u8 0,.int .u8 0,.int .u8 0,.int .u8 0,.int .u8 0,.int .u8 0,.int .u8 0,.int .u8 0,.int .u8 0,.int .u8 0,.int .u8 0,.int .u8 0,.int .u8 0,.int .u8 0,.int .u8 0,.int .u8 0,.int .u8 0,.int .u8 0,.int .u8 0,.int .u8 0,.int .u8 0,.int .u8 0,.int .u8 0,.int .u8 0,.int .u8 0,.int .u8 0,.int .u8 0,.int .u8 0,.int .u8 0,.int .u8 0,.int .u8 0,.int .u8 0,.int .u8 0,.int .u8 0,.int .u8 0,.int .u8 0,.int .u8 0,.int .u8 0,.int .u8 0,.int .u8 0,.int .u8 0,.int .u8 0]
def z7:List Value:=List.append z6 z6
def z8:List Value:=List.append z7 z7
def z9:List Value:=List.append z8 z8
def z10:List Value:=List.append z9 z9
def z11:List Value:=List.append z10 z10
def z12:List Value:=List.append z11 z11
def z13:List Value:=List.append z12 z12
def z14:List Value:=List.append z13 z13
def z15:List Value:=List.append z14 z14
theorem QG{L:List Value}{n:Nat}(h:L=List.replicate n (.int .u8 0)):List.append L L=List.replicate (n+n) (.int .u8 0):=by subst h;exact List.replicate_append_replicate
theorem zWS:z6=List.replicate 64 (.int .u8 0):=rfl
theorem zWF:z7=List.replicate 128 (.int .u8 0):=QG zWS
theorem zWD:z8=List.replicate 256 (.int .u8 0):=QG zWF
theorem zWT:z9=List.replicate 512 (.int .u8 0):=QG zWD
theorem AC:z10=List.replicate 1024 (.int .u8 0):=QG zWT
theorem AE:z11=List.replicate 2048 (.int .u8 0):=QG AC
theorem AF:z12=List.replicate 4096 (.int .u8 0):=QG AE
theorem AR:z13=List.replicate 8192 (.int .u8 0):=QG AF
theorem AG:z14=List.replicate 16384 (.int .u8 0):=QG AR
theorem z15_eq:z15=List.replicate 32768 (.int .u8 0):=QG AG
def zraw:List Value:=List.append z15 (List.append z14 (List.append z13 (List.append z12 (List.append z11 (List.append z10 (List.append z9 (List.append z8 (List.append z7 (List.append z6 (List.append [.int .u8 0,.int .u8 0,.int .u8 0,.int .u8 0,.int .u8 0,.int .u8 0,.int .u8 0,.int .u8 0,.int .u8 0,.int .u8 0,.int .u8 0,.int .u8 0,.int .u8 0,.int .u8 0,.int .u8 0,.int .u8 0,.int .u8 0,.int .u8 0,.int .u8 0,.int .u8 0,.int .u8 0,.int .u8 0,.int .u8 0,.int .u8 0,.int .u8 0,.int .u8 0,.int .u8 0,.int .u8 0,.int .u8 0,.int .u8 0,.int .u8 0,.int .u8 0] [.int .u8 0,.int .u8 0,.int .u8 0,.int .u8 0,.int .u8 0,.int .u8 0,.int .u8 0,.int .u8 0,.int .u8 0,.int .u8 0,.int .u8 0,.int .u8 0,.int .u8 0,.int .u8 0,.int .u8 0,.int .u8 0,.int .u8 0,.int .u8 0,.int .u8 0,.int .u8 0,.int .u8 0,.int .u8 0,.int .u8 0,.int .u8 0,.int .u8 0,.int .u8 0,.int .u8 0,.int .u8 0,.int .u8 0,.int .u8 0,.int .u8 0,.int .u8 0,.slice none 0 0]))))))))))
theorem yZ{n m:Nat}{L R:List Value}(h:L=List.replicate n (.int .u8 0)){S:List Value}(hS:R=List.replicate m (.int .u8 0)++S):List.append L R=List.replicate (n+m) (.int .u8 0)++S:=by
 subst h;subst hS;show List.replicate n (Value.int .u8 0)++(List.replicate m (Value.int .u8 0)++S)=_;rw[←kQ,List.replicate_append_replicate]
theorem zZA:zraw=List.replicate 65536 (.int .u8 0)++[.slice none 0 0]:=
 yZ z15_eq (yZ AG (yZ AR (yZ AF (yZ AE (yZ AC (yZ zWT (yZ zWD (yZ zWF (yZ zWS (yZ (n:=32) (m:=32) rfl rfl))))))))))
def cells(M:List Int)(v:Value):Array Value:=(M.map (Value.int .u8)++[v]).toArray
theorem J0:zraw.toArray=cells cX (.slice none 0 0):=by
 rw[zZA];unfold cells cX;rw[List.map_replicate]
theorem TA:(Tryz.prog.info? 150).map (fun i=>(i.zero,i.size))=some (some (.agg (cells cX (.slice none 0 0))),65537):=by
 rw[←J0];kernel_rfl
theorem zZ0(w:World):(zeroValue 150).run Tryz.prog w=.ok (.agg (cells cX (.slice none 0 0))) w:=(zero_of_info TA).1 w
def mS(p:Nat)(M:List Int)(v:Value)(w:World):Prop:=w.heap[p]?=some (.cells (cells M v) 150 (0,0))
section
variable {p:Nat} {M:List Int} {v:Value} {w w':World}
theorem mS.lt(h:mS p M v w):p<w.heap.size:=(qE.1 h).1
theorem mS.cell(h:mS p M v w)(hM:M.length=65536)(j:Nat)(hj:j<65536):w.cell? ⟨p,j,none⟩=some (.int .u8 (M[j]' zYQ)):=by
 rw[jE w p j _ _ _ h];unfold cells;rw[zX,qF zYN,q8,zP zYQ];rfl
theorem mS.log(h:mS p M v w)(hM:M.length=65536):w.cell? ⟨p,65536,none⟩=some v:=by
 rw[jE w p _ _ _ _ h];unfold cells;rw[zX,qS zYN];simp[hM]
theorem mS.frozen(h:mS p M v w)(j:Nat):w.frozen? ⟨p,j,none⟩=false:=frozen_of_row w p j _ _ h
theorem mS.keep(h:mS p M v w)(hk:w'.heap[p]?=w.heap[p]?):mS p M v w':=hk.trans h
theorem mS.new(w:World):mS w.heap.size cX (.slice none 0 0) (w.alloc (.cells (cells cX (.slice none 0 0)) 150)):=jJ _ _
theorem mS.setLog(h:mS p M v w)(hM:M.length=65536)(v':Value):mS p M v' (w.setCell ⟨p,65536,none⟩ v'):=by
 unfold mS;rw[setCell_eq_setRow w p _ _ _ _ v' h,setRow_heap w p _ _ _ _ h];congr 2
 unfold cells
 apply Array.ext'
 simp[hM]
end
theorem Z8(M b:List Int)(v:Value)(off:Nat)(hM:M.length=65536)(h:off+b.length≤65536):
  (splice (M.map (Value.int .u8)++[v]) off (b.map (Value.int .u8))).toArray=cells (splice M off b) v:=by
 unfold cells splice;congr 1
 have e1:(M.map (Value.int .u8)++[v]).take off=(M.take off).map (Value.int .u8):=by
  rw[List.take_append_of_le_length zYN,List.map_take]
 have e2:(M.map (Value.int .u8)++[v]).drop (off+(b.map (Value.int .u8)).length)=(M.drop (off+b.length)).map (Value.int .u8)++[v]:=by
  rw[List.drop_append_of_le_length zYN,List.map_drop,jD]
 rw[e1,e2];simp
theorem yQ{w:World}(ty:TypeId)(p off n c:Nat)(A:Option Addr)(m k d:Nat)(hd:d=min m n)
  (L:List Int) (hL:L.length=m) (hR:Rd w A L) (M:List Int) (v:Value) (hM:M.length=65536) (hp:mS p M v w) (hn:off+n=65536):
  ∃w',(Builtin.copy_ #[22,22] ty #[.slice (some ⟨p,off,none⟩) n c,.slice A m k]).run Tryz.prog w=.ok (.int .i64 (d:Int)) w'∧mS p (splice M off (L.take n)) v w'∧∀g,mE p g w w':=by
 have hll:(L.take n).length≤n:=by rw[qB];omega
 obtain⟨w',h0,h1,h2⟩:=vE ty p off n c _ (fun _=>rfl) A m k d hd L hL hR (M.map (Value.int .u8)++[v]) 150 hp (by simp[hM];omega);refine⟨w',h0,?_,h2⟩;unfold mS;rw[h1,Z8 M (L.take n) v off hM zYQ]
end
section
namespace Num
open Go.RowKit
theorem XN(x:Int):bits .and .i64 x 65535=x%65536:=by
 have h:(BitVec.ofInt 64 x&&&BitVec.ofInt 64 65535).toNat=(x%18446744073709551616).toNat%65536:=by
  have e:(BitVec.ofInt 64 65535).toNat=2^16-1:=zYK;rw[BitVec.toNat_and,e,Nat.and_two_pow_sub_one_eq_mod,BitVec.toNat_ofInt];rfl
 show IntKind.i64.wrap (((BitVec.ofInt 64 x&&&BitVec.ofInt 64 65535).toNat:Nat):Int)=_;rw[h,zO];omega
def lst(a:Int)(n:Nat):List Int:=(List.range n).map fun(i:Nat)=>(a+(i:Int))%65536
end Num
end
section
open Go.RowKit Num
theorem add5(X:List Int)(hX:X.length=5)(v:Value)(n:Nat)(M:List Int)(base:Nat)(w:World)
  (hown:w.ownsRow base 5 1 v n (M.map (Value.int .u8))) (hbase:base≤w.heap.size) (hn:n≤1000):
  Calls Tryz.prog 115 #[v,.agg (arr X)] w fun e w'=>∃v',e=.returned v'∧w'.ownsRow base 5 1 v' (n+5) ((M++X).map (Value.int .u8))∧Below base w w':=by
 obtain⟨i0,hi,hz0,hz1,hz2⟩:=kG rH;have hown1:=hown.alloc (.cells (arr X) 188);have hbox:(w.alloc (.cells (arr X) 188)).heap[w.heap.size]?=some (.cells (arr X) 188 (0,0)):=jJ _ _;have hb1:Below base w (w.alloc (.cells (arr X) 188)):=(zG _ _).alloc hbase _;go_enter Tryz.func115,Tryz.ntmps115;go_upto_region 1 with fail;refine zB ?_;refine j4 rfl 188 (.tmp 3) rfl w.heap.size rfl 188 (arr X) (0,0) _ hbox Tryz.underlying188 rfl (by rw[iJ,hX];kernel_rfl) ?_;generalize w.alloc (Obj.cells (arr X) 188)=w1 at*;clear hown;go_wp2;go_loopw [0,5,8] (fun o i c wr=>∃k:Nat,k≤5∧c=.int .i64 k∧wr.ownsRow base 5 1 o (n+k) ((M++X.take k).map (Value.int .u8))∧Below base w wr∧wr.heap[w.heap.size]?=some (.cells (arr X) 188 (0,0))) (fun _ _ c _=>5-(intOf c).toNat)
 case atStart=>exact⟨0,qI _,rfl,by simpa using hown1,hb1,hbox⟩
 case round=>
  obtain⟨k,hk,rfl,hown,hb,hbox2⟩:=hrel
  have hne:=bV hbox2 zYK hown
  clear hbox hown1 hb1
  by_cases hlt:k<5
  ·have hkX:k<X.length:=zYQ
   have hc:wr.cell? ⟨w.heap.size,k,none⟩=some (.int .u8 X[k]):=(jE wr _ k _ _ _ hbox2).trans (fW X k hkX)
   have ht:=i9 hkX
   obtain⟨x,hx⟩:∃x,X[k]=x:=⟨_,rfl⟩
   rw[hx]at hc ht
   clear hx
   go_wp2_with ((at_builtin;refine wpList_append_own _ rfl _ _ 22 rfl base 5 i0 (.int .u8 0) 1 1 Tryz.underlying22 hi hz0 hz1 hz2 rfl zYK _ _ _ rfl (hown.alloc _) ⟨_,0,none⟩ 1 1 [.int .u8 x] rfl rfl (cell_one_new _ _ _) zLZ zYR zYQ zYC ?_;intro v' w2 hown' hgrow _))
   go_roundw
   case rel=>
    refine⟨k+1,by omega,by go_num,?_,(hb.alloc (zR hbase hb.size) _).grown hgrow zYC fun j ej=>(hown.lt j ej).1,iQ _ hbox2 hgrow hne⟩
    rw[ht,←kQ,kL]
    simpa [qD]using hown'
   case measure=>simp[intOf];omega
  ·have hkn:k=5:=zYQ
   subst hkn
   rw[qR zYQ]at hown
   go_wp2
   go_ret
   exact⟨_,rfl,hown,hb⟩
theorem add10(X:List Int)(hX:X.length=10)(v:Value)(n:Nat)(M:List Int)(base:Nat)(w:World)
  (hown:w.ownsRow base 5 1 v n (M.map (Value.int .u8))) (hbase:base≤w.heap.size) (hn:n≤1000):
  Calls Tryz.prog 116 #[v,.agg (arr X)] w fun e w'=>∃v',e=.returned v'∧w'.ownsRow base 5 1 v' (n+10) ((M++X).map (Value.int .u8))∧Below base w w':=by
 obtain⟨i0,hi,hz0,hz1,hz2⟩:=kG rH;have hown1:=hown.alloc (.cells (arr X) 191);have hbox:(w.alloc (.cells (arr X) 191)).heap[w.heap.size]?=some (.cells (arr X) 191 (0,0)):=jJ _ _;have hb1:Below base w (w.alloc (.cells (arr X) 191)):=(zG _ _).alloc hbase _;go_enter Tryz.func116,Tryz.ntmps116;go_upto_region 1 with fail;refine zB ?_;refine j4 rfl 191 (.tmp 3) rfl w.heap.size rfl 191 (arr X) (0,0) _ hbox Tryz.underlying191 rfl (by rw[iJ,hX];kernel_rfl) ?_;generalize w.alloc (Obj.cells (arr X) 191)=w1 at*;clear hown;go_wp2;go_loopw [0,5,8] (fun o i c wr=>∃k:Nat,k≤10∧c=.int .i64 k∧wr.ownsRow base 5 1 o (n+k) ((M++X.take k).map (Value.int .u8))∧Below base w wr∧wr.heap[w.heap.size]?=some (.cells (arr X) 191 (0,0))) (fun _ _ c _=>10-(intOf c).toNat)
 case atStart=>exact⟨0,qI _,rfl,by simpa using hown1,hb1,hbox⟩
 case round=>
  obtain⟨k,hk,rfl,hown,hb,hbox2⟩:=hrel
  have hne:=bV hbox2 zYK hown
  clear hbox hown1 hb1
  by_cases hlt:k<10
  ·have hkX:k<X.length:=zYQ
   have hc:wr.cell? ⟨w.heap.size,k,none⟩=some (.int .u8 X[k]):=(jE wr _ k _ _ _ hbox2).trans (fW X k hkX)
   have ht:=i9 hkX
   obtain⟨x,hx⟩:∃x,X[k]=x:=⟨_,rfl⟩
   rw[hx]at hc ht
   clear hx
   go_wp2_with ((at_builtin;refine wpList_append_own _ rfl _ _ 22 rfl base 5 i0 (.int .u8 0) 1 1 Tryz.underlying22 hi hz0 hz1 hz2 rfl zYK _ _ _ rfl (hown.alloc _) ⟨_,0,none⟩ 1 1 [.int .u8 x] rfl rfl (cell_one_new _ _ _) zLZ zYR zYQ zYC ?_;intro v' w2 hown' hgrow _))
   go_roundw
   case rel=>
    refine⟨k+1,by omega,by go_num,?_,(hb.alloc (zR hbase hb.size) _).grown hgrow zYC fun j ej=>(hown.lt j ej).1,iQ _ hbox2 hgrow hne⟩
    rw[ht,←kQ,kL]
    simpa [qD]using hown'
   case measure=>simp[intOf];omega
  ·have hkn:k=10:=zYQ
   subst hkn
   rw[qR zYQ]at hown
   go_wp2
   go_ret
   exact⟨_,rfl,hown,hb⟩
theorem index5(k:Nat)(h:k<16):∀w:World,(Instr.index 189 (.agg (arr nH)) (.int .i64 k)).run Tryz.prog w=.ok (.agg (arr (tT k))) w:=by
 exact zL1
theorem zVI(w:World):Calls Tryz.prog 76 #[.agg (arr nH)] w (gV 5 nH w):=by
 obtain⟨i0,hi,hz0,hz1,hz2⟩:=kG rH;have hbox:(w.alloc (.cells (arr nH) 189)).heap[w.heap.size]?=some (.cells (arr nH) 189 (0,0)):=jJ _ _;have hb1:Below w.heap.size w (w.alloc (.cells (arr nH) 189)):=(zG _ _).alloc (zH _) _;go_enter Tryz.func76,Tryz.ntmps76;go_upto_region 2 with fail;refine zB ?_;refine j4 rfl 189 (.tmp 1) rfl w.heap.size rfl 189 (arr nH) (0,0) _ hbox Tryz.underlying189 rfl zYJ ?_;generalize w.alloc (Obj.cells (arr nH) 189)=w1 at*;go_wp2;go_loopw [3,7] (fun o c wr=>∃k:Nat,k≤16∧c=.int .i64 k∧wr.ownsRow w.heap.size 5 1 o (5*k) ((nH.take (5*k)).map (Value.int .u8))∧Below w.heap.size w wr) (fun _ c _=>16-(intOf c).toNat)
 case atStart=>exact⟨0,qI _,rfl,kJ _ _ _ _,hb1⟩
 case round=>
  obtain⟨k,hk,rfl,hown,hb⟩:=hrel
  clear hb1 hbox
  by_cases hlt:k<16
  ·have ik:=index5 k hlt
   have ht:=YH k
   obtain⟨x0,x1,x2,x3,x4,hx⟩:=five (YB hlt)
   rw[hx]at ik ht
   have ik':∀w:World,(Instr.index 189 (.agg (arr nH)) (.int .i64 k)).run Tryz.prog w=.ok (.agg #[.int .u8 x0,.int .u8 x1,.int .u8 x2,.int .u8 x3,.int .u8 x4]) w:=ik
   clear ik hx
   go_wp2_with fail
   refine(add5 [x0,x1,x2,x3,x4] rfl _ (5*k) (nH.take (5*k)) w.heap.size _ (hown.alloc _) zYC zYQ).mono ?_
   rintro e w' ⟨v',rfl,hown',hb'⟩
   go_wp2
   go_roundw
   case rel=>exact⟨k+1,by omega,by go_num,by rw[ht];exact hown',(hb.alloc hb.size _).trans hb'⟩
   case measure=>simp[intOf];omega
  ·have hkn:k=16:=zYQ
   subst hkn
   go_wp2
   go_ret
   rw[qR (by rw[vH];decide)]at hown
   exact⟨_,rfl,by rw[vH];exact hown,hb⟩
theorem zX2(k:Nat)(h:k<16):∀w:World,(Instr.index 192 (.agg (arr yI)) (.int .i64 k)).run Tryz.prog w=.ok (.agg (arr (XL k))) w:=by
 exact zL1
theorem zQI(w:World):Calls Tryz.prog 77 #[.agg (arr yI)] w (gV 5 yI w):=by
 obtain⟨i0,hi,hz0,hz1,hz2⟩:=kG rH;have hbox:(w.alloc (.cells (arr yI) 192)).heap[w.heap.size]?=some (.cells (arr yI) 192 (0,0)):=jJ _ _;have hb1:Below w.heap.size w (w.alloc (.cells (arr yI) 192)):=(zG _ _).alloc (zH _) _;go_enter Tryz.func77,Tryz.ntmps77;go_upto_region 2 with fail;refine zB ?_;refine j4 rfl 192 (.tmp 1) rfl w.heap.size rfl 192 (arr yI) (0,0) _ hbox Tryz.underlying192 rfl zYJ ?_;generalize w.alloc (Obj.cells (arr yI) 192)=w1 at*;go_wp2;go_loopw [3,7] (fun o c wr=>∃k:Nat,k≤16∧c=.int .i64 k∧wr.ownsRow w.heap.size 5 1 o (10*k) ((yI.take (10*k)).map (Value.int .u8))∧Below w.heap.size w wr) (fun _ c _=>16-(intOf c).toNat)
 case atStart=>exact⟨0,qI _,rfl,kJ _ _ _ _,hb1⟩
 case round=>
  obtain⟨k,hk,rfl,hown,hb⟩:=hrel
  clear hb1 hbox
  by_cases hlt:k<16
  ·have ik:=zX2 k hlt
   have ht:=zZZ k
   obtain⟨x0,x1,x2,x3,x4,x5,x6,x7,x8,x9,hx⟩:=ten (zZX hlt)
   rw[hx]at ik ht
   have ik':∀w:World,(Instr.index 192 (.agg (arr yI)) (.int .i64 k)).run Tryz.prog w=.ok (.agg #[.int .u8 x0,.int .u8 x1,.int .u8 x2,.int .u8 x3,.int .u8 x4,.int .u8 x5,.int .u8 x6,.int .u8 x7,.int .u8 x8,.int .u8 x9]) w:=ik
   clear ik hx
   go_wp2_with fail
   refine(add10 [x0,x1,x2,x3,x4,x5,x6,x7,x8,x9] rfl _ (10*k) (yI.take (10*k)) w.heap.size _ (hown.alloc _) zYC zYQ).mono ?_
   rintro e w' ⟨v',rfl,hown',hb'⟩
   go_wp2
   go_roundw
   case rel=>exact⟨k+1,by omega,by go_num,by rw[ht];exact hown',(hb.alloc hb.size _).trans hb'⟩
   case measure=>simp[intOf];omega
  ·have hkn:k=16:=zYQ
   subst hkn
   go_wp2
   go_ret
   rw[qR (by rw[xX];decide)]at hown
   exact⟨_,rfl,by rw[xX];exact hown,hb⟩
structure xA(w:World):Prop where
 lt:1<w.heap.size
 big:∀j (h:j<yI.length),w.cell? ⟨1,j,none⟩=some (.int .u8 yI[j])
 small:∀j (h:j<nH.length),w.cell? ⟨0,j,none⟩=some (.int .u8 nH[j])
theorem xA.below{w w':World}{n:Nat}(h:xA w)(hb:Below n w w')(hn:1<n):xA w':=
 ⟨zF h.lt hb.size,fun j hj=>(hb.cell (p:=⟨1,j,none⟩) zYN).trans (h.big j hj),fun j hj=>(hb.cell (p:=⟨0,j,none⟩) zYN).trans (h.small j hj)⟩
theorem xA.step{w w':World}(h:xA w)(hb:Below w.heap.size w w'):xA w':=h.below hb h.lt
theorem dI(g o j:Nat):(⟨g,o,none⟩:Addr).add j=⟨g,o+j,none⟩:=by unfold Addr.add;split<;>simp_all
theorem GN(w:World)(hL:xA w):Calls Tryz.prog 65 #[] w (gV 5 nH w):=by
 go_enter Tryz.func65,Tryz.ntmps65;go_upto_region 1 with fail;refine zB ?_;refine yR rfl 189 (.global 0) rfl ⟨0,0,none⟩ rfl nH _ (fun j h=>by rw[dI,qY];exact hL.small j h) Tryz.underlying189 rfl (by rw[vH];kernel_rfl) ?_;go_wp2_with fail;refine(zVI _).mono ?_;rintro e w' ⟨v,rfl,hown,hb⟩;go_wp2;go_ret;exact⟨_,rfl,hown,hb⟩
theorem zV4(w:World)(hL:xA w):Calls Tryz.prog 66 #[] w (gV 5 yI w):=by
 go_enter Tryz.func66,Tryz.ntmps66;go_upto_region 1 with fail;refine zB ?_;refine yR rfl 192 (.global 1) rfl ⟨1,0,none⟩ rfl yI _ (fun j h=>by rw[dI,qY];exact hL.big j h) Tryz.underlying192 rfl (by rw[xX];kernel_rfl) ?_;go_wp2_with fail;refine(zQI _).mono ?_;rintro e w' ⟨v,rfl,hown,hb⟩;go_wp2;go_ret;exact⟨_,rfl,hown,hb⟩
theorem rN(n:Int)(k:Nat)(w:World)(h:n%65536=k):Calls Tryz.prog 71 #[.int .i64 n] w fun e w'=>e=.returned (.int .i64 k)∧w'=w:=by
 have hb:=XN n;rw[h]at hb;clear h;go_enter Tryz.func71,Tryz.ntmps71;go_wp2;exact zL8
def Reads(v:Value)(w:World)(e:Ending)(w':World):Prop:=e=.returned v∧∃n,w'=w.drewN n
theorem E6:(Tryz.prog.info? 144).map (fun i=>(i.zero,i.size,i.bytes))=some (some (.agg #[.int .i64 0,.int .i64 0]),2,16):=by kernel_rfl
def zZT(p:Nat)(M:List Int)(base n:Nat)(xs:List Value)(v:Value)(w:World)(e:Ending)(w':World):Prop:=
 e=.returned (.tuple #[])∧∃v',mS p M v' w'∧w'.ownsRow base 144 2 v' n xs∧mE p v.ownBlock w w'∧(v'.ownBlock=v.ownBlock∨∃g,v'.ownBlock=some g∧w.heap.size≤g)
theorem U3(w:World)(x y:Value)(t:TypeId):∀j u,[x,y][j]?=some u→(w.alloc (.cells #[x,y] t)).cell? ((⟨w.heap.size,0,none⟩:Addr).add j)=some u:=by
 intro j u hj;rw[cE,jE _ _ _ _ _ _ (jJ w _)];simpa using hj
theorem E8{p:Nat}{M:List Int}{v:Value}{w1 w2:World}{base n:Nat}{xs:List Value}{o:Obj}(hp:mS p M v w1)(hv:w1.ownsRow base 144 2 v n xs)(hg:(w1.drew.alloc o).grownBy w2 v.ownBlock):mS p M v w2:=by
 have hlt:=hp.lt;have hne:=wT hv hp zYK;refine hp.keep ((hg.block p zYN (fun e=>hne e.symm)).trans ?_);exact heap_alloc_old w1.drew _ hlt
theorem H5{p:Nat}{M:List Int}{v:Value}{base n cap gg:Nat}{xs:List Value}{w w1 w2:World}{o:Obj}(hM:M.length=65536)(ha:mE p v.ownBlock w w1)(hs:w1.heap.size=w.heap.size+1)(q:mS p M v w2)
  (hown:w2.ownsRow base 144 2 (.slice (some ⟨gg,0,none⟩) (n+1) cap) (n+1) xs) (hg:(w1.alloc o).drew.grownBy w2 v.ownBlock) (hat:v.ownBlock=some gg∨gg=(w1.alloc o).drew.heap.size):
  zZT p M base (n+1) xs v w (.returned (.tuple #[])) (w2.setCell ⟨p,65536,none⟩ (.slice (some ⟨gg,0,none⟩) (n+1) cap)):=by
 have hne:=wT hown q zYK;refine⟨rfl,_,q.setLog hM _,rL hown (p:=p) (g:=none) (mE.setCell _ _) hne (fun k hk=>by cases hk),?_,?_⟩
 ·have h1:mE p v.ownBlock w1 (w1.alloc o).drew:=(mE.of_below ((zG _ _).alloc (zH _) _)).drew;exact((ha.trans h1).trans (mE.of_grown hg)).trans (mE.setCell _ _)
 ·rcases hat with h|h
  ·exact .inl h.symm
  ·refine .inr ⟨gg,rfl,?_⟩;rw[h];show w.heap.size≤(w1.alloc o).heap.size;simp;omega
theorem zWY(p:Nat)(M:List Int)(v:Value)(n base:Nat)(xs:List Value)(x y:Int)(w:World)(hM:M.length=65536)(hp:mS p M v w)(hv:w.ownsRow base 144 2 v n xs)(hb:base≤w.heap.size)(hn:n≤1000):
  Calls Tryz.prog 194 #[.pointer (some ⟨p,65536,none⟩),.agg #[.int .i64 x,.int .i64 y]] w (zZT p M base (n+1) (xs++[.int .i64 x,.int .i64 y]) v w):=by
 obtain⟨i0,hi,hz0,hz1,hz2⟩:=kG E6;have hlt:=hp.lt;have cl:(w.alloc (.cells #[.int .i64 x,.int .i64 y] 144)).cell? ⟨p,65536,none⟩=some v:=by
  rw[qP (w:=w) (heap_alloc_old _ _ hlt)];exact hp.log hM
 have clf:(w.alloc (.cells #[.int .i64 x,.int .i64 y] 144)).frozen? ⟨p,65536,none⟩=false:=by
  rw[World.frozen?_of_block (w:=w) (heap_alloc_old _ _ hlt)];exact hp.frozen _
 have c0:(w.alloc (.cells #[.int .i64 x,.int .i64 y] 144)).cell? ⟨w.heap.size,0,none⟩=some (.int .i64 x):=by rw[jE _ _ _ _ _ _ (jJ w _)];rfl
 have c1:(w.alloc (.cells #[.int .i64 x,.int .i64 y] 144)).cell? ⟨w.heap.size,1,none⟩=some (.int .i64 y):=by rw[jE _ _ _ _ _ _ (jJ w _)];rfl
 have P:=zW (zM hp hv);clear hp hv;go_enter Tryz.func194,Tryz.ntmps194;go_wp2;obtain⟨w1,hw1⟩:∃w1,w1=w.alloc (.cells #[.int .i64 x,.int .i64 y] 144):=⟨_,rfl⟩;rw[←hw1]at cl clf c0 c1⊢;have hp1:mS p M v w1:=P.out.1.keep (by rw[hw1];exact heap_alloc_old _ _ hlt);have hv1:w1.ownsRow base 144 2 v n xs:=by rw[hw1];exact P.out.2.alloc _
 have hs1:w1.heap.size=w.heap.size+1:=by rw[hw1];simp
 have ha1:mE p v.ownBlock w w1:=by rw[hw1];exact mE.of_below ((zG _ _).alloc (zH _) _)
 have Q:=zW (zM hp1 (zM hv1 (zM ha1 hs1)));clear hw1 hp1 hv1 ha1 hs1;have g1:w.heap.size<w1.heap.size:=by have:=Q.out.2.2.2;omega
 have g2:p<w1.heap.size:=zYQ;go_region_law ((refine step_append_lies _ zYW _ _ _ zYW base 144 i0 _ 2 16 Tryz.underlying111 hi hz0 hz1 hz2 rfl zYQ v n xs zYW (World.ownsRow.alloc (w:=w1.drew) Q.out.2.1 _) ⟨w1.heap.size,0,none⟩ 1 1 [.int .i64 x,.int .i64 y] zYW zYW (U3 w1.drew _ _ _) zLZ zYQ zYR zYQ zYN _ rfl ?_;intro gg cap w2 hown2 hgrow hat hlt2;have q2:=E8 Q.out.1 Q.out.2.1 hgrow;have ql:=q2.log hM;have qf:=q2.frozen 65536;have Q2:=zW (zM q2 (zM hown2 (zM hgrow hat)));clear q2 hown2 hgrow hat))
 all_goals
  go_wp2
  go_end0
  exact H5 hM Q.out.2.2.1 Q.out.2.2.2 Q2.out.1 Q2.out.2.1 Q2.out.2.2.1 Q2.out.2.2.2
def Took(p:Nat)(M:List Int)(v:Value)(w:World)(e:Ending)(w':World):Prop:=e=.returned v∧mS p M (.slice none 0 0) w'∧∀g,mE p g w w'
theorem CY(p:Nat)(M:List Int)(A:Option Addr)(n c:Nat)(w:World)(hM:M.length=65536)(hp:mS p M (.slice A n c) w):
  Calls Tryz.prog 58 #[.pointer (some ⟨p,65536,none⟩)] w (Took p M (.slice A n c) w):=by
 have cl:=hp.log hM;have clf:=hp.frozen 65536;have P:=zW (zM hp hM);clear hp hM;go_enter Tryz.func58,Tryz.ntmps58;go_wp2;go_ret;exact⟨rfl,P.out.1.setLog P.out.2 _,fun g=>mE.setCell _ _⟩
theorem SA(p:Nat)(M:List Int)(A:Option Addr)(n c:Nat)(w:World)(hM:M.length=65536)(hp:mS p M (.slice A n c) w):
  Calls Tryz.prog 36 #[.pointer (some ⟨p,0,none⟩)] w (Took p M (.slice A n c) w):=by
 have P:=zW (zM hp hM);clear hp hM;go_enter Tryz.func36,Tryz.ntmps36;go_wp2_with fail;refine(CY p M A n c _ P.out.2 P.out.1).mono ?_;rintro e w' ⟨rfl,h⟩;go_wp2;go_ret;exact⟨rfl,h⟩
theorem VH:Tryz.prog.arrayLen 146=65536:=by kernel_rfl
theorem dD(p k:Nat)(hk:k<65536)(w:World):(Instr.sliceAt 146 (.pointer (some ⟨p,0,none⟩)) (some (.int .i64 (k:Int))) none none).run Tryz.prog w=.ok (.slice (some ⟨p,k,none⟩) (65536-k) (65536-k)) w:=by
 have h:=run_sliceAt_array_l (P:=Tryz.prog) w 146 ⟨p,0,none⟩ Tryz.underlying146 .i64 k zYQ (by rw[VH];omega);rw[h,VH];show Result.ok (slicedAt _ _ _ _ 1) w=_;unfold slicedAt;rw[zL zYN,cE];simp
theorem T4(p N:Nat)(hN:N=65536)(w:World):(Instr.sliceAt 146 (.pointer (some ⟨p,0,none⟩)) none none none).run Tryz.prog w=.ok (.slice (some ⟨p,0,none⟩) N N) w:=by
 subst hN;have h:=run_sliceAt_array_all (P:=Tryz.prog) w 146 ⟨p,0,none⟩ Tryz.underlying146;rw[h,VH];show Result.ok (slicedAt _ _ _ _ 1) w=_;unfold slicedAt;rw[zL zYQ,cE]
theorem H6(p:Nat)(M:List Int)(v:Value)(n base:Nat)(xs:List Value)(a:Int)(k:Nat)(A:Option Addr)(m c:Nat)(L:List Int)(w:World)(hM:M.length=65536)(hp:mS p M v w)
  (hv:w.ownsRow base 144 2 v n xs) (hb:base≤w.heap.size) (hn:n≤1000) (hk:a%65536=k) (hL:L.length=m) (m0:0<m) (m1:m≤65536) (hmc:m≤c) (hR:Rd w A L) (hA:∀ad,A=some ad→ad.block≠p):
  Calls Tryz.prog 165 #[.pointer (some ⟨p,0,none⟩),.int .i64 a,.slice A m c] w (zZT p (put M a L) base (n+1) (xs++[.int .i64 k,.int .i64 m]) v w):=by
 have k0:0≤(k:Int):=zYQ;have k1:(k:Int)<65536:=zYQ;have k2:k<65536:=zYQ;have ks:=dD p k k2;have k3:((m:Int)==0)=false:=by simp;omega
 have H:=zW (zM hk (zM hL (zM hM (zM hp (zM hv (zM hR hA))))));clear hk hL hM hp hv hR hA;go_enter Tryz.func165,Tryz.ntmps165;go_wp2_with fail;refine(rN _ _ _ H.out.1).mono ?_;rintro e w0 ⟨rfl,h⟩;subst h;go_wp2_with fail;obtain⟨d,hd⟩:∃d,d=min m (65536-k):=⟨_,rfl⟩;obtain⟨w1,hrun,hp1,ha1⟩:=yQ 3 p k (65536-k) (65536-k) A m c d hd L H.out.2.1 H.out.2.2.2.2.2.1 M v H.out.2.2.1 H.out.2.2.2.1 zYQ;have D:=zW hd;have d0:0≤(d:Int):=zYQ;have d1:(d:Int)≤(m:Int):=zYQ;have d2:(d:Int)≤(c:Int):=zYQ;have P1:=zW (zM hp1 ha1);clear hd hp1 ha1;rw[hrun];clear hrun ks;go_wp2_with fail;obtain⟨N,hN⟩:∃N,N=65536:=⟨_,rfl⟩;have kl:=T4 p N hN;have HN:=zW hN;clear hN;refine mV (C:=fun w'=>∃x:xV,w'=x.w) [([0,1,2,3,4,5,6],7)] [] zYJ zYJ (fun _ _ d _ _ h=>by cases d<;>exact h) (xV.any _) ?_;intro wd hwd;have P2:mS p (splice M k (L.take (65536-k))) v wd∧∀g,mE p g w0 wd:=by rw[hwd];exact⟨P1.out.1,fun g=>(P1.out.2 g).drew⟩
 have PD:=zW P2;clear hwd P2 P1;refine mY zYX zYW ?_;repeat(go_big_quiet_step (fail))
 refine zY ?_;refine lO zYW ?_;intro K hK;have hl1:(splice M k (L.take (65536-k))).length=65536:=by
  have h1:=H.out.2.1;have h2:=H.out.2.2.1;rw[xN _ _ _ (by rw[qB];omega)];exact h2
 have R1:Rd wd A L:=H.out.2.2.2.2.2.1.keep ((PD.out.2 none).size) fun ad e hlt=>(PD.out.2 none).block ad.block hlt (H.out.2.2.2.2.2.2 ad e) zYY;obtain⟨w2,hrun,hp2,ha2⟩:=yQ 3 p 0 N N (if c=d then A else A.map (·.add d)) (m-d) (c-d) (m-d) (by have:=HN.out;omega) (L.drop d) (by rw[jW,H.out.2.1]) (R1.cut (by rw[H.out.2.1];exact hmc)) _ v hl1 PD.out.1 (by have:=HN.out;omega);refine vN (.tmp 27) (.tmp 30) rfl 3 rfl _ _ _ zYW zYW hrun 31 zYW ?_;simp only[zQ,zZ,zJ];refine hK _ _ (xV.any _) ?_;clear hK K hrun;generalize Value.slice (if c=d then A else A.map (·.add d)) (m-d) (c-d)=V1;generalize Value.int .i64 ((m-d:Nat):Int)=V2;refine nR zYX ?_;repeat(go_big_quiet_step (fail))
 refine zY ?_;have e2:splice (splice M k (L.take (65536-k))) 0 ((L.drop d).take N)=put M a L:=by
  rw[HN.out];have h1:=H.out.2.1;have h4:=D.out;exact iD M L a k d H.out.1 zYQ H.out.2.2.1 zYQ
 rw[e2]at hp2;have a02:∀g,mE p g w0 w2:=fun g=>(PD.out.2 g).trans (ha2 g);have P2:=zW (zM hp2 a02);clear e2 hl1 hp2 ha2 kl a02 R1;go_wp2_with fail;have hv2:w2.ownsRow base 144 2 v n xs:=rL (g:=none) H.out.2.2.2.2.1 (P2.out.2 none) (wT H.out.2.2.2.2.1 H.out.2.2.2.1 zYK) (fun k hk=>by cases hk);refine(zWY p (put M a L) v n base xs k m w2 (by rw[vC];exact H.out.2.2.1) P2.out.1 hv2 (zR hb (P2.out.2 none).size) hn).mono ?_;rintro e w3 ⟨rfl,h⟩;have H3:=zW h;clear h;go_wp2;go_end0
 obtain⟨v',h1,h2,h3,h4⟩:=H3.out;refine⟨rfl,v',h1,h2,(P2.out.2 _).trans h3,h4.imp id ?_⟩;rintro⟨g,e,h⟩;exact⟨g,e,zR (P2.out.2 none).size h⟩
def Made(L:List Int)(w:World)(e:Ending)(w':World):Prop:=
 ∃p,e=.returned (.tuple #[.pointer (some ⟨p,0,none⟩),.int .i64 0])∧w.heap.size≤p∧mS p (uQ L) (.slice none 0 0) w'∧Below w.heap.size w w'
theorem gV.slice{ty:TypeId}{L:List Int}{w w':World}{e:Ending}{n:Nat}(h:gV ty L w e w')(hn:L.length=n)(h0:0<n):
  ∃g c,e=.returned (.slice (some ⟨g,0,none⟩) n c)∧n≤c∧w.heap.size≤g∧Rd w' (some ⟨g,0,none⟩) L∧Below w.heap.size w w':=by
 obtain⟨v,rfl,hown,hb⟩:=h;rw[hn]at hown;obtain⟨g,c,rfl,hg,hlt⟩:=hown.form h0;refine⟨g,c,rfl,?_,hg,QF hown,hb⟩;rcases hown.2 with⟨h1,_⟩|⟨g',c',cur,h1,_,_,hc,_⟩
 ·cases h1
 ·injection h1 with _ _ h2
  omega
theorem new_no(A:Option Addr)(n c:Nat)(w:World)(hn:65024<n):
  Calls Tryz.prog 46 #[.slice A n c] w fun e w'=>e=.returned (.tuple #[.pointer none,.int .i64 7])∧w=w':=by
 have k1:(65024:Int)<(n:Int):=zYQ;go_enter Tryz.func46,Tryz.ntmps46;go_wp2;go_ret2;exact⟨rfl,rfl⟩
theorem zXS(A:Option Addr)(n c:Nat)(L:List Int)(w:World)(hn:n≤65024)(hL:L.length=n)(hR:Rd w A L)(hF:xA w):
  Calls Tryz.prog 46 #[.slice A n c] w (Made L w):=by
 have k1:¬(65024:Int)<(n:Int):=zYQ;have hz:=zZ0;have H:=zW (zM hL (zM hR hF));clear hL hR hF;go_enter Tryz.func46,Tryz.ntmps46;go_wp2_with fail;clear hz;have B1:Below w.heap.size w (w.alloc (.cells (cells cX (.slice none 0 0)) 150)):=(zG _ _).alloc (zH _) _;have M1:=mS.new w;obtain⟨p,hp⟩:∃p,p=w.heap.size:=⟨_,rfl⟩;generalize w.alloc (.cells (cells cX (.slice none 0 0)) 150)=w1 at*;rw[←hp]at M1⊢;have P1:=zW (zM B1 (zM M1 hp));clear B1 M1 hp;have c80:∀w,(Instr.sliceAt 146 (.pointer (some ⟨p,0,none⟩)) (some (.int .i64 80)) none none).run Tryz.prog w=.ok (.slice (some ⟨p,80,none⟩) 65456 65456) w:=dD p 80 zYQ;have c160:∀w,(Instr.sliceAt 146 (.pointer (some ⟨p,0,none⟩)) (some (.int .i64 160)) none none).run Tryz.prog w=.ok (.slice (some ⟨p,160,none⟩) 65376 65376) w:=dD p 160 zYQ;have c512:∀w,(Instr.sliceAt 146 (.pointer (some ⟨p,0,none⟩)) (some (.int .i64 512)) none none).run Tryz.prog w=.ok (.slice (some ⟨p,512,none⟩) 65024 65024) w:=dD p 512 zYQ;refine mV (C:=fun w'=>∃x:xV,w'=x.w) [([0,1,2,3],4),([],5)] [] zYJ zYJ (fun _ _ d _ _ h=>by cases d<;>exact h) (xV.any _) ?_;intro wd hwd;have P2:Below w.heap.size w wd∧mS p cX (.slice none 0 0) wd∧p=w.heap.size:=by rw[hwd];exact⟨P1.out.1.drew,P1.out.2⟩
 have PD:=zW P2;clear hwd P2 P1;refine mY zYX zYW ?_;repeat(go_big_quiet_step (fail))
 refine zY ?_;refine lO zYW ?_;intro K hK;go_wp2_with fail;refine(GN _ (H.out.2.2.step PD.out.1)).mono ?_;rintro e w2 h;obtain⟨g,c2,rfl,_,_,R2,b2⟩:=h.slice vH zYQ;have P2:Below w.heap.size w w2∧mS p cX (.slice none 0 0) w2∧p=w.heap.size:=⟨PD.out.1.trans (b2.mono PD.out.1.size),PD.out.2.1.keep (b2.block p PD.out.2.1.lt),PD.out.2.2⟩;obtain⟨v2,hrun,hm2,ha2⟩:=yQ 3 p 80 65456 65456 (some ⟨g,0,none⟩) 80 c2 80 zYQ nH vH R2 cX (.slice none 0 0) (by exact vU) P2.2.1 zYQ;rw[qR (by rw[vH];omega),bG _ _ _ (by exact vU) (by rw[vH];omega)]at hm2;have Q2:=zW (zM (P2.1.trans ((ha2 none).below P2.1.size (by have:=P2.2.2;omega) (fun k hk=>by cases hk))) (zM hm2 P2.2.2));clear h PD R2 b2 P2 hm2 ha2;simp only[];refine hK _ _ (xV.any _) ?_;clear hK K;refine mY zYX zYW ?_;refine zY ?_;refine lO zYW ?_;intro K hK;refine vN (.tmp 12) (.tmp 13) rfl 3 rfl _ _ _ zYW zYW hrun 14 zYW ?_;simp only[zQ,zZ,zJ];refine hK _ _ (xV.any _) ?_;clear hK K hrun;refine nR zYX ?_;refine zY ?_;clear c80;go_wp2_with fail;refine mV (C:=fun w'=>∃x:xV,w'=x.w) [([0,1,2,3],4),([],5)] [] zYJ zYJ (fun _ _ d _ _ h=>by cases d<;>exact h) (xV.any _) ?_;intro wd hwd;have P2:Below w.heap.size w wd∧mS p (put cX 80 nH) (.slice none 0 0) wd∧p=w.heap.size:=by rw[hwd];exact⟨Q2.out.1.drew,Q2.out.2⟩
 have PD:=zW P2;clear hwd P2 Q2;refine mY zYX zYW ?_;repeat(go_big_quiet_step (fail))
 refine zY ?_;refine lO zYW ?_;intro K hK;go_wp2_with fail;refine(zV4 _ (H.out.2.2.step PD.out.1)).mono ?_;rintro e w3 h;obtain⟨g,c3,rfl,_,_,R3,b3⟩:=h.slice xX zYQ;have P3:Below w.heap.size w w3∧mS p (put cX 80 nH) (.slice none 0 0) w3∧p=w.heap.size:=⟨PD.out.1.trans (b3.mono PD.out.1.size),PD.out.2.1.keep (b3.block p PD.out.2.1.lt),PD.out.2.2⟩;obtain⟨v3,hrun,hm3,ha3⟩:=yQ 3 p 160 65376 65376 (some ⟨g,0,none⟩) 160 c3 160 zYQ yI xX R3 (put cX 80 nH) (.slice none 0 0) (by rw[vC];exact vU) P3.2.1 zYQ;rw[qR (by rw[xX];omega),bG _ _ _ (by rw[vC];exact vU) (by rw[xX];omega)]at hm3;have Q3:=zW (zM (P3.1.trans ((ha3 none).below P3.1.size (by have:=P3.2.2;omega) (fun k hk=>by cases hk))) (zM hm3 P3.2.2));clear h PD R3 b3 P3 hm3 ha3;simp only[];refine hK _ _ (xV.any _) ?_;clear hK K;refine mY zYX zYW ?_;refine zY ?_;refine lO zYW ?_;intro K hK;refine vN (.tmp 18) (.tmp 19) rfl 3 rfl _ _ _ zYW zYW hrun 20 zYW ?_;simp only[zQ,zZ,zJ];refine hK _ _ (xV.any _) ?_;clear hK K hrun;refine nR zYX ?_;refine zY ?_;clear c160;go_wp2_with fail;have R3:Rd v3 A L:=H.out.2.1.below Q3.out.1;obtain⟨w4,hrun,hm4,ha4⟩:=yQ 3 p 512 65024 65024 A n c n zYQ L H.out.1 R3 (put (put cX 80 nH) 160 yI) (.slice none 0 0) (by rw[vC,vC];exact vU) Q3.out.2.1 zYQ;rw[qR (by rw[H.out.1];omega),bG _ _ _ (by rw[vC,vC];exact vU) (by rw[H.out.1];omega)]at hm4;have Q4:=zW (zM (Q3.out.1.trans ((ha4 none).below Q3.out.1.size (by have:=Q3.out.2.2;omega) (fun k hk=>by cases hk))) (zM hm4 Q3.out.2.2));clear R3 hm4 ha4 Q3 c512;rw[hrun];clear hrun;go_wp2;go_ret2;exact⟨p,rfl,by have:=Q4.out.2.2;omega,Q4.out.2.1,Q4.out.1⟩
def Gave(n:Nat)(L:List Int)(w:World)(e:Ending)(w':World):Prop:=
 ∃g,e=.returned (.slice (some ⟨g,0,none⟩) n n)∧w.heap.size≤g∧Rd w' (some ⟨g,0,none⟩) L∧Below w.heap.size w w'
theorem ZK(p:Nat)(M:List Int)(v:Value)(a:Int)(k n:Nat)(w:World)(hM:M.length=65536)(hp:mS p M v w)(hk:a%65536=k)(hn:n≤65536):
  Calls Tryz.prog 68 #[.pointer (some ⟨p,0,none⟩),.int .i64 a,.int .i64 (n:Int)] w (Gave n (seg M a n) w):=by
 have m1:max (n:Int) 0=n:=zYQ;have m2:min (n:Int) 65536=n:=zYQ;have mk:=aH n n rfl zYQ;have H:=zW (zM hM (zM hp hk));clear hM hp hk;go_enter Tryz.func68,Tryz.ntmps68;go_wp2_with fail;clear mk m1 m2;have B1:Below w.heap.size w (w.alloc (.cells (arr (List.replicate n 0)) 5)):=(zG _ _).alloc (zH _) _;have G1:(w.alloc (.cells (arr (List.replicate n 0)) 5)).heap[w.heap.size]?=some (.cells (arr (List.replicate n 0)) 5 (0,0)):=jJ _ _;obtain⟨g,hg⟩:∃g,g=w.heap.size:=⟨_,rfl⟩;generalize w.alloc (.cells (arr (List.replicate n 0)) 5)=w1 at*;rw[←hg]at G1⊢;have P1:=zW (zM B1 (zM G1 hg));clear B1 G1 hg;have k2:k<65536:=by have:=H.out.2.2;omega
 have c1:=dD p k k2;obtain⟨N,hN⟩:∃N,N=65536:=⟨_,rfl⟩;have c2:=T4 p N hN;obtain⟨d,hd⟩:∃d,d=min (65536-k) n:=⟨_,rfl⟩;obtain⟨D,hD⟩:∃D,D=if n=d then some (⟨g,0,none⟩:Addr)else some ⟨g,d,none⟩:=⟨_,rfl⟩;have c3:=zVC g n d zYQ D hD;have HD:=zW (zM hN (zM hd hD));clear hN hd hD;refine mV (C:=fun w'=>∃x:xV,w'=x.w) [([0,1,2,3,4],5),([6],7)] [8] zYJ zYJ (fun _ _ d _ _ h=>by cases d<;>exact h) (xV.any _) ?_;intro wd hwd;have P2:Below w.heap.size w wd∧wd.heap[g]?=some (.cells (arr (List.replicate n 0)) 5 (0,0))∧g=w.heap.size:=by rw[hwd];exact⟨P1.out.1.drew,P1.out.2⟩
 have PD:=zW P2;clear hwd P2 P1;refine mY zYX zYW ?_;repeat(go_big_quiet_step (fail))
 refine zY ?_;refine lO zYW ?_;intro K hK;go_wp2_with fail;refine(rN _ k _ H.out.2.2).mono ?_;rintro e w' ⟨rfl,h⟩;replace h:=h.symm;subst h;simp only[];refine hK _ _ (xV.any _) ?_;clear hK K;refine mY zYX zYW ?_;repeat(go_big_quiet_step (fail))
 refine zY ?_;refine lO zYW ?_;intro K hK;have mp:mS p M v wd:=H.out.2.1.keep (PD.out.1.block p H.out.2.1.lt);have R1:Rd wd (some ⟨p,k,none⟩) (M.drop k):=fun _=>⟨_,rfl,mp.lt,fun j hj=>by
  have hM:=H.out.1;rw[jW]at hj;rw[cE,mp.cell hM (k+j) zYQ,List.getElem_drop]⟩
 obtain⟨w2,hrun,hg2,ha2⟩:=tS 3 g 0 n n (some ⟨g,0,none⟩) (fun _=>rfl) (some ⟨p,k,none⟩) (65536-k) (65536-k) d HD.out.2.1 (M.drop k) (by rw[jW,H.out.1]) R1 (List.replicate n 0) 5 PD.out.2.1 zYY;refine vN (.tmp 15) (.tmp 21) rfl 3 rfl _ _ _ zYW zYW hrun 22 zYW ?_;simp only[zQ,zZ,zJ];refine hK _ _ (xV.any _) ?_;have Q2:=zW (zM (PD.out.1.trans ((ha2 none).below PD.out.1.size (by have:=PD.out.2.2;omega) (fun k hk=>by cases hk))) (zM hg2 PD.out.2.2));clear hK K hrun hg2 ha2 mp R1 PD c1;refine nR zYX ?_;repeat(go_big_quiet_step (fail))
 refine zY ?_;go_wp2_with fail;refine mV (C:=fun w'=>∃x:xV,w'=x.w) [([0,1,2,3,4,5,6],7)] [] zYJ zYJ (fun _ _ d _ _ h=>by cases d<;>exact h) (xV.any _) ?_;intro wd hwd;have P2:Below w.heap.size w wd∧wd.heap[g]?=some (.cells (arr (splice (List.replicate n 0) 0 ((M.drop k).take n))) 5 (0,0))∧g=w.heap.size:=by rw[hwd];exact⟨Q2.out.1.drew,Q2.out.2⟩
 have PD:=zW P2;clear hwd P2 Q2;refine mY zYX zYW ?_;repeat(go_big_quiet_step (fail))
 refine zY ?_;refine lO zYW ?_;intro K hK;have mp:mS p M v wd:=H.out.2.1.keep (PD.out.1.block p H.out.2.1.lt);have R1:Rd wd (some ⟨p,0,none⟩) M:=fun _=>⟨_,rfl,mp.lt,fun j hj=>by
  have hM:=H.out.1;rw[cE,qY,mp.cell hM j zYQ]⟩
 have hl2:(splice (List.replicate n (0:Int)) 0 ((M.drop k).take n)).length=n:=by
  rw[xN _ _ _ (by rw[qB,List.length_replicate];omega),List.length_replicate]
 have hdn:d≤n:=by have:=HD.out.2.1;omega
 obtain⟨w3,hrun,hg3,ha3⟩:=tS 3 g d (n-d) (n-d) D (fun h=>by rw[HD.out.2.2,zL zYQ]) (some ⟨p,0,none⟩) N N (n-d) (by have:=HD.out.1;omega) M (by rw[HD.out.1];exact H.out.1) R1 _ 5 PD.out.2.1 (by rw[hl2];omega);refine vN (.tmp 25) (.tmp 29) rfl 3 rfl _ _ _ zYW zYW hrun 30 zYW ?_;simp only[zQ,zZ,zJ];refine hK _ _ (xV.any _) ?_;rw[Z7 M (List.replicate n 0) a k n d H.out.2.2 HD.out.2.1 H.out.1 hn List.length_replicate]at hg3;have Q3:=zW (zM (PD.out.1.trans ((ha3 none).below PD.out.1.size (by have:=PD.out.2.2;omega) (fun k hk=>by cases hk))) (zM hg3 PD.out.2.2));clear hK K hrun hg3 ha3 mp R1 PD hl2 c2 c3;refine nR zYX ?_;refine zY ?_;go_wp2;go_ret;refine⟨g,rfl,by have:=Q3.out.2.2;omega,?_,Q3.out.1⟩;intro _;have hg:=Q3.out.2.1;refine⟨_,rfl,(qE.1 hg).1,fun j hj=>?_⟩;rw[cE,qY,jE _ _ _ _ _ _ hg];exact fW _ j hj

end
section
open Go.RowKit
theorem wL{P:Program}{id:Nat}{Q:Exit→Act→World→Prop}{a:Act}{w:World}{l:List Oper}(n:Nat)(hm:P.follows .mixedOrders=true)(hB:Region.lexTailB .any l.toArray n=true)
  (h:∀wd,wd=w.drew→wpStill P l.toArray wd (fun a'=>wpList P l.toArray Q (l.drop n) a' wd) (l.take n) a):(Code.region id l.toArray true).wp P Q a w:=
 wp_region_still_tail n hm hB (h w.drew rfl)
end
section
open Go.RowKit Num

theorem gV.bytes{L:List Int}{w w':World}{e:Ending}{n:Nat}(h:gV 5 L w e w')(hn:L.length=n)(h0:0<n):
  ∃g c,e=.returned (.slice (some ⟨g,0,none⟩) n c)∧w.heap.size≤g∧g<w'.heap.size∧w'.ownsRow w.heap.size 5 1 (.slice (some ⟨g,0,none⟩) n c) n (L.map (Value.int .u8))∧Below w.heap.size w w':=by
 obtain⟨v,rfl,hown,hb⟩:=h;rw[hn]at hown;obtain⟨g,c,rfl,hg,hlt⟩:=hown.form h0;exact⟨g,c,rfl,hg,hlt,hown,hb⟩
theorem aY(h l:Int)(w:World)(h0:0≤h)(h1:h≤255)(l0:0≤l)(l1:l≤255):
  Calls Tryz.prog 80 #[.int .u8 h,.int .u8 l] w fun e w'=>e=.returned (.int .i64 (h*256+l))∧w=w':=by
 go_enter Tryz.func80,Tryz.ntmps80;go_wp2;go_ret;exact⟨y8 (or256 h l h0 h1 l0 l1),rfl⟩
theorem GY(h l:Int)(w:World)(h0:0≤h)(h1:h≤255)(l0:0≤l)(l1:l≤255):
  Calls Tryz.prog 78 #[.int .u8 h,.int .u8 l] w fun e w'=>
   e=.returned (.agg #[.int .i64 (h/16),.int .i64 (h%16),.int .i64 (l/16),.int .i64 (l%16),.int .i64 l,.int .i64 (h%16*256+l)])∧Below w.heap.size w w':=by
 go_enter Tryz.func78,Tryz.ntmps78;go_wp2_with (go_at_call 80;refine(aY _ _ _ h0 h1 l0 l1).mono ?_;rintro e w' ⟨rfl,rfl⟩);go_returns;refine⟨?_,by go_grown⟩;rw[zZW _ zYQ zYQ,zZW _ zYQ zYQ,zZW _ zYQ zYQ,and255 _ zYQ zYQ,zWQ _ zYQ zYQ];exact II zYQ zYQ zYQ zYQ zYQ zYQ
end
section
open Go.RowKit Num Go.Maps
theorem cQ{H:Type}{P:Program}(w:World){ops:Array Oper}{rest:List Oper}{o:Oper}{a:Act}{Q:Exit→Act→World→Prop}
  (hg:o.guard=none) (m x v:Operand) (t:TypeId) (hop:o.op=Op.insert t m x v)
  (k e:TypeId) (K:Keyed P k) (ht:P.underlying t=some (.map k e)) (R:Value→Option (DataW H×List MemPlace)) (b n:Nat) (D:DataW H)
  (hm:a.eval m=.map (some b)) (hown:w.ownsMap P k R b n D) (hn:n<maxLen) (key val:Value) (kl:Lit) (hx:a.eval x=key) (hv:a.eval v=val) (hkey:keyOf P k key=some kl)
  (d:DataW H) (ps:List MemPlace) (hval:R val=some (d,ps))
  (hK:∀w',w'.ownsMap P k R b (n+1) (D.put kl d)→w.grownBy w' (some b)→wpList P ops Q rest (a.put o.dst undef) w'):
  wpList P ops Q (o::rest) a w:=by
 refine qM hg fun K' hK'=>?_;obtain⟨w',hrun,r1,r2⟩:=hown.update K ht hn hkey hval;unfold Oper.wp;simp[execOp,hop,hm,hx,hv,hrun,Result.andThen];exact hK' _ _ (hK w' r1 r2)
def iV(l x:Int):Bool:=decide ((l=2∧0≤x∧x≤7)∨(l=3∧0≤x∧x≤15))
theorem yV:Keyed Tryz.prog 3:=int_keyed Tryz.underlying3
theorem uF(l:Int)(h:(Lit.int .i64 l).wf=true):keyOf Tryz.prog 3 (.int .i64 l)=some (.int .i64 l):=keyOf_int_mk Tryz.underlying3 h
theorem zZ1(w:World):(zeroValue 3).run Tryz.prog w=.ok (.int .i64 0) w:=by kernel_rfl
def eF:DataW Unit:=((DataW.map []).put (.int .i64 2) (.lit (.int .i64 7))).put (.int .i64 3) (.lit (.int .i64 15))
theorem TE(l:Int):WideAt.IsKeyLit (.int .i64 l):=by first|trivial|simp[WideAt.IsKeyLit]
theorem Q7:IsMap (DataW.map []:DataW Unit):=⟨_,rfl⟩
theorem EU(l:Int):has eF (.int .i64 l)=(decide (l=2)||decide (l=3)):=by
 unfold eF;by_cases h3:l=3
 ·subst h3;rw[has_put_same (Q7.put _ _) (TE 3)];rfl
 ·rw[has_put_other (by intro c;injection c with _ c;exact h3 c),zU h3,Bool.or_false];by_cases h2:l=2
  ·subst h2;rw[has_put_same Q7 (TE 2)];rfl
  ·rw[has_put_other (by intro c;injection c with _ c;exact h2 c),zU h2];rfl
theorem OH(l:Int)(z:DataW Unit):eF.atKey (.int .i64 l) z=if l=3 then .lit (.int .i64 15)else if l=2 then .lit (.int .i64 7)else z:=by
 unfold eF;by_cases h3:l=3
 ·subst h3;rw[zN rfl,atKey_put_same (Q7.put _ _) (TE 3)]
 ·rw[zL h3,atKey_put_other (by intro c;injection c with _ c;exact h3 c)];by_cases h2:l=2
  ·subst h2;rw[zN rfl,atKey_put_same Q7 (TE 2)]
  ·rw[zL h2,atKey_put_other (by intro c;injection c with _ c;exact h2 c)];rfl
theorem Q9(w:World):Calls Tryz.prog 157 #[] w fun e w'=>∃b,e=.returned (.map (some b))∧w'.ownsMap Tryz.prog 3 (plainElem Tryz.prog 3) b 2 eF∧Below w.heap.size w w':=by
 have hmm:= @run_makeMap Tryz.prog;go_enter Tryz.func157,Tryz.ntmps157;go_upto_region 1 with fail;refine zB ?_;iterate 3 go_step
 have B0:=zW ((zG w.heap.size w).alloc (zH _) (.map #[] 0));refine cQ (H:=Unit) _ rfl (.tmp 1) (.const (.int .i64 2)) (.const (.int .i64 7)) 240 rfl 3 3 yV Tryz.underlying240 (plainElem Tryz.prog 3) w.heap.size 0 (.map []) rfl (World.ownsMap_made w _ _ _) zYR _ _ (.int .i64 2) rfl rfl (uF 2 zYK) (.lit (.int .i64 7)) [] (plainElem_int Tryz.underlying3 zYK) ?_;intro w1 o1 g1;have B1:=zW (B0.out.grown g1 B0.out.size (fun j hj=>by cases hj;exact zH _));have O1:=zW o1;clear o1 g1 B0 hmm;simp only[Act.put];refine cQ _ rfl (.tmp 1) (.const (.int .i64 3)) (.const (.int .i64 15)) 240 rfl 3 3 yV Tryz.underlying240 (plainElem Tryz.prog 3) w.heap.size 1 _ rfl O1.out zYR _ _ (.int .i64 3) rfl rfl (uF 3 zYK) (.lit (.int .i64 15)) [] (plainElem_int Tryz.underlying3 zYK) ?_;intro w2 o2 g2;have Z:=zW (zM o2 (B1.out.grown g2 B1.out.size (fun j hj=>by cases hj;exact zH _)));clear o2 g2 O1 B1;simp only[Act.put];go_wp2_with fail;go_ret;exact⟨_,rfl,Z.out.1,Z.out.2⟩
theorem pK(l x:Int)(w:World)(hl:(Lit.int .i64 l).wf=true):Calls Tryz.prog 118 #[.int .i64 l,.int .i64 x] w fun e w'=>e=.returned (.bool (iV l x))∧Below w.heap.size w w':=by
 have hk:=zW (uF l hl);clear hl;go_enter Tryz.func118,Tryz.ntmps118;go_wp2_with fail;refine(Q9 _).mono ?_;rintro e w1 ⟨b,rfl,ho,hb⟩;have O:=zW (zM ho hb);clear ho hb;simp only[];go_at_K
 iterate 4 go_step
 refine wpList_lookup_own_ok_int _ rfl (.tmp 8) (.tmp 9) 240 rfl 3 3 .i64 yV Tryz.underlying240 Tryz.underlying3 (zZ1 _) b 2 eF rfl O.out.1 _ _ rfl hk.out ?_;intro c hat _;rw[EU];rw[OH]at hat;have F:iV l x=((decide (l=2)||decide (l=3))&&(decide (0≤x)&&decide (x≤c))):=by
  unfold iV;by_cases h3:l=3
  ·rw[zN h3]at hat;injection hat with hat
   injection hat with _ hat
   subst hat h3;simp[Bool.decide_and]
  ·rw[zL h3]at hat;by_cases h2:l=2
   ·rw[zN h2]at hat;injection hat with hat
    injection hat with _ hat
    subst hat h2;simp[Bool.decide_and]
   ·simp[h2,h3]
 have FH:=zW F;clear F hat;generalize (decide (l=2)||decide (l=3))=s at*;simp only[Act.put];have B:=zW O.out.2;clear O hk;cases s
 ·go_wp2;go_ret;exact⟨by rw[FH.out];rfl,B.out⟩
 ·by_cases hx:0≤x
  ·by_cases hc:x≤c
   ·have e:=zW (show iV l x=true by rw[FH.out];simp[hx,hc]);exact zME
   ·have e:=zW (show iV l x=false by rw[FH.out];simp only[zU hc,Bool.and_false]);exact zME
  ·have e:=zW (show iV l x=false by rw[FH.out];simp only[zU hx,Bool.false_and,Bool.and_false]);exact zME
end
section
open Go.RowKit
section
variable {P:Program} {b:Nat} {T:TypeId} {cs:Array Value} {w:World}
end
end
section
namespace Num
open Go.RowKit
def hi(r:BitVec 128):BitVec 64:=r.extractLsb' 64 64
def lo(r:BitVec 128):BitVec 64:=r.extractLsb' 0 64
theorem yC(h l:BitVec 64):hi (h++l)=h:=by
 apply BitVec.eq_of_getLsbD_eq
 intro i hi'
 simp only[hi,BitVec.getLsbD_extractLsb',BitVec.getLsbD_append];rw[zL zYQ,show 64+i-64=i by omega];simp[hi']
theorem yP(h l:BitVec 64):lo (h++l)=l:=by
 apply BitVec.eq_of_getLsbD_eq
 intro i hi'
 simp only[lo,BitVec.getLsbD_extractLsb',BitVec.getLsbD_append];rw[zN zYQ,show 0+i=i by omega];simp[hi']
theorem s7(r:BitVec 128):hi r++lo r=r:=by
 apply BitVec.eq_of_getLsbD_eq
 intro i hi'
 simp only[hi,lo,BitVec.getLsbD_extractLsb',BitVec.getLsbD_append];split
 ·rename_i h;simp[h]
 ·rename_i h
  rw[show 64+(i-64)=i by omega];simp;omega
theorem JF(h l h' l':BitVec 64):(h++l)&&&(h'++l')=(h&&&h')++(l&&&l'):=by
 apply kX
 intro i _
 simp only[BitVec.getMsbD_and,jO];split<;>rfl
theorem JD(h l h' l':BitVec 64):(h++l)^^^(h'++l')=(h^^^h')++(l^^^l'):=by
 apply kX
 intro i _
 simp only[BitVec.getMsbD_xor,jO];split<;>rfl
theorem zV6{h l h' l':BitVec 64}:h++l=h'++l'↔h=h'∧l=l':=
 ⟨fun e=>⟨by rw[←yC h l,e,yC],by rw[←yP h l,e,yP]⟩,fun⟨a,b⟩=>by rw[a,b]⟩
def rv(r:BitVec 128):Value:=.agg #[.int .u64 ((hi r).toNat:Int),.int .u64 ((lo r).toNat:Int)]
theorem lP(h l:BitVec 64):rv (h++l)=.agg #[.int .u64 (h.toNat:Int),.int .u64 (l.toNat:Int)]:=by rw[rv,yC,yP]
theorem IW(u:BitVec 64)(c:Int):(u.toNat:Int)*2^min c.toNat 64%18446744073709551616=((u<<<c.toNat).toNat:Int):=by
 rw[BitVec.toNat_shiftLeft,Nat.shiftLeft_eq];rcases jR c.toNat 64 with h|h
 ·rw[Nat.min_eq_left zYQ];simp
 ·rw[Nat.min_eq_right zYQ];have e1:u.toNat*2^c.toNat%2^64=0:=by
   rw[show c.toNat=(c.toNat-64)+64 by omega,Nat.pow_add,←Nat.mul_assoc];exact Nat.mul_mod_left _ _
  rw[e1];omega
theorem zWC(u:BitVec 64)(c:Int):(u.toNat:Int)/2^min c.toNat 64=((u>>>c.toNat).toNat:Int):=by
 rw[BitVec.toNat_ushiftRight,Nat.shiftRight_eq_div_pow];rcases jR c.toNat 64 with h|h
 ·rw[Nat.min_eq_left zYQ];simp
 ·rw[Nat.min_eq_right zYQ];have h2:u.toNat<2^c.toNat:=zF u.isLt (Nat.pow_le_pow_right zYK zYQ);rw[Nat.div_eq_of_lt h2];have:=u.isLt;omega
theorem gN(u:BitVec 64):BitVec.ofInt 64 (u.toNat:Int)=u:=by
 apply BitVec.eq_of_toNat_eq
 rw[BitVec.toNat_ofInt]
 have:=u.isLt;omega
theorem ZS(u:BitVec 64):IntKind.u64.wrap (u.toNat:Int)=(u.toNat:Int):=by
 rw[IntKind.wrap_u64];have:=u.isLt;omega
theorem zXK(u v:BitVec 64):bits .or .u64 (u.toNat:Int) (v.toNat:Int)=((u|||v).toNat:Int):=by
 show IntKind.u64.wrap (((BitVec.ofInt 64 (u.toNat:Int)|||BitVec.ofInt 64 (v.toNat:Int)).toNat:Nat):Int)=_;rw[gN,gN,ZS]
theorem zW4(u v:BitVec 64):bits .and .u64 (u.toNat:Int) (v.toNat:Int)=((u&&&v).toNat:Int):=by
 show IntKind.u64.wrap (((BitVec.ofInt 64 (u.toNat:Int)&&&BitVec.ofInt 64 (v.toNat:Int)).toNat:Nat):Int)=_;rw[gN,gN,ZS]
theorem zWP(u v:BitVec 64):bits .xor .u64 (u.toNat:Int) (v.toNat:Int)=((u^^^v).toNat:Int):=by
 show IntKind.u64.wrap (((BitVec.ofInt 64 (u.toNat:Int)^^^BitVec.ofInt 64 (v.toNat:Int)).toNat:Nat):Int)=_;rw[gN,gN,ZS]
theorem rE{n:Nat}(x:BitVec n)(i:Nat)(h:n≤i):x.getMsbD i=false:=by
 rw[BitVec.getMsbD_eq_getLsbD,zU zYQ];rfl
theorem IU(h l:BitVec 64)(k k1 k2:Nat)(e:(k≤64∧k1=64-k)∨(64<k∧64≤k1))(e2:(64≤k∧k2=k-64)∨(k<64∧64≤k2)):
  (h>>>k)++(l>>>k|||h<<<k1|||h>>>k2)=(h++l)>>>k:=by
 apply kX
 intro i hi'
 simp only[jO,BitVec.getMsbD_ushiftRight,BitVec.getMsbD_or,BitVec.getMsbD_shiftLeft];by_cases hlt:64≤i
 ·rw[zN hlt];rcases e with⟨a,b⟩|⟨a,b⟩
  ·rcases e2 with⟨c,d⟩|⟨c,d⟩
   ·have hk:k=64:=zYQ;subst hk;subst b;subst d;rw[zL zYQ];simp;rw[show decide (i-64<64)=true by simp;omega,show decide (i<128)=true by simp;omega,show decide (i<64)=false by simp;omega];simp
   ·rw[show decide (i-64<k2)=true by simp;omega,show decide (i-64<64)=true by simp;omega];subst b;by_cases hik:i-64<k
    ·rw[zL zYQ,show i-64+(64-k)=i-k by omega,show decide (i-64<k)=true by simp;omega,show decide (i<k)=false by simp;omega];simp;omega
    ·rw[zN zYQ,show decide (i-64<k)=false by simp;omega,show decide (i<k)=false by simp;omega,rE h (i-64+(64-k)) zYQ,show i-64-k=i-k-64 by omega];simp;omega
  ·rcases e2 with⟨c,d⟩|⟨c,d⟩
   ·rw[show decide (i-64<64)=true by simp;omega,show decide (i-64<k)=true by simp;omega,rE h (i-64+k1) zYQ];subst d;rw[zL zYQ];by_cases hik:i<k
    ·rw[show decide (i-64<k-64)=true by simp;omega,show decide (i<k)=true by simp;omega];simp
    ·rw[show decide (i-64<k-64)=false by simp;omega,show decide (i<k)=false by simp;omega,show i-64-(k-64)=i-k by omega];simp;omega
   ·omega
 ·rw[zL hlt,zL zYQ,show decide (i<64)=true by simp;omega,show decide (i<64+64)=true by simp;omega]
theorem zXA(h l:BitVec 64)(k k1 k2:Nat)(e:(k≤64∧k1=64-k)∨(64<k∧64≤k1))(e2:(64≤k∧k2=k-64)∨(k<64∧64≤k2)):
  (h<<<k|||l>>>k1|||l<<<k2)++(l<<<k)=(h++l)<<<k:=by
 apply kX
 intro i hi'
 simp only[jO,BitVec.getMsbD_ushiftRight,BitVec.getMsbD_or,BitVec.getMsbD_shiftLeft];by_cases hlt:64≤i
 ·rw[zN hlt,zN zYQ,show i-64+k=i+k-64 by omega]
 ·rw[zL hlt,show decide (i<64)=true by simp;omega];rcases e with⟨a,b⟩|⟨a,b⟩
  ·subst b;rcases e2 with⟨c,d⟩|⟨c,d⟩
   ·have hk:k=64:=zYQ;subst hk;subst d;rw[zN zYQ,rE h (i+64) zYQ];simp
   ·rw[rE l (i+k2) zYQ];by_cases hik:i+k<64
    ·rw[zL zYQ,show decide (i<64-k)=true by simp;omega];simp
    ·rw[zN zYQ,rE h (i+k) zYQ,show decide (i<64-k)=false by simp;omega,show i-(64-k)=i+k-64 by omega];simp
  ·rcases e2 with⟨c,d⟩|⟨c,d⟩
   ·subst d;rw[zN zYQ,rE h (i+k) zYQ,show decide (i<k1)=true by simp;omega,show i+(k-64)=i+k-64 by omega];simp
   ·omega
def mv(r:BitVec 128)(n:Int):BitVec 128:=if n<0 then r<<<(-n).toNat else r>>>n.toNat
def yA(n:Int):BitVec 128:=mv (BitVec.allOnes 128) (n-128)
def yG(r:BitVec 128)(n width:Int):BitVec 128:=mv r n&&&yA width
def px(r:BitVec 128)(x:Nat):Bool:=r.getMsbD x
theorem tE{r s:BitVec 128}(h:∀x,x<128→px r x=px s x):r=s:=kX h
theorem UK(r:BitVec 128)(x:Nat)(h:128≤x):px r x=false:=rE r x h
theorem UV(r s:BitVec 128)(x:Nat):px (r&&&s) x=(px r x&&px s x):=BitVec.getMsbD_and
theorem UJ(r s:BitVec 128)(x:Nat):px (r^^^s) x=(px r x^^px s x):=BitVec.getMsbD_xor
theorem wB(x:Nat):px 0#128 x=false:=by simp[px]
def pxi(r:BitVec 128)(x:Int):Bool:=decide (0≤x)&&px r x.toNat
theorem UX(r:BitVec 128)(n:Int)(x:Nat)(hx:x<128):px (mv r n) x=pxi r (x-n):=by
 unfold mv px pxi px;split
 ·rw[BitVec.getMsbD_shiftLeft,qZ zYQ,show((x:Int)-n).toNat=x+(-n).toNat by omega];rfl
 ·rw[BitVec.getMsbD_ushiftRight,qZ hx];by_cases h:x<n.toNat
  ·rw[qZ h,zU zYQ];rfl
  ·rw[zU h,qZ zYQ,show((x:Int)-n).toNat=x-n.toNat by omega];rfl
theorem BI(n:Int)(x:Nat)(hx:x<128)(hn:n≤128):px (yA n) x=decide ((x:Int)<n):=by
 unfold yA;rw[UX _ _ _ hx,pxi,px,BitVec.getMsbD_allOnes,Bool.eq_iff_iff];simp;omega
theorem LP(r:BitVec 128)(n width:Int)(x:Nat)(hx:x<128)(hn:width≤128):px (yG r n width) x=(pxi r (x-n)&&decide ((x:Int)<width)):=by
 unfold yG;rw[UV,UX _ _ _ hx,BI _ _ hx hn]
end Num
namespace Num
open Go.RowKit
def pcn(f:Nat→Bool):Nat→Nat
 |0=>0
 |k+1=>pcn f k+(f k).toNat
theorem DY{f g:Nat→Bool}(k:Nat)(h:∀i,i<k→f i=g i):pcn f k=pcn g k:=by
 induction k with
 |zero=>rfl
 |succ k ih=>rw[pcn,pcn,ih fun i hi=>h i zYQ,h k zYQ]
theorem zJ8(f:Nat→Bool)(j k:Nat):pcn f (j+k)=pcn f j+pcn (fun i=>f (j+i)) k:=by
 induction k with
 |zero=>rfl
 |succ k ih=>rw[←qD,pcn,pcn,ih];omega
theorem UN{f:Nat→Bool}{k:Nat}:pcn f k=0↔∀i,i<k→f i=false:=by
 induction k with
 |zero=>simp[pcn]
 |succ k ih=>
  rw[pcn]
  constructor
  ·intro h i hi
   rcases jR i k with hlt|hge
   ·exact ih.1 zYQ i hlt
   ·have:i=k:=by omega
    subst this
    cases hf:f i
    ·rfl
    ·rw[hf]at h;simp at h
  ·intro h
   rw[ih.2 fun i hi=>h i zYQ,h k zYQ]
   rfl
def V:List Nat→Nat
 |[]=>0
 |d::ds=>256*V ds+d
def t1(d:Nat):Nat:=(d/2&&&85)+(d&&&85)
def t2(d:Nat):Nat:=(d/4&&&51)+(d&&&51)
def t3(d:Nat):Nat:=(d/16+d)&&&15
def zQO(r:BitVec 128):Nat:=pcn (px r) 128
theorem N7(r:BitVec 128):zQO r=0↔r=0#128:=by
 rw[zQO,UN];constructor
 ·intro h;exact tE fun x hx=>by rw[h x hx,wB]
 ·rintro rfl x _;exact wB x
end Num
namespace Num
open Go.RowKit
def spF(b c x m:Nat)(clip:Bool)(k j:Nat):Bool:=
 (decide (x≤j∧j<x+c∧j<m∧c+x≤j+k)&&b.testBit (c-1-(j-x)))||(!clip&&(decide (j+m<x+c∧c+x≤j+m+k)&&b.testBit (c-1-(j+m-x))))
def sp0(b c:Nat):BitVec 128:=(BitVec.ofNat 64 b<<<(64-c))++0#64
def uI(b c x m:Nat)(clip:Bool):BitVec 128:=if clip then yG (sp0 b c) x m else yG (sp0 b c) x m^^^mv (sp0 b c) ((x:Int)-m)
theorem px_sp0(b c i:Nat)(c1:c≤16):px (sp0 b c) i=(decide (i<c)&&b.testBit (c-1-i)):=by
 unfold sp0 px;rw[jO];split
 ·rw[zU zYQ];simp
 ·rw[BitVec.getMsbD_shiftLeft,BitVec.getMsbD_eq_getLsbD,BitVec.getLsbD_ofNat];by_cases h:i<c
  ·rw[qZ zYQ,qZ zYQ,qZ h,show 64-1-(i+(64-c))=c-1-i by omega];simp
  ·rw[zU (p:=i+(64-c)<64) zYQ,zU h];rfl
theorem TV(b c:Nat)(i:Int)(c1:c≤16):pxi (sp0 b c) i=(decide (0≤i∧i<c)&&b.testBit (c-1-i.toNat)):=by
 unfold pxi;rw[px_sp0 b c _ c1];by_cases h:0≤i
 ·rw[qZ h,show decide (i.toNat<c)=decide (0≤i∧i<c) by congr 1;simp;omega];rfl
 ·rw[zU h,zU (p:=0≤i∧i<(c:Int)) zYQ];rfl
theorem BU(b c x m:Nat)(clip:Bool)(c1:c≤16)(hm:16≤m)(m1:m≤128)(hx:x<m)(j:Nat)(hj:j<128):px (uI b c x m clip) j=spF b c x m clip c j:=by
 have e1:px (yG (sp0 b c) x m) j=(decide (x≤j∧j<x+c∧j<m∧c+x≤j+c)&&b.testBit (c-1-(j-x))):=by
  rw[LP _ _ _ _ hj zYQ,TV _ _ _ c1,show((j:Int)-(x:Int)).toNat=j-x by omega];by_cases h:x≤j∧j<x+c∧j<m
  ·rw[qZ (p:=0≤(j:Int)-x∧(j:Int)-x<c) zYQ,qZ (p:=(j:Int)<(m:Int)) zYQ,qZ zYQ];simp
  ·rw[zU (p:=x≤j∧_) zYQ];by_cases h2:(j:Int)<(m:Int)
   ·rw[zU (p:=0≤(j:Int)-x∧(j:Int)-x<c) zYQ];rfl
   ·rw[zU h2];simp
 have e2:px (mv (sp0 b c) ((x:Int)-m)) j=(decide (j+m<x+c∧c+x≤j+m+c)&&b.testBit (c-1-(j+m-x))):=by
  rw[UX _ _ _ hj,TV _ _ _ c1,show((j:Int)-((x:Int)-(m:Int))).toNat=j+m-x by omega,
   show decide (0≤(j:Int)-((x:Int)-(m:Int))∧(j:Int)-((x:Int)-(m:Int))<c)=decide (j+m<x+c∧c+x≤j+m+c) by congr 1;simp;omega]
 unfold uI spF;cases clip
 ·rw[zL zYY,UJ,e1,e2];by_cases h:x≤j
  ·rw[zU (p:=j+m<x+c∧_) zYQ];simp
  ·rw[zU (p:=x≤j∧_) zYQ];simp
 ·rw[zN rfl,e1];simp
theorem TW(r:BitVec 128)(i:Int)(h:i<0):pxi r i=false:=by
 rw[pxi,zU zYQ,Bool.false_and]
theorem fZ(r:BitVec 128)(i:Nat):pxi r (i:Int)=px r i:=by
 rw[pxi,qZ zYQ,Bool.true_and,Int.toNat_natCast]
def JI(r:BitVec 128)(m:Nat):Prop:=∀i:Int,m≤i→pxi r i=false
theorem UZ(i:Int):pxi 0#128 i=false:=by rw[pxi,wB,Bool.and_false]
theorem cO(r:BitVec 128):∃h l:BitVec 64,r=h++l:=⟨hi r,lo r,(s7 r).symm⟩
end Num
namespace Num
open Go.RowKit
def sm(g:Nat→Nat):Nat→Nat
 |0=>0
 |k+1=>sm g k+g k
theorem KE{f g:Nat→Nat}(k:Nat)(h:∀i,i<k→f i=g i):sm f k=sm g k:=by
 induction k with
 |zero=>rfl
 |succ k ih=>rw[sm,sm,ih fun i hi=>h i zYQ,h k zYQ]
theorem TQ{f:Nat→Nat}(k:Nat)(h:∀i,i<k→f i=0):sm f k=0:=by
 induction k with
 |zero=>rfl
 |succ k ih=>rw[sm,ih fun i hi=>h i zYQ,h k zYQ]
theorem KS{f:Nat→Nat}{k:Nat}:sm f k=0↔∀i,i<k→f i=0:=by
 refine⟨?_,TQ k⟩;induction k with
 |zero=>intro _ i hi;omega
 |succ k ih=>
  rw[sm]
  intro h i hi
  rcases jR i k with hlt|hge
  ·exact ih zYQ i hlt
  ·obtain rfl:i=k:=by omega
   omega
theorem UH(f:Nat→Bool)(n k:Nat):pcn f (n*k)=sm (fun y=>pcn (fun x=>f (n*y+x)) n) k:=by
 induction k with
 |zero=>rfl
 |succ k ih=>rw[Nat.mul_succ,zJ8,sm,ih]
abbrev Pl:=Nat→BitVec 128
def zW6(P:Pl)(m h:Nat):Prop:=(∀y,JI (P y) m)∧∀y,h≤y→P y=0#128
def pcount(P:Pl):Nat:=sm (fun y=>zQO (P y)) 64
def mG(P:Pl)(dx dy:Int)(m h:Nat):Pl:=fun y=>if(0≤(y:Int)-dy∧(y:Int)-dy<h)∧y<h then yG (P ((y:Int)-dy).toNat) dx m else 0#128
def spr(bits:Nat→Nat)(len c x y m h:Nat)(clip:Bool):Pl:=fun j=>
 if y≤j∧j<y+len∧j<h then uI (bits (j-y)) c x m clip else if clip=false∧j+h<y+len then uI (bits (j+h-y)) c x m clip else 0#128
def wX(A B:Pl):Pl:=fun y=>A y^^^B y
theorem XA(m:Nat):JI 0#128 m:=fun i _=>UZ i
theorem IQ(bits:Nat→Nat)(c x y m h:Nat)(clip:Bool)(hy:y<h)(j:Nat):spr bits 0 c x y m h clip j=0#128:=by
 unfold spr;rw[zL zYQ];by_cases hc:clip=false∧j+h<y+0
 ·omega
 ·rw[zL hc]
theorem spr_in(bits:Nat→Nat)(i c x y m h:Nat)(clip:Bool)(hi:i<h)(hy:y<h)(hin:y+i<h)(j:Nat):
  spr bits (i+1) c x y m h clip j=if j=y+i then uI (bits i) c x m clip else spr bits i c x y m h clip j:=by
 unfold spr;by_cases e:j=y+i
 ·rw[zN e,zN zYQ,show j-y=i by omega]
 ·rw[zL e];by_cases h1:y≤j∧j<y+i∧j<h
  ·rw[zN h1,zN zYQ]
  ·rw[zL h1,zL zYQ];by_cases h2:clip=false∧j+h<y+i
   ·omega
   ·rw[zL h2,zL zYQ]
theorem zJH(bits:Nat→Nat)(i c x y m h:Nat)(hi:i<h)(hy:y<h)(hout:h≤y+i)(j:Nat):
  spr bits (i+1) c x y m h false j=if j=y+i-h then uI (bits i) c x m false else spr bits i c x y m h false j:=by
 unfold spr;by_cases e:j=y+i-h
 ·rw[zN e,zL zYQ,zN ⟨rfl,by omega⟩,show j+h-y=i by omega]
 ·rw[zL e];by_cases h1:y≤j∧j<y+i∧j<h
  ·rw[zN h1,zN zYQ]
  ·rw[zL h1,zL zYQ];by_cases h2:j+h<y+i
   ·rw[zN (show false=false∧j+h<y+(i+1)from⟨rfl,by omega⟩),zN (show false=false∧j+h<y+i from⟨rfl,h2⟩)]
   ·rw[zL zYQ,zL zYQ]
theorem IZ(bits:Nat→Nat)(i c x y m h:Nat)(hout:h≤y+i)(j:Nat):spr bits (i+1) c x y m h true j=spr bits i c x y m h true j:=by
 unfold spr;by_cases h1:y≤j∧j<y+i∧j<h
 ·rw[zN h1,zN zYQ]
 ·rw[zL h1,zL zYQ,zL zYY,zL zYY]
theorem dW(b c x m:Nat)(clip:Bool)(c1:c≤16)(hm:16≤m)(m1:m≤128)(hx:x<m):JI (uI b c x m clip) m:=fun i hi=>by
 obtain⟨k,rfl⟩:=jZ (show 0≤i by omega);rw[fZ];by_cases hk:k<128
 ·rw[BU b c x m clip c1 hm m1 hx k hk];unfold spF;rw[zU (p:=x≤k∧_) zYQ,zU (p:=k+m<x+c∧_) zYQ];simp
 ·exact UK _ _ zYQ
theorem zJN(bits:Nat→Nat)(len c x y m h:Nat)(clip:Bool)(c1:c≤16)(hm:16≤m)(m1:m≤128)(hx:x<m)(hl:len≤h)(hy:y<h):zW6 (spr bits len c x y m h clip) m h:=by
 refine⟨fun j=>?_,fun j hj=>?_⟩
 ·unfold spr;split
  ·exact dW _ _ _ _ _ c1 hm m1 hx
  ·split
   ·exact dW _ _ _ _ _ c1 hm m1 hx
   ·exact XA m
 ·unfold spr;rw[zL zYQ,zL zYQ]
end Num
namespace Num
open Go.RowKit
def acc(g:Nat→Bool):Nat→Nat
 |0=>0
 |k+1=>2*acc g k+(g k).toNat
theorem acc_lt(g:Nat→Bool)(k:Nat):acc g k<2^k:=by
 induction k with
 |zero=>simp[acc]
 |succ k ih=>
  rw[acc,Nat.pow_succ]
  have:=Bool.toNat_le (g k)
  omega
theorem zWM(g:Nat→Bool)(k j:Nat):(acc g k).testBit j=(decide (j<k)&&g (k-1-j)):=by
 induction k generalizing j with
 |zero=>simp[acc]
 |succ k ih=>
  rw[acc]
  cases j with
  |zero=>
   rw[Nat.testBit_zero]
   cases hg:g k<;>simp[hg]<;>omega
  |succ j=>
   rw[Nat.testBit_succ,show(2*acc g k+(g k).toNat)/2=acc g k by have:=Bool.toNat_le (g k);omega,ih j,show k+1-1-(j+1)=k-1-j by omega,
    show decide (j<k)=decide (j+1<k+1) by congr 1;simp]
def wd(g:Nat→Bool):BitVec 64:=BitVec.ofNat 64 (acc g 64)
theorem wd_nat(g:Nat→Bool):(wd g).toNat=acc g 64:=by
 have:=acc_lt g 64;rw[wd,BitVec.toNat_ofNat,kW this]
theorem A5(g:Nat→Bool)(i:Nat)(hi:i<64):(wd g).getMsbD i=g i:=by
 rw[BitVec.getMsbD_eq_getLsbD,←BitVec.testBit_toNat,wd_nat,zWM,qZ hi,qZ zYQ,show 64-1-(64-1-i)=i by omega,Bool.true_and,Bool.true_and]
def fwd(f:Nat→Bool):Pl:=fun y=>wd (fun i=>f (128*y+i))++wd (fun i=>f (128*y+(64+i)))
theorem yJ(f:Nat→Bool)(y x:Nat)(hx:x<128):px (fwd f y) x=f (128*y+x):=by
 unfold fwd px;rw[jO];split
 ·rw[A5 _ _ zYQ,show 64+(x-64)=x by omega]
 ·rw[A5 _ _ zYQ]
def xK(f:Nat→Bool)(m h:Nat):Prop:=∀i,f i=true→i%128<m∧i/128<h
theorem zX9{f:Nat→Bool}{m h:Nat}(hf:xK f m h):zW6 (fwd f) m h:=by
 refine⟨fun y i hi=>?_,fun y hy=>tE fun x hx=>?_⟩
 ·by_cases h0:0≤i
  ·obtain⟨k,rfl⟩:=jZ h0;rw[fZ];by_cases hk:k<128
   ·rw[yJ _ _ _ hk];cases hg:f (128*y+k)
    ·rfl
    ·have:=(hf _ hg).1;omega
   ·exact UK _ _ zYQ
  ·exact TW _ _ zYQ
 ·rw[yJ _ _ _ hx,wB];cases hg:f (128*y+x)
  ·rfl
  ·have:=(hf _ hg).2;omega
theorem Y9(f:Nat→Bool):pcount (fwd f)=pcn f (128*64):=by
 rw[UH];exact KE 64 fun y hy=>DY 128 fun x hx=>yJ f y x hx
def dL(f:Nat→Bool)(dx dy:Int)(m h:Nat)(i:Nat):Bool:=
 decide ((i/128<h∧i%128<m)∧(0≤((i%128:Nat):Int)-dx∧((i%128:Nat):Int)-dx<m)∧(0≤((i/128:Nat):Int)-dy∧((i/128:Nat):Int)-dy<h))&&f (128*(((i/128:Nat):Int)-dy)+(((i%128:Nat):Int)-dx)).toNat
theorem VU(f:Nat→Bool)(dx dy:Int)(m h:Nat)(hm:m≤128)(hf:xK f m h)(y:Nat):fwd (dL f dx dy m h) y=mG (fwd f) dx dy m h y:=tE fun x hx=>by
 rw[yJ _ _ _ hx];unfold dL mG;rw[show(128*y+x)/128=y by omega,show(128*y+x)%128=x by omega];by_cases h1:(0≤(y:Int)-dy∧(y:Int)-dy<h)∧y<h
 ·rw[zN h1,LP _ _ _ _ hx zYQ];obtain⟨d,hd⟩:∃d:Nat,(y:Int)-dy=(d:Int):=⟨((y:Int)-dy).toNat,by omega⟩;rw[hd,Int.toNat_natCast];by_cases h2:x<m
  ·rw[qZ (p:=(x:Int)<(m:Int)) zYQ,Bool.and_true];by_cases h3:0≤(x:Int)-dx∧(x:Int)-dx<m
   ·obtain⟨e,he⟩:∃e:Nat,(x:Int)-dx=(e:Int):=⟨((x:Int)-dx).toNat,by omega⟩;rw[he,fZ,yJ _ _ _ zYQ,qZ zYQ,Bool.true_and,show(128*(d:Int)+(e:Int)).toNat=128*d+e by omega]
   ·rw[zU zYQ,Bool.false_and];rcases Int.lt_or_le ((x:Int)-dx) 0 with h0|h0
    ·rw[TW _ _ h0]
    ·rw[(zX9 hf).1 d _ zYQ]
  ·rw[zU zYQ,zU (p:=(x:Int)<(m:Int)) zYQ,Bool.false_and,Bool.and_false]
 ·rw[zL h1,wB,zU zYQ,Bool.false_and]
def zJS(bits:Nat→Nat)(len c x y m h:Nat)(clip:Bool)(i:Nat):Bool:=px (spr bits len c x y m h clip (i/128)) (i%128)
theorem VC(bits:Nat→Nat)(len c x y m h:Nat)(clip:Bool)(j:Nat):fwd (zJS bits len c x y m h clip) j=spr bits len c x y m h clip j:=tE fun k hk=>by
 rw[yJ _ _ _ hk,zJS,show(128*j+k)/128=j by omega,show(128*j+k)%128=k by omega]
theorem SY(f g:Nat→Bool)(y:Nat):fwd (fun i=>f i^^g i) y=wX (fwd f) (fwd g) y:=tE fun x hx=>by
 show _=px (fwd f y^^^fwd g y) x;rw[yJ _ _ _ hx,UJ,yJ _ _ _ hx,yJ _ _ _ hx]
theorem zKQ(f g:Nat→Bool)(y:Nat):fwd (fun i=>f i&&g i) y=fwd f y&&&fwd g y:=tE fun x hx=>by
 rw[yJ _ _ _ hx,UV,yJ _ _ _ hx,yJ _ _ _ hx]
theorem JL(f g:Nat→Bool):pcn (fun i=>f i&&g i) (128*64)=sm (fun y=>zQO (fwd f y&&&fwd g y)) 64:=by
 rw[←Y9];exact KE 64 fun y _=>by rw[zKQ]
def tY(A B:Pl):Bool:=decide (sm (fun y=>zQO (A y&&&B y)) 64≠0)
theorem UM(A B:Pl):tY A B=true↔∃y,y<64∧A y&&&B y≠0#128:=by
 unfold tY;rw[qG];constructor
 ·intro h;rcases Classical.em (∃y,y<64∧A y&&&B y≠0#128)with h2|h2
  ·exact h2
  ·refine absurd (TQ 64 fun y hy=>(N7 _).2 ?_) h;rcases Classical.em (A y&&&B y=0#128)with h3|h3
   ·exact h3
   ·exact absurd ⟨y,hy,h3⟩ h2
 ·rintro⟨y,hy,h⟩ h2;exact h ((N7 _).1 (KS.1 h2 y hy))
theorem VS(f g:Nat→Bool):tY (fwd f) (fwd g)=decide (0<pcn (fun i=>f i&&g i) (128*64)):=by
 rw[JL];unfold tY;rw[Bool.eq_iff_iff,qG,qG];omega
theorem t8(m h:Nat):xK (fun _=>false) m h:=fun i hi=>by cases hi
theorem zJP(f:Nat→Bool)(dx dy:Int)(m h:Nat):xK (dL f dx dy m h) m h:=fun i hi=>by
 unfold dL at hi;have:=qC (Bool.and_eq_true_iff.1 hi).1;exact⟨this.1.2,this.1.1⟩
end Num
end
section
open Go.RowKit Num
def cV(P:Pl)(j:Nat):Int:=if j%2=0 then((hi (P (j/2))).toNat:Int)else((lo (P (j/2))).toNat:Int)
def kU(P:Pl):Array Value:=((List.range 128).map fun j=>Value.int .u64 (cV P j)).toArray
theorem lX(P:Pl):(kU P).size=128:=by simp[kU]
theorem cY(P:Pl)(j:Nat)(hj:j<128):(kU P)[j]?=some (.int .u64 (cV P j)):=by simp[kU,hj]
theorem eJ(P:Pl)(y:Nat):cV P (2*y)=((hi (P y)).toNat:Int):=by
 rw[cV,zN zYQ,show 2*y/2=y by omega]
theorem fN(P:Pl)(y:Nat):cV P (2*y+1)=((lo (P y)).toNat:Int):=by
 rw[cV,zL zYQ,show(2*y+1)/2=y by omega]
theorem QT{P Q:Pl}(h:∀y,y<64→P y=Q y):kU P=kU Q:=by
 unfold kU;congr 1
 refine List.map_congr_left fun j hj=>?_
 have hj:=jG.1 hj;unfold cV;rw[h (j/2) zYQ]
theorem vW(P:Pl):(kU P).all (·.oneCell')=true:=by
 rw[qA];intro v hv;simp[kU]at hv;obtain⟨j,_,rfl⟩:=hv;rfl
def J4(P:Pl)(y:Nat)(r:BitVec 128):Pl:=fun j=>if j=y then r else P j
theorem rQ(P:Pl)(y:Nat)(r:BitVec 128):J4 P y r y=r:=by simp[J4]
theorem rZ(P:Pl)(y j:Nat)(r:BitVec 128)(h:j≠y):J4 P y r j=P j:=by simp[J4,h]
theorem VQ(P:Pl)(y:Nat)(h l:BitVec 64)(hy:y<64):((kU P).setIfInBounds (2*y) (.int .u64 (h.toNat:Int))).setIfInBounds (2*y+1) (.int .u64 (l.toNat:Int))=kU (J4 P y (h++l)):=by
 apply qK
 intro j
 by_cases hj:j<128
 ·rw[cY _ _ hj,qL,qL];by_cases e1:2*y+1=j
  ·subst e1;rw[zN rfl,zN (by simp[lX];omega),fN,rQ,yP]
  ·rw[zL e1];by_cases e0:2*y=j
   ·subst e0;rw[zN rfl,zN (by simp[lX];omega),eJ,rQ,yC]
   ·rw[zL e0,cY _ _ hj];unfold cV;rw[rZ _ _ _ _ zYQ]
 ·rw[zD (by simp[lX];omega),zD (by simp[lX];omega)]
def mT(b:Nat)(t:TypeId)(P:Pl)(w:World):Prop:=w.heap[b]?=some (.cells (kU P) t (0,0))
section
variable {b:Nat} {t:TypeId} {P Q:Pl} {w w':World}
theorem mT.lt(H:mT b t P w):b<w.heap.size:=(qE.1 H).1
theorem mT.below(H:mT b t P w){n:Nat}(hb:Below n w w')(hn:b<n):mT b t P w':=(hb.block b hn).trans H
theorem mT.step(H:mT b t P w)(hb:Below w.heap.size w w'):mT b t P w':=H.below hb H.lt
theorem mT.new(w:World)(P:Pl)(t:TypeId):mT w.heap.size t P (w.alloc (.cells (kU P) t)):=jJ _ _
theorem mT.alloc(H:mT b t P w)(o:Obj):mT b t P (w.alloc o):=H.step ((zG _ _).alloc (zH _) _)
theorem mT.drew(H:mT b t P w):mT b t P w.drew:=H
theorem mT.congr(H:mT b t P w)(h:∀y,y<64→P y=Q y):mT b t Q w:=by
 unfold mT at*;rw[←QT h];exact H
theorem mT.other(H:mT b t P w){g:Nat}(hg:b≠g)(o:Nat)(v:Value):mT b t P (w.setCell ⟨g,o,none⟩ v):=(qV w ⟨g,o,none⟩ v b hg).trans H
theorem mT.otherRow(H:mT b t P w){g:Nat}(hg:b≠g)(cs:Array Value):mT b t P (w.setRow g cs):=(qQ w g b cs hg).trans H
theorem mT.cell(H:mT b t P w)(j:Nat)(hj:j<128):w.cell? ⟨b,j,none⟩=some (.int .u64 (cV P j)):=by
 rw[jE w b j (kU P) t (0,0) H];exact cY P j hj
theorem mT.left(H:mT b t P w)(y:Nat)(hy:y<64):w.cell? ⟨b,y*2,none⟩=some (.int .u64 ((hi (P y)).toNat:Int)):=by
 rw[Nat.mul_comm y 2,H.cell _ zYQ,eJ]
theorem mT.right(H:mT b t P w)(y:Nat)(hy:y<64):w.cell? ⟨b,y*2+1,none⟩=some (.int .u64 ((lo (P y)).toNat:Int)):=by
 rw[Nat.mul_comm y 2,H.cell _ zYQ,fN]
theorem mT.frozen(H:mT b t P w)(j:Nat):w.frozen? ⟨b,j,none⟩=false:=frozen_of_row w b j (kU P) t H
theorem mT.store(H:mT b t P w)(Q:Pl):mT b t Q (w.setRow b (kU Q)):=setRow_heap w b _ _ t (0,0) H
theorem mT.row(H:mT b t P w)(y:Nat)(hy:y<64)(h l:BitVec 64):mT b t (J4 P y (h++l)) ((w.setCell ⟨b,y*2,none⟩ (.int .u64 (h.toNat:Int))).setCell ⟨b,y*2+1,none⟩ (.int .u64 (l.toNat:Int))):=by
 rw[Nat.mul_comm y 2];have e1:=setCell_eq_setRow w b (2*y) (kU P) t (0,0) (.int .u64 (h.toNat:Int)) H;have H1:(w.setRow b ((kU P).setIfInBounds (2*y) (.int .u64 (h.toNat:Int)))).heap[b]?=_:=setRow_heap w b _ _ t (0,0) H;have e2:=setCell_eq_setRow _ b (2*y+1) _ t (0,0) (.int .u64 (l.toNat:Int)) H1;rw[e1,e2,VQ P y h l hy];exact setRow_heap _ b _ _ t (0,0) H1
end
theorem vT{B:Nat}{a w:World}(h:Below B a w){g:Nat}(hg:B≤g)(cs:Array Value):Below B a (w.setRow g cs):=
 h.trans ⟨rfl,rfl,rfl,by simp[World.setRow],fun k hk=>qQ w g k cs zYQ⟩
section
variable {P:Program}
theorem uT(t:TypeId)(d:TypeDesc)(xs:Array Value)(off sz:Nat)(w:World)(hd:(match d with| .struct _| .array _ _=>true|_=>false)=true)(hu:P.underlying t=some d)(hi:(P.info? t).map (·.size)=some sz):
  (part t xs off).run P w=.ok (.agg (xs.extract off (off+sz))) w:=by
 cases hq:P.info? t with
 |none=>simp[hq]at hi
 |some i=>
  have hs:i.size=sz:=zY5
  have hagg:(isAgg t).run P w=.ok true w:=by
   unfold isAgg;rw[zC,qO hu w];cases d<;>simp_all
  simp[part,zC,hagg,sizeOf,typeInfo,hq,hs]
end
end
section
open Go.RowKit
inductive pE where
 |last (is:List Nat)
 |call (is:List Nat) (c:Nat) (t:pE)
 |fork (is:List Nat) (c1:Nat) (t1:pE) (c2:Nat) (t2:pE)
section
variable {P:Program} {ops:Array Oper} {C:World→Prop} {Q:Exit→Act→World→Prop} {md:Region.Mode}
def vO(P:Program)(ops:Array Oper)(C:World→Prop)(Q:Exit→Act→World→Prop)(c:Nat)(F:Act→World→Prop)(a:Act)(w:World):Prop:=
 match ops[c]? with
 |none=>False
 |some o=>if Region.wanted o (yielded ops a.tmps)then o.wp P a w (fun a'' w''=>C w''∧F a'' w'') Q else F (a.put o.dst undef) w
def n8(P:Program)(ops:Array Oper)(C:World→Prop)(Q:Exit→Act→World→Prop):pE→Act→World→Prop
 |.last is,a,w=>wpQuiet P ops C (fun a'=>Q .normal a' w) (kO ops is) a
 |.call is c t,a,w=>wpQuiet P ops C (fun a'=>vO P ops C Q c (fun a w=>n8 P ops C Q t a w) a' w) (kO ops is) a
 |.fork is c1 t1 c2 t2,a,w=>wpQuiet P ops C (fun a'=>vO P ops C Q c1 (fun a w=>n8 P ops C Q t1 a w) a' w∧vO P ops C Q c2 (fun a w=>n8 P ops C Q t2 a w) a' w) (kO ops is) a
def sE(md:Region.Mode)(ops:Array Oper):pE→Array Bool→Bool
 |.last is,listed=>iP md ops is listed&&(Region.ready md ops (mC listed is)).isEmpty
 |.call is c t,listed=>iP md ops is listed&&decide (Region.ready md ops (mC listed is)=[c])&&sE md ops t ((mC listed is).setIfInBounds c true)
 |.fork is c1 t1 c2 t2,listed=>iP md ops is listed&&decide (Region.ready md ops (mC listed is)=[c1,c2])&&sE md ops t1 ((mC listed is).setIfInBounds c1 true)&&sE md ops t2 ((mC listed is).setIfInBounds c2 true)
def rO:pE→Nat
 |.last is=>is.length
 |.call is _ t=>rO t+1+is.length
 |.fork is _ t1 _ _=>rO t1+1+is.length
def oC:pE→Bool
 |.last _=>true
 |.call _ _ t=>oC t
 |.fork _ _ t1 _ t2=>oC t1&&oC t2&&decide (rO t1=rO t2)
theorem rY{K K':Act→Prop}(hK:∀a,K a→K' a):∀(l:List Oper) (a:Act),wpQuiet P ops C K l a→wpQuiet P ops C K' l a:=by
 exact zLU
theorem fK{c:Nat}{F G:Act→World→Prop}{a:Act}{w:World}(hC:C w)(h:vO P ops C Q c F a w)(hF:∀a w,C w→F a w→G a w):wpOp P ops Q c (fun a' w'=>C w'∧G a' w') a w:=by
 unfold vO at h;unfold wpOp;cases ho:ops[c]? with
 |none=>rw[ho]at h;exact h.elim
 |some o=>
  rw[ho]at h
  simp only at h⊢
  split
  ·rename_i hw
   simp only[hw,if_true]at h
   exact .inl (Oper.wp_mono (fun a'' w'' ⟨h1,h2⟩=>⟨h1,hF _ _ h1 h2⟩) h)
  ·rename_i hw
   simp only[hw]at h
   exact⟨hC,hF _ _ hC h⟩
theorem gO(hs:Region.noSelect ops=true)(hQ:∀(c:_) (a:Act) (d:Option Tmp) (v:Value) (w:World),Q (.panic c) (a.put d v) w→Q (.panic c) a w)(k:Nat):∀(t:pE) (listed:Array Bool) (a:Act) (w:World),C w→
  oC t=true→sE md ops t listed=true→n8 P ops C Q t a w→wpAnyH P md ops Q C (k+rO t) listed a w
 |.last is,listed,a,w,hC,_,hB,h=>by
  simp only[sE,zA]at hB;have hr:Region.ready md ops (mC listed is)=[]:=by simpa using hB.2
  refine uW hs hQ k hC is listed a hB.1 ?_;simp only[n8]at h;exact rY (fun a h=>wpAnyH_done hr h k) _ _ h
 |.call is c t,listed,a,w,hC,he,hB,h=>by
  simp only[sE,zA]at hB;obtain⟨⟨hB1,hB2⟩,hB3⟩:=hB;have hr:Region.ready md ops (mC listed is)=[c]:=by simpa using hB2
  simp only[rO];rw[←qD];refine uW hs hQ _ hC is listed a hB1 ?_;simp only[n8]at h;refine rY (fun a' ha=>?_) _ _ h;rw[←qD];refine wpAnyH_all hr zYY fun i hi=>?_;obtain rfl:i=c:=by simpa using hi
  exact fK hC ha fun a'' w'' h1 h2=>gO hs hQ k t _ a'' w'' h1 he hB3 h2
 |.fork is c1 t1 c2 t2,listed,a,w,hC,he,hB,h=>by
  simp only[sE,zA]at hB;obtain⟨⟨⟨hB1,hB2⟩,hB3⟩,hB4⟩:=hB;have hr:Region.ready md ops (mC listed is)=[c1,c2]:=by simpa using hB2
  simp only[oC,zA,qG]at he;obtain⟨⟨e1,e2⟩,e3⟩:=he;simp only[rO];rw[←qD];refine uW hs hQ _ hC is listed a hB1 ?_;simp only[n8]at h;refine rY (fun a' ha=>?_) _ _ h;rw[←qD];refine wpAnyH_all hr zYY fun i hi=>?_;rcases(by simpa using hi:i=c1∨i=c2)with rfl|rfl
  ·exact fK hC ha.1 fun a'' w'' h1 h2=>gO hs hQ k t1 _ a'' w'' h1 e1 hB3 h2
  ·refine fK hC ha.2 fun a'' w'' h1 h2=>?_;rw[e3];exact gO hs hQ k t2 _ a'' w'' h1 e2 hB4 h2
theorem xI{id:Nat}{a:Act}{w:World}{l:List Oper}(t:pE)(hm:P.follows .mixedOrders=true)
  (hB:(Region.noSelect l.toArray&&sE .any l.toArray t (Array.replicate l.toArray.size false)&&oC t&&decide (rO t≤l.toArray.size))=true)
  (hQ:∀(c:_) (a:Act) (d:Option Tmp) (v:Value) (w:World),Q (.panic c) (a.put d v) w→Q (.panic c) a w) (hC:C w.drew)
  (h:∀wd,wd=w.drew→n8 P l.toArray C Q t a wd):(Code.region id l.toArray true).wp P Q a w:=by
 simp only[zA,qG]at hB;obtain⟨⟨⟨hs,hb⟩,he⟩,hle⟩:=hB;refine wp_region_held (S:=C) hm ?_;have:=gO (md:=.any) hs hQ (l.toArray.size-rO t) t (Array.replicate l.toArray.size false) a w.drew hC he hb (h _ rfl);rwa [Nat.sub_add_cancel hle]at this
theorem rA{is:List Nat}{l:List Oper}{a:Act}{w:World}(hl:kO ops is=l)(h:wpQuiet P ops C (fun a'=>Q .normal a' w) l a):n8 P ops C Q (.last is) a w:=by
 subst hl;exact h
theorem rI{is:List Nat}{c:Nat}{t:pE}{l:List Oper}{a:Act}{w:World}(hl:kO ops is=l)(h:wpQuiet P ops C (vO P ops C Q c (fun a w=>n8 P ops C Q t a w) · w) l a):n8 P ops C Q (.call is c t) a w:=by
 subst hl;exact h
theorem rU{is:List Nat}{c1 c2:Nat}{t1 t2:pE}{l:List Oper}{a:Act}{w:World}(hl:kO ops is=l)
  (h:wpQuiet P ops C (fun a=>vO P ops C Q c1 (fun a w=>n8 P ops C Q t1 a w) a w∧vO P ops C Q c2 (fun a w=>n8 P ops C Q t2 a w) a w) l a):n8 P ops C Q (.fork is c1 t1 c2 t2) a w:=by
 subst hl;exact h
theorem m7{c:Nat}{t:pE}{o:Oper}{a:Act}{w:World}(ho:ops[c]?=some o)(hw:Region.wanted o (yielded ops a.tmps)=true)(h:∀K:Act→World→Prop,(∀a w,C w→n8 P ops C Q t a w→K a w)→o.wp P a w K Q):vO P ops C Q c (fun a w=>n8 P ops C Q t a w) a w:=by
 unfold vO;rw[ho];simp only[hw,if_true];exact h _ fun a w hc h=>⟨hc,h⟩
end
end
section
open Go.RowKit Go.ChangeShapes Go.WideShapes Num
def rR(w:World)(A:Option Addr)(L:List Nat):Prop:=L≠[]→∃ad,A=some ad∧ad.block<w.heap.size∧∀j (h:j<L.length),w.cell? (ad.add j)=some (.int .u16 (L[j]:Int))
theorem pW(a:Addr)(n:Nat):(a.add n).block=a.block:=by unfold Addr.add;split<;>rfl
section
variable {w w':World} {A:Option Addr} {L:List Nat}
theorem rR.nil:rR w A []:=fun h=>absurd rfl h
theorem rR.at_(h:rR w A L){k:Nat}(hk:k<L.length):∃ad,A=some ad∧ad.block<w.heap.size∧w.cell? (ad.add k)=some (.int .u16 (L.getD k 0:Int)):=by
 obtain⟨ad,hA,hb,hc⟩:=h zYI;exact⟨ad,hA,hb,by rw[hc k hk];simp[hk]⟩
theorem rR.below(h:rR w A L)(hb:Below w.heap.size w w'):rR w' A L:=fun hne=>by
 obtain⟨ad,hA,hlt,hc⟩:=h hne;exact⟨ad,hA,zF hlt hb.size,fun j hj=>(hb.cell (p:=ad.add j) (by rw[pW];exact hlt)).trans (hc j hj)⟩
end
def nth(L:List Nat)(i:Nat):Nat:=L.getD i 0
theorem nth_le{L:List Nat}(h:∀x∈L,x≤65535)(i:Nat):nth L i≤65535:=by
 unfold nth;rw[qJ];rcases jR i L.length with hi|hi
 ·rw[zP hi];exact h _ (kV hi)
 ·rw[qX hi];simp
section
variable {H:Type} {enc:TypeId×Value→H} {W:World} {r:Reach} {base:Nat}
end
end
end Go.Proofs.YthknmadinmigfaaGreatDoor
