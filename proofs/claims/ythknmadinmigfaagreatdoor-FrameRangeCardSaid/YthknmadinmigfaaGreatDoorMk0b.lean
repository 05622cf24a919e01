/- MemNum, MemBlk, AddrNum, FontAdd, FontCat, FontTab, Mem, MemLog, MemWrite, MemNew, MemBytes, FontRef, Tail, MemPut, MemRef2, Opc, FlaAllow, Put1, PixNum, PopNum, PixMath, PlaneNum, PlaneFwd, PlaneBox, Fork, Words16. -/
import Derived.Test.YthknmadinmigfaaGreatDoorRows
import Derived.Test.YthknmadinmigfaaGreatDoorProg
import Derived.Test.YthknmadinmigfaaGreatDoorMk0a
set_option maxRecDepth 400000
set_option maxHeartbeats 64000000
set_option linter.unusedVariables false
set_option linter.unusedSimpArgs false
namespace Go.Proofs.YthknmadinmigfaaGreatDoor
section
def put(M:List Int)(a:Int):List Int→List Int
 |[]=>M
 |x::b=>put (M.set (a%65536).toNat x) (a+1) b
theorem zKQ(M:List Int)(a:Int):put M a []=M:=rfl
theorem M8(M:List Int)(a x:Int)(b:List Int):put M a (x::b)=put (M.set (a%65536).toNat x) (a+1) b:=rfl
theorem cX(b:List Int):∀(M:List Int) (a:Int),(put M a b).length=M.length:=by
 induction b with
 |nil=>intro M a;rfl
 |cons x b ih=>intro M a;rw[M8,ih,List.length_set]
theorem fI(b:List Int):∀(M:List Int) (a:Int) (hb:b.length≤65536) (hM:M.length=65536) (j:Nat) (hj:j<65536),
  (put M a b)[j]?=if(((j:Int)-a)%65536).toNat<b.length then b[(((j:Int)-a)%65536).toNat]? else M[j]?:=by
 induction b with
 |nil=>intro M a hb hM j hj;simp[zKQ]
 |cons x b ih=>
  intro M a hb hM j hj
  simp only[List.length_cons]at hb⊢
  rw[M8,ih _ _ zLG (by rw[List.length_set];exact hM) j hj]
  by_cases h0:(((j:Int)-a)%65536).toNat=0
  ·have e:(a%65536).toNat=j:=zLG
   rw[zL zLG,zN zLG,h0,e,List.getElem?_set_self zLG]
   rfl
  ·obtain⟨k,hk⟩:∃k,(((j:Int)-a)%65536).toNat=k+1:=⟨_,(Nat.succ_pred h0).symm⟩
   have e1:(((j:Int)-(a+1))%65536).toNat=k:=zLG
   rw[hk,e1,zK,List.getElem?_set_ne zLG]
   by_cases h:k<b.length
   ·rw[zN h,zN zLG]
   ·rw[zL h,zL zLG]
theorem N9{M:List Int}(hM:M.length=65536){j:Nat}(h:¬j<65536):M[j]?=none:=qW zLG
theorem GP{M N:List Int}(hM:M.length=65536)(hN:N.length=65536)(h:∀j,j<65536→M[j]?=N[j]?):M=N:=by
 apply kQ
 intro j
 by_cases hj:j<65536
 ·exact h j hj
 ·rw[N9 hM hj,N9 hN hj]
theorem dJ(M b:List Int)(off:Nat)(hM:M.length=65536)(h:off+b.length≤65536):splice M off b=put M off b:=by
 refine GP (by rw[xA _ _ _ zLG];exact hM) (by rw[cX];exact hM) fun j hj=>?_;rw[xU _ _ _ zLG,fI b M off zLG hM j hj];by_cases h1:j<off
 ·rw[zN h1,zL zLG]
 ·rw[zL h1];by_cases h2:j<off+b.length
  ·rw[zN h2,zN zLG];congr 1
   omega
  ·rw[zL h2,zL zLG]
theorem QP(M b:List Int)(a:Int)(at_ d:Nat)(ha:(a%65536).toNat=at_)(hd:d=min b.length (65536-at_))(hM:M.length=65536)(hb:b.length≤65536):
  splice (splice M at_ (b.take d)) 0 (b.drop d)=put M a b:=by
 have l1:(b.take d).length=d:=by rw[qT];omega
 have l2:(b.drop d).length=b.length-d:=jH;have l3:(splice M at_ (b.take d)).length=65536:=by rw[xA _ _ _ zLG];exact hM
 refine GP (by rw[xA _ _ _ zLG];exact l3) (by rw[cX];exact hM) fun j hj=>?_;rw[xU _ _ _ zLG,xU _ _ _ zLG,fI b M a hb hM j hj,zL zLG,l1,l2];by_cases h1:j<b.length-d
 ·rw[zN zLG,zN zLG,jP];congr 1
  omega
 ·rw[zL zLG];by_cases h2:j<at_
  ·rw[zN h2,zL zLG]
  ·rw[zL h2];by_cases h3:j<at_+d
   ·rw[zN h3,zN zLG,List.getElem?_take,zN zLG];congr 1
    omega
   ·rw[zL h3,zL zLG]
theorem oY(M b:List Int)(a:Int)(k d:Nat)(ha:a%65536=k)(hd:d=min b.length (65536-k))(hM:M.length=65536)(hb:b.length≤65536):
  splice (splice M k (b.take (65536-k))) 0 ((b.drop d).take 65536)=put M a b:=by
 have e1:(b.drop d).take 65536=b.drop d:=qR (by rw[jH];omega);have e2:b.take (65536-k)=b.take d:=by
  by_cases h:b.length≤65536-k
  ·rw[qR h,qR zLG]
  ·have e:d=65536-k:=zLG;rw[e]
 rw[e1,e2];exact QP M b a k d zLG zLG hM hb
def seg(M:List Int)(a:Int)(n:Nat):List Int:=(List.range n).map fun i:Nat=>M.getD ((a+(i:Int))%65536).toNat 0
theorem cQ(M:List Int)(a:Int)(n:Nat):(seg M a n).length=n:=by simp[seg]
theorem wA(M:List Int)(a:Int)(n j:Nat)(hM:M.length=65536)(hj:j<n):(seg M a n)[j]?=M[((a+(j:Int))%65536).toNat]?:=by
 have h:((a+(j:Int))%65536).toNat<M.length:=zLG;simp[seg,hj,h]
theorem MQ(M Z:List Int)(a:Int)(at_ n d:Nat)(ha:(a%65536).toNat=at_)(hd:d=min (65536-at_) n)(hM:M.length=65536)(hn:n≤65536)(hZ:Z.length=n):
  splice (splice Z 0 ((M.drop at_).take d)) d (M.take (n-d))=seg M a n:=by
 have l1:((M.drop at_).take d).length=d:=by rw[qT,jH];omega
 have l2:(M.take (n-d)).length=n-d:=by rw[qT];omega
 have l3:(splice Z 0 ((M.drop at_).take d)).length=n:=by rw[xA _ _ _ zLG];exact hZ
 apply kQ
 intro j
 by_cases hj:j<n
 ·rw[wA M a n j hM hj,xU _ _ _ zLG,xU _ _ _ zLG,l1,l2];by_cases h1:j<d
  ·rw[zN h1,zL zLG,zN zLG,List.getElem?_take,zN zLG,jP];congr 1
   omega
  ·rw[zL h1,zN zLG,List.getElem?_take,zN zLG];congr 1
   omega
 ·rw[qW (by rw[xA _ _ _ zLG];omega),qW zML]
theorem QE(M Z:List Int)(a:Int)(k n d:Nat)(ha:a%65536=k)(hd:d=min (65536-k) n)(hM:M.length=65536)(hn:n≤65536)(hZ:Z.length=n):
  splice (splice Z 0 ((M.drop k).take n)) d (M.take (n-d))=seg M a n:=by
 have e:(M.drop k).take n=(M.drop k).take d:=by
  by_cases h:n≤65536-k
  ·have e:d=n:=zLG;rw[e]
  ·rw[qR (by rw[jH];omega),qR (by rw[jH];omega)]
 rw[e];exact MQ M Z a k n d zLG zLG hM hn hZ
def cR:List Int:=List.replicate 65536 0
theorem cW:cR.length=65536:=List.length_replicate
def uH(rom:List Int):List Int:=put (put (put cR 80 nB) 160 uW) 512 rom
theorem pS(rom:List Int):(uH rom).length=65536:=by unfold uH;rw[cX,cX,cX,cW]
end
section
open Go.RowKit Num
def z6:List Value:=[.int .u8 0,.int .u8 0,.int .u8 0,.int .u8 0,.int .u8 0,.int .u8 0,.int .u8 0,.int .u8 0,.int .u8 0,.int .u8 0,.int .u8 0,.int .u8 0,.int .u8 0,.int .u8 0,.int .u8 0,.int .u8 0,.int .u8 0,.int .u8 0,.int .u8 0,.int .u8 0,.int .u8 0,.int .u8 0,.int .u8 0,.int .u8 0,.int .u8 0,.int .u8 0,.int .u8 0,.int .u8 0,.int .u8 0,.int .u8 0,.int .u8 0,.int .u8 0,.int .u8 0,.int .u8 0,.int .u8 0,.int .u8 0,.int .u8 0,.int .u8 0,.int .u8 0,.int .u8 0,.int .u8 0,.int .u8 0,.int .u8 0,.int .u8 0,.int .u8 0,.int .u8 0,.int .u8 0,.int .u8 0,.int .u8 0,.int .u8 0,.int .u8 0,.int .u8 0,.int .u8 0,.int .u8 0,.int .u8 0,.int .u8 0,.int .u8 0,.int .u8 0,.int .u8 0,.int .u8 0,.int .u8 0,.int .u8 0,.int .u8 0,.int .u8 0]
def z7:List Value:=List.append z6 z6
def z8:List Value:=List.append z7 z7
def z9:List Value:=List.append z8 z8
def z10:List Value:=List.append z9 z9
def z11:List Value:=List.append z10 z10
def z12:List Value:=List.append z11 z11
def z13:List Value:=List.append z12 z12
def z14:List Value:=List.append z13 z13
def z15:List Value:=List.append z14 z14
theorem JY{L:List Value}{n:Nat}(h:L=List.replicate n (.int .u8 0)):List.append L L=List.replicate (n+n) (.int .u8 0):=by subst h;exact List.replicate_append_replicate
theorem zYI:z6=List.replicate 64 (.int .u8 0):=rfl
theorem zYU:z7=List.replicate 128 (.int .u8 0):=JY zYI
theorem zYA:z8=List.replicate 256 (.int .u8 0):=JY zYU
theorem zYC:z9=List.replicate 512 (.int .u8 0):=JY zYA
theorem IT:z10=List.replicate 1024 (.int .u8 0):=JY zYC
theorem IR:z11=List.replicate 2048 (.int .u8 0):=JY IT
theorem IG:z12=List.replicate 4096 (.int .u8 0):=JY IR
theorem IH:z13=List.replicate 8192 (.int .u8 0):=JY IG
theorem IN:z14=List.replicate 16384 (.int .u8 0):=JY IH
theorem z15_eq:z15=List.replicate 32768 (.int .u8 0):=JY IN
def zraw:List Value:=List.append z15 (List.append z14 (List.append z13 (List.append z12 (List.append z11 (List.append z10 (List.append z9 (List.append z8 (List.append z7 (List.append z6 (List.append [.int .u8 0,.int .u8 0,.int .u8 0,.int .u8 0,.int .u8 0,.int .u8 0,.int .u8 0,.int .u8 0,.int .u8 0,.int .u8 0,.int .u8 0,.int .u8 0,.int .u8 0,.int .u8 0,.int .u8 0,.int .u8 0,.int .u8 0,.int .u8 0,.int .u8 0,.int .u8 0,.int .u8 0,.int .u8 0,.int .u8 0,.int .u8 0,.int .u8 0,.int .u8 0,.int .u8 0,.int .u8 0,.int .u8 0,.int .u8 0,.int .u8 0,.int .u8 0] [.int .u8 0,.int .u8 0,.int .u8 0,.int .u8 0,.int .u8 0,.int .u8 0,.int .u8 0,.int .u8 0,.int .u8 0,.int .u8 0,.int .u8 0,.int .u8 0,.int .u8 0,.int .u8 0,.int .u8 0,.int .u8 0,.int .u8 0,.int .u8 0,.int .u8 0,.int .u8 0,.int .u8 0,.int .u8 0,.int .u8 0,.int .u8 0,.int .u8 0,.int .u8 0,.int .u8 0,.int .u8 0,.int .u8 0,.int .u8 0,.int .u8 0,.int .u8 0,.slice none 0 0]))))))))))
theorem yR{n m:Nat}{L R:List Value}(h:L=List.replicate n (.int .u8 0)){S:List Value}(hS:R=List.replicate m (.int .u8 0)++S):List.append L R=List.replicate (n+m) (.int .u8 0)++S:=by
 subst h;subst hS;show List.replicate n (Value.int .u8 0)++(List.replicate m (Value.int .u8 0)++S)=_;rw[←j9,List.replicate_append_replicate]
theorem zJA:zraw=List.replicate 65536 (.int .u8 0)++[.slice none 0 0]:=
 yR z15_eq (yR IN (yR IH (yR IG (yR IR (yR IT (yR zYC (yR zYA (yR zYU (yR zYI (yR (n:=32) (m:=32) rfl rfl))))))))))
def cells(M:List Int)(v:Value):Array Value:=(M.map (Value.int .u8)++[v]).toArray
theorem KO:zraw.toArray=cells cR (.slice none 0 0):=by
 rw[zJA];unfold cells cR;rw[List.map_replicate]
theorem GH:(Tryz.prog.info? 150).map (fun i=>(i.zero,i.size))=some (some (.agg (cells cR (.slice none 0 0))),65537):=by
 rw[←KO];kernel_rfl
theorem zJ0(w:World):(zeroValue 150).run Tryz.prog w=.ok (.agg (cells cR (.slice none 0 0))) w:=(zero_of_info GH).1 w
def mE(p:Nat)(M:List Int)(v:Value)(w:World):Prop:=w.heap[p]?=some (.cells (cells M v) 150 (0,0))
section
variable {p:Nat} {M:List Int} {v:Value} {w w':World}
theorem mE.lt(h:mE p M v w):p<w.heap.size:=(qK.1 h).1
theorem mE.cell(h:mE p M v w)(hM:M.length=65536)(j:Nat)(hj:j<65536):w.cell? ⟨p,j,none⟩=some (.int .u8 (M[j]' zLG)):=by
 rw[jA w p j _ _ _ h];unfold cells;rw[zX,qS zLA,jQ,zP zLG];rfl
theorem mE.log(h:mE p M v w)(hM:M.length=65536):w.cell? ⟨p,65536,none⟩=some v:=by
 rw[jA w p _ _ _ _ h];unfold cells;rw[zX,qP zLA];simp[hM]
theorem mE.frozen(h:mE p M v w)(j:Nat):w.frozen? ⟨p,j,none⟩=false:=frozen_of_row w p j _ _ h
theorem mE.keep(h:mE p M v w)(hk:w'.heap[p]?=w.heap[p]?):mE p M v w':=hk.trans h
theorem mE.new(w:World):mE w.heap.size cR (.slice none 0 0) (w.alloc (.cells (cells cR (.slice none 0 0)) 150)):=jL _ _
theorem mE.setLog(h:mE p M v w)(hM:M.length=65536)(v':Value):mE p M v' (w.setCell ⟨p,65536,none⟩ v'):=by
 unfold mE;rw[setCell_eq_setRow w p _ _ _ _ v' h,setRow_heap w p _ _ _ _ h];congr 2
 unfold cells
 apply Array.ext'
 simp[hM]
end
theorem QC(M b:List Int)(v:Value)(off:Nat)(hM:M.length=65536)(h:off+b.length≤65536):
  (splice (M.map (Value.int .u8)++[v]) off (b.map (Value.int .u8))).toArray=cells (splice M off b) v:=by
 unfold cells splice;congr 1
 have e1:(M.map (Value.int .u8)++[v]).take off=(M.take off).map (Value.int .u8):=by
  rw[List.take_append_of_le_length zLA,List.map_take]
 have e2:(M.map (Value.int .u8)++[v]).drop (off+(b.map (Value.int .u8)).length)=(M.drop (off+b.length)).map (Value.int .u8)++[v]:=by
  rw[List.drop_append_of_le_length zLA,List.map_drop,jS]
 rw[e1,e2];simp
theorem yB{w:World}(ty:TypeId)(p off n c:Nat)(A:Option Addr)(m k d:Nat)(hd:d=min m n)
  (L:List Int) (hL:L.length=m) (hR:Rd w A L) (M:List Int) (v:Value) (hM:M.length=65536) (hp:mE p M v w) (hn:off+n=65536):
  ∃w',(Builtin.copy_ #[22,22] ty #[.slice (some ⟨p,off,none⟩) n c,.slice A m k]).run Tryz.prog w=.ok (.int .i64 (d:Int)) w'∧mE p (splice M off (L.take n)) v w'∧∀g,mA p g w w':=by
 have hll:(L.take n).length≤n:=by rw[qT];omega
 obtain⟨w',h0,h1,h2⟩:=cJ ty p off n c _ (fun _=>rfl) A m k d hd L hL hR (M.map (Value.int .u8)++[v]) 150 hp (by simp[hM];omega);refine⟨w',h0,?_,h2⟩;unfold mE;rw[h1,QC M (L.take n) v off hM zLG]
end
section
namespace Num
open Go.RowKit
theorem YL(x:Int):bits .and .i64 x 65535=x%65536:=by
 have h:(BitVec.ofInt 64 x&&&BitVec.ofInt 64 65535).toNat=(x%18446744073709551616).toNat%65536:=by
  have e:(BitVec.ofInt 64 65535).toNat=2^16-1:=zLD;rw[BitVec.toNat_and,e,Nat.and_two_pow_sub_one_eq_mod,BitVec.toNat_ofInt];rfl
 show IntKind.i64.wrap (((BitVec.ofInt 64 x&&&BitVec.ofInt 64 65535).toNat:Nat):Int)=_;rw[h,qQ];omega
def lst(a:Int)(n:Nat):List Int:=(List.range n).map fun(i:Nat)=>(a+(i:Int))%65536
end Num
end
section
open Go.RowKit Num
theorem add5(X:List Int)(hX:X.length=5)(v:Value)(n:Nat)(M:List Int)(base:Nat)(w:World)
  (hown:w.ownsRow base 5 1 v n (M.map (Value.int .u8))) (hbase:base≤w.heap.size) (hn:n≤1000):
  Calls Tryz.prog 115 #[v,.agg (arr X)] w fun e w'=>∃v',e=.returned v'∧w'.ownsRow base 5 1 v' (n+5) ((M++X).map (Value.int .u8))∧Below base w w':=by
 obtain⟨i0,hi,hz0,hz1,hz2⟩:=kN rU;have hown1:=hown.alloc (.cells (arr X) 188);have hbox:(w.alloc (.cells (arr X) 188)).heap[w.heap.size]?=some (.cells (arr X) 188 (0,0)):=jL _ _;have hb1:Below base w (w.alloc (.cells (arr X) 188)):=(zG _ _).alloc hbase _;go_enter Tryz.func115,Tryz.ntmps115;go_upto_region 1 with fail;refine zB ?_;refine j5 rfl 188 (.tmp 3) rfl w.heap.size rfl 188 (arr X) (0,0) _ hbox Tryz.underlying188 rfl (by rw[iI,hX];kernel_rfl) ?_;generalize w.alloc (Obj.cells (arr X) 188)=w1 at*;clear hown;go_wp2;go_loopw [0,5,8] (fun o i c wr=>∃k:Nat,k≤5∧c=.int .i64 k∧wr.ownsRow base 5 1 o (n+k) ((M++X.take k).map (Value.int .u8))∧Below base w wr∧wr.heap[w.heap.size]?=some (.cells (arr X) 188 (0,0))) (fun _ _ c _=>5-(intOf c).toNat)
 case atStart=>exact⟨0,qO _,rfl,by simpa using hown1,hb1,hbox⟩
 case round=>
  obtain⟨k,hk,rfl,hown,hb,hbox2⟩:=hrel
  have hne:=bE hbox2 zLD hown
  clear hbox hown1 hb1
  by_cases hlt:k<5
  ·have hkX:k<X.length:=zLG
   have hc:wr.cell? ⟨w.heap.size,k,none⟩=some (.int .u8 X[k]):=(jA wr _ k _ _ _ hbox2).trans (aQ X k hkX)
   have ht:=oC hkX
   obtain⟨x,hx⟩:∃x,X[k]=x:=⟨_,rfl⟩
   rw[hx]at hc ht
   clear hx
   go_wp2_with ((at_builtin;refine wpList_append_own _ rfl _ _ 22 rfl base 5 i0 (.int .u8 0) 1 1 Tryz.underlying22 hi hz0 hz1 hz2 rfl zLD _ _ _ rfl (hown.alloc _) ⟨_,0,none⟩ 1 1 [.int .u8 x] rfl rfl (cell_one_new _ _ _) zMG zL0 zLG zL7 ?_;intro v' w2 hown' hgrow _))
   go_roundw
   case rel=>
    refine⟨k+1,by omega,by go_num,?_,(hb.alloc (zR hbase hb.size) _).grown hgrow zL7 fun j ej=>(hown.lt j ej).1,iA _ hbox2 hgrow hne⟩
    rw[ht,←j9,kY]
    simpa [qF]using hown'
   case measure=>simp[intOf];omega
  ·have hkn:k=5:=zLG
   subst hkn
   rw[qR zLG]at hown
   go_wp2
   go_ret
   exact⟨_,rfl,hown,hb⟩
theorem add10(X:List Int)(hX:X.length=10)(v:Value)(n:Nat)(M:List Int)(base:Nat)(w:World)
  (hown:w.ownsRow base 5 1 v n (M.map (Value.int .u8))) (hbase:base≤w.heap.size) (hn:n≤1000):
  Calls Tryz.prog 116 #[v,.agg (arr X)] w fun e w'=>∃v',e=.returned v'∧w'.ownsRow base 5 1 v' (n+10) ((M++X).map (Value.int .u8))∧Below base w w':=by
 obtain⟨i0,hi,hz0,hz1,hz2⟩:=kN rU;have hown1:=hown.alloc (.cells (arr X) 191);have hbox:(w.alloc (.cells (arr X) 191)).heap[w.heap.size]?=some (.cells (arr X) 191 (0,0)):=jL _ _;have hb1:Below base w (w.alloc (.cells (arr X) 191)):=(zG _ _).alloc hbase _;go_enter Tryz.func116,Tryz.ntmps116;go_upto_region 1 with fail;refine zB ?_;refine j5 rfl 191 (.tmp 3) rfl w.heap.size rfl 191 (arr X) (0,0) _ hbox Tryz.underlying191 rfl (by rw[iI,hX];kernel_rfl) ?_;generalize w.alloc (Obj.cells (arr X) 191)=w1 at*;clear hown;go_wp2;go_loopw [0,5,8] (fun o i c wr=>∃k:Nat,k≤10∧c=.int .i64 k∧wr.ownsRow base 5 1 o (n+k) ((M++X.take k).map (Value.int .u8))∧Below base w wr∧wr.heap[w.heap.size]?=some (.cells (arr X) 191 (0,0))) (fun _ _ c _=>10-(intOf c).toNat)
 case atStart=>exact⟨0,qO _,rfl,by simpa using hown1,hb1,hbox⟩
 case round=>
  obtain⟨k,hk,rfl,hown,hb,hbox2⟩:=hrel
  have hne:=bE hbox2 zLD hown
  clear hbox hown1 hb1
  by_cases hlt:k<10
  ·have hkX:k<X.length:=zLG
   have hc:wr.cell? ⟨w.heap.size,k,none⟩=some (.int .u8 X[k]):=(jA wr _ k _ _ _ hbox2).trans (aQ X k hkX)
   have ht:=oC hkX
   obtain⟨x,hx⟩:∃x,X[k]=x:=⟨_,rfl⟩
   rw[hx]at hc ht
   clear hx
   go_wp2_with ((at_builtin;refine wpList_append_own _ rfl _ _ 22 rfl base 5 i0 (.int .u8 0) 1 1 Tryz.underlying22 hi hz0 hz1 hz2 rfl zLD _ _ _ rfl (hown.alloc _) ⟨_,0,none⟩ 1 1 [.int .u8 x] rfl rfl (cell_one_new _ _ _) zMG zL0 zLG zL7 ?_;intro v' w2 hown' hgrow _))
   go_roundw
   case rel=>
    refine⟨k+1,by omega,by go_num,?_,(hb.alloc (zR hbase hb.size) _).grown hgrow zL7 fun j ej=>(hown.lt j ej).1,iA _ hbox2 hgrow hne⟩
    rw[ht,←j9,kY]
    simpa [qF]using hown'
   case measure=>simp[intOf];omega
  ·have hkn:k=10:=zLG
   subst hkn
   rw[qR zLG]at hown
   go_wp2
   go_ret
   exact⟨_,rfl,hown,hb⟩
theorem index5(k:Nat)(h:k<16):∀w:World,(Instr.index 189 (.agg (arr nB)) (.int .i64 k)).run Tryz.prog w=.ok (.agg (arr (t7 k))) w:=by
 exact zNJ
theorem zW4(w:World):Calls Tryz.prog 76 #[.agg (arr nB)] w (gF 5 nB w):=by
 obtain⟨i0,hi,hz0,hz1,hz2⟩:=kN rU;have hbox:(w.alloc (.cells (arr nB) 189)).heap[w.heap.size]?=some (.cells (arr nB) 189 (0,0)):=jL _ _;have hb1:Below w.heap.size w (w.alloc (.cells (arr nB) 189)):=(zG _ _).alloc (zH _) _;go_enter Tryz.func76,Tryz.ntmps76;go_upto_region 2 with fail;refine zB ?_;refine j5 rfl 189 (.tmp 1) rfl w.heap.size rfl 189 (arr nB) (0,0) _ hbox Tryz.underlying189 rfl zLR ?_;generalize w.alloc (Obj.cells (arr nB) 189)=w1 at*;go_wp2;go_loopw [3,7] (fun o c wr=>∃k:Nat,k≤16∧c=.int .i64 k∧wr.ownsRow w.heap.size 5 1 o (5*k) ((nB.take (5*k)).map (Value.int .u8))∧Below w.heap.size w wr) (fun _ c _=>16-(intOf c).toNat)
 case atStart=>exact⟨0,qO _,rfl,kZ _ _ _ _,hb1⟩
 case round=>
  obtain⟨k,hk,rfl,hown,hb⟩:=hrel
  clear hb1 hbox
  by_cases hlt:k<16
  ·have ik:=index5 k hlt
   have ht:=VQ k
   obtain⟨x0,x1,x2,x3,x4,hx⟩:=five (VJ hlt)
   rw[hx]at ik ht
   have ik':∀w:World,(Instr.index 189 (.agg (arr nB)) (.int .i64 k)).run Tryz.prog w=.ok (.agg #[.int .u8 x0,.int .u8 x1,.int .u8 x2,.int .u8 x3,.int .u8 x4]) w:=ik
   clear ik hx
   go_wp2_with fail
   refine(add5 [x0,x1,x2,x3,x4] rfl _ (5*k) (nB.take (5*k)) w.heap.size _ (hown.alloc _) zL7 zLG).mono ?_
   rintro e w' ⟨v',rfl,hown',hb'⟩
   go_wp2
   go_roundw
   case rel=>exact⟨k+1,by omega,by go_num,by rw[ht];exact hown',(hb.alloc hb.size _).trans hb'⟩
   case measure=>simp[intOf];omega
  ·have hkn:k=16:=zLG
   subst hkn
   go_wp2
   go_ret
   rw[qR (by rw[vR];decide)]at hown
   exact⟨_,rfl,by rw[vR];exact hown,hb⟩
theorem zK9(k:Nat)(h:k<16):∀w:World,(Instr.index 192 (.agg (arr uW)) (.int .i64 k)).run Tryz.prog w=.ok (.agg (arr (YV k))) w:=by
 exact zNJ
theorem zZO(w:World):Calls Tryz.prog 77 #[.agg (arr uW)] w (gF 5 uW w):=by
 obtain⟨i0,hi,hz0,hz1,hz2⟩:=kN rU;have hbox:(w.alloc (.cells (arr uW) 192)).heap[w.heap.size]?=some (.cells (arr uW) 192 (0,0)):=jL _ _;have hb1:Below w.heap.size w (w.alloc (.cells (arr uW) 192)):=(zG _ _).alloc (zH _) _;go_enter Tryz.func77,Tryz.ntmps77;go_upto_region 2 with fail;refine zB ?_;refine j5 rfl 192 (.tmp 1) rfl w.heap.size rfl 192 (arr uW) (0,0) _ hbox Tryz.underlying192 rfl zLR ?_;generalize w.alloc (Obj.cells (arr uW) 192)=w1 at*;go_wp2;go_loopw [3,7] (fun o c wr=>∃k:Nat,k≤16∧c=.int .i64 k∧wr.ownsRow w.heap.size 5 1 o (10*k) ((uW.take (10*k)).map (Value.int .u8))∧Below w.heap.size w wr) (fun _ c _=>16-(intOf c).toNat)
 case atStart=>exact⟨0,qO _,rfl,kZ _ _ _ _,hb1⟩
 case round=>
  obtain⟨k,hk,rfl,hown,hb⟩:=hrel
  clear hb1 hbox
  by_cases hlt:k<16
  ·have ik:=zK9 k hlt
   have ht:=zJQ k
   obtain⟨x0,x1,x2,x3,x4,x5,x6,x7,x8,x9,hx⟩:=ten (zJJ hlt)
   rw[hx]at ik ht
   have ik':∀w:World,(Instr.index 192 (.agg (arr uW)) (.int .i64 k)).run Tryz.prog w=.ok (.agg #[.int .u8 x0,.int .u8 x1,.int .u8 x2,.int .u8 x3,.int .u8 x4,.int .u8 x5,.int .u8 x6,.int .u8 x7,.int .u8 x8,.int .u8 x9]) w:=ik
   clear ik hx
   go_wp2_with fail
   refine(add10 [x0,x1,x2,x3,x4,x5,x6,x7,x8,x9] rfl _ (10*k) (uW.take (10*k)) w.heap.size _ (hown.alloc _) zL7 zLG).mono ?_
   rintro e w' ⟨v',rfl,hown',hb'⟩
   go_wp2
   go_roundw
   case rel=>exact⟨k+1,by omega,by go_num,by rw[ht];exact hown',(hb.alloc hb.size _).trans hb'⟩
   case measure=>simp[intOf];omega
  ·have hkn:k=16:=zLG
   subst hkn
   go_wp2
   go_ret
   rw[qR (by rw[xR];decide)]at hown
   exact⟨_,rfl,by rw[xR];exact hown,hb⟩
structure xW(w:World):Prop where
 lt:1<w.heap.size
 big:∀j (h:j<uW.length),w.cell? ⟨1,j,none⟩=some (.int .u8 uW[j])
 small:∀j (h:j<nB.length),w.cell? ⟨0,j,none⟩=some (.int .u8 nB[j])
theorem xW.below{w w':World}{n:Nat}(h:xW w)(hb:Below n w w')(hn:1<n):xW w':=
 ⟨zS h.lt hb.size,fun j hj=>(hb.cell (p:=⟨1,j,none⟩) zLA).trans (h.big j hj),fun j hj=>(hb.cell (p:=⟨0,j,none⟩) zLA).trans (h.small j hj)⟩
theorem xW.step{w w':World}(h:xW w)(hb:Below w.heap.size w w'):xW w':=h.below hb h.lt
theorem eE(g o j:Nat):(⟨g,o,none⟩:Addr).add j=⟨g,o+j,none⟩:=by unfold Addr.add;split<;>simp_all
theorem EJ(w:World)(hL:xW w):Calls Tryz.prog 65 #[] w (gF 5 nB w):=by
 go_enter Tryz.func65,Tryz.ntmps65;go_upto_region 1 with fail;refine zB ?_;refine uQ rfl 189 (.global 0) rfl ⟨0,0,none⟩ rfl nB _ (fun j h=>by rw[eE,qM];exact hL.small j h) Tryz.underlying189 rfl (by rw[vR];kernel_rfl) ?_;go_wp2_with fail;refine(zW4 _).mono ?_;rintro e w' ⟨v,rfl,hown,hb⟩;go_wp2;go_ret;exact⟨_,rfl,hown,hb⟩
theorem zW9(w:World)(hL:xW w):Calls Tryz.prog 66 #[] w (gF 5 uW w):=by
 go_enter Tryz.func66,Tryz.ntmps66;go_upto_region 1 with fail;refine zB ?_;refine uQ rfl 192 (.global 1) rfl ⟨1,0,none⟩ rfl uW _ (fun j h=>by rw[eE,qM];exact hL.big j h) Tryz.underlying192 rfl (by rw[xR];kernel_rfl) ?_;go_wp2_with fail;refine(zZO _).mono ?_;rintro e w' ⟨v,rfl,hown,hb⟩;go_wp2;go_ret;exact⟨_,rfl,hown,hb⟩
theorem rA(n:Int)(k:Nat)(w:World)(h:n%65536=k):Calls Tryz.prog 71 #[.int .i64 n] w fun e w'=>e=.returned (.int .i64 k)∧w'=w:=by
 have hb:=YL n;rw[h]at hb;clear h;go_enter Tryz.func71,Tryz.ntmps71;go_wp2;exact zNM
def Reads(v:Value)(w:World)(e:Ending)(w':World):Prop:=e=.returned v∧∃n,w'=w.drewN n
theorem FK:(Tryz.prog.info? 144).map (fun i=>(i.zero,i.size,i.bytes))=some (some (.agg #[.int .i64 0,.int .i64 0]),2,16):=by kernel_rfl
def zJT(p:Nat)(M:List Int)(base n:Nat)(xs:List Value)(v:Value)(w:World)(e:Ending)(w':World):Prop:=
 e=.returned (.tuple #[])∧∃v',mE p M v' w'∧w'.ownsRow base 144 2 v' n xs∧mA p v.ownBlock w w'∧(v'.ownBlock=v.ownBlock∨∃g,v'.ownBlock=some g∧w.heap.size≤g)
theorem zQW(w:World)(x y:Value)(t:TypeId):∀j u,[x,y][j]?=some u→(w.alloc (.cells #[x,y] t)).cell? ((⟨w.heap.size,0,none⟩:Addr).add j)=some u:=by
 intro j u hj;rw[xJ,jA _ _ _ _ _ _ (jL w _)];simpa using hj
theorem FM{p:Nat}{M:List Int}{v:Value}{w1 w2:World}{base n:Nat}{xs:List Value}{o:Obj}(hp:mE p M v w1)(hv:w1.ownsRow base 144 2 v n xs)(hg:(w1.drew.alloc o).grownBy w2 v.ownBlock):mE p M v w2:=by
 have hlt:=hp.lt;have hne:=rZ hv hp zLD;refine hp.keep ((hg.block p zLA (fun e=>hne e.symm)).trans ?_);exact heap_alloc_old w1.drew _ hlt
theorem BU{p:Nat}{M:List Int}{v:Value}{base n cap gg:Nat}{xs:List Value}{w w1 w2:World}{o:Obj}(hM:M.length=65536)(ha:mA p v.ownBlock w w1)(hs:w1.heap.size=w.heap.size+1)(q:mE p M v w2)
  (hown:w2.ownsRow base 144 2 (.slice (some ⟨gg,0,none⟩) (n+1) cap) (n+1) xs) (hg:(w1.alloc o).drew.grownBy w2 v.ownBlock) (hat:v.ownBlock=some gg∨gg=(w1.alloc o).drew.heap.size):
  zJT p M base (n+1) xs v w (.returned (.tuple #[])) (w2.setCell ⟨p,65536,none⟩ (.slice (some ⟨gg,0,none⟩) (n+1) cap)):=by
 have hne:=rZ hown q zLD;refine⟨rfl,_,q.setLog hM _,rE hown (p:=p) (g:=none) (mA.setCell _ _) hne (fun k hk=>by cases hk),?_,?_⟩
 ·have h1:mA p v.ownBlock w1 (w1.alloc o).drew:=(mA.of_below ((zG _ _).alloc (zH _) _)).drew;exact((ha.trans h1).trans (mA.of_grown hg)).trans (mA.setCell _ _)
 ·rcases hat with h|h
  ·exact .inl h.symm
  ·refine .inr ⟨gg,rfl,?_⟩;rw[h];show w.heap.size≤(w1.alloc o).heap.size;simp;omega
theorem zYB(p:Nat)(M:List Int)(v:Value)(n base:Nat)(xs:List Value)(x y:Int)(w:World)(hM:M.length=65536)(hp:mE p M v w)(hv:w.ownsRow base 144 2 v n xs)(hb:base≤w.heap.size)(hn:n≤1000):
  Calls Tryz.prog 194 #[.pointer (some ⟨p,65536,none⟩),.agg #[.int .i64 x,.int .i64 y]] w (zJT p M base (n+1) (xs++[.int .i64 x,.int .i64 y]) v w):=by
 obtain⟨i0,hi,hz0,hz1,hz2⟩:=kN FK;have hlt:=hp.lt;have cl:(w.alloc (.cells #[.int .i64 x,.int .i64 y] 144)).cell? ⟨p,65536,none⟩=some v:=by
  rw[qE (w:=w) (heap_alloc_old _ _ hlt)];exact hp.log hM
 have clf:(w.alloc (.cells #[.int .i64 x,.int .i64 y] 144)).frozen? ⟨p,65536,none⟩=false:=by
  rw[World.frozen?_of_block (w:=w) (heap_alloc_old _ _ hlt)];exact hp.frozen _
 have c0:(w.alloc (.cells #[.int .i64 x,.int .i64 y] 144)).cell? ⟨w.heap.size,0,none⟩=some (.int .i64 x):=by rw[jA _ _ _ _ _ _ (jL w _)];rfl
 have c1:(w.alloc (.cells #[.int .i64 x,.int .i64 y] 144)).cell? ⟨w.heap.size,1,none⟩=some (.int .i64 y):=by rw[jA _ _ _ _ _ _ (jL w _)];rfl
 have P:=zW (zM hp hv);clear hp hv;go_enter Tryz.func194,Tryz.ntmps194;go_wp2;obtain⟨w1,hw1⟩:∃w1,w1=w.alloc (.cells #[.int .i64 x,.int .i64 y] 144):=⟨_,rfl⟩;rw[←hw1]at cl clf c0 c1⊢;have hp1:mE p M v w1:=P.out.1.keep (by rw[hw1];exact heap_alloc_old _ _ hlt);have hv1:w1.ownsRow base 144 2 v n xs:=by rw[hw1];exact P.out.2.alloc _
 have hs1:w1.heap.size=w.heap.size+1:=by rw[hw1];simp
 have ha1:mA p v.ownBlock w w1:=by rw[hw1];exact mA.of_below ((zG _ _).alloc (zH _) _)
 have Q:=zW (zM hp1 (zM hv1 (zM ha1 hs1)));clear hw1 hp1 hv1 ha1 hs1;have g1:w.heap.size<w1.heap.size:=by have:=Q.out.2.2.2;omega
 have g2:p<w1.heap.size:=zLG;go_region_law ((refine step_append_lies _ zLS _ _ _ zLS base 144 i0 _ 2 16 Tryz.underlying111 hi hz0 hz1 hz2 rfl zLG v n xs zLS (World.ownsRow.alloc (w:=w1.drew) Q.out.2.1 _) ⟨w1.heap.size,0,none⟩ 1 1 [.int .i64 x,.int .i64 y] zLS zLS (zQW w1.drew _ _ _) zMG zLG zL0 zLG zLA _ rfl ?_;intro gg cap w2 hown2 hgrow hat hlt2;have q2:=FM Q.out.1 Q.out.2.1 hgrow;have ql:=q2.log hM;have qf:=q2.frozen 65536;have Q2:=zW (zM q2 (zM hown2 (zM hgrow hat)));clear q2 hown2 hgrow hat))
 all_goals
  go_wp2
  go_end0
  exact BU hM Q.out.2.2.1 Q.out.2.2.2 Q2.out.1 Q2.out.2.1 Q2.out.2.2.1 Q2.out.2.2.2
def Took(p:Nat)(M:List Int)(v:Value)(w:World)(e:Ending)(w':World):Prop:=e=.returned v∧mE p M (.slice none 0 0) w'∧∀g,mA p g w w'
theorem I8(p:Nat)(M:List Int)(A:Option Addr)(n c:Nat)(w:World)(hM:M.length=65536)(hp:mE p M (.slice A n c) w):
  Calls Tryz.prog 58 #[.pointer (some ⟨p,65536,none⟩)] w (Took p M (.slice A n c) w):=by
 have cl:=hp.log hM;have clf:=hp.frozen 65536;have P:=zW (zM hp hM);clear hp hM;go_enter Tryz.func58,Tryz.ntmps58;go_wp2;go_ret;exact⟨rfl,P.out.1.setLog P.out.2 _,fun g=>mA.setCell _ _⟩
theorem F8(p:Nat)(M:List Int)(A:Option Addr)(n c:Nat)(w:World)(hM:M.length=65536)(hp:mE p M (.slice A n c) w):
  Calls Tryz.prog 36 #[.pointer (some ⟨p,0,none⟩)] w (Took p M (.slice A n c) w):=by
 have P:=zW (zM hp hM);clear hp hM;go_enter Tryz.func36,Tryz.ntmps36;go_wp2_with fail;refine(I8 p M A n c _ P.out.2 P.out.1).mono ?_;rintro e w' ⟨rfl,h⟩;go_wp2;go_ret;exact⟨rfl,h⟩
theorem WV:Tryz.prog.arrayLen 146=65536:=by kernel_rfl
theorem eH(p k:Nat)(hk:k<65536)(w:World):(Instr.sliceAt 146 (.pointer (some ⟨p,0,none⟩)) (some (.int .i64 (k:Int))) none none).run Tryz.prog w=.ok (.slice (some ⟨p,k,none⟩) (65536-k) (65536-k)) w:=by
 have h:=run_sliceAt_array_l (P:=Tryz.prog) w 146 ⟨p,0,none⟩ Tryz.underlying146 .i64 k zLG (by rw[WV];omega);rw[h,WV];show Result.ok (slicedAt _ _ _ _ 1) w=_;unfold slicedAt;rw[zL zLA,xJ];simp
theorem G9(p N:Nat)(hN:N=65536)(w:World):(Instr.sliceAt 146 (.pointer (some ⟨p,0,none⟩)) none none none).run Tryz.prog w=.ok (.slice (some ⟨p,0,none⟩) N N) w:=by
 subst hN;have h:=run_sliceAt_array_all (P:=Tryz.prog) w 146 ⟨p,0,none⟩ Tryz.underlying146;rw[h,WV];show Result.ok (slicedAt _ _ _ _ 1) w=_;unfold slicedAt;rw[zL zLG,xJ]
theorem DQ(p:Nat)(M:List Int)(v:Value)(n base:Nat)(xs:List Value)(a:Int)(k:Nat)(A:Option Addr)(m c:Nat)(L:List Int)(w:World)(hM:M.length=65536)(hp:mE p M v w)
  (hv:w.ownsRow base 144 2 v n xs) (hb:base≤w.heap.size) (hn:n≤1000) (hk:a%65536=k) (hL:L.length=m) (m0:0<m) (m1:m≤65536) (hmc:m≤c) (hR:Rd w A L) (hA:∀ad,A=some ad→ad.block≠p):
  Calls Tryz.prog 165 #[.pointer (some ⟨p,0,none⟩),.int .i64 a,.slice A m c] w (zJT p (put M a L) base (n+1) (xs++[.int .i64 k,.int .i64 m]) v w):=by
 have k0:0≤(k:Int):=zLG;have k1:(k:Int)<65536:=zLG;have k2:k<65536:=zLG;have ks:=eH p k k2;have k3:((m:Int)==0)=false:=by simp;omega
 have H:=zW (zM hk (zM hL (zM hM (zM hp (zM hv (zM hR hA))))));clear hk hL hM hp hv hR hA;go_enter Tryz.func165,Tryz.ntmps165;go_wp2_with fail;refine(rA _ _ _ H.out.1).mono ?_;rintro e w0 ⟨rfl,h⟩;subst h;go_wp2_with fail;obtain⟨d,hd⟩:∃d,d=min m (65536-k):=⟨_,rfl⟩;obtain⟨w1,hrun,hp1,ha1⟩:=yB 3 p k (65536-k) (65536-k) A m c d hd L H.out.2.1 H.out.2.2.2.2.2.1 M v H.out.2.2.1 H.out.2.2.2.1 zLG;have D:=zW hd;have d0:0≤(d:Int):=zLG;have d1:(d:Int)≤(m:Int):=zLG;have d2:(d:Int)≤(c:Int):=zLG;have P1:=zW (zM hp1 ha1);clear hd hp1 ha1;rw[hrun];clear hrun ks;go_wp2_with fail;obtain⟨N,hN⟩:∃N,N=65536:=⟨_,rfl⟩;have kl:=G9 p N hN;have HN:=zW hN;clear hN;refine mX (C:=fun w'=>∃x:xD,w'=x.w) [([0,1,2,3,4,5,6],7)] [] zLR zLR (fun _ _ d _ _ h=>by cases d<;>exact h) (xD.any _) ?_;intro wd hwd;have P2:mE p (splice M k (L.take (65536-k))) v wd∧∀g,mA p g w0 wd:=by rw[hwd];exact⟨P1.out.1,fun g=>(P1.out.2 g).drew⟩
 have PD:=zW P2;clear hwd P2 P1;refine mV zLT zLS ?_;repeat(go_big_quiet_step (fail))
 refine zY ?_;refine lU zLS ?_;intro K hK;have hl1:(splice M k (L.take (65536-k))).length=65536:=by
  have h1:=H.out.2.1;have h2:=H.out.2.2.1;rw[xA _ _ _ (by rw[qT];omega)];exact h2
 have R1:Rd wd A L:=H.out.2.2.2.2.2.1.keep ((PD.out.2 none).size) fun ad e hlt=>(PD.out.2 none).block ad.block hlt (H.out.2.2.2.2.2.2 ad e) zLP;obtain⟨w2,hrun,hp2,ha2⟩:=yB 3 p 0 N N (if c=d then A else A.map (·.add d)) (m-d) (c-d) (m-d) (by have:=HN.out;omega) (L.drop d) (by rw[jH,H.out.2.1]) (R1.cut (by rw[H.out.2.1];exact hmc)) _ v hl1 PD.out.1 (by have:=HN.out;omega);refine vB (.tmp 27) (.tmp 30) rfl 3 rfl _ _ _ zLS zLS hrun 31 zLS ?_;simp only[zQ,zZ,zJ];refine hK _ _ (xD.any _) ?_;clear hK K hrun;generalize Value.slice (if c=d then A else A.map (·.add d)) (m-d) (c-d)=V1;generalize Value.int .i64 ((m-d:Nat):Int)=V2;refine nP zLT ?_;repeat(go_big_quiet_step (fail))
 refine zY ?_;have e2:splice (splice M k (L.take (65536-k))) 0 ((L.drop d).take N)=put M a L:=by
  rw[HN.out];have h1:=H.out.2.1;have h4:=D.out;exact oY M L a k d H.out.1 zLG H.out.2.2.1 zLG
 rw[e2]at hp2;have a02:∀g,mA p g w0 w2:=fun g=>(PD.out.2 g).trans (ha2 g);have P2:=zW (zM hp2 a02);clear e2 hl1 hp2 ha2 kl a02 R1;go_wp2_with fail;have hv2:w2.ownsRow base 144 2 v n xs:=rE (g:=none) H.out.2.2.2.2.1 (P2.out.2 none) (rZ H.out.2.2.2.2.1 H.out.2.2.2.1 zLD) (fun k hk=>by cases hk);refine(zYB p (put M a L) v n base xs k m w2 (by rw[cX];exact H.out.2.2.1) P2.out.1 hv2 (zR hb (P2.out.2 none).size) hn).mono ?_;rintro e w3 ⟨rfl,h⟩;have H3:=zW h;clear h;go_wp2;go_end0
 obtain⟨v',h1,h2,h3,h4⟩:=H3.out;refine⟨rfl,v',h1,h2,(P2.out.2 _).trans h3,h4.imp id ?_⟩;rintro⟨g,e,h⟩;exact⟨g,e,zR (P2.out.2 none).size h⟩
def Made(L:List Int)(w:World)(e:Ending)(w':World):Prop:=
 ∃p,e=.returned (.tuple #[.pointer (some ⟨p,0,none⟩),.int .i64 0])∧w.heap.size≤p∧mE p (uH L) (.slice none 0 0) w'∧Below w.heap.size w w'
theorem gF.slice{ty:TypeId}{L:List Int}{w w':World}{e:Ending}{n:Nat}(h:gF ty L w e w')(hn:L.length=n)(h0:0<n):
  ∃g c,e=.returned (.slice (some ⟨g,0,none⟩) n c)∧n≤c∧w.heap.size≤g∧Rd w' (some ⟨g,0,none⟩) L∧Below w.heap.size w w':=by
 obtain⟨v,rfl,hown,hb⟩:=h;rw[hn]at hown;obtain⟨g,c,rfl,hg,hlt⟩:=hown.form h0;refine⟨g,c,rfl,?_,hg,JG hown,hb⟩;rcases hown.2 with⟨h1,_⟩|⟨g',c',cur,h1,_,_,hc,_⟩
 ·cases h1
 ·injection h1 with _ _ h2
  omega
theorem new_no(A:Option Addr)(n c:Nat)(w:World)(hn:65024<n):
  Calls Tryz.prog 46 #[.slice A n c] w fun e w'=>e=.returned (.tuple #[.pointer none,.int .i64 7])∧w=w':=by
 have k1:(65024:Int)<(n:Int):=zLG;go_enter Tryz.func46,Tryz.ntmps46;go_wp2;go_ret2;exact⟨rfl,rfl⟩
theorem zKI(A:Option Addr)(n c:Nat)(L:List Int)(w:World)(hn:n≤65024)(hL:L.length=n)(hR:Rd w A L)(hF:xW w):
  Calls Tryz.prog 46 #[.slice A n c] w (Made L w):=by
 have k1:¬(65024:Int)<(n:Int):=zLG;have hz:=zJ0;have H:=zW (zM hL (zM hR hF));clear hL hR hF;go_enter Tryz.func46,Tryz.ntmps46;go_wp2_with fail;clear hz;have B1:Below w.heap.size w (w.alloc (.cells (cells cR (.slice none 0 0)) 150)):=(zG _ _).alloc (zH _) _;have M1:=mE.new w;obtain⟨p,hp⟩:∃p,p=w.heap.size:=⟨_,rfl⟩;generalize w.alloc (.cells (cells cR (.slice none 0 0)) 150)=w1 at*;rw[←hp]at M1⊢;have P1:=zW (zM B1 (zM M1 hp));clear B1 M1 hp;have c80:∀w,(Instr.sliceAt 146 (.pointer (some ⟨p,0,none⟩)) (some (.int .i64 80)) none none).run Tryz.prog w=.ok (.slice (some ⟨p,80,none⟩) 65456 65456) w:=eH p 80 zLG;have c160:∀w,(Instr.sliceAt 146 (.pointer (some ⟨p,0,none⟩)) (some (.int .i64 160)) none none).run Tryz.prog w=.ok (.slice (some ⟨p,160,none⟩) 65376 65376) w:=eH p 160 zLG;have c512:∀w,(Instr.sliceAt 146 (.pointer (some ⟨p,0,none⟩)) (some (.int .i64 512)) none none).run Tryz.prog w=.ok (.slice (some ⟨p,512,none⟩) 65024 65024) w:=eH p 512 zLG;refine mX (C:=fun w'=>∃x:xD,w'=x.w) [([0,1,2,3],4),([],5)] [] zLR zLR (fun _ _ d _ _ h=>by cases d<;>exact h) (xD.any _) ?_;intro wd hwd;have P2:Below w.heap.size w wd∧mE p cR (.slice none 0 0) wd∧p=w.heap.size:=by rw[hwd];exact⟨P1.out.1.drew,P1.out.2⟩
 have PD:=zW P2;clear hwd P2 P1;refine mV zLT zLS ?_;repeat(go_big_quiet_step (fail))
 refine zY ?_;refine lU zLS ?_;intro K hK;go_wp2_with fail;refine(EJ _ (H.out.2.2.step PD.out.1)).mono ?_;rintro e w2 h;obtain⟨g,c2,rfl,_,_,R2,b2⟩:=h.slice vR zLG;have P2:Below w.heap.size w w2∧mE p cR (.slice none 0 0) w2∧p=w.heap.size:=⟨PD.out.1.trans (b2.mono PD.out.1.size),PD.out.2.1.keep (b2.block p PD.out.2.1.lt),PD.out.2.2⟩;obtain⟨v2,hrun,hm2,ha2⟩:=yB 3 p 80 65456 65456 (some ⟨g,0,none⟩) 80 c2 80 zLG nB vR R2 cR (.slice none 0 0) (by exact cW) P2.2.1 zLG;rw[qR (by rw[vR];omega),dJ _ _ _ (by exact cW) (by rw[vR];omega)]at hm2;have Q2:=zW (zM (P2.1.trans ((ha2 none).below P2.1.size (by have:=P2.2.2;omega) (fun k hk=>by cases hk))) (zM hm2 P2.2.2));clear h PD R2 b2 P2 hm2 ha2;simp only[];refine hK _ _ (xD.any _) ?_;clear hK K;refine mV zLT zLS ?_;refine zY ?_;refine lU zLS ?_;intro K hK;refine vB (.tmp 12) (.tmp 13) rfl 3 rfl _ _ _ zLS zLS hrun 14 zLS ?_;simp only[zQ,zZ,zJ];refine hK _ _ (xD.any _) ?_;clear hK K hrun;refine nP zLT ?_;refine zY ?_;clear c80;go_wp2_with fail;refine mX (C:=fun w'=>∃x:xD,w'=x.w) [([0,1,2,3],4),([],5)] [] zLR zLR (fun _ _ d _ _ h=>by cases d<;>exact h) (xD.any _) ?_;intro wd hwd;have P2:Below w.heap.size w wd∧mE p (put cR 80 nB) (.slice none 0 0) wd∧p=w.heap.size:=by rw[hwd];exact⟨Q2.out.1.drew,Q2.out.2⟩
 have PD:=zW P2;clear hwd P2 Q2;refine mV zLT zLS ?_;repeat(go_big_quiet_step (fail))
 refine zY ?_;refine lU zLS ?_;intro K hK;go_wp2_with fail;refine(zW9 _ (H.out.2.2.step PD.out.1)).mono ?_;rintro e w3 h;obtain⟨g,c3,rfl,_,_,R3,b3⟩:=h.slice xR zLG;have P3:Below w.heap.size w w3∧mE p (put cR 80 nB) (.slice none 0 0) w3∧p=w.heap.size:=⟨PD.out.1.trans (b3.mono PD.out.1.size),PD.out.2.1.keep (b3.block p PD.out.2.1.lt),PD.out.2.2⟩;obtain⟨v3,hrun,hm3,ha3⟩:=yB 3 p 160 65376 65376 (some ⟨g,0,none⟩) 160 c3 160 zLG uW xR R3 (put cR 80 nB) (.slice none 0 0) (by rw[cX];exact cW) P3.2.1 zLG;rw[qR (by rw[xR];omega),dJ _ _ _ (by rw[cX];exact cW) (by rw[xR];omega)]at hm3;have Q3:=zW (zM (P3.1.trans ((ha3 none).below P3.1.size (by have:=P3.2.2;omega) (fun k hk=>by cases hk))) (zM hm3 P3.2.2));clear h PD R3 b3 P3 hm3 ha3;simp only[];refine hK _ _ (xD.any _) ?_;clear hK K;refine mV zLT zLS ?_;refine zY ?_;refine lU zLS ?_;intro K hK;refine vB (.tmp 18) (.tmp 19) rfl 3 rfl _ _ _ zLS zLS hrun 20 zLS ?_;simp only[zQ,zZ,zJ];refine hK _ _ (xD.any _) ?_;clear hK K hrun;refine nP zLT ?_;refine zY ?_;clear c160;go_wp2_with fail;have R3:Rd v3 A L:=H.out.2.1.below Q3.out.1;obtain⟨w4,hrun,hm4,ha4⟩:=yB 3 p 512 65024 65024 A n c n zLG L H.out.1 R3 (put (put cR 80 nB) 160 uW) (.slice none 0 0) (by rw[cX,cX];exact cW) Q3.out.2.1 zLG;rw[qR (by rw[H.out.1];omega),dJ _ _ _ (by rw[cX,cX];exact cW) (by rw[H.out.1];omega)]at hm4;have Q4:=zW (zM (Q3.out.1.trans ((ha4 none).below Q3.out.1.size (by have:=Q3.out.2.2;omega) (fun k hk=>by cases hk))) (zM hm4 Q3.out.2.2));clear R3 hm4 ha4 Q3 c512;rw[hrun];clear hrun;go_wp2;go_ret2;exact⟨p,rfl,by have:=Q4.out.2.2;omega,Q4.out.2.1,Q4.out.1⟩
def Gave(n:Nat)(L:List Int)(w:World)(e:Ending)(w':World):Prop:=
 ∃g,e=.returned (.slice (some ⟨g,0,none⟩) n n)∧w.heap.size≤g∧Rd w' (some ⟨g,0,none⟩) L∧Below w.heap.size w w'
theorem Z7(p:Nat)(M:List Int)(v:Value)(a:Int)(k n:Nat)(w:World)(hM:M.length=65536)(hp:mE p M v w)(hk:a%65536=k)(hn:n≤65536):
  Calls Tryz.prog 68 #[.pointer (some ⟨p,0,none⟩),.int .i64 a,.int .i64 (n:Int)] w (Gave n (seg M a n) w):=by
 have m1:max (n:Int) 0=n:=zLG;have m2:min (n:Int) 65536=n:=zLG;have mk:=WJ n n rfl zLG;have H:=zW (zM hM (zM hp hk));clear hM hp hk;go_enter Tryz.func68,Tryz.ntmps68;go_wp2_with fail;clear mk m1 m2;have B1:Below w.heap.size w (w.alloc (.cells (arr (List.replicate n 0)) 5)):=(zG _ _).alloc (zH _) _;have G1:(w.alloc (.cells (arr (List.replicate n 0)) 5)).heap[w.heap.size]?=some (.cells (arr (List.replicate n 0)) 5 (0,0)):=jL _ _;obtain⟨g,hg⟩:∃g,g=w.heap.size:=⟨_,rfl⟩;generalize w.alloc (.cells (arr (List.replicate n 0)) 5)=w1 at*;rw[←hg]at G1⊢;have P1:=zW (zM B1 (zM G1 hg));clear B1 G1 hg;have k2:k<65536:=by have:=H.out.2.2;omega
 have c1:=eH p k k2;obtain⟨N,hN⟩:∃N,N=65536:=⟨_,rfl⟩;have c2:=G9 p N hN;obtain⟨d,hd⟩:∃d,d=min (65536-k) n:=⟨_,rfl⟩;obtain⟨D,hD⟩:∃D,D=if n=d then some (⟨g,0,none⟩:Addr)else some ⟨g,d,none⟩:=⟨_,rfl⟩;have c3:=zW1 g n d zLG D hD;have HD:=zW (zM hN (zM hd hD));clear hN hd hD;refine mX (C:=fun w'=>∃x:xD,w'=x.w) [([0,1,2,3,4],5),([6],7)] [8] zLR zLR (fun _ _ d _ _ h=>by cases d<;>exact h) (xD.any _) ?_;intro wd hwd;have P2:Below w.heap.size w wd∧wd.heap[g]?=some (.cells (arr (List.replicate n 0)) 5 (0,0))∧g=w.heap.size:=by rw[hwd];exact⟨P1.out.1.drew,P1.out.2⟩
 have PD:=zW P2;clear hwd P2 P1;refine mV zLT zLS ?_;repeat(go_big_quiet_step (fail))
 refine zY ?_;refine lU zLS ?_;intro K hK;go_wp2_with fail;refine(rA _ k _ H.out.2.2).mono ?_;rintro e w' ⟨rfl,h⟩;replace h:=h.symm;subst h;simp only[];refine hK _ _ (xD.any _) ?_;clear hK K;refine mV zLT zLS ?_;repeat(go_big_quiet_step (fail))
 refine zY ?_;refine lU zLS ?_;intro K hK;have mp:mE p M v wd:=H.out.2.1.keep (PD.out.1.block p H.out.2.1.lt);have R1:Rd wd (some ⟨p,k,none⟩) (M.drop k):=fun _=>⟨_,rfl,mp.lt,fun j hj=>by
  have hM:=H.out.1;rw[jH]at hj;rw[xJ,mp.cell hM (k+j) zLG,List.getElem_drop]⟩
 obtain⟨w2,hrun,hg2,ha2⟩:=t9 3 g 0 n n (some ⟨g,0,none⟩) (fun _=>rfl) (some ⟨p,k,none⟩) (65536-k) (65536-k) d HD.out.2.1 (M.drop k) (by rw[jH,H.out.1]) R1 (List.replicate n 0) 5 PD.out.2.1 zLP;refine vB (.tmp 15) (.tmp 21) rfl 3 rfl _ _ _ zLS zLS hrun 22 zLS ?_;simp only[zQ,zZ,zJ];refine hK _ _ (xD.any _) ?_;have Q2:=zW (zM (PD.out.1.trans ((ha2 none).below PD.out.1.size (by have:=PD.out.2.2;omega) (fun k hk=>by cases hk))) (zM hg2 PD.out.2.2));clear hK K hrun hg2 ha2 mp R1 PD c1;refine nP zLT ?_;repeat(go_big_quiet_step (fail))
 refine zY ?_;go_wp2_with fail;refine mX (C:=fun w'=>∃x:xD,w'=x.w) [([0,1,2,3,4,5,6],7)] [] zLR zLR (fun _ _ d _ _ h=>by cases d<;>exact h) (xD.any _) ?_;intro wd hwd;have P2:Below w.heap.size w wd∧wd.heap[g]?=some (.cells (arr (splice (List.replicate n 0) 0 ((M.drop k).take n))) 5 (0,0))∧g=w.heap.size:=by rw[hwd];exact⟨Q2.out.1.drew,Q2.out.2⟩
 have PD:=zW P2;clear hwd P2 Q2;refine mV zLT zLS ?_;repeat(go_big_quiet_step (fail))
 refine zY ?_;refine lU zLS ?_;intro K hK;have mp:mE p M v wd:=H.out.2.1.keep (PD.out.1.block p H.out.2.1.lt);have R1:Rd wd (some ⟨p,0,none⟩) M:=fun _=>⟨_,rfl,mp.lt,fun j hj=>by
  have hM:=H.out.1;rw[xJ,qM,mp.cell hM j zLG]⟩
 have hl2:(splice (List.replicate n (0:Int)) 0 ((M.drop k).take n)).length=n:=by
  rw[xA _ _ _ (by rw[qT,List.length_replicate];omega),List.length_replicate]
 have hdn:d≤n:=by have:=HD.out.2.1;omega
 obtain⟨w3,hrun,hg3,ha3⟩:=t9 3 g d (n-d) (n-d) D (fun h=>by rw[HD.out.2.2,zL zLG]) (some ⟨p,0,none⟩) N N (n-d) (by have:=HD.out.1;omega) M (by rw[HD.out.1];exact H.out.1) R1 _ 5 PD.out.2.1 (by rw[hl2];omega);refine vB (.tmp 25) (.tmp 29) rfl 3 rfl _ _ _ zLS zLS hrun 30 zLS ?_;simp only[zQ,zZ,zJ];refine hK _ _ (xD.any _) ?_;rw[QE M (List.replicate n 0) a k n d H.out.2.2 HD.out.2.1 H.out.1 hn List.length_replicate]at hg3;have Q3:=zW (zM (PD.out.1.trans ((ha3 none).below PD.out.1.size (by have:=PD.out.2.2;omega) (fun k hk=>by cases hk))) (zM hg3 PD.out.2.2));clear hK K hrun hg3 ha3 mp R1 PD hl2 c2 c3;refine nP zLT ?_;refine zY ?_;go_wp2;go_ret;refine⟨g,rfl,by have:=Q3.out.2.2;omega,?_,Q3.out.1⟩;intro _;have hg:=Q3.out.2.1;refine⟨_,rfl,(qK.1 hg).1,fun j hj=>?_⟩;rw[xJ,qM,jA _ _ _ _ _ _ hg];exact aQ _ j hj

end
section
open Go.RowKit
theorem wC{P:Program}{id:Nat}{Q:Exit→Act→World→Prop}{a:Act}{w:World}{l:List Oper}(n:Nat)(hm:P.follows .mixedOrders=true)(hB:Region.lexTailB .any l.toArray n=true)
  (h:∀wd,wd=w.drew→wpStill P l.toArray wd (fun a'=>wpList P l.toArray Q (l.drop n) a' wd) (l.take n) a):(Code.region id l.toArray true).wp P Q a w:=
 wp_region_still_tail n hm hB (h w.drew rfl)
end
section
open Go.RowKit Num

theorem gF.bytes{L:List Int}{w w':World}{e:Ending}{n:Nat}(h:gF 5 L w e w')(hn:L.length=n)(h0:0<n):
  ∃g c,e=.returned (.slice (some ⟨g,0,none⟩) n c)∧w.heap.size≤g∧g<w'.heap.size∧w'.ownsRow w.heap.size 5 1 (.slice (some ⟨g,0,none⟩) n c) n (L.map (Value.int .u8))∧Below w.heap.size w w':=by
 obtain⟨v,rfl,hown,hb⟩:=h;rw[hn]at hown;obtain⟨g,c,rfl,hg,hlt⟩:=hown.form h0;exact⟨g,c,rfl,hg,hlt,hown,hb⟩
theorem iJ(h l:Int)(w:World)(h0:0≤h)(h1:h≤255)(l0:0≤l)(l1:l≤255):
  Calls Tryz.prog 80 #[.int .u8 h,.int .u8 l] w fun e w'=>e=.returned (.int .i64 (h*256+l))∧w=w':=by
 go_enter Tryz.func80,Tryz.ntmps80;go_wp2;go_ret;exact⟨uM (or256 h l h0 h1 l0 l1),rfl⟩
theorem EQ(h l:Int)(w:World)(h0:0≤h)(h1:h≤255)(l0:0≤l)(l1:l≤255):
  Calls Tryz.prog 78 #[.int .u8 h,.int .u8 l] w fun e w'=>
   e=.returned (.agg #[.int .i64 (h/16),.int .i64 (h%16),.int .i64 (l/16),.int .i64 (l%16),.int .i64 l,.int .i64 (h%16*256+l)])∧Below w.heap.size w w':=by
 go_enter Tryz.func78,Tryz.ntmps78;go_wp2_with (go_at_call 80;refine(iJ _ _ _ h0 h1 l0 l1).mono ?_;rintro e w' ⟨rfl,rfl⟩);go_returns;refine⟨?_,by go_grown⟩;rw[zJV _ zLG zLG,zJV _ zLG zLG,zJV _ zLG zLG,and255 _ zLG zLG,zYV _ zLG zLG];exact U6 zLG zLG zLG zLG zLG zLG
end
section
open Go.RowKit Num Go.Maps
theorem cH{H:Type}{P:Program}(w:World){ops:Array Oper}{rest:List Oper}{o:Oper}{a:Act}{Q:Exit→Act→World→Prop}
  (hg:o.guard=none) (m x v:Operand) (t:TypeId) (hop:o.op=Op.insert t m x v)
  (k e:TypeId) (K:Keyed P k) (ht:P.underlying t=some (.map k e)) (R:Value→Option (DataW H×List MemPlace)) (b n:Nat) (D:DataW H)
  (hm:a.eval m=.map (some b)) (hown:w.ownsMap P k R b n D) (hn:n<maxLen) (key val:Value) (kl:Lit) (hx:a.eval x=key) (hv:a.eval v=val) (hkey:keyOf P k key=some kl)
  (d:DataW H) (ps:List MemPlace) (hval:R val=some (d,ps))
  (hK:∀w',w'.ownsMap P k R b (n+1) (D.put kl d)→w.grownBy w' (some b)→wpList P ops Q rest (a.put o.dst undef) w'):
  wpList P ops Q (o::rest) a w:=by
 refine qH hg fun K' hK'=>?_;obtain⟨w',hrun,r1,r2⟩:=hown.update K ht hn hkey hval;unfold Oper.wp;simp[execOp,hop,hm,hx,hv,hrun,Result.andThen];exact hK' _ _ (hK w' r1 r2)
def i5(l x:Int):Bool:=decide ((l=2∧0≤x∧x≤7)∨(l=3∧0≤x∧x≤15))
theorem yE:Keyed Tryz.prog 3:=int_keyed Tryz.underlying3
theorem uI(l:Int)(h:(Lit.int .i64 l).wf=true):keyOf Tryz.prog 3 (.int .i64 l)=some (.int .i64 l):=keyOf_int_mk Tryz.underlying3 h
theorem zJ1(w:World):(zeroValue 3).run Tryz.prog w=.ok (.int .i64 0) w:=by kernel_rfl
def sY:DataW Unit:=((DataW.map []).put (.int .i64 2) (.lit (.int .i64 7))).put (.int .i64 3) (.lit (.int .i64 15))
theorem GN(l:Int):WideAt.IsKeyLit (.int .i64 l):=by first|trivial|simp[WideAt.IsKeyLit]
theorem JE:IsMap (DataW.map []:DataW Unit):=⟨_,rfl⟩
theorem PI(l:Int):has sY (.int .i64 l)=(decide (l=2)||decide (l=3)):=by
 unfold sY;by_cases h3:l=3
 ·subst h3;rw[has_put_same (JE.put _ _) (GN 3)];rfl
 ·rw[has_put_other (by intro c;injection c with _ c;exact h3 c),zO h3,Bool.or_false];by_cases h2:l=2
  ·subst h2;rw[has_put_same JE (GN 2)];rfl
  ·rw[has_put_other (by intro c;injection c with _ c;exact h2 c),zO h2];rfl
theorem zQA(l:Int)(z:DataW Unit):sY.atKey (.int .i64 l) z=if l=3 then .lit (.int .i64 15)else if l=2 then .lit (.int .i64 7)else z:=by
 unfold sY;by_cases h3:l=3
 ·subst h3;rw[zN rfl,atKey_put_same (JE.put _ _) (GN 3)]
 ·rw[zL h3,atKey_put_other (by intro c;injection c with _ c;exact h3 c)];by_cases h2:l=2
  ·subst h2;rw[zN rfl,atKey_put_same JE (GN 2)]
  ·rw[zL h2,atKey_put_other (by intro c;injection c with _ c;exact h2 c)];rfl
theorem JA(w:World):Calls Tryz.prog 157 #[] w fun e w'=>∃b,e=.returned (.map (some b))∧w'.ownsMap Tryz.prog 3 (plainElem Tryz.prog 3) b 2 sY∧Below w.heap.size w w':=by
 have hmm:= @run_makeMap Tryz.prog;go_enter Tryz.func157,Tryz.ntmps157;go_upto_region 1 with fail;refine zB ?_;iterate 3 go_step
 have B0:=zW ((zG w.heap.size w).alloc (zH _) (.map #[] 0));refine cH (H:=Unit) _ rfl (.tmp 1) (.const (.int .i64 2)) (.const (.int .i64 7)) 240 rfl 3 3 yE Tryz.underlying240 (plainElem Tryz.prog 3) w.heap.size 0 (.map []) rfl (World.ownsMap_made w _ _ _) zL0 _ _ (.int .i64 2) rfl rfl (uI 2 zLD) (.lit (.int .i64 7)) [] (plainElem_int Tryz.underlying3 zLD) ?_;intro w1 o1 g1;have B1:=zW (B0.out.grown g1 B0.out.size (fun j hj=>by cases hj;exact zH _));have O1:=zW o1;clear o1 g1 B0 hmm;simp only[Act.put];refine cH _ rfl (.tmp 1) (.const (.int .i64 3)) (.const (.int .i64 15)) 240 rfl 3 3 yE Tryz.underlying240 (plainElem Tryz.prog 3) w.heap.size 1 _ rfl O1.out zL0 _ _ (.int .i64 3) rfl rfl (uI 3 zLD) (.lit (.int .i64 15)) [] (plainElem_int Tryz.underlying3 zLD) ?_;intro w2 o2 g2;have Z:=zW (zM o2 (B1.out.grown g2 B1.out.size (fun j hj=>by cases hj;exact zH _)));clear o2 g2 O1 B1;simp only[Act.put];go_wp2_with fail;go_ret;exact⟨_,rfl,Z.out.1,Z.out.2⟩
theorem pI(l x:Int)(w:World)(hl:(Lit.int .i64 l).wf=true):Calls Tryz.prog 118 #[.int .i64 l,.int .i64 x] w fun e w'=>e=.returned (.bool (i5 l x))∧Below w.heap.size w w':=by
 have hk:=zW (uI l hl);clear hl;go_enter Tryz.func118,Tryz.ntmps118;go_wp2_with fail;refine(JA _).mono ?_;rintro e w1 ⟨b,rfl,ho,hb⟩;have O:=zW (zM ho hb);clear ho hb;simp only[];go_at_K
 iterate 4 go_step
 refine wpList_lookup_own_ok_int _ rfl (.tmp 8) (.tmp 9) 240 rfl 3 3 .i64 yE Tryz.underlying240 Tryz.underlying3 (zJ1 _) b 2 sY rfl O.out.1 _ _ rfl hk.out ?_;intro c hat _;rw[PI];rw[zQA]at hat;have F:i5 l x=((decide (l=2)||decide (l=3))&&(decide (0≤x)&&decide (x≤c))):=by
  unfold i5;by_cases h3:l=3
  ·rw[zN h3]at hat;injection hat with hat
   injection hat with _ hat
   subst hat h3;simp[Bool.decide_and]
  ·rw[zL h3]at hat;by_cases h2:l=2
   ·rw[zN h2]at hat;injection hat with hat
    injection hat with _ hat
    subst hat h2;simp[Bool.decide_and]
   ·simp[h2,h3]
 have FH:=zW F;clear F hat;generalize (decide (l=2)||decide (l=3))=s at*;simp only[Act.put];have B:=zW O.out.2;clear O hk;cases s
 ·go_wp2;go_ret;exact⟨by rw[FH.out];rfl,B.out⟩
 ·by_cases hx:0≤x
  ·by_cases hc:x≤c
   ·have e:=zW (show i5 l x=true by rw[FH.out];simp[hx,hc]);exact zN3
   ·have e:=zW (show i5 l x=false by rw[FH.out];simp only[zO hc,Bool.and_false]);exact zN3
  ·have e:=zW (show i5 l x=false by rw[FH.out];simp only[zO hx,Bool.false_and,Bool.and_false]);exact zN3
end
section
open Go.RowKit
section
variable {P:Program} {b:Nat} {T:TypeId} {cs:Array Value} {w:World}
end
end
section
namespace Num
open Go.RowKit
def hi(r:BitVec 128):BitVec 64:=r.extractLsb' 64 64
def lo(r:BitVec 128):BitVec 64:=r.extractLsb' 0 64
theorem uX(h l:BitVec 64):hi (h++l)=h:=by
 apply BitVec.eq_of_getLsbD_eq
 intro i hi'
 simp only[hi,BitVec.getLsbD_extractLsb',BitVec.getLsbD_append];rw[zL zLG,show 64+i-64=i by omega];simp[hi']
theorem uJ(h l:BitVec 64):lo (h++l)=l:=by
 apply BitVec.eq_of_getLsbD_eq
 intro i hi'
 simp only[lo,BitVec.getLsbD_extractLsb',BitVec.getLsbD_append];rw[zN zLG,show 0+i=i by omega];simp[hi']
theorem pP(r:BitVec 128):hi r++lo r=r:=by
 apply BitVec.eq_of_getLsbD_eq
 intro i hi'
 simp only[hi,lo,BitVec.getLsbD_extractLsb',BitVec.getLsbD_append];split
 ·rename_i h;simp[h]
 ·rename_i h
  rw[show 64+(i-64)=i by omega];simp;omega
theorem KH(h l h' l':BitVec 64):(h++l)&&&(h'++l')=(h&&&h')++(l&&&l'):=by
 apply kJ
 intro i _
 simp only[BitVec.getMsbD_and,j4];split<;>rfl
theorem KM(h l h' l':BitVec 64):(h++l)^^^(h'++l')=(h^^^h')++(l^^^l'):=by
 apply kJ
 intro i _
 simp only[BitVec.getMsbD_xor,j4];split<;>rfl
theorem zYZ{h l h' l':BitVec 64}:h++l=h'++l'↔h=h'∧l=l':=
 ⟨fun e=>⟨by rw[←uX h l,e,uX],by rw[←uJ h l,e,uJ]⟩,fun⟨a,b⟩=>by rw[a,b]⟩
def rv(r:BitVec 128):Value:=.agg #[.int .u64 ((hi r).toNat:Int),.int .u64 ((lo r).toNat:Int)]
theorem lE(h l:BitVec 64):rv (h++l)=.agg #[.int .u64 (h.toNat:Int),.int .u64 (l.toNat:Int)]:=by rw[rv,uX,uJ]
theorem UB(u:BitVec 64)(c:Int):(u.toNat:Int)*2^min c.toNat 64%18446744073709551616=((u<<<c.toNat).toNat:Int):=by
 rw[BitVec.toNat_shiftLeft,Nat.shiftLeft_eq];rcases jT c.toNat 64 with h|h
 ·rw[Nat.min_eq_left zLG];simp
 ·rw[Nat.min_eq_right zLG];have e1:u.toNat*2^c.toNat%2^64=0:=by
   rw[show c.toNat=(c.toNat-64)+64 by omega,Nat.pow_add,←Nat.mul_assoc];exact Nat.mul_mod_left _ _
  rw[e1];omega
theorem zY2(u:BitVec 64)(c:Int):(u.toNat:Int)/2^min c.toNat 64=((u>>>c.toNat).toNat:Int):=by
 rw[BitVec.toNat_ushiftRight,Nat.shiftRight_eq_div_pow];rcases jT c.toNat 64 with h|h
 ·rw[Nat.min_eq_left zLG];simp
 ·rw[Nat.min_eq_right zLG];have h2:u.toNat<2^c.toNat:=zS u.isLt (Nat.pow_le_pow_right zLD zLG);rw[Nat.div_eq_of_lt h2];have:=u.isLt;omega
theorem gU(u:BitVec 64):BitVec.ofInt 64 (u.toNat:Int)=u:=by
 apply BitVec.eq_of_toNat_eq
 rw[BitVec.toNat_ofInt]
 have:=u.isLt;omega
theorem QG(u:BitVec 64):IntKind.u64.wrap (u.toNat:Int)=(u.toNat:Int):=by
 rw[IntKind.wrap_u64];have:=u.isLt;omega
theorem zKN(u v:BitVec 64):bits .or .u64 (u.toNat:Int) (v.toNat:Int)=((u|||v).toNat:Int):=by
 show IntKind.u64.wrap (((BitVec.ofInt 64 (u.toNat:Int)|||BitVec.ofInt 64 (v.toNat:Int)).toNat:Nat):Int)=_;rw[gU,gU,QG]
theorem zLW(u v:BitVec 64):bits .and .u64 (u.toNat:Int) (v.toNat:Int)=((u&&&v).toNat:Int):=by
 show IntKind.u64.wrap (((BitVec.ofInt 64 (u.toNat:Int)&&&BitVec.ofInt 64 (v.toNat:Int)).toNat:Nat):Int)=_;rw[gU,gU,QG]
theorem zYO(u v:BitVec 64):bits .xor .u64 (u.toNat:Int) (v.toNat:Int)=((u^^^v).toNat:Int):=by
 show IntKind.u64.wrap (((BitVec.ofInt 64 (u.toNat:Int)^^^BitVec.ofInt 64 (v.toNat:Int)).toNat:Nat):Int)=_;rw[gU,gU,QG]
theorem tV{n:Nat}(x:BitVec n)(i:Nat)(h:n≤i):x.getMsbD i=false:=by
 rw[BitVec.getMsbD_eq_getLsbD,zO zLG];rfl
theorem U5(h l:BitVec 64)(k k1 k2:Nat)(e:(k≤64∧k1=64-k)∨(64<k∧64≤k1))(e2:(64≤k∧k2=k-64)∨(k<64∧64≤k2)):
  (h>>>k)++(l>>>k|||h<<<k1|||h>>>k2)=(h++l)>>>k:=by
 apply kJ
 intro i hi'
 simp only[j4,BitVec.getMsbD_ushiftRight,BitVec.getMsbD_or,BitVec.getMsbD_shiftLeft];by_cases hlt:64≤i
 ·rw[zN hlt];rcases e with⟨a,b⟩|⟨a,b⟩
  ·rcases e2 with⟨c,d⟩|⟨c,d⟩
   ·have hk:k=64:=zLG;subst hk;subst b;subst d;rw[zL zLG];simp;rw[show decide (i-64<64)=true by simp;omega,show decide (i<128)=true by simp;omega,show decide (i<64)=false by simp;omega];simp
   ·rw[show decide (i-64<k2)=true by simp;omega,show decide (i-64<64)=true by simp;omega];subst b;by_cases hik:i-64<k
    ·rw[zL zLG,show i-64+(64-k)=i-k by omega,show decide (i-64<k)=true by simp;omega,show decide (i<k)=false by simp;omega];simp;omega
    ·rw[zN zLG,show decide (i-64<k)=false by simp;omega,show decide (i<k)=false by simp;omega,tV h (i-64+(64-k)) zLG,show i-64-k=i-k-64 by omega];simp;omega
  ·rcases e2 with⟨c,d⟩|⟨c,d⟩
   ·rw[show decide (i-64<64)=true by simp;omega,show decide (i-64<k)=true by simp;omega,tV h (i-64+k1) zLG];subst d;rw[zL zLG];by_cases hik:i<k
    ·rw[show decide (i-64<k-64)=true by simp;omega,show decide (i<k)=true by simp;omega];simp
    ·rw[show decide (i-64<k-64)=false by simp;omega,show decide (i<k)=false by simp;omega,show i-64-(k-64)=i-k by omega];simp;omega
   ·omega
 ·rw[zL hlt,zL zLG,show decide (i<64)=true by simp;omega,show decide (i<64+64)=true by simp;omega]
theorem zK2(h l:BitVec 64)(k k1 k2:Nat)(e:(k≤64∧k1=64-k)∨(64<k∧64≤k1))(e2:(64≤k∧k2=k-64)∨(k<64∧64≤k2)):
  (h<<<k|||l>>>k1|||l<<<k2)++(l<<<k)=(h++l)<<<k:=by
 apply kJ
 intro i hi'
 simp only[j4,BitVec.getMsbD_ushiftRight,BitVec.getMsbD_or,BitVec.getMsbD_shiftLeft];by_cases hlt:64≤i
 ·rw[zN hlt,zN zLG,show i-64+k=i+k-64 by omega]
 ·rw[zL hlt,show decide (i<64)=true by simp;omega];rcases e with⟨a,b⟩|⟨a,b⟩
  ·subst b;rcases e2 with⟨c,d⟩|⟨c,d⟩
   ·have hk:k=64:=zLG;subst hk;subst d;rw[zN zLG,tV h (i+64) zLG];simp
   ·rw[tV l (i+k2) zLG];by_cases hik:i+k<64
    ·rw[zL zLG,show decide (i<64-k)=true by simp;omega];simp
    ·rw[zN zLG,tV h (i+k) zLG,show decide (i<64-k)=false by simp;omega,show i-(64-k)=i+k-64 by omega];simp
  ·rcases e2 with⟨c,d⟩|⟨c,d⟩
   ·subst d;rw[zN zLG,tV h (i+k) zLG,show decide (i<k1)=true by simp;omega,show i+(k-64)=i+k-64 by omega];simp
   ·omega
def mv(r:BitVec 128)(n:Int):BitVec 128:=if n<0 then r<<<(-n).toNat else r>>>n.toNat
def uK(n:Int):BitVec 128:=mv (BitVec.allOnes 128) (n-128)
def y9(r:BitVec 128)(n width:Int):BitVec 128:=mv r n&&&uK width
def px(r:BitVec 128)(x:Nat):Bool:=r.getMsbD x
theorem gZ{r s:BitVec 128}(h:∀x,x<128→px r x=px s x):r=s:=kJ h
theorem OM(r:BitVec 128)(x:Nat)(h:128≤x):px r x=false:=tV r x h
theorem ON(r s:BitVec 128)(x:Nat):px (r&&&s) x=(px r x&&px s x):=BitVec.getMsbD_and
theorem OX(r s:BitVec 128)(x:Nat):px (r^^^s) x=(px r x^^px s x):=BitVec.getMsbD_xor
theorem wO(x:Nat):px 0#128 x=false:=by simp[px]
def pxi(r:BitVec 128)(x:Int):Bool:=decide (0≤x)&&px r x.toNat
theorem OY(r:BitVec 128)(n:Int)(x:Nat)(hx:x<128):px (mv r n) x=pxi r (x-n):=by
 unfold mv px pxi px;split
 ·rw[BitVec.getMsbD_shiftLeft,qJ zLG,show((x:Int)-n).toNat=x+(-n).toNat by omega];rfl
 ·rw[BitVec.getMsbD_ushiftRight,qJ hx];by_cases h:x<n.toNat
  ·rw[qJ h,zO zLG];rfl
  ·rw[zO h,qJ zLG,show((x:Int)-n).toNat=x-n.toNat by omega];rfl
theorem E8(n:Int)(x:Nat)(hx:x<128)(hn:n≤128):px (uK n) x=decide ((x:Int)<n):=by
 unfold uK;rw[OY _ _ _ hx,pxi,px,BitVec.getMsbD_allOnes,Bool.eq_iff_iff];simp;omega
theorem M7(r:BitVec 128)(n width:Int)(x:Nat)(hx:x<128)(hn:width≤128):px (y9 r n width) x=(pxi r (x-n)&&decide ((x:Int)<width)):=by
 unfold y9;rw[ON,OY _ _ _ hx,E8 _ _ hx hn]
end Num
namespace Num
open Go.RowKit
def pcn(f:Nat→Bool):Nat→Nat
 |0=>0
 |k+1=>pcn f k+(f k).toNat
theorem SJ{f g:Nat→Bool}(k:Nat)(h:∀i,i<k→f i=g i):pcn f k=pcn g k:=by
 induction k with
 |zero=>rfl
 |succ k ih=>rw[pcn,pcn,ih fun i hi=>h i zLG,h k zLG]
theorem zKK(f:Nat→Bool)(j k:Nat):pcn f (j+k)=pcn f j+pcn (fun i=>f (j+i)) k:=by
 induction k with
 |zero=>rfl
 |succ k ih=>rw[←qF,pcn,pcn,ih];omega
theorem OT{f:Nat→Bool}{k:Nat}:pcn f k=0↔∀i,i<k→f i=false:=by
 induction k with
 |zero=>simp[pcn]
 |succ k ih=>
  rw[pcn]
  constructor
  ·intro h i hi
   rcases jT i k with hlt|hge
   ·exact ih.1 zLG i hlt
   ·have:i=k:=by omega
    subst this
    cases hf:f i
    ·rfl
    ·rw[hf]at h;simp at h
  ·intro h
   rw[ih.2 fun i hi=>h i zLG,h k zLG]
   rfl
def V:List Nat→Nat
 |[]=>0
 |d::ds=>256*V ds+d
def t1(d:Nat):Nat:=(d/2&&&85)+(d&&&85)
def t2(d:Nat):Nat:=(d/4&&&51)+(d&&&51)
def t3(d:Nat):Nat:=(d/16+d)&&&15
def zZ0(r:BitVec 128):Nat:=pcn (px r) 128
theorem XP(r:BitVec 128):zZ0 r=0↔r=0#128:=by
 rw[zZ0,OT];constructor
 ·intro h;exact gZ fun x hx=>by rw[h x hx,wO]
 ·rintro rfl x _;exact wO x
end Num
namespace Num
open Go.RowKit
def spF(b c x m:Nat)(clip:Bool)(k j:Nat):Bool:=
 (decide (x≤j∧j<x+c∧j<m∧c+x≤j+k)&&b.testBit (c-1-(j-x)))||(!clip&&(decide (j+m<x+c∧c+x≤j+m+k)&&b.testBit (c-1-(j+m-x))))
def sp0(b c:Nat):BitVec 128:=(BitVec.ofNat 64 b<<<(64-c))++0#64
def wZ(b c x m:Nat)(clip:Bool):BitVec 128:=if clip then y9 (sp0 b c) x m else y9 (sp0 b c) x m^^^mv (sp0 b c) ((x:Int)-m)
theorem px_sp0(b c i:Nat)(c1:c≤16):px (sp0 b c) i=(decide (i<c)&&b.testBit (c-1-i)):=by
 unfold sp0 px;rw[j4];split
 ·rw[zO zLG];simp
 ·rw[BitVec.getMsbD_shiftLeft,BitVec.getMsbD_eq_getLsbD,BitVec.getLsbD_ofNat];by_cases h:i<c
  ·rw[qJ zLG,qJ zLG,qJ h,show 64-1-(i+(64-c))=c-1-i by omega];simp
  ·rw[zO (p:=i+(64-c)<64) zLG,zO h];rfl
theorem H4(b c:Nat)(i:Int)(c1:c≤16):pxi (sp0 b c) i=(decide (0≤i∧i<c)&&b.testBit (c-1-i.toNat)):=by
 unfold pxi;rw[px_sp0 b c _ c1];by_cases h:0≤i
 ·rw[qJ h,show decide (i.toNat<c)=decide (0≤i∧i<c) by congr 1;simp;omega];rfl
 ·rw[zO h,zO (p:=0≤i∧i<(c:Int)) zLG];rfl
theorem E7(b c x m:Nat)(clip:Bool)(c1:c≤16)(hm:16≤m)(m1:m≤128)(hx:x<m)(j:Nat)(hj:j<128):px (wZ b c x m clip) j=spF b c x m clip c j:=by
 have e1:px (y9 (sp0 b c) x m) j=(decide (x≤j∧j<x+c∧j<m∧c+x≤j+c)&&b.testBit (c-1-(j-x))):=by
  rw[M7 _ _ _ _ hj zLG,H4 _ _ _ c1,show((j:Int)-(x:Int)).toNat=j-x by omega];by_cases h:x≤j∧j<x+c∧j<m
  ·rw[qJ (p:=0≤(j:Int)-x∧(j:Int)-x<c) zLG,qJ (p:=(j:Int)<(m:Int)) zLG,qJ zLG];simp
  ·rw[zO (p:=x≤j∧_) zLG];by_cases h2:(j:Int)<(m:Int)
   ·rw[zO (p:=0≤(j:Int)-x∧(j:Int)-x<c) zLG];rfl
   ·rw[zO h2];simp
 have e2:px (mv (sp0 b c) ((x:Int)-m)) j=(decide (j+m<x+c∧c+x≤j+m+c)&&b.testBit (c-1-(j+m-x))):=by
  rw[OY _ _ _ hj,H4 _ _ _ c1,show((j:Int)-((x:Int)-(m:Int))).toNat=j+m-x by omega,
   show decide (0≤(j:Int)-((x:Int)-(m:Int))∧(j:Int)-((x:Int)-(m:Int))<c)=decide (j+m<x+c∧c+x≤j+m+c) by congr 1;simp;omega]
 unfold wZ spF;cases clip
 ·rw[zL zLP,OX,e1,e2];by_cases h:x≤j
  ·rw[zO (p:=j+m<x+c∧_) zLG];simp
  ·rw[zO (p:=x≤j∧_) zLG];simp
 ·rw[zN rfl,e1];simp
theorem H5(r:BitVec 128)(i:Int)(h:i<0):pxi r i=false:=by
 rw[pxi,zO zLG,Bool.false_and]
theorem fU(r:BitVec 128)(i:Nat):pxi r (i:Int)=px r i:=by
 rw[pxi,qJ zLG,Bool.true_and,Int.toNat_natCast]
def KA(r:BitVec 128)(m:Nat):Prop:=∀i:Int,m≤i→pxi r i=false
theorem OJ(i:Int):pxi 0#128 i=false:=by rw[pxi,wO,Bool.and_false]
theorem xM(r:BitVec 128):∃h l:BitVec 64,r=h++l:=⟨hi r,lo r,(pP r).symm⟩
end Num
namespace Num
open Go.RowKit
def sm(g:Nat→Nat):Nat→Nat
 |0=>0
 |k+1=>sm g k+g k
theorem MK{f g:Nat→Nat}(k:Nat)(h:∀i,i<k→f i=g i):sm f k=sm g k:=by
 induction k with
 |zero=>rfl
 |succ k ih=>rw[sm,sm,ih fun i hi=>h i zLG,h k zLG]
theorem T7{f:Nat→Nat}(k:Nat)(h:∀i,i<k→f i=0):sm f k=0:=by
 induction k with
 |zero=>rfl
 |succ k ih=>rw[sm,ih fun i hi=>h i zLG,h k zLG]
theorem MX{f:Nat→Nat}{k:Nat}:sm f k=0↔∀i,i<k→f i=0:=by
 refine⟨?_,T7 k⟩;induction k with
 |zero=>intro _ i hi;omega
 |succ k ih=>
  rw[sm]
  intro h i hi
  rcases jT i k with hlt|hge
  ·exact ih zLG i hlt
  ·obtain rfl:i=k:=by omega
   omega
theorem OD(f:Nat→Bool)(n k:Nat):pcn f (n*k)=sm (fun y=>pcn (fun x=>f (n*y+x)) n) k:=by
 induction k with
 |zero=>rfl
 |succ k ih=>rw[Nat.mul_succ,zKK,sm,ih]
abbrev Pl:=Nat→BitVec 128
def zLL(P:Pl)(m h:Nat):Prop:=(∀y,KA (P y) m)∧∀y,h≤y→P y=0#128
def pcount(P:Pl):Nat:=sm (fun y=>zZ0 (P y)) 64
def mB(P:Pl)(dx dy:Int)(m h:Nat):Pl:=fun y=>if(0≤(y:Int)-dy∧(y:Int)-dy<h)∧y<h then y9 (P ((y:Int)-dy).toNat) dx m else 0#128
def spr(bits:Nat→Nat)(len c x y m h:Nat)(clip:Bool):Pl:=fun j=>
 if y≤j∧j<y+len∧j<h then wZ (bits (j-y)) c x m clip else if clip=false∧j+h<y+len then wZ (bits (j+h-y)) c x m clip else 0#128
def wT(A B:Pl):Pl:=fun y=>A y^^^B y
theorem YS(m:Nat):KA 0#128 m:=fun i _=>OJ i
theorem UY(bits:Nat→Nat)(c x y m h:Nat)(clip:Bool)(hy:y<h)(j:Nat):spr bits 0 c x y m h clip j=0#128:=by
 unfold spr;rw[zL zLG];by_cases hc:clip=false∧j+h<y+0
 ·omega
 ·rw[zL hc]
theorem spr_in(bits:Nat→Nat)(i c x y m h:Nat)(clip:Bool)(hi:i<h)(hy:y<h)(hin:y+i<h)(j:Nat):
  spr bits (i+1) c x y m h clip j=if j=y+i then wZ (bits i) c x m clip else spr bits i c x y m h clip j:=by
 unfold spr;by_cases e:j=y+i
 ·rw[zN e,zN zLG,show j-y=i by omega]
 ·rw[zL e];by_cases h1:y≤j∧j<y+i∧j<h
  ·rw[zN h1,zN zLG]
  ·rw[zL h1,zL zLG];by_cases h2:clip=false∧j+h<y+i
   ·omega
   ·rw[zL h2,zL zLG]
theorem zXB(bits:Nat→Nat)(i c x y m h:Nat)(hi:i<h)(hy:y<h)(hout:h≤y+i)(j:Nat):
  spr bits (i+1) c x y m h false j=if j=y+i-h then wZ (bits i) c x m false else spr bits i c x y m h false j:=by
 unfold spr;by_cases e:j=y+i-h
 ·rw[zN e,zL zLG,zN ⟨rfl,by omega⟩,show j+h-y=i by omega]
 ·rw[zL e];by_cases h1:y≤j∧j<y+i∧j<h
  ·rw[zN h1,zN zLG]
  ·rw[zL h1,zL zLG];by_cases h2:j+h<y+i
   ·rw[zN (show false=false∧j+h<y+(i+1)from⟨rfl,by omega⟩),zN (show false=false∧j+h<y+i from⟨rfl,h2⟩)]
   ·rw[zL zLG,zL zLG]
theorem UL(bits:Nat→Nat)(i c x y m h:Nat)(hout:h≤y+i)(j:Nat):spr bits (i+1) c x y m h true j=spr bits i c x y m h true j:=by
 unfold spr;by_cases h1:y≤j∧j<y+i∧j<h
 ·rw[zN h1,zN zLG]
 ·rw[zL h1,zL zLG,zL zLP,zL zLP]
theorem dU(b c x m:Nat)(clip:Bool)(c1:c≤16)(hm:16≤m)(m1:m≤128)(hx:x<m):KA (wZ b c x m clip) m:=fun i hi=>by
 obtain⟨k,rfl⟩:=jY (show 0≤i by omega);rw[fU];by_cases hk:k<128
 ·rw[E7 b c x m clip c1 hm m1 hx k hk];unfold spF;rw[zO (p:=x≤k∧_) zLG,zO (p:=k+m<x+c∧_) zLG];simp
 ·exact OM _ _ zLG
theorem zXG(bits:Nat→Nat)(len c x y m h:Nat)(clip:Bool)(c1:c≤16)(hm:16≤m)(m1:m≤128)(hx:x<m)(hl:len≤h)(hy:y<h):zLL (spr bits len c x y m h clip) m h:=by
 refine⟨fun j=>?_,fun j hj=>?_⟩
 ·unfold spr;split
  ·exact dU _ _ _ _ _ c1 hm m1 hx
  ·split
   ·exact dU _ _ _ _ _ c1 hm m1 hx
   ·exact YS m
 ·unfold spr;rw[zL zLG,zL zLG]
end Num
namespace Num
open Go.RowKit
def acc(g:Nat→Bool):Nat→Nat
 |0=>0
 |k+1=>2*acc g k+(g k).toNat
theorem acc_lt(g:Nat→Bool)(k:Nat):acc g k<2^k:=by
 induction k with
 |zero=>simp[acc]
 |succ k ih=>
  rw[acc,Nat.pow_succ]
  have:=Bool.toNat_le (g k)
  omega
theorem zYT(g:Nat→Bool)(k j:Nat):(acc g k).testBit j=(decide (j<k)&&g (k-1-j)):=by
 induction k generalizing j with
 |zero=>simp[acc]
 |succ k ih=>
  rw[acc]
  cases j with
  |zero=>
   rw[Nat.testBit_zero]
   cases hg:g k<;>simp[hg]<;>omega
  |succ j=>
   rw[Nat.testBit_succ,show(2*acc g k+(g k).toNat)/2=acc g k by have:=Bool.toNat_le (g k);omega,ih j,show k+1-1-(j+1)=k-1-j by omega,
    show decide (j<k)=decide (j+1<k+1) by congr 1;simp]
def wd(g:Nat→Bool):BitVec 64:=BitVec.ofNat 64 (acc g 64)
theorem wd_nat(g:Nat→Bool):(wd g).toNat=acc g 64:=by
 have:=acc_lt g 64;rw[wd,BitVec.toNat_ofNat,kV this]
theorem IP(g:Nat→Bool)(i:Nat)(hi:i<64):(wd g).getMsbD i=g i:=by
 rw[BitVec.getMsbD_eq_getLsbD,←BitVec.testBit_toNat,wd_nat,zYT,qJ hi,qJ zLG,show 64-1-(64-1-i)=i by omega,Bool.true_and,Bool.true_and]
def fwd(f:Nat→Bool):Pl:=fun y=>wd (fun i=>f (128*y+i))++wd (fun i=>f (128*y+(64+i)))
theorem yD(f:Nat→Bool)(y x:Nat)(hx:x<128):px (fwd f y) x=f (128*y+x):=by
 unfold fwd px;rw[j4];split
 ·rw[IP _ _ zLG,show 64+(x-64)=x by omega]
 ·rw[IP _ _ zLG]
def xT(f:Nat→Bool)(m h:Nat):Prop:=∀i,f i=true→i%128<m∧i/128<h
theorem zVV{f:Nat→Bool}{m h:Nat}(hf:xT f m h):zLL (fwd f) m h:=by
 refine⟨fun y i hi=>?_,fun y hy=>gZ fun x hx=>?_⟩
 ·by_cases h0:0≤i
  ·obtain⟨k,rfl⟩:=jY h0;rw[fU];by_cases hk:k<128
   ·rw[yD _ _ _ hk];cases hg:f (128*y+k)
    ·rfl
    ·have:=(hf _ hg).1;omega
   ·exact OM _ _ zLG
  ·exact H5 _ _ zLG
 ·rw[yD _ _ _ hx,wO];cases hg:f (128*y+x)
  ·rfl
  ·have:=(hf _ hg).2;omega
theorem V5(f:Nat→Bool):pcount (fwd f)=pcn f (128*64):=by
 rw[OD];exact MK 64 fun y hy=>SJ 128 fun x hx=>yD f y x hx
def dO(f:Nat→Bool)(dx dy:Int)(m h:Nat)(i:Nat):Bool:=
 decide ((i/128<h∧i%128<m)∧(0≤((i%128:Nat):Int)-dx∧((i%128:Nat):Int)-dx<m)∧(0≤((i/128:Nat):Int)-dy∧((i/128:Nat):Int)-dy<h))&&f (128*(((i/128:Nat):Int)-dy)+(((i%128:Nat):Int)-dx)).toNat
theorem WS(f:Nat→Bool)(dx dy:Int)(m h:Nat)(hm:m≤128)(hf:xT f m h)(y:Nat):fwd (dO f dx dy m h) y=mB (fwd f) dx dy m h y:=gZ fun x hx=>by
 rw[yD _ _ _ hx];unfold dO mB;rw[show(128*y+x)/128=y by omega,show(128*y+x)%128=x by omega];by_cases h1:(0≤(y:Int)-dy∧(y:Int)-dy<h)∧y<h
 ·rw[zN h1,M7 _ _ _ _ hx zLG];obtain⟨d,hd⟩:∃d:Nat,(y:Int)-dy=(d:Int):=⟨((y:Int)-dy).toNat,by omega⟩;rw[hd,Int.toNat_natCast];by_cases h2:x<m
  ·rw[qJ (p:=(x:Int)<(m:Int)) zLG,Bool.and_true];by_cases h3:0≤(x:Int)-dx∧(x:Int)-dx<m
   ·obtain⟨e,he⟩:∃e:Nat,(x:Int)-dx=(e:Int):=⟨((x:Int)-dx).toNat,by omega⟩;rw[he,fU,yD _ _ _ zLG,qJ zLG,Bool.true_and,show(128*(d:Int)+(e:Int)).toNat=128*d+e by omega]
   ·rw[zO zLG,Bool.false_and];rcases Int.lt_or_le ((x:Int)-dx) 0 with h0|h0
    ·rw[H5 _ _ h0]
    ·rw[(zVV hf).1 d _ zLG]
  ·rw[zO zLG,zO (p:=(x:Int)<(m:Int)) zLG,Bool.false_and,Bool.and_false]
 ·rw[zL h1,wO,zO zLG,Bool.false_and]
def zXE(bits:Nat→Nat)(len c x y m h:Nat)(clip:Bool)(i:Nat):Bool:=px (spr bits len c x y m h clip (i/128)) (i%128)
theorem WF(bits:Nat→Nat)(len c x y m h:Nat)(clip:Bool)(j:Nat):fwd (zXE bits len c x y m h clip) j=spr bits len c x y m h clip j:=gZ fun k hk=>by
 rw[yD _ _ _ hk,zXE,show(128*j+k)/128=j by omega,show(128*j+k)%128=k by omega]
theorem FU(f g:Nat→Bool)(y:Nat):fwd (fun i=>f i^^g i) y=wT (fwd f) (fwd g) y:=gZ fun x hx=>by
 show _=px (fwd f y^^^fwd g y) x;rw[yD _ _ _ hx,OX,yD _ _ _ hx,yD _ _ _ hx]
theorem zVW(f g:Nat→Bool)(y:Nat):fwd (fun i=>f i&&g i) y=fwd f y&&&fwd g y:=gZ fun x hx=>by
 rw[yD _ _ _ hx,ON,yD _ _ _ hx,yD _ _ _ hx]
theorem J4(f g:Nat→Bool):pcn (fun i=>f i&&g i) (128*64)=sm (fun y=>zZ0 (fwd f y&&&fwd g y)) 64:=by
 rw[←V5];exact MK 64 fun y _=>by rw[zVW]
def tS(A B:Pl):Bool:=decide (sm (fun y=>zZ0 (A y&&&B y)) 64≠0)
theorem OR(A B:Pl):tS A B=true↔∃y,y<64∧A y&&&B y≠0#128:=by
 unfold tS;rw[qB];constructor
 ·intro h;rcases Classical.em (∃y,y<64∧A y&&&B y≠0#128)with h2|h2
  ·exact h2
  ·refine absurd (T7 64 fun y hy=>(XP _).2 ?_) h;rcases Classical.em (A y&&&B y=0#128)with h3|h3
   ·exact h3
   ·exact absurd ⟨y,hy,h3⟩ h2
 ·rintro⟨y,hy,h⟩ h2;exact h ((XP _).1 (MX.1 h2 y hy))
theorem WB(f g:Nat→Bool):tS (fwd f) (fwd g)=decide (0<pcn (fun i=>f i&&g i) (128*64)):=by
 rw[J4];unfold tS;rw[Bool.eq_iff_iff,qB,qB];omega
theorem gM(m h:Nat):xT (fun _=>false) m h:=fun i hi=>by cases hi
theorem zXC(f:Nat→Bool)(dx dy:Int)(m h:Nat):xT (dO f dx dy m h) m h:=fun i hi=>by
 unfold dO at hi;have:=qA (Bool.and_eq_true_iff.1 hi).1;exact⟨this.1.2,this.1.1⟩
end Num
end
section
open Go.RowKit Num
def cL(P:Pl)(j:Nat):Int:=if j%2=0 then((hi (P (j/2))).toNat:Int)else((lo (P (j/2))).toNat:Int)
def kU(P:Pl):Array Value:=((List.range 128).map fun j=>Value.int .u64 (cL P j)).toArray
theorem lZ(P:Pl):(kU P).size=128:=by simp[kU]
theorem cD(P:Pl)(j:Nat)(hj:j<128):(kU P)[j]?=some (.int .u64 (cL P j)):=by simp[kU,hj]
theorem e8(P:Pl)(y:Nat):cL P (2*y)=((hi (P y)).toNat:Int):=by
 rw[cL,zN zLG,show 2*y/2=y by omega]
theorem aK(P:Pl)(y:Nat):cL P (2*y+1)=((lo (P y)).toNat:Int):=by
 rw[cL,zL zLG,show(2*y+1)/2=y by omega]
theorem JM{P Q:Pl}(h:∀y,y<64→P y=Q y):kU P=kU Q:=by
 unfold kU;congr 1
 refine List.map_congr_left fun j hj=>?_
 have hj:=jM.1 hj;unfold cL;rw[h (j/2) zLG]
theorem vL(P:Pl):(kU P).all (·.oneCell')=true:=by
 rw[qC];intro v hv;simp[kU]at hv;obtain⟨j,_,rfl⟩:=hv;rfl
def LH(P:Pl)(y:Nat)(r:BitVec 128):Pl:=fun j=>if j=y then r else P j
theorem rB(P:Pl)(y:Nat)(r:BitVec 128):LH P y r y=r:=by simp[LH]
theorem rR(P:Pl)(y j:Nat)(r:BitVec 128)(h:j≠y):LH P y r j=P j:=by simp[LH,h]
theorem V7(P:Pl)(y:Nat)(h l:BitVec 64)(hy:y<64):((kU P).setIfInBounds (2*y) (.int .u64 (h.toNat:Int))).setIfInBounds (2*y+1) (.int .u64 (l.toNat:Int))=kU (LH P y (h++l)):=by
 apply qZ
 intro j
 by_cases hj:j<128
 ·rw[cD _ _ hj,qX,qX];by_cases e1:2*y+1=j
  ·subst e1;rw[zN rfl,zN (by simp[lZ];omega),aK,rB,uJ]
  ·rw[zL e1];by_cases e0:2*y=j
   ·subst e0;rw[zN rfl,zN (by simp[lZ];omega),e8,rB,uX]
   ·rw[zL e0,cD _ _ hj];unfold cL;rw[rR _ _ _ _ zLG]
 ·rw[zD (by simp[lZ];omega),zD (by simp[lZ];omega)]
def mD(b:Nat)(t:TypeId)(P:Pl)(w:World):Prop:=w.heap[b]?=some (.cells (kU P) t (0,0))
section
variable {b:Nat} {t:TypeId} {P Q:Pl} {w w':World}
theorem mD.lt(H:mD b t P w):b<w.heap.size:=(qK.1 H).1
theorem mD.below(H:mD b t P w){n:Nat}(hb:Below n w w')(hn:b<n):mD b t P w':=(hb.block b hn).trans H
theorem mD.step(H:mD b t P w)(hb:Below w.heap.size w w'):mD b t P w':=H.below hb H.lt
theorem mD.new(w:World)(P:Pl)(t:TypeId):mD w.heap.size t P (w.alloc (.cells (kU P) t)):=jL _ _
theorem mD.alloc(H:mD b t P w)(o:Obj):mD b t P (w.alloc o):=H.step ((zG _ _).alloc (zH _) _)
theorem mD.drew(H:mD b t P w):mD b t P w.drew:=H
theorem mD.congr(H:mD b t P w)(h:∀y,y<64→P y=Q y):mD b t Q w:=by
 unfold mD at*;rw[←JM h];exact H
theorem mD.other(H:mD b t P w){g:Nat}(hg:b≠g)(o:Nat)(v:Value):mD b t P (w.setCell ⟨g,o,none⟩ v):=(qY w ⟨g,o,none⟩ v b hg).trans H
theorem mD.otherRow(H:mD b t P w){g:Nat}(hg:b≠g)(cs:Array Value):mD b t P (w.setRow g cs):=(zU w g b cs hg).trans H
theorem mD.cell(H:mD b t P w)(j:Nat)(hj:j<128):w.cell? ⟨b,j,none⟩=some (.int .u64 (cL P j)):=by
 rw[jA w b j (kU P) t (0,0) H];exact cD P j hj
theorem mD.left(H:mD b t P w)(y:Nat)(hy:y<64):w.cell? ⟨b,y*2,none⟩=some (.int .u64 ((hi (P y)).toNat:Int)):=by
 rw[Nat.mul_comm y 2,H.cell _ zLG,e8]
theorem mD.right(H:mD b t P w)(y:Nat)(hy:y<64):w.cell? ⟨b,y*2+1,none⟩=some (.int .u64 ((lo (P y)).toNat:Int)):=by
 rw[Nat.mul_comm y 2,H.cell _ zLG,aK]
theorem mD.frozen(H:mD b t P w)(j:Nat):w.frozen? ⟨b,j,none⟩=false:=frozen_of_row w b j (kU P) t H
theorem mD.store(H:mD b t P w)(Q:Pl):mD b t Q (w.setRow b (kU Q)):=setRow_heap w b _ _ t (0,0) H
theorem mD.row(H:mD b t P w)(y:Nat)(hy:y<64)(h l:BitVec 64):mD b t (LH P y (h++l)) ((w.setCell ⟨b,y*2,none⟩ (.int .u64 (h.toNat:Int))).setCell ⟨b,y*2+1,none⟩ (.int .u64 (l.toNat:Int))):=by
 rw[Nat.mul_comm y 2];have e1:=setCell_eq_setRow w b (2*y) (kU P) t (0,0) (.int .u64 (h.toNat:Int)) H;have H1:(w.setRow b ((kU P).setIfInBounds (2*y) (.int .u64 (h.toNat:Int)))).heap[b]?=_:=setRow_heap w b _ _ t (0,0) H;have e2:=setCell_eq_setRow _ b (2*y+1) _ t (0,0) (.int .u64 (l.toNat:Int)) H1;rw[e1,e2,V7 P y h l hy];exact setRow_heap _ b _ _ t (0,0) H1
end
theorem vC{B:Nat}{a w:World}(h:Below B a w){g:Nat}(hg:B≤g)(cs:Array Value):Below B a (w.setRow g cs):=
 h.trans ⟨rfl,rfl,rfl,by simp[World.setRow],fun k hk=>zU w g k cs zLG⟩
section
variable {P:Program}
theorem xV(t:TypeId)(d:TypeDesc)(xs:Array Value)(off sz:Nat)(w:World)(hd:(match d with| .struct _| .array _ _=>true|_=>false)=true)(hu:P.underlying t=some d)(hi:(P.info? t).map (·.size)=some sz):
  (part t xs off).run P w=.ok (.agg (xs.extract off (off+sz))) w:=by
 cases hq:P.info? t with
 |none=>simp[hq]at hi
 |some i=>
  have hs:i.size=sz:=zMJ
  have hagg:(isAgg t).run P w=.ok true w:=by
   unfold isAgg;rw[zC,qU hu w];cases d<;>simp_all
  simp[part,zC,hagg,sizeOf,typeInfo,hq,hs]
end
end
section
open Go.RowKit
inductive fB where
 |last (is:List Nat)
 |call (is:List Nat) (c:Nat) (t:fB)
 |fork (is:List Nat) (c1:Nat) (t1:fB) (c2:Nat) (t2:fB)
section
variable {P:Program} {ops:Array Oper} {C:World→Prop} {Q:Exit→Act→World→Prop} {md:Region.Mode}
def cN(P:Program)(ops:Array Oper)(C:World→Prop)(Q:Exit→Act→World→Prop)(c:Nat)(F:Act→World→Prop)(a:Act)(w:World):Prop:=
 match ops[c]? with
 |none=>False
 |some o=>if Region.wanted o (yielded ops a.tmps)then o.wp P a w (fun a'' w''=>C w''∧F a'' w'') Q else F (a.put o.dst undef) w
def vJ(P:Program)(ops:Array Oper)(C:World→Prop)(Q:Exit→Act→World→Prop):fB→Act→World→Prop
 |.last is,a,w=>wpQuiet P ops C (fun a'=>Q .normal a' w) (kA ops is) a
 |.call is c t,a,w=>wpQuiet P ops C (fun a'=>cN P ops C Q c (fun a w=>vJ P ops C Q t a w) a' w) (kA ops is) a
 |.fork is c1 t1 c2 t2,a,w=>wpQuiet P ops C (fun a'=>cN P ops C Q c1 (fun a w=>vJ P ops C Q t1 a w) a' w∧cN P ops C Q c2 (fun a w=>vJ P ops C Q t2 a w) a' w) (kA ops is) a
def pR(md:Region.Mode)(ops:Array Oper):fB→Array Bool→Bool
 |.last is,listed=>oN md ops is listed&&(Region.ready md ops (mU listed is)).isEmpty
 |.call is c t,listed=>oN md ops is listed&&decide (Region.ready md ops (mU listed is)=[c])&&pR md ops t ((mU listed is).setIfInBounds c true)
 |.fork is c1 t1 c2 t2,listed=>oN md ops is listed&&decide (Region.ready md ops (mU listed is)=[c1,c2])&&pR md ops t1 ((mU listed is).setIfInBounds c1 true)&&pR md ops t2 ((mU listed is).setIfInBounds c2 true)
def tN:fB→Nat
 |.last is=>is.length
 |.call is _ t=>tN t+1+is.length
 |.fork is _ t1 _ _=>tN t1+1+is.length
def ZF:fB→Bool
 |.last _=>true
 |.call _ _ t=>ZF t
 |.fork _ _ t1 _ t2=>ZF t1&&ZF t2&&decide (tN t1=tN t2)
theorem rP{K K':Act→Prop}(hK:∀a,K a→K' a):∀(l:List Oper) (a:Act),wpQuiet P ops C K l a→wpQuiet P ops C K' l a:=by
 exact zM8
theorem f7{c:Nat}{F G:Act→World→Prop}{a:Act}{w:World}(hC:C w)(h:cN P ops C Q c F a w)(hF:∀a w,C w→F a w→G a w):wpOp P ops Q c (fun a' w'=>C w'∧G a' w') a w:=by
 unfold cN at h;unfold wpOp;cases ho:ops[c]? with
 |none=>rw[ho]at h;exact h.elim
 |some o=>
  rw[ho]at h
  simp only at h⊢
  split
  ·rename_i hw
   simp only[hw,if_true]at h
   exact .inl (Oper.wp_mono (fun a'' w'' ⟨h1,h2⟩=>⟨h1,hF _ _ h1 h2⟩) h)
  ·rename_i hw
   simp only[hw]at h
   exact⟨hC,hF _ _ hC h⟩
theorem bR(hs:Region.noSelect ops=true)(hQ:∀(c:_) (a:Act) (d:Option Tmp) (v:Value) (w:World),Q (.panic c) (a.put d v) w→Q (.panic c) a w)(k:Nat):∀(t:fB) (listed:Array Bool) (a:Act) (w:World),C w→
  ZF t=true→pR md ops t listed=true→vJ P ops C Q t a w→wpAnyH P md ops Q C (k+tN t) listed a w
 |.last is,listed,a,w,hC,_,hB,h=>by
  simp only[pR,zA]at hB;have hr:Region.ready md ops (mU listed is)=[]:=by simpa using hB.2
  refine uS hs hQ k hC is listed a hB.1 ?_;simp only[vJ]at h;exact rP (fun a h=>wpAnyH_done hr h k) _ _ h
 |.call is c t,listed,a,w,hC,he,hB,h=>by
  simp only[pR,zA]at hB;obtain⟨⟨hB1,hB2⟩,hB3⟩:=hB;have hr:Region.ready md ops (mU listed is)=[c]:=by simpa using hB2
  simp only[tN];rw[←qF];refine uS hs hQ _ hC is listed a hB1 ?_;simp only[vJ]at h;refine rP (fun a' ha=>?_) _ _ h;rw[←qF];refine wpAnyH_all hr zLP fun i hi=>?_;obtain rfl:i=c:=by simpa using hi
  exact f7 hC ha fun a'' w'' h1 h2=>bR hs hQ k t _ a'' w'' h1 he hB3 h2
 |.fork is c1 t1 c2 t2,listed,a,w,hC,he,hB,h=>by
  simp only[pR,zA]at hB;obtain⟨⟨⟨hB1,hB2⟩,hB3⟩,hB4⟩:=hB;have hr:Region.ready md ops (mU listed is)=[c1,c2]:=by simpa using hB2
  simp only[ZF,zA,qB]at he;obtain⟨⟨e1,e2⟩,e3⟩:=he;simp only[tN];rw[←qF];refine uS hs hQ _ hC is listed a hB1 ?_;simp only[vJ]at h;refine rP (fun a' ha=>?_) _ _ h;rw[←qF];refine wpAnyH_all hr zLP fun i hi=>?_;rcases(by simpa using hi:i=c1∨i=c2)with rfl|rfl
  ·exact f7 hC ha.1 fun a'' w'' h1 h2=>bR hs hQ k t1 _ a'' w'' h1 e1 hB3 h2
  ·refine f7 hC ha.2 fun a'' w'' h1 h2=>?_;rw[e3];exact bR hs hQ k t2 _ a'' w'' h1 e2 hB4 h2
theorem yH{id:Nat}{a:Act}{w:World}{l:List Oper}(t:fB)(hm:P.follows .mixedOrders=true)
  (hB:(Region.noSelect l.toArray&&pR .any l.toArray t (Array.replicate l.toArray.size false)&&ZF t&&decide (tN t≤l.toArray.size))=true)
  (hQ:∀(c:_) (a:Act) (d:Option Tmp) (v:Value) (w:World),Q (.panic c) (a.put d v) w→Q (.panic c) a w) (hC:C w.drew)
  (h:∀wd,wd=w.drew→vJ P l.toArray C Q t a wd):(Code.region id l.toArray true).wp P Q a w:=by
 simp only[zA,qB]at hB;obtain⟨⟨⟨hs,hb⟩,he⟩,hle⟩:=hB;refine wp_region_held (S:=C) hm ?_;have:=bR (md:=.any) hs hQ (l.toArray.size-tN t) t (Array.replicate l.toArray.size false) a w.drew hC he hb (h _ rfl);rwa [Nat.sub_add_cancel hle]at this
theorem tW{is:List Nat}{l:List Oper}{a:Act}{w:World}(hl:kA ops is=l)(h:wpQuiet P ops C (fun a'=>Q .normal a' w) l a):vJ P ops C Q (.last is) a w:=by
 subst hl;exact h
theorem tL{is:List Nat}{c:Nat}{t:fB}{l:List Oper}{a:Act}{w:World}(hl:kA ops is=l)(h:wpQuiet P ops C (cN P ops C Q c (fun a w=>vJ P ops C Q t a w) · w) l a):vJ P ops C Q (.call is c t) a w:=by
 subst hl;exact h
theorem tY{is:List Nat}{c1 c2:Nat}{t1 t2:fB}{l:List Oper}{a:Act}{w:World}(hl:kA ops is=l)
  (h:wpQuiet P ops C (fun a=>cN P ops C Q c1 (fun a w=>vJ P ops C Q t1 a w) a w∧cN P ops C Q c2 (fun a w=>vJ P ops C Q t2 a w) a w) l a):vJ P ops C Q (.fork is c1 t1 c2 t2) a w:=by
 subst hl;exact h
theorem m8{c:Nat}{t:fB}{o:Oper}{a:Act}{w:World}(ho:ops[c]?=some o)(hw:Region.wanted o (yielded ops a.tmps)=true)(h:∀K:Act→World→Prop,(∀a w,C w→vJ P ops C Q t a w→K a w)→o.wp P a w K Q):cN P ops C Q c (fun a w=>vJ P ops C Q t a w) a w:=by
 unfold cN;rw[ho];simp only[hw,if_true];exact h _ fun a w hc h=>⟨hc,h⟩
end
end
section
open Go.RowKit Go.ChangeShapes Go.WideShapes Num
def r9(w:World)(A:Option Addr)(L:List Nat):Prop:=L≠[]→∃ad,A=some ad∧ad.block<w.heap.size∧∀j (h:j<L.length),w.cell? (ad.add j)=some (.int .u16 (L[j]:Int))
theorem p8(a:Addr)(n:Nat):(a.add n).block=a.block:=by unfold Addr.add;split<;>rfl
section
variable {w w':World} {A:Option Addr} {L:List Nat}
theorem r9.nil:r9 w A []:=fun h=>absurd rfl h
theorem r9.at_(h:r9 w A L){k:Nat}(hk:k<L.length):∃ad,A=some ad∧ad.block<w.heap.size∧w.cell? (ad.add k)=some (.int .u16 (L.getD k 0:Int)):=by
 obtain⟨ad,hA,hb,hc⟩:=h zMQ;exact⟨ad,hA,hb,by rw[hc k hk];simp[hk]⟩
theorem r9.below(h:r9 w A L)(hb:Below w.heap.size w w'):r9 w' A L:=fun hne=>by
 obtain⟨ad,hA,hlt,hc⟩:=h hne;exact⟨ad,hA,zS hlt hb.size,fun j hj=>(hb.cell (p:=ad.add j) (by rw[p8];exact hlt)).trans (hc j hj)⟩
end
def nth(L:List Nat)(i:Nat):Nat:=L.getD i 0
theorem nth_le{L:List Nat}(h:∀x∈L,x≤65535)(i:Nat):nth L i≤65535:=by
 unfold nth;rw[qV];rcases jT i L.length with hi|hi
 ·rw[zP hi];exact h _ (kX hi)
 ·rw[qW hi];simp
section
variable {H:Type} {enc:TypeId×Value→H} {W:World} {r:Reach} {base:Nat}
end
end
end Go.Proofs.YthknmadinmigfaaGreatDoor
