/- MemNum, MemBlk, AddrNum, FontAdd, FontCat, FontTab, Mem, MemLog, MemWrite, MemNew, MemBytes, FontRef, Tail, MemPut, MemRef2, Opc, FlaAllow, Put1, PixNum, PopNum, PixMath, PlaneNum, PlaneFwd, PlaneBox, Fork, Words16. -/
import Derived.Test.YthknmadinmigfaaGreatDoorRows
import Derived.Test.YthknmadinmigfaaGreatDoorProg
import Derived.Test.YthknmadinmigfaaGreatDoorMk0a
set_option maxRecDepth 400000
set_option maxHeartbeats 64000000
set_option linter.unusedVariables false
set_option linter.unusedSimpArgs false
namespace Go.Proofs.YthknmadinmigfaaGreatDoor
section
def put(M:List Int)(a:Int):List Int→List Int
 |[]=>M
 |x::b=>put (M.set (a%65536).toNat x) (a+1) b
theorem zJ9(M:List Int)(a:Int):put M a []=M:=rfl
theorem LM(M:List Int)(a x:Int)(b:List Int):put M a (x::b)=put (M.set (a%65536).toNat x) (a+1) b:=rfl
theorem vA(b:List Int):∀(M:List Int) (a:Int),(put M a b).length=M.length:=by
 induction b with
 |nil=>intro M a;rfl
 |cons x b ih=>intro M a;rw[LM,ih,List.length_set]
theorem fQ(b:List Int):∀(M:List Int) (a:Int) (hb:b.length≤65536) (hM:M.length=65536) (j:Nat) (hj:j<65536),
  (put M a b)[j]?=if(((j:Int)-a)%65536).toNat<b.length then b[(((j:Int)-a)%65536).toNat]? else M[j]?:=by
 induction b with
 |nil=>intro M a hb hM j hj;simp[zJ9]
 |cons x b ih=>
  intro M a hb hM j hj
  simp only[List.length_cons]at hb⊢
  rw[LM,ih _ _ zYX (by rw[List.length_set];exact hM) j hj]
  by_cases h0:(((j:Int)-a)%65536).toNat=0
  ·have e:(a%65536).toNat=j:=zYX
   rw[zL zYX,zN zYX,h0,e,List.getElem?_set_self zYX]
   rfl
  ·obtain⟨k,hk⟩:∃k,(((j:Int)-a)%65536).toNat=k+1:=⟨_,(Nat.succ_pred h0).symm⟩
   have e1:(((j:Int)-(a+1))%65536).toNat=k:=zYX
   rw[hk,e1,zK,List.getElem?_set_ne zYX]
   by_cases h:k<b.length
   ·rw[zN h,zN zYX]
   ·rw[zL h,zL zYX]
theorem MA{M:List Int}(hM:M.length=65536){j:Nat}(h:¬j<65536):M[j]?=none:=qX zYX
theorem TF{M N:List Int}(hM:M.length=65536)(hN:N.length=65536)(h:∀j,j<65536→M[j]?=N[j]?):M=N:=by
 apply kQ
 intro j
 by_cases hj:j<65536
 ·exact h j hj
 ·rw[MA hM hj,MA hN hj]
theorem bH(M b:List Int)(off:Nat)(hM:M.length=65536)(h:off+b.length≤65536):splice M off b=put M off b:=by
 refine TF (by rw[xV _ _ _ zYX];exact hM) (by rw[vA];exact hM) fun j hj=>?_;rw[xW _ _ _ zYX,fQ b M off zYX hM j hj];by_cases h1:j<off
 ·rw[zN h1,zL zYX]
 ·rw[zL h1];by_cases h2:j<off+b.length
  ·rw[zN h2,zN zYX];congr 1
   omega
  ·rw[zL h2,zL zYX]
theorem ZO(M b:List Int)(a:Int)(at_ d:Nat)(ha:(a%65536).toNat=at_)(hd:d=min b.length (65536-at_))(hM:M.length=65536)(hb:b.length≤65536):
  splice (splice M at_ (b.take d)) 0 (b.drop d)=put M a b:=by
 have l1:(b.take d).length=d:=by rw[qB];omega
 have l2:(b.drop d).length=b.length-d:=jK;have l3:(splice M at_ (b.take d)).length=65536:=by rw[xV _ _ _ zYX];exact hM
 refine TF (by rw[xV _ _ _ zYX];exact l3) (by rw[vA];exact hM) fun j hj=>?_;rw[xW _ _ _ zYX,xW _ _ _ zYX,fQ b M a hb hM j hj,zL zYX,l1,l2];by_cases h1:j<b.length-d
 ·rw[zN zYX,zN zYX,jD];congr 1
  omega
 ·rw[zL zYX];by_cases h2:j<at_
  ·rw[zN h2,zL zYX]
  ·rw[zL h2];by_cases h3:j<at_+d
   ·rw[zN h3,zN zYX,List.getElem?_take,zN zYX];congr 1
    omega
   ·rw[zL h3,zL zYX]
theorem iR(M b:List Int)(a:Int)(k d:Nat)(ha:a%65536=k)(hd:d=min b.length (65536-k))(hM:M.length=65536)(hb:b.length≤65536):
  splice (splice M k (b.take (65536-k))) 0 ((b.drop d).take 65536)=put M a b:=by
 have e1:(b.drop d).take 65536=b.drop d:=qG (by rw[jK];omega);have e2:b.take (65536-k)=b.take d:=by
  by_cases h:b.length≤65536-k
  ·rw[qG h,qG zYX]
  ·have e:d=65536-k:=zYX;rw[e]
 rw[e1,e2];exact ZO M b a k d zYX zYX hM hb
def seg(M:List Int)(a:Int)(n:Nat):List Int:=(List.range n).map fun i:Nat=>M.getD ((a+(i:Int))%65536).toNat 0
theorem vE(M:List Int)(a:Int)(n:Nat):(seg M a n).length=n:=by simp[seg]
theorem wL(M:List Int)(a:Int)(n j:Nat)(hM:M.length=65536)(hj:j<n):(seg M a n)[j]?=M[((a+(j:Int))%65536).toNat]?:=by
 have h:((a+(j:Int))%65536).toNat<M.length:=zYX;simp[seg,hj,h]
theorem J7(M Z:List Int)(a:Int)(at_ n d:Nat)(ha:(a%65536).toNat=at_)(hd:d=min (65536-at_) n)(hM:M.length=65536)(hn:n≤65536)(hZ:Z.length=n):
  splice (splice Z 0 ((M.drop at_).take d)) d (M.take (n-d))=seg M a n:=by
 have l1:((M.drop at_).take d).length=d:=by rw[qB,jK];omega
 have l2:(M.take (n-d)).length=n-d:=by rw[qB];omega
 have l3:(splice Z 0 ((M.drop at_).take d)).length=n:=by rw[xV _ _ _ zYX];exact hZ
 apply kQ
 intro j
 by_cases hj:j<n
 ·rw[wL M a n j hM hj,xW _ _ _ zYX,xW _ _ _ zYX,l1,l2];by_cases h1:j<d
  ·rw[zN h1,zL zYX,zN zYX,List.getElem?_take,zN zYX,jD];congr 1
   omega
  ·rw[zL h1,zN zYX,List.getElem?_take,zN zYX];congr 1
   omega
 ·rw[qX (by rw[xV _ _ _ zYX];omega),qX zLX]
theorem Z2(M Z:List Int)(a:Int)(k n d:Nat)(ha:a%65536=k)(hd:d=min (65536-k) n)(hM:M.length=65536)(hn:n≤65536)(hZ:Z.length=n):
  splice (splice Z 0 ((M.drop k).take n)) d (M.take (n-d))=seg M a n:=by
 have e:(M.drop k).take n=(M.drop k).take d:=by
  by_cases h:n≤65536-k
  ·have e:d=n:=zYX;rw[e]
  ·rw[qG (by rw[jK];omega),qG (by rw[jK];omega)]
 rw[e];exact J7 M Z a k n d zYX zYX hM hn hZ
def cK:List Int:=List.replicate 65536 0
theorem vI:cK.length=65536:=List.length_replicate
def y9(rom:List Int):List Int:=put (put (put cK 80 nN) 160 yA) 512 rom
theorem sC(rom:List Int):(y9 rom).length=65536:=by unfold y9;rw[vA,vA,vA,vI]
end
section
open Go.RowKit Num
def z6:List Value:=[.int .u8 0,.int .u8 0,.int .u8 0,.int .u8 0,.int .u8 0,.int .u8 0,.int .u8 0,.int .u8 0,.int .u8 0,.int .u8 0,.int .u8 0,.int .u8 0,.int .u8 0,.int .u8 0,.int .u8 0,.int .u8 0,.int .u8 0,.int .u8 0,.int .u8 0,.int .u8 0,.int .u8 0,.int .u8 0,.int .u8 0,.int .u8 0,.int .u8 0,.int .u8 0,.int .u8 0,.int .u8 0,.int .u8 0,.int .u8 0,.int .u8 0,.int .u8 0,.int .u8 0,.int .u8 0,.int .u8 0,.int .u8 0,.int .u8 0,.int .u8 0,.int .u8 0,.int .u8 0,.int .u8 0,.int .u8 0,.int .u8 0,.int .u8 0,.int .u8 0,.int .u8 0,.int .u8 0,.int .u8 0,.int .u8 0,.int .u8 0,.int .u8 0,.int .u8 0,.int .u8 0,.int .u8 0,.int .u8 0,.int .u8 0,.int .u8 0,.int .u8 0,.int .u8 0,.int .u8 0,.int .u8 0,.int .u8 0,.int .u8 0,.int .u8 0]
def z7:List Value:=List.append z6 z6
def z8:List Value:=List.append z7 z7
def z9:List Value:=List.append z8 z8
def z10:List Value:=List.append z9 z9
def z11:List Value:=List.append z10 z10
def z12:List Value:=List.append z11 z11
def z13:List Value:=List.append z12 z12
def z14:List Value:=List.append z13 z13
def z15:List Value:=List.append z14 z14
theorem QM{L:List Value}{n:Nat}(h:L=List.replicate n (.int .u8 0)):List.append L L=List.replicate (n+n) (.int .u8 0):=by subst h;exact List.replicate_append_replicate
theorem zWA:z6=List.replicate 64 (.int .u8 0):=rfl
theorem zWC:z7=List.replicate 128 (.int .u8 0):=QM zWA
theorem zWE:z8=List.replicate 256 (.int .u8 0):=QM zWC
theorem zWP:z9=List.replicate 512 (.int .u8 0):=QM zWE
theorem AG:z10=List.replicate 1024 (.int .u8 0):=QM zWP
theorem AH:z11=List.replicate 2048 (.int .u8 0):=QM AG
theorem AM:z12=List.replicate 4096 (.int .u8 0):=QM AH
theorem AY:z13=List.replicate 8192 (.int .u8 0):=QM AM
theorem AK:z14=List.replicate 16384 (.int .u8 0):=QM AY
theorem z15_eq:z15=List.replicate 32768 (.int .u8 0):=QM AK
def zraw:List Value:=List.append z15 (List.append z14 (List.append z13 (List.append z12 (List.append z11 (List.append z10 (List.append z9 (List.append z8 (List.append z7 (List.append z6 (List.append [.int .u8 0,.int .u8 0,.int .u8 0,.int .u8 0,.int .u8 0,.int .u8 0,.int .u8 0,.int .u8 0,.int .u8 0,.int .u8 0,.int .u8 0,.int .u8 0,.int .u8 0,.int .u8 0,.int .u8 0,.int .u8 0,.int .u8 0,.int .u8 0,.int .u8 0,.int .u8 0,.int .u8 0,.int .u8 0,.int .u8 0,.int .u8 0,.int .u8 0,.int .u8 0,.int .u8 0,.int .u8 0,.int .u8 0,.int .u8 0,.int .u8 0,.int .u8 0] [.int .u8 0,.int .u8 0,.int .u8 0,.int .u8 0,.int .u8 0,.int .u8 0,.int .u8 0,.int .u8 0,.int .u8 0,.int .u8 0,.int .u8 0,.int .u8 0,.int .u8 0,.int .u8 0,.int .u8 0,.int .u8 0,.int .u8 0,.int .u8 0,.int .u8 0,.int .u8 0,.int .u8 0,.int .u8 0,.int .u8 0,.int .u8 0,.int .u8 0,.int .u8 0,.int .u8 0,.int .u8 0,.int .u8 0,.int .u8 0,.int .u8 0,.int .u8 0,.slice none 0 0]))))))))))
theorem yQ{n m:Nat}{L R:List Value}(h:L=List.replicate n (.int .u8 0)){S:List Value}(hS:R=List.replicate m (.int .u8 0)++S):List.append L R=List.replicate (n+m) (.int .u8 0)++S:=by
 subst h;subst hS;show List.replicate n (Value.int .u8 0)++(List.replicate m (Value.int .u8 0)++S)=_;rw[←j9,List.replicate_append_replicate]
theorem zZ0:zraw=List.replicate 65536 (.int .u8 0)++[.slice none 0 0]:=
 yQ z15_eq (yQ AK (yQ AY (yQ AM (yQ AH (yQ AG (yQ zWP (yQ zWE (yQ zWC (yQ zWA (yQ (n:=32) (m:=32) rfl rfl))))))))))
def cells(M:List Int)(v:Value):Array Value:=(M.map (Value.int .u8)++[v]).toArray
theorem JE:zraw.toArray=cells cK (.slice none 0 0):=by
 rw[zZ0];unfold cells cK;rw[List.map_replicate]
theorem TG:(Tryz.prog.info? 150).map (fun i=>(i.zero,i.size))=some (some (.agg (cells cK (.slice none 0 0))),65537):=by
 rw[←JE];kernel_rfl
theorem zZ4(w:World):(zeroValue 150).run Tryz.prog w=.ok (.agg (cells cK (.slice none 0 0))) w:=(zero_of_info TG).1 w
def mE(p:Nat)(M:List Int)(v:Value)(w:World):Prop:=w.heap[p]?=some (.cells (cells M v) 150 (0,0))
section
variable {p:Nat} {M:List Int} {v:Value} {w w':World}
theorem mE.lt(h:mE p M v w):p<w.heap.size:=(qC.1 h).1
theorem mE.cell(h:mE p M v w)(hM:M.length=65536)(j:Nat)(hj:j<65536):w.cell? ⟨p,j,none⟩=some (.int .u8 (M[j]' zYX)):=by
 rw[jC w p j _ _ _ h];unfold cells;rw[zX,qD zYG,qO,zP zYX];rfl
theorem mE.log(h:mE p M v w)(hM:M.length=65536):w.cell? ⟨p,65536,none⟩=some v:=by
 rw[jC w p _ _ _ _ h];unfold cells;rw[zX,qF zYG];simp[hM]
theorem mE.frozen(h:mE p M v w)(j:Nat):w.frozen? ⟨p,j,none⟩=false:=frozen_of_row w p j _ _ h
theorem mE.keep(h:mE p M v w)(hk:w'.heap[p]?=w.heap[p]?):mE p M v w':=hk.trans h
theorem mE.new(w:World):mE w.heap.size cK (.slice none 0 0) (w.alloc (.cells (cells cK (.slice none 0 0)) 150)):=jZ _ _
theorem mE.setLog(h:mE p M v w)(hM:M.length=65536)(v':Value):mE p M v' (w.setCell ⟨p,65536,none⟩ v'):=by
 unfold mE;rw[setCell_eq_setRow w p _ _ _ _ v' h,setRow_heap w p _ _ _ _ h];congr 2
 unfold cells
 apply Array.ext'
 simp[hM]
end
theorem Z6(M b:List Int)(v:Value)(off:Nat)(hM:M.length=65536)(h:off+b.length≤65536):
  (splice (M.map (Value.int .u8)++[v]) off (b.map (Value.int .u8))).toArray=cells (splice M off b) v:=by
 unfold cells splice;congr 1
 have e1:(M.map (Value.int .u8)++[v]).take off=(M.take off).map (Value.int .u8):=by
  rw[List.take_append_of_le_length zYG,List.map_take]
 have e2:(M.map (Value.int .u8)++[v]).drop (off+(b.map (Value.int .u8)).length)=(M.drop (off+b.length)).map (Value.int .u8)++[v]:=by
  rw[List.drop_append_of_le_length zYG,List.map_drop,jT]
 rw[e1,e2];simp
theorem xO{w:World}(ty:TypeId)(p off n c:Nat)(A:Option Addr)(m k d:Nat)(hd:d=min m n)
  (L:List Int) (hL:L.length=m) (hR:Rd w A L) (M:List Int) (v:Value) (hM:M.length=65536) (hp:mE p M v w) (hn:off+n=65536):
  ∃w',(Builtin.copy_ #[22,22] ty #[.slice (some ⟨p,off,none⟩) n c,.slice A m k]).run Tryz.prog w=.ok (.int .i64 (d:Int)) w'∧mE p (splice M off (L.take n)) v w'∧∀g,mC p g w w':=by
 have hll:(L.take n).length≤n:=by rw[qB];omega
 obtain⟨w',h0,h1,h2⟩:=vC ty p off n c _ (fun _=>rfl) A m k d hd L hL hR (M.map (Value.int .u8)++[v]) 150 hp (by simp[hM];omega);refine⟨w',h0,?_,h2⟩;unfold mE;rw[h1,Z6 M (L.take n) v off hM zYX]
end
section
namespace Num
open Go.RowKit
theorem N9(x:Int):bits .and .i64 x 65535=x%65536:=by
 have h:(BitVec.ofInt 64 x&&&BitVec.ofInt 64 65535).toNat=(x%18446744073709551616).toNat%65536:=by
  have e:(BitVec.ofInt 64 65535).toNat=2^16-1:=zYY;rw[BitVec.toNat_and,e,Nat.and_two_pow_sub_one_eq_mod,BitVec.toNat_ofInt];rfl
 show IntKind.i64.wrap (((BitVec.ofInt 64 x&&&BitVec.ofInt 64 65535).toNat:Nat):Int)=_;rw[h,zU];omega
def lst(a:Int)(n:Nat):List Int:=(List.range n).map fun(i:Nat)=>(a+(i:Int))%65536
end Num
end
section
open Go.RowKit Num
theorem add5(X:List Int)(hX:X.length=5)(v:Value)(n:Nat)(M:List Int)(base:Nat)(w:World)
  (hown:w.ownsRow base 5 1 v n (M.map (Value.int .u8))) (hbase:base≤w.heap.size) (hn:n≤1000):
  Calls Tryz.prog 115 #[v,.agg (arr X)] w fun e w'=>∃v',e=.returned v'∧w'.ownsRow base 5 1 v' (n+5) ((M++X).map (Value.int .u8))∧Below base w w':=by
 obtain⟨i0,hi,hz0,hz1,hz2⟩:=kG rN;have hown1:=hown.alloc (.cells (arr X) 188);have hbox:(w.alloc (.cells (arr X) 188)).heap[w.heap.size]?=some (.cells (arr X) 188 (0,0)):=jZ _ _;have hb1:Below base w (w.alloc (.cells (arr X) 188)):=(zG _ _).alloc hbase _;go_enter Tryz.func115,Tryz.ntmps115;go_upto_region 1 with fail;refine zB ?_;refine jO rfl 188 (.tmp 3) rfl w.heap.size rfl 188 (arr X) (0,0) _ hbox Tryz.underlying188 rfl (by rw[iQ,hX];kernel_rfl) ?_;generalize w.alloc (Obj.cells (arr X) 188)=w1 at*;clear hown;go_wp2;go_loopw [0,5,8] (fun o i c wr=>∃k:Nat,k≤5∧c=.int .i64 k∧wr.ownsRow base 5 1 o (n+k) ((M++X.take k).map (Value.int .u8))∧Below base w wr∧wr.heap[w.heap.size]?=some (.cells (arr X) 188 (0,0))) (fun _ _ c _=>5-(intOf c).toNat)
 case atStart=>exact⟨0,qA _,rfl,by simpa using hown1,hb1,hbox⟩
 case round=>
  obtain⟨k,hk,rfl,hown,hb,hbox2⟩:=hrel
  have hne:=bK hbox2 zYY hown
  clear hbox hown1 hb1
  by_cases hlt:k<5
  ·have hkX:k<X.length:=zYX
   have hc:wr.cell? ⟨w.heap.size,k,none⟩=some (.int .u8 X[k]):=(jC wr _ k _ _ _ hbox2).trans (fK X k hkX)
   have ht:=i5 hkX
   obtain⟨x,hx⟩:∃x,X[k]=x:=⟨_,rfl⟩
   rw[hx]at hc ht
   clear hx
   go_wp2_with ((at_builtin;refine wpList_append_own _ rfl _ _ 22 rfl base 5 i0 (.int .u8 0) 1 1 Tryz.underlying22 hi hz0 hz1 hz2 rfl zYY _ _ _ rfl (hown.alloc _) ⟨_,0,none⟩ 1 1 [.int .u8 x] rfl rfl (cell_one_new _ _ _) zLK zYF zYX zYI ?_;intro v' w2 hown' hgrow _))
   go_roundw
   case rel=>
    refine⟨k+1,by omega,by go_num,?_,(hb.alloc (zR hbase hb.size) _).grown hgrow zYI fun j ej=>(hown.lt j ej).1,aO _ hbox2 hgrow hne⟩
    rw[ht,←j9,kY]
    simpa [qT]using hown'
   case measure=>simp[intOf];omega
  ·have hkn:k=5:=zYX
   subst hkn
   rw[qG zYX]at hown
   go_wp2
   go_ret
   exact⟨_,rfl,hown,hb⟩
theorem add10(X:List Int)(hX:X.length=10)(v:Value)(n:Nat)(M:List Int)(base:Nat)(w:World)
  (hown:w.ownsRow base 5 1 v n (M.map (Value.int .u8))) (hbase:base≤w.heap.size) (hn:n≤1000):
  Calls Tryz.prog 116 #[v,.agg (arr X)] w fun e w'=>∃v',e=.returned v'∧w'.ownsRow base 5 1 v' (n+10) ((M++X).map (Value.int .u8))∧Below base w w':=by
 obtain⟨i0,hi,hz0,hz1,hz2⟩:=kG rN;have hown1:=hown.alloc (.cells (arr X) 191);have hbox:(w.alloc (.cells (arr X) 191)).heap[w.heap.size]?=some (.cells (arr X) 191 (0,0)):=jZ _ _;have hb1:Below base w (w.alloc (.cells (arr X) 191)):=(zG _ _).alloc hbase _;go_enter Tryz.func116,Tryz.ntmps116;go_upto_region 1 with fail;refine zB ?_;refine jO rfl 191 (.tmp 3) rfl w.heap.size rfl 191 (arr X) (0,0) _ hbox Tryz.underlying191 rfl (by rw[iQ,hX];kernel_rfl) ?_;generalize w.alloc (Obj.cells (arr X) 191)=w1 at*;clear hown;go_wp2;go_loopw [0,5,8] (fun o i c wr=>∃k:Nat,k≤10∧c=.int .i64 k∧wr.ownsRow base 5 1 o (n+k) ((M++X.take k).map (Value.int .u8))∧Below base w wr∧wr.heap[w.heap.size]?=some (.cells (arr X) 191 (0,0))) (fun _ _ c _=>10-(intOf c).toNat)
 case atStart=>exact⟨0,qA _,rfl,by simpa using hown1,hb1,hbox⟩
 case round=>
  obtain⟨k,hk,rfl,hown,hb,hbox2⟩:=hrel
  have hne:=bK hbox2 zYY hown
  clear hbox hown1 hb1
  by_cases hlt:k<10
  ·have hkX:k<X.length:=zYX
   have hc:wr.cell? ⟨w.heap.size,k,none⟩=some (.int .u8 X[k]):=(jC wr _ k _ _ _ hbox2).trans (fK X k hkX)
   have ht:=i5 hkX
   obtain⟨x,hx⟩:∃x,X[k]=x:=⟨_,rfl⟩
   rw[hx]at hc ht
   clear hx
   go_wp2_with ((at_builtin;refine wpList_append_own _ rfl _ _ 22 rfl base 5 i0 (.int .u8 0) 1 1 Tryz.underlying22 hi hz0 hz1 hz2 rfl zYY _ _ _ rfl (hown.alloc _) ⟨_,0,none⟩ 1 1 [.int .u8 x] rfl rfl (cell_one_new _ _ _) zLK zYF zYX zYI ?_;intro v' w2 hown' hgrow _))
   go_roundw
   case rel=>
    refine⟨k+1,by omega,by go_num,?_,(hb.alloc (zR hbase hb.size) _).grown hgrow zYI fun j ej=>(hown.lt j ej).1,aO _ hbox2 hgrow hne⟩
    rw[ht,←j9,kY]
    simpa [qT]using hown'
   case measure=>simp[intOf];omega
  ·have hkn:k=10:=zYX
   subst hkn
   rw[qG zYX]at hown
   go_wp2
   go_ret
   exact⟨_,rfl,hown,hb⟩
theorem index5(k:Nat)(h:k<16):∀w:World,(Instr.index 189 (.agg (arr nN)) (.int .i64 k)).run Tryz.prog w=.ok (.agg (arr (tT k))) w:=by
 exact zL4
theorem zV2(w:World):Calls Tryz.prog 76 #[.agg (arr nN)] w (gJ 5 nN w):=by
 obtain⟨i0,hi,hz0,hz1,hz2⟩:=kG rN;have hbox:(w.alloc (.cells (arr nN) 189)).heap[w.heap.size]?=some (.cells (arr nN) 189 (0,0)):=jZ _ _;have hb1:Below w.heap.size w (w.alloc (.cells (arr nN) 189)):=(zG _ _).alloc (zH _) _;go_enter Tryz.func76,Tryz.ntmps76;go_upto_region 2 with fail;refine zB ?_;refine jO rfl 189 (.tmp 1) rfl w.heap.size rfl 189 (arr nN) (0,0) _ hbox Tryz.underlying189 rfl zYV ?_;generalize w.alloc (Obj.cells (arr nN) 189)=w1 at*;go_wp2;go_loopw [3,7] (fun o c wr=>∃k:Nat,k≤16∧c=.int .i64 k∧wr.ownsRow w.heap.size 5 1 o (5*k) ((nN.take (5*k)).map (Value.int .u8))∧Below w.heap.size w wr) (fun _ c _=>16-(intOf c).toNat)
 case atStart=>exact⟨0,qA _,rfl,kZ _ _ _ _,hb1⟩
 case round=>
  obtain⟨k,hk,rfl,hown,hb⟩:=hrel
  clear hb1 hbox
  by_cases hlt:k<16
  ·have ik:=index5 k hlt
   have ht:=YJ k
   obtain⟨x0,x1,x2,x3,x4,hx⟩:=five (YK hlt)
   rw[hx]at ik ht
   have ik':∀w:World,(Instr.index 189 (.agg (arr nN)) (.int .i64 k)).run Tryz.prog w=.ok (.agg #[.int .u8 x0,.int .u8 x1,.int .u8 x2,.int .u8 x3,.int .u8 x4]) w:=ik
   clear ik hx
   go_wp2_with fail
   refine(add5 [x0,x1,x2,x3,x4] rfl _ (5*k) (nN.take (5*k)) w.heap.size _ (hown.alloc _) zYI zYX).mono ?_
   rintro e w' ⟨v',rfl,hown',hb'⟩
   go_wp2
   go_roundw
   case rel=>exact⟨k+1,by omega,by go_num,by rw[ht];exact hown',(hb.alloc hb.size _).trans hb'⟩
   case measure=>simp[intOf];omega
  ·have hkn:k=16:=zYX
   subst hkn
   go_wp2
   go_ret
   rw[qG (by rw[vH];decide)]at hown
   exact⟨_,rfl,by rw[vH];exact hown,hb⟩
theorem zX8(k:Nat)(h:k<16):∀w:World,(Instr.index 192 (.agg (arr yA)) (.int .i64 k)).run Tryz.prog w=.ok (.agg (arr (N7 k))) w:=by
 exact zL4
theorem zQ1(w:World):Calls Tryz.prog 77 #[.agg (arr yA)] w (gJ 5 yA w):=by
 obtain⟨i0,hi,hz0,hz1,hz2⟩:=kG rN;have hbox:(w.alloc (.cells (arr yA) 192)).heap[w.heap.size]?=some (.cells (arr yA) 192 (0,0)):=jZ _ _;have hb1:Below w.heap.size w (w.alloc (.cells (arr yA) 192)):=(zG _ _).alloc (zH _) _;go_enter Tryz.func77,Tryz.ntmps77;go_upto_region 2 with fail;refine zB ?_;refine jO rfl 192 (.tmp 1) rfl w.heap.size rfl 192 (arr yA) (0,0) _ hbox Tryz.underlying192 rfl zYV ?_;generalize w.alloc (Obj.cells (arr yA) 192)=w1 at*;go_wp2;go_loopw [3,7] (fun o c wr=>∃k:Nat,k≤16∧c=.int .i64 k∧wr.ownsRow w.heap.size 5 1 o (10*k) ((yA.take (10*k)).map (Value.int .u8))∧Below w.heap.size w wr) (fun _ c _=>16-(intOf c).toNat)
 case atStart=>exact⟨0,qA _,rfl,kZ _ _ _ _,hb1⟩
 case round=>
  obtain⟨k,hk,rfl,hown,hb⟩:=hrel
  clear hb1 hbox
  by_cases hlt:k<16
  ·have ik:=zX8 k hlt
   have ht:=zZK k
   obtain⟨x0,x1,x2,x3,x4,x5,x6,x7,x8,x9,hx⟩:=ten (zZW hlt)
   rw[hx]at ik ht
   have ik':∀w:World,(Instr.index 192 (.agg (arr yA)) (.int .i64 k)).run Tryz.prog w=.ok (.agg #[.int .u8 x0,.int .u8 x1,.int .u8 x2,.int .u8 x3,.int .u8 x4,.int .u8 x5,.int .u8 x6,.int .u8 x7,.int .u8 x8,.int .u8 x9]) w:=ik
   clear ik hx
   go_wp2_with fail
   refine(add10 [x0,x1,x2,x3,x4,x5,x6,x7,x8,x9] rfl _ (10*k) (yA.take (10*k)) w.heap.size _ (hown.alloc _) zYI zYX).mono ?_
   rintro e w' ⟨v',rfl,hown',hb'⟩
   go_wp2
   go_roundw
   case rel=>exact⟨k+1,by omega,by go_num,by rw[ht];exact hown',(hb.alloc hb.size _).trans hb'⟩
   case measure=>simp[intOf];omega
  ·have hkn:k=16:=zYX
   subst hkn
   go_wp2
   go_ret
   rw[qG (by rw[cI];decide)]at hown
   exact⟨_,rfl,by rw[cI];exact hown,hb⟩
structure xC(w:World):Prop where
 lt:1<w.heap.size
 big:∀j (h:j<yA.length),w.cell? ⟨1,j,none⟩=some (.int .u8 yA[j])
 small:∀j (h:j<nN.length),w.cell? ⟨0,j,none⟩=some (.int .u8 nN[j])
theorem xC.below{w w':World}{n:Nat}(h:xC w)(hb:Below n w w')(hn:1<n):xC w':=
 ⟨zF h.lt hb.size,fun j hj=>(hb.cell (p:=⟨1,j,none⟩) zYG).trans (h.big j hj),fun j hj=>(hb.cell (p:=⟨0,j,none⟩) zYG).trans (h.small j hj)⟩
theorem xC.step{w w':World}(h:xC w)(hb:Below w.heap.size w w'):xC w':=h.below hb h.lt
theorem dI(g o j:Nat):(⟨g,o,none⟩:Addr).add j=⟨g,o+j,none⟩:=by unfold Addr.add;split<;>simp_all
theorem GJ(w:World)(hL:xC w):Calls Tryz.prog 65 #[] w (gJ 5 nN w):=by
 go_enter Tryz.func65,Tryz.ntmps65;go_upto_region 1 with fail;refine zB ?_;refine yB rfl 189 (.global 0) rfl ⟨0,0,none⟩ rfl nN _ (fun j h=>by rw[dI,qY];exact hL.small j h) Tryz.underlying189 rfl (by rw[vH];kernel_rfl) ?_;go_wp2_with fail;refine(zV2 _).mono ?_;rintro e w' ⟨v,rfl,hown,hb⟩;go_wp2;go_ret;exact⟨_,rfl,hown,hb⟩
theorem zV8(w:World)(hL:xC w):Calls Tryz.prog 66 #[] w (gJ 5 yA w):=by
 go_enter Tryz.func66,Tryz.ntmps66;go_upto_region 1 with fail;refine zB ?_;refine yB rfl 192 (.global 1) rfl ⟨1,0,none⟩ rfl yA _ (fun j h=>by rw[dI,qY];exact hL.big j h) Tryz.underlying192 rfl (by rw[cI];kernel_rfl) ?_;go_wp2_with fail;refine(zQ1 _).mono ?_;rintro e w' ⟨v,rfl,hown,hb⟩;go_wp2;go_ret;exact⟨_,rfl,hown,hb⟩
theorem rM(n:Int)(k:Nat)(w:World)(h:n%65536=k):Calls Tryz.prog 71 #[.int .i64 n] w fun e w'=>e=.returned (.int .i64 k)∧w'=w:=by
 have hb:=N9 n;rw[h]at hb;clear h;go_enter Tryz.func71,Tryz.ntmps71;go_wp2;exact zMZ
def Reads(v:Value)(w:World)(e:Ending)(w':World):Prop:=e=.returned v∧∃n,w'=w.drewN n
theorem EO:(Tryz.prog.info? 144).map (fun i=>(i.zero,i.size,i.bytes))=some (some (.agg #[.int .i64 0,.int .i64 0]),2,16):=by kernel_rfl
def zZP(p:Nat)(M:List Int)(base n:Nat)(xs:List Value)(v:Value)(w:World)(e:Ending)(w':World):Prop:=
 e=.returned (.tuple #[])∧∃v',mE p M v' w'∧w'.ownsRow base 144 2 v' n xs∧mC p v.ownBlock w w'∧(v'.ownBlock=v.ownBlock∨∃g,v'.ownBlock=some g∧w.heap.size≤g)
theorem U1(w:World)(x y:Value)(t:TypeId):∀j u,[x,y][j]?=some u→(w.alloc (.cells #[x,y] t)).cell? ((⟨w.heap.size,0,none⟩:Addr).add j)=some u:=by
 intro j u hj;rw[cT,jC _ _ _ _ _ _ (jZ w _)];simpa using hj
theorem E5{p:Nat}{M:List Int}{v:Value}{w1 w2:World}{base n:Nat}{xs:List Value}{o:Obj}(hp:mE p M v w1)(hv:w1.ownsRow base 144 2 v n xs)(hg:(w1.drew.alloc o).grownBy w2 v.ownBlock):mE p M v w2:=by
 have hlt:=hp.lt;have hne:=wB hv hp zYY;refine hp.keep ((hg.block p zYG (fun e=>hne e.symm)).trans ?_);exact heap_alloc_old w1.drew _ hlt
theorem T6{p:Nat}{M:List Int}{v:Value}{base n cap gg:Nat}{xs:List Value}{w w1 w2:World}{o:Obj}(hM:M.length=65536)(ha:mC p v.ownBlock w w1)(hs:w1.heap.size=w.heap.size+1)(q:mE p M v w2)
  (hown:w2.ownsRow base 144 2 (.slice (some ⟨gg,0,none⟩) (n+1) cap) (n+1) xs) (hg:(w1.alloc o).drew.grownBy w2 v.ownBlock) (hat:v.ownBlock=some gg∨gg=(w1.alloc o).drew.heap.size):
  zZP p M base (n+1) xs v w (.returned (.tuple #[])) (w2.setCell ⟨p,65536,none⟩ (.slice (some ⟨gg,0,none⟩) (n+1) cap)):=by
 have hne:=wB hown q zYY;refine⟨rfl,_,q.setLog hM _,rY hown (p:=p) (g:=none) (mC.setCell _ _) hne (fun k hk=>by cases hk),?_,?_⟩
 ·have h1:mC p v.ownBlock w1 (w1.alloc o).drew:=(mC.of_below ((zG _ _).alloc (zH _) _)).drew;exact((ha.trans h1).trans (mC.of_grown hg)).trans (mC.setCell _ _)
 ·rcases hat with h|h
  ·exact .inl h.symm
  ·refine .inr ⟨gg,rfl,?_⟩;rw[h];show w.heap.size≤(w1.alloc o).heap.size;simp;omega
theorem zWH(p:Nat)(M:List Int)(v:Value)(n base:Nat)(xs:List Value)(x y:Int)(w:World)(hM:M.length=65536)(hp:mE p M v w)(hv:w.ownsRow base 144 2 v n xs)(hb:base≤w.heap.size)(hn:n≤1000):
  Calls Tryz.prog 194 #[.pointer (some ⟨p,65536,none⟩),.agg #[.int .i64 x,.int .i64 y]] w (zZP p M base (n+1) (xs++[.int .i64 x,.int .i64 y]) v w):=by
 obtain⟨i0,hi,hz0,hz1,hz2⟩:=kG EO;have hlt:=hp.lt;have cl:(w.alloc (.cells #[.int .i64 x,.int .i64 y] 144)).cell? ⟨p,65536,none⟩=some v:=by
  rw[qP (w:=w) (heap_alloc_old _ _ hlt)];exact hp.log hM
 have clf:(w.alloc (.cells #[.int .i64 x,.int .i64 y] 144)).frozen? ⟨p,65536,none⟩=false:=by
  rw[World.frozen?_of_block (w:=w) (heap_alloc_old _ _ hlt)];exact hp.frozen _
 have c0:(w.alloc (.cells #[.int .i64 x,.int .i64 y] 144)).cell? ⟨w.heap.size,0,none⟩=some (.int .i64 x):=by rw[jC _ _ _ _ _ _ (jZ w _)];rfl
 have c1:(w.alloc (.cells #[.int .i64 x,.int .i64 y] 144)).cell? ⟨w.heap.size,1,none⟩=some (.int .i64 y):=by rw[jC _ _ _ _ _ _ (jZ w _)];rfl
 have P:=zW (zM hp hv);clear hp hv;go_enter Tryz.func194,Tryz.ntmps194;go_wp2;obtain⟨w1,hw1⟩:∃w1,w1=w.alloc (.cells #[.int .i64 x,.int .i64 y] 144):=⟨_,rfl⟩;rw[←hw1]at cl clf c0 c1⊢;have hp1:mE p M v w1:=P.out.1.keep (by rw[hw1];exact heap_alloc_old _ _ hlt);have hv1:w1.ownsRow base 144 2 v n xs:=by rw[hw1];exact P.out.2.alloc _
 have hs1:w1.heap.size=w.heap.size+1:=by rw[hw1];simp
 have ha1:mC p v.ownBlock w w1:=by rw[hw1];exact mC.of_below ((zG _ _).alloc (zH _) _)
 have Q:=zW (zM hp1 (zM hv1 (zM ha1 hs1)));clear hw1 hp1 hv1 ha1 hs1;have g1:w.heap.size<w1.heap.size:=by have:=Q.out.2.2.2;omega
 have g2:p<w1.heap.size:=zYX;go_region_law ((refine step_append_lies _ zYM _ _ _ zYM base 144 i0 _ 2 16 Tryz.underlying111 hi hz0 hz1 hz2 rfl zYX v n xs zYM (World.ownsRow.alloc (w:=w1.drew) Q.out.2.1 _) ⟨w1.heap.size,0,none⟩ 1 1 [.int .i64 x,.int .i64 y] zYM zYM (U1 w1.drew _ _ _) zLK zYX zYF zYX zYG _ rfl ?_;intro gg cap w2 hown2 hgrow hat hlt2;have q2:=E5 Q.out.1 Q.out.2.1 hgrow;have ql:=q2.log hM;have qf:=q2.frozen 65536;have Q2:=zW (zM q2 (zM hown2 (zM hgrow hat)));clear q2 hown2 hgrow hat))
 all_goals
  go_wp2
  go_end0
  exact T6 hM Q.out.2.2.1 Q.out.2.2.2 Q2.out.1 Q2.out.2.1 Q2.out.2.2.1 Q2.out.2.2.2
def Took(p:Nat)(M:List Int)(v:Value)(w:World)(e:Ending)(w':World):Prop:=e=.returned v∧mE p M (.slice none 0 0) w'∧∀g,mC p g w w'
theorem A8(p:Nat)(M:List Int)(A:Option Addr)(n c:Nat)(w:World)(hM:M.length=65536)(hp:mE p M (.slice A n c) w):
  Calls Tryz.prog 58 #[.pointer (some ⟨p,65536,none⟩)] w (Took p M (.slice A n c) w):=by
 have cl:=hp.log hM;have clf:=hp.frozen 65536;have P:=zW (zM hp hM);clear hp hM;go_enter Tryz.func58,Tryz.ntmps58;go_wp2;go_ret;exact⟨rfl,P.out.1.setLog P.out.2 _,fun g=>mC.setCell _ _⟩
theorem SD(p:Nat)(M:List Int)(A:Option Addr)(n c:Nat)(w:World)(hM:M.length=65536)(hp:mE p M (.slice A n c) w):
  Calls Tryz.prog 36 #[.pointer (some ⟨p,0,none⟩)] w (Took p M (.slice A n c) w):=by
 have P:=zW (zM hp hM);clear hp hM;go_enter Tryz.func36,Tryz.ntmps36;go_wp2_with fail;refine(A8 p M A n c _ P.out.2 P.out.1).mono ?_;rintro e w' ⟨rfl,h⟩;go_wp2;go_ret;exact⟨rfl,h⟩
theorem Y9:Tryz.prog.arrayLen 146=65536:=by kernel_rfl
theorem dT(p k:Nat)(hk:k<65536)(w:World):(Instr.sliceAt 146 (.pointer (some ⟨p,0,none⟩)) (some (.int .i64 (k:Int))) none none).run Tryz.prog w=.ok (.slice (some ⟨p,k,none⟩) (65536-k) (65536-k)) w:=by
 have h:=run_sliceAt_array_l (P:=Tryz.prog) w 146 ⟨p,0,none⟩ Tryz.underlying146 .i64 k zYX (by rw[Y9];omega);rw[h,Y9];show Result.ok (slicedAt _ _ _ _ 1) w=_;unfold slicedAt;rw[zL zYG,cT];simp
theorem TE(p N:Nat)(hN:N=65536)(w:World):(Instr.sliceAt 146 (.pointer (some ⟨p,0,none⟩)) none none none).run Tryz.prog w=.ok (.slice (some ⟨p,0,none⟩) N N) w:=by
 subst hN;have h:=run_sliceAt_array_all (P:=Tryz.prog) w 146 ⟨p,0,none⟩ Tryz.underlying146;rw[h,Y9];show Result.ok (slicedAt _ _ _ _ 1) w=_;unfold slicedAt;rw[zL zYX,cT]
theorem T7(p:Nat)(M:List Int)(v:Value)(n base:Nat)(xs:List Value)(a:Int)(k:Nat)(A:Option Addr)(m c:Nat)(L:List Int)(w:World)(hM:M.length=65536)(hp:mE p M v w)
  (hv:w.ownsRow base 144 2 v n xs) (hb:base≤w.heap.size) (hn:n≤1000) (hk:a%65536=k) (hL:L.length=m) (m0:0<m) (m1:m≤65536) (hmc:m≤c) (hR:Rd w A L) (hA:∀ad,A=some ad→ad.block≠p):
  Calls Tryz.prog 165 #[.pointer (some ⟨p,0,none⟩),.int .i64 a,.slice A m c] w (zZP p (put M a L) base (n+1) (xs++[.int .i64 k,.int .i64 m]) v w):=by
 have k0:0≤(k:Int):=zYX;have k1:(k:Int)<65536:=zYX;have k2:k<65536:=zYX;have ks:=dT p k k2;have k3:((m:Int)==0)=false:=by simp;omega
 have H:=zW (zM hk (zM hL (zM hM (zM hp (zM hv (zM hR hA))))));clear hk hL hM hp hv hR hA;go_enter Tryz.func165,Tryz.ntmps165;go_wp2_with fail;refine(rM _ _ _ H.out.1).mono ?_;rintro e w0 ⟨rfl,h⟩;subst h;go_wp2_with fail;obtain⟨d,hd⟩:∃d,d=min m (65536-k):=⟨_,rfl⟩;obtain⟨w1,hrun,hp1,ha1⟩:=xO 3 p k (65536-k) (65536-k) A m c d hd L H.out.2.1 H.out.2.2.2.2.2.1 M v H.out.2.2.1 H.out.2.2.2.1 zYX;have D:=zW hd;have d0:0≤(d:Int):=zYX;have d1:(d:Int)≤(m:Int):=zYX;have d2:(d:Int)≤(c:Int):=zYX;have P1:=zW (zM hp1 ha1);clear hd hp1 ha1;rw[hrun];clear hrun ks;go_wp2_with fail;obtain⟨N,hN⟩:∃N,N=65536:=⟨_,rfl⟩;have kl:=TE p N hN;have HN:=zW hN;clear hN;refine mV (C:=fun w'=>∃x:xQ,w'=x.w) [([0,1,2,3,4,5,6],7)] [] zYV zYV (fun _ _ d _ _ h=>by cases d<;>exact h) (xQ.any _) ?_;intro wd hwd;have P2:mE p (splice M k (L.take (65536-k))) v wd∧∀g,mC p g w0 wd:=by rw[hwd];exact⟨P1.out.1,fun g=>(P1.out.2 g).drew⟩
 have PD:=zW P2;clear hwd P2 P1;refine mL zYW zYM ?_;repeat(go_big_quiet_step (fail))
 refine zY ?_;refine mZ zYM ?_;intro K hK;have hl1:(splice M k (L.take (65536-k))).length=65536:=by
  have h1:=H.out.2.1;have h2:=H.out.2.2.1;rw[xV _ _ _ (by rw[qB];omega)];exact h2
 have R1:Rd wd A L:=H.out.2.2.2.2.2.1.keep ((PD.out.2 none).size) fun ad e hlt=>(PD.out.2 none).block ad.block hlt (H.out.2.2.2.2.2.2 ad e) zYH;obtain⟨w2,hrun,hp2,ha2⟩:=xO 3 p 0 N N (if c=d then A else A.map (·.add d)) (m-d) (c-d) (m-d) (by have:=HN.out;omega) (L.drop d) (by rw[jK,H.out.2.1]) (R1.cut (by rw[H.out.2.1];exact hmc)) _ v hl1 PD.out.1 (by have:=HN.out;omega);refine vN (.tmp 27) (.tmp 30) rfl 3 rfl _ _ _ zYM zYM hrun 31 zYM ?_;simp only[zQ,zZ,zJ];refine hK _ _ (xQ.any _) ?_;clear hK K hrun;generalize Value.slice (if c=d then A else A.map (·.add d)) (m-d) (c-d)=V1;generalize Value.int .i64 ((m-d:Nat):Int)=V2;refine nS zYW ?_;repeat(go_big_quiet_step (fail))
 refine zY ?_;have e2:splice (splice M k (L.take (65536-k))) 0 ((L.drop d).take N)=put M a L:=by
  rw[HN.out];have h1:=H.out.2.1;have h4:=D.out;exact iR M L a k d H.out.1 zYX H.out.2.2.1 zYX
 rw[e2]at hp2;have a02:∀g,mC p g w0 w2:=fun g=>(PD.out.2 g).trans (ha2 g);have P2:=zW (zM hp2 a02);clear e2 hl1 hp2 ha2 kl a02 R1;go_wp2_with fail;have hv2:w2.ownsRow base 144 2 v n xs:=rY (g:=none) H.out.2.2.2.2.1 (P2.out.2 none) (wB H.out.2.2.2.2.1 H.out.2.2.2.1 zYY) (fun k hk=>by cases hk);refine(zWH p (put M a L) v n base xs k m w2 (by rw[vA];exact H.out.2.2.1) P2.out.1 hv2 (zR hb (P2.out.2 none).size) hn).mono ?_;rintro e w3 ⟨rfl,h⟩;have H3:=zW h;clear h;go_wp2;go_end0
 obtain⟨v',h1,h2,h3,h4⟩:=H3.out;refine⟨rfl,v',h1,h2,(P2.out.2 _).trans h3,h4.imp id ?_⟩;rintro⟨g,e,h⟩;exact⟨g,e,zR (P2.out.2 none).size h⟩
def Made(L:List Int)(w:World)(e:Ending)(w':World):Prop:=
 ∃p,e=.returned (.tuple #[.pointer (some ⟨p,0,none⟩),.int .i64 0])∧w.heap.size≤p∧mE p (y9 L) (.slice none 0 0) w'∧Below w.heap.size w w'
theorem gJ.slice{ty:TypeId}{L:List Int}{w w':World}{e:Ending}{n:Nat}(h:gJ ty L w e w')(hn:L.length=n)(h0:0<n):
  ∃g c,e=.returned (.slice (some ⟨g,0,none⟩) n c)∧n≤c∧w.heap.size≤g∧Rd w' (some ⟨g,0,none⟩) L∧Below w.heap.size w w':=by
 obtain⟨v,rfl,hown,hb⟩:=h;rw[hn]at hown;obtain⟨g,c,rfl,hg,hlt⟩:=hown.form h0;refine⟨g,c,rfl,?_,hg,QR hown,hb⟩;rcases hown.2 with⟨h1,_⟩|⟨g',c',cur,h1,_,_,hc,_⟩
 ·cases h1
 ·injection h1 with _ _ h2
  omega
theorem new_no(A:Option Addr)(n c:Nat)(w:World)(hn:65024<n):
  Calls Tryz.prog 46 #[.slice A n c] w fun e w'=>e=.returned (.tuple #[.pointer none,.int .i64 7])∧w=w':=by
 have k1:(65024:Int)<(n:Int):=zYX;go_enter Tryz.func46,Tryz.ntmps46;go_wp2;go_ret2;exact⟨rfl,rfl⟩
theorem zXU(A:Option Addr)(n c:Nat)(L:List Int)(w:World)(hn:n≤65024)(hL:L.length=n)(hR:Rd w A L)(hF:xC w):
  Calls Tryz.prog 46 #[.slice A n c] w (Made L w):=by
 have k1:¬(65024:Int)<(n:Int):=zYX;have hz:=zZ4;have H:=zW (zM hL (zM hR hF));clear hL hR hF;go_enter Tryz.func46,Tryz.ntmps46;go_wp2_with fail;clear hz;have B1:Below w.heap.size w (w.alloc (.cells (cells cK (.slice none 0 0)) 150)):=(zG _ _).alloc (zH _) _;have M1:=mE.new w;obtain⟨p,hp⟩:∃p,p=w.heap.size:=⟨_,rfl⟩;generalize w.alloc (.cells (cells cK (.slice none 0 0)) 150)=w1 at*;rw[←hp]at M1⊢;have P1:=zW (zM B1 (zM M1 hp));clear B1 M1 hp;have c80:∀w,(Instr.sliceAt 146 (.pointer (some ⟨p,0,none⟩)) (some (.int .i64 80)) none none).run Tryz.prog w=.ok (.slice (some ⟨p,80,none⟩) 65456 65456) w:=dT p 80 zYX;have c160:∀w,(Instr.sliceAt 146 (.pointer (some ⟨p,0,none⟩)) (some (.int .i64 160)) none none).run Tryz.prog w=.ok (.slice (some ⟨p,160,none⟩) 65376 65376) w:=dT p 160 zYX;have c512:∀w,(Instr.sliceAt 146 (.pointer (some ⟨p,0,none⟩)) (some (.int .i64 512)) none none).run Tryz.prog w=.ok (.slice (some ⟨p,512,none⟩) 65024 65024) w:=dT p 512 zYX;refine mV (C:=fun w'=>∃x:xQ,w'=x.w) [([0,1,2,3],4),([],5)] [] zYV zYV (fun _ _ d _ _ h=>by cases d<;>exact h) (xQ.any _) ?_;intro wd hwd;have P2:Below w.heap.size w wd∧mE p cK (.slice none 0 0) wd∧p=w.heap.size:=by rw[hwd];exact⟨P1.out.1.drew,P1.out.2⟩
 have PD:=zW P2;clear hwd P2 P1;refine mL zYW zYM ?_;repeat(go_big_quiet_step (fail))
 refine zY ?_;refine mZ zYM ?_;intro K hK;go_wp2_with fail;refine(GJ _ (H.out.2.2.step PD.out.1)).mono ?_;rintro e w2 h;obtain⟨g,c2,rfl,_,_,R2,b2⟩:=h.slice vH zYX;have P2:Below w.heap.size w w2∧mE p cK (.slice none 0 0) w2∧p=w.heap.size:=⟨PD.out.1.trans (b2.mono PD.out.1.size),PD.out.2.1.keep (b2.block p PD.out.2.1.lt),PD.out.2.2⟩;obtain⟨v2,hrun,hm2,ha2⟩:=xO 3 p 80 65456 65456 (some ⟨g,0,none⟩) 80 c2 80 zYX nN vH R2 cK (.slice none 0 0) (by exact vI) P2.2.1 zYX;rw[qG (by rw[vH];omega),bH _ _ _ (by exact vI) (by rw[vH];omega)]at hm2;have Q2:=zW (zM (P2.1.trans ((ha2 none).below P2.1.size (by have:=P2.2.2;omega) (fun k hk=>by cases hk))) (zM hm2 P2.2.2));clear h PD R2 b2 P2 hm2 ha2;simp only[];refine hK _ _ (xQ.any _) ?_;clear hK K;refine mL zYW zYM ?_;refine zY ?_;refine mZ zYM ?_;intro K hK;refine vN (.tmp 12) (.tmp 13) rfl 3 rfl _ _ _ zYM zYM hrun 14 zYM ?_;simp only[zQ,zZ,zJ];refine hK _ _ (xQ.any _) ?_;clear hK K hrun;refine nS zYW ?_;refine zY ?_;clear c80;go_wp2_with fail;refine mV (C:=fun w'=>∃x:xQ,w'=x.w) [([0,1,2,3],4),([],5)] [] zYV zYV (fun _ _ d _ _ h=>by cases d<;>exact h) (xQ.any _) ?_;intro wd hwd;have P2:Below w.heap.size w wd∧mE p (put cK 80 nN) (.slice none 0 0) wd∧p=w.heap.size:=by rw[hwd];exact⟨Q2.out.1.drew,Q2.out.2⟩
 have PD:=zW P2;clear hwd P2 Q2;refine mL zYW zYM ?_;repeat(go_big_quiet_step (fail))
 refine zY ?_;refine mZ zYM ?_;intro K hK;go_wp2_with fail;refine(zV8 _ (H.out.2.2.step PD.out.1)).mono ?_;rintro e w3 h;obtain⟨g,c3,rfl,_,_,R3,b3⟩:=h.slice cI zYX;have P3:Below w.heap.size w w3∧mE p (put cK 80 nN) (.slice none 0 0) w3∧p=w.heap.size:=⟨PD.out.1.trans (b3.mono PD.out.1.size),PD.out.2.1.keep (b3.block p PD.out.2.1.lt),PD.out.2.2⟩;obtain⟨v3,hrun,hm3,ha3⟩:=xO 3 p 160 65376 65376 (some ⟨g,0,none⟩) 160 c3 160 zYX yA cI R3 (put cK 80 nN) (.slice none 0 0) (by rw[vA];exact vI) P3.2.1 zYX;rw[qG (by rw[cI];omega),bH _ _ _ (by rw[vA];exact vI) (by rw[cI];omega)]at hm3;have Q3:=zW (zM (P3.1.trans ((ha3 none).below P3.1.size (by have:=P3.2.2;omega) (fun k hk=>by cases hk))) (zM hm3 P3.2.2));clear h PD R3 b3 P3 hm3 ha3;simp only[];refine hK _ _ (xQ.any _) ?_;clear hK K;refine mL zYW zYM ?_;refine zY ?_;refine mZ zYM ?_;intro K hK;refine vN (.tmp 18) (.tmp 19) rfl 3 rfl _ _ _ zYM zYM hrun 20 zYM ?_;simp only[zQ,zZ,zJ];refine hK _ _ (xQ.any _) ?_;clear hK K hrun;refine nS zYW ?_;refine zY ?_;clear c160;go_wp2_with fail;have R3:Rd v3 A L:=H.out.2.1.below Q3.out.1;obtain⟨w4,hrun,hm4,ha4⟩:=xO 3 p 512 65024 65024 A n c n zYX L H.out.1 R3 (put (put cK 80 nN) 160 yA) (.slice none 0 0) (by rw[vA,vA];exact vI) Q3.out.2.1 zYX;rw[qG (by rw[H.out.1];omega),bH _ _ _ (by rw[vA,vA];exact vI) (by rw[H.out.1];omega)]at hm4;have Q4:=zW (zM (Q3.out.1.trans ((ha4 none).below Q3.out.1.size (by have:=Q3.out.2.2;omega) (fun k hk=>by cases hk))) (zM hm4 Q3.out.2.2));clear R3 hm4 ha4 Q3 c512;rw[hrun];clear hrun;go_wp2;go_ret2;exact⟨p,rfl,by have:=Q4.out.2.2;omega,Q4.out.2.1,Q4.out.1⟩
def Gave(n:Nat)(L:List Int)(w:World)(e:Ending)(w':World):Prop:=
 ∃g,e=.returned (.slice (some ⟨g,0,none⟩) n n)∧w.heap.size≤g∧Rd w' (some ⟨g,0,none⟩) L∧Below w.heap.size w w'
theorem ZX(p:Nat)(M:List Int)(v:Value)(a:Int)(k n:Nat)(w:World)(hM:M.length=65536)(hp:mE p M v w)(hk:a%65536=k)(hn:n≤65536):
  Calls Tryz.prog 68 #[.pointer (some ⟨p,0,none⟩),.int .i64 a,.int .i64 (n:Int)] w (Gave n (seg M a n) w):=by
 have m1:max (n:Int) 0=n:=zYX;have m2:min (n:Int) 65536=n:=zYX;have mk:=aL n n rfl zYX;have H:=zW (zM hM (zM hp hk));clear hM hp hk;go_enter Tryz.func68,Tryz.ntmps68;go_wp2_with fail;clear mk m1 m2;have B1:Below w.heap.size w (w.alloc (.cells (arr (List.replicate n 0)) 5)):=(zG _ _).alloc (zH _) _;have G1:(w.alloc (.cells (arr (List.replicate n 0)) 5)).heap[w.heap.size]?=some (.cells (arr (List.replicate n 0)) 5 (0,0)):=jZ _ _;obtain⟨g,hg⟩:∃g,g=w.heap.size:=⟨_,rfl⟩;generalize w.alloc (.cells (arr (List.replicate n 0)) 5)=w1 at*;rw[←hg]at G1⊢;have P1:=zW (zM B1 (zM G1 hg));clear B1 G1 hg;have k2:k<65536:=by have:=H.out.2.2;omega
 have c1:=dT p k k2;obtain⟨N,hN⟩:∃N,N=65536:=⟨_,rfl⟩;have c2:=TE p N hN;obtain⟨d,hd⟩:∃d,d=min (65536-k) n:=⟨_,rfl⟩;obtain⟨D,hD⟩:∃D,D=if n=d then some (⟨g,0,none⟩:Addr)else some ⟨g,d,none⟩:=⟨_,rfl⟩;have c3:=zVO g n d zYX D hD;have HD:=zW (zM hN (zM hd hD));clear hN hd hD;refine mV (C:=fun w'=>∃x:xQ,w'=x.w) [([0,1,2,3,4],5),([6],7)] [8] zYV zYV (fun _ _ d _ _ h=>by cases d<;>exact h) (xQ.any _) ?_;intro wd hwd;have P2:Below w.heap.size w wd∧wd.heap[g]?=some (.cells (arr (List.replicate n 0)) 5 (0,0))∧g=w.heap.size:=by rw[hwd];exact⟨P1.out.1.drew,P1.out.2⟩
 have PD:=zW P2;clear hwd P2 P1;refine mL zYW zYM ?_;repeat(go_big_quiet_step (fail))
 refine zY ?_;refine mZ zYM ?_;intro K hK;go_wp2_with fail;refine(rM _ k _ H.out.2.2).mono ?_;rintro e w' ⟨rfl,h⟩;replace h:=h.symm;subst h;simp only[];refine hK _ _ (xQ.any _) ?_;clear hK K;refine mL zYW zYM ?_;repeat(go_big_quiet_step (fail))
 refine zY ?_;refine mZ zYM ?_;intro K hK;have mp:mE p M v wd:=H.out.2.1.keep (PD.out.1.block p H.out.2.1.lt);have R1:Rd wd (some ⟨p,k,none⟩) (M.drop k):=fun _=>⟨_,rfl,mp.lt,fun j hj=>by
  have hM:=H.out.1;rw[jK]at hj;rw[cT,mp.cell hM (k+j) zYX,List.getElem_drop]⟩
 obtain⟨w2,hrun,hg2,ha2⟩:=tF 3 g 0 n n (some ⟨g,0,none⟩) (fun _=>rfl) (some ⟨p,k,none⟩) (65536-k) (65536-k) d HD.out.2.1 (M.drop k) (by rw[jK,H.out.1]) R1 (List.replicate n 0) 5 PD.out.2.1 zYH;refine vN (.tmp 15) (.tmp 21) rfl 3 rfl _ _ _ zYM zYM hrun 22 zYM ?_;simp only[zQ,zZ,zJ];refine hK _ _ (xQ.any _) ?_;have Q2:=zW (zM (PD.out.1.trans ((ha2 none).below PD.out.1.size (by have:=PD.out.2.2;omega) (fun k hk=>by cases hk))) (zM hg2 PD.out.2.2));clear hK K hrun hg2 ha2 mp R1 PD c1;refine nS zYW ?_;repeat(go_big_quiet_step (fail))
 refine zY ?_;go_wp2_with fail;refine mV (C:=fun w'=>∃x:xQ,w'=x.w) [([0,1,2,3,4,5,6],7)] [] zYV zYV (fun _ _ d _ _ h=>by cases d<;>exact h) (xQ.any _) ?_;intro wd hwd;have P2:Below w.heap.size w wd∧wd.heap[g]?=some (.cells (arr (splice (List.replicate n 0) 0 ((M.drop k).take n))) 5 (0,0))∧g=w.heap.size:=by rw[hwd];exact⟨Q2.out.1.drew,Q2.out.2⟩
 have PD:=zW P2;clear hwd P2 Q2;refine mL zYW zYM ?_;repeat(go_big_quiet_step (fail))
 refine zY ?_;refine mZ zYM ?_;intro K hK;have mp:mE p M v wd:=H.out.2.1.keep (PD.out.1.block p H.out.2.1.lt);have R1:Rd wd (some ⟨p,0,none⟩) M:=fun _=>⟨_,rfl,mp.lt,fun j hj=>by
  have hM:=H.out.1;rw[cT,qY,mp.cell hM j zYX]⟩
 have hl2:(splice (List.replicate n (0:Int)) 0 ((M.drop k).take n)).length=n:=by
  rw[xV _ _ _ (by rw[qB,List.length_replicate];omega),List.length_replicate]
 have hdn:d≤n:=by have:=HD.out.2.1;omega
 obtain⟨w3,hrun,hg3,ha3⟩:=tF 3 g d (n-d) (n-d) D (fun h=>by rw[HD.out.2.2,zL zYX]) (some ⟨p,0,none⟩) N N (n-d) (by have:=HD.out.1;omega) M (by rw[HD.out.1];exact H.out.1) R1 _ 5 PD.out.2.1 (by rw[hl2];omega);refine vN (.tmp 25) (.tmp 29) rfl 3 rfl _ _ _ zYM zYM hrun 30 zYM ?_;simp only[zQ,zZ,zJ];refine hK _ _ (xQ.any _) ?_;rw[Z2 M (List.replicate n 0) a k n d H.out.2.2 HD.out.2.1 H.out.1 hn List.length_replicate]at hg3;have Q3:=zW (zM (PD.out.1.trans ((ha3 none).below PD.out.1.size (by have:=PD.out.2.2;omega) (fun k hk=>by cases hk))) (zM hg3 PD.out.2.2));clear hK K hrun hg3 ha3 mp R1 PD hl2 c2 c3;refine nS zYW ?_;refine zY ?_;go_wp2;go_ret;refine⟨g,rfl,by have:=Q3.out.2.2;omega,?_,Q3.out.1⟩;intro _;have hg:=Q3.out.2.1;refine⟨_,rfl,(qC.1 hg).1,fun j hj=>?_⟩;rw[cT,qY,jC _ _ _ _ _ _ hg];exact fK _ j hj

end
section
open Go.RowKit
theorem tR{P:Program}{id:Nat}{Q:Exit→Act→World→Prop}{a:Act}{w:World}{l:List Oper}(n:Nat)(hm:P.follows .mixedOrders=true)(hB:Region.lexTailB .any l.toArray n=true)
  (h:∀wd,wd=w.drew→wpStill P l.toArray wd (fun a'=>wpList P l.toArray Q (l.drop n) a' wd) (l.take n) a):(Code.region id l.toArray true).wp P Q a w:=
 wp_region_still_tail n hm hB (h w.drew rfl)
end
section
open Go.RowKit Num

theorem gJ.bytes{L:List Int}{w w':World}{e:Ending}{n:Nat}(h:gJ 5 L w e w')(hn:L.length=n)(h0:0<n):
  ∃g c,e=.returned (.slice (some ⟨g,0,none⟩) n c)∧w.heap.size≤g∧g<w'.heap.size∧w'.ownsRow w.heap.size 5 1 (.slice (some ⟨g,0,none⟩) n c) n (L.map (Value.int .u8))∧Below w.heap.size w w':=by
 obtain⟨v,rfl,hown,hb⟩:=h;rw[hn]at hown;obtain⟨g,c,rfl,hg,hlt⟩:=hown.form h0;exact⟨g,c,rfl,hg,hlt,hown,hb⟩
theorem aK(h l:Int)(w:World)(h0:0≤h)(h1:h≤255)(l0:0≤l)(l1:l≤255):
  Calls Tryz.prog 80 #[.int .u8 h,.int .u8 l] w fun e w'=>e=.returned (.int .i64 (h*256+l))∧w=w':=by
 go_enter Tryz.func80,Tryz.ntmps80;go_wp2;go_ret;exact⟨rS (or256 h l h0 h1 l0 l1),rfl⟩
theorem H9(h l:Int)(w:World)(h0:0≤h)(h1:h≤255)(l0:0≤l)(l1:l≤255):
  Calls Tryz.prog 78 #[.int .u8 h,.int .u8 l] w fun e w'=>
   e=.returned (.agg #[.int .i64 (h/16),.int .i64 (h%16),.int .i64 (l/16),.int .i64 (l%16),.int .i64 l,.int .i64 (h%16*256+l)])∧Below w.heap.size w w':=by
 go_enter Tryz.func78,Tryz.ntmps78;go_wp2_with (go_at_call 80;refine(aK _ _ _ h0 h1 l0 l1).mono ?_;rintro e w' ⟨rfl,rfl⟩);go_returns;refine⟨?_,by go_grown⟩;rw[zZN _ zYX zYX,zZN _ zYX zYX,zZN _ zYX zYX,and255 _ zYX zYX,zWV _ zYX zYX];exact IE zYX zYX zYX zYX zYX zYX
end
section
open Go.RowKit Num Go.Maps
theorem cJ{H:Type}{P:Program}(w:World){ops:Array Oper}{rest:List Oper}{o:Oper}{a:Act}{Q:Exit→Act→World→Prop}
  (hg:o.guard=none) (m x v:Operand) (t:TypeId) (hop:o.op=Op.insert t m x v)
  (k e:TypeId) (K:Keyed P k) (ht:P.underlying t=some (.map k e)) (R:Value→Option (DataW H×List MemPlace)) (b n:Nat) (D:DataW H)
  (hm:a.eval m=.map (some b)) (hown:w.ownsMap P k R b n D) (hn:n<maxLen) (key val:Value) (kl:Lit) (hx:a.eval x=key) (hv:a.eval v=val) (hkey:keyOf P k key=some kl)
  (d:DataW H) (ps:List MemPlace) (hval:R val=some (d,ps))
  (hK:∀w',w'.ownsMap P k R b (n+1) (D.put kl d)→w.grownBy w' (some b)→wpList P ops Q rest (a.put o.dst undef) w'):
  wpList P ops Q (o::rest) a w:=by
 refine qL hg fun K' hK'=>?_;obtain⟨w',hrun,r1,r2⟩:=hown.update K ht hn hkey hval;unfold Oper.wp;simp[execOp,hop,hm,hx,hv,hrun,Result.andThen];exact hK' _ _ (hK w' r1 r2)
def iX(l x:Int):Bool:=decide ((l=2∧0≤x∧x≤7)∨(l=3∧0≤x∧x≤15))
theorem yK:Keyed Tryz.prog 3:=int_keyed Tryz.underlying3
theorem uR(l:Int)(h:(Lit.int .i64 l).wf=true):keyOf Tryz.prog 3 (.int .i64 l)=some (.int .i64 l):=keyOf_int_mk Tryz.underlying3 h
theorem zZ5(w:World):(zeroValue 3).run Tryz.prog w=.ok (.int .i64 0) w:=by kernel_rfl
def eD:DataW Unit:=((DataW.map []).put (.int .i64 2) (.lit (.int .i64 7))).put (.int .i64 3) (.lit (.int .i64 15))
theorem TN(l:Int):WideAt.IsKeyLit (.int .i64 l):=by first|trivial|simp[WideAt.IsKeyLit]
theorem QE:IsMap (DataW.map []:DataW Unit):=⟨_,rfl⟩
theorem ET(l:Int):has eD (.int .i64 l)=(decide (l=2)||decide (l=3)):=by
 unfold eD;by_cases h3:l=3
 ·subst h3;rw[has_put_same (QE.put _ _) (TN 3)];rfl
 ·rw[has_put_other (by intro c;injection c with _ c;exact h3 c),zC h3,Bool.or_false];by_cases h2:l=2
  ·subst h2;rw[has_put_same QE (TN 2)];rfl
  ·rw[has_put_other (by intro c;injection c with _ c;exact h2 c),zC h2];rfl
theorem OH(l:Int)(z:DataW Unit):eD.atKey (.int .i64 l) z=if l=3 then .lit (.int .i64 15)else if l=2 then .lit (.int .i64 7)else z:=by
 unfold eD;by_cases h3:l=3
 ·subst h3;rw[zN rfl,atKey_put_same (QE.put _ _) (TN 3)]
 ·rw[zL h3,atKey_put_other (by intro c;injection c with _ c;exact h3 c)];by_cases h2:l=2
  ·subst h2;rw[zN rfl,atKey_put_same QE (TN 2)]
  ·rw[zL h2,atKey_put_other (by intro c;injection c with _ c;exact h2 c)];rfl
theorem QU(w:World):Calls Tryz.prog 157 #[] w fun e w'=>∃b,e=.returned (.map (some b))∧w'.ownsMap Tryz.prog 3 (plainElem Tryz.prog 3) b 2 eD∧Below w.heap.size w w':=by
 have hmm:= @run_makeMap Tryz.prog;go_enter Tryz.func157,Tryz.ntmps157;go_upto_region 1 with fail;refine zB ?_;iterate 3 go_step
 have B0:=zW ((zG w.heap.size w).alloc (zH _) (.map #[] 0));refine cJ (H:=Unit) _ rfl (.tmp 1) (.const (.int .i64 2)) (.const (.int .i64 7)) 240 rfl 3 3 yK Tryz.underlying240 (plainElem Tryz.prog 3) w.heap.size 0 (.map []) rfl (World.ownsMap_made w _ _ _) zYF _ _ (.int .i64 2) rfl rfl (uR 2 zYY) (.lit (.int .i64 7)) [] (plainElem_int Tryz.underlying3 zYY) ?_;intro w1 o1 g1;have B1:=zW (B0.out.grown g1 B0.out.size (fun j hj=>by cases hj;exact zH _));have O1:=zW o1;clear o1 g1 B0 hmm;simp only[Act.put];refine cJ _ rfl (.tmp 1) (.const (.int .i64 3)) (.const (.int .i64 15)) 240 rfl 3 3 yK Tryz.underlying240 (plainElem Tryz.prog 3) w.heap.size 1 _ rfl O1.out zYF _ _ (.int .i64 3) rfl rfl (uR 3 zYY) (.lit (.int .i64 15)) [] (plainElem_int Tryz.underlying3 zYY) ?_;intro w2 o2 g2;have Z:=zW (zM o2 (B1.out.grown g2 B1.out.size (fun j hj=>by cases hj;exact zH _)));clear o2 g2 O1 B1;simp only[Act.put];go_wp2_with fail;go_ret;exact⟨_,rfl,Z.out.1,Z.out.2⟩
theorem pQ(l x:Int)(w:World)(hl:(Lit.int .i64 l).wf=true):Calls Tryz.prog 118 #[.int .i64 l,.int .i64 x] w fun e w'=>e=.returned (.bool (iX l x))∧Below w.heap.size w w':=by
 have hk:=zW (uR l hl);clear hl;go_enter Tryz.func118,Tryz.ntmps118;go_wp2_with fail;refine(QU _).mono ?_;rintro e w1 ⟨b,rfl,ho,hb⟩;have O:=zW (zM ho hb);clear ho hb;simp only[];go_at_K
 iterate 4 go_step
 refine wpList_lookup_own_ok_int _ rfl (.tmp 8) (.tmp 9) 240 rfl 3 3 .i64 yK Tryz.underlying240 Tryz.underlying3 (zZ5 _) b 2 eD rfl O.out.1 _ _ rfl hk.out ?_;intro c hat _;rw[ET];rw[OH]at hat;have F:iX l x=((decide (l=2)||decide (l=3))&&(decide (0≤x)&&decide (x≤c))):=by
  unfold iX;by_cases h3:l=3
  ·rw[zN h3]at hat;injection hat with hat
   injection hat with _ hat
   subst hat h3;simp[Bool.decide_and]
  ·rw[zL h3]at hat;by_cases h2:l=2
   ·rw[zN h2]at hat;injection hat with hat
    injection hat with _ hat
    subst hat h2;simp[Bool.decide_and]
   ·simp[h2,h3]
 have FH:=zW F;clear F hat;generalize (decide (l=2)||decide (l=3))=s at*;simp only[Act.put];have B:=zW O.out.2;clear O hk;cases s
 ·go_wp2;go_ret;exact⟨by rw[FH.out];rfl,B.out⟩
 ·by_cases hx:0≤x
  ·by_cases hc:x≤c
   ·have e:=zW (show iX l x=true by rw[FH.out];simp[hx,hc]);exact zMA
   ·have e:=zW (show iX l x=false by rw[FH.out];simp only[zC hc,Bool.and_false]);exact zMA
  ·have e:=zW (show iX l x=false by rw[FH.out];simp only[zC hx,Bool.false_and,Bool.and_false]);exact zMA
end
section
open Go.RowKit
section
variable {P:Program} {b:Nat} {T:TypeId} {cs:Array Value} {w:World}
end
end
section
namespace Num
open Go.RowKit
def hi(r:BitVec 128):BitVec 64:=r.extractLsb' 64 64
def lo(r:BitVec 128):BitVec 64:=r.extractLsb' 0 64
theorem yP(h l:BitVec 64):hi (h++l)=h:=by
 apply BitVec.eq_of_getLsbD_eq
 intro i hi'
 simp only[hi,BitVec.getLsbD_extractLsb',BitVec.getLsbD_append];rw[zL zYX,show 64+i-64=i by omega];simp[hi']
theorem yT(h l:BitVec 64):lo (h++l)=l:=by
 apply BitVec.eq_of_getLsbD_eq
 intro i hi'
 simp only[lo,BitVec.getLsbD_extractLsb',BitVec.getLsbD_append];rw[zN zYX,show 0+i=i by omega];simp[hi']
theorem sU(r:BitVec 128):hi r++lo r=r:=by
 apply BitVec.eq_of_getLsbD_eq
 intro i hi'
 simp only[hi,lo,BitVec.getLsbD_extractLsb',BitVec.getLsbD_append];split
 ·rename_i h;simp[h]
 ·rename_i h
  rw[show 64+(i-64)=i by omega];simp;omega
theorem JG(h l h' l':BitVec 64):(h++l)&&&(h'++l')=(h&&&h')++(l&&&l'):=by
 apply kJ
 intro i _
 simp only[BitVec.getMsbD_and,jU];split<;>rfl
theorem JH(h l h' l':BitVec 64):(h++l)^^^(h'++l')=(h^^^h')++(l^^^l'):=by
 apply kJ
 intro i _
 simp only[BitVec.getMsbD_xor,jU];split<;>rfl
theorem zWQ{h l h' l':BitVec 64}:h++l=h'++l'↔h=h'∧l=l':=
 ⟨fun e=>⟨by rw[←yP h l,e,yP],by rw[←yT h l,e,yT]⟩,fun⟨a,b⟩=>by rw[a,b]⟩
def rv(r:BitVec 128):Value:=.agg #[.int .u64 ((hi r).toNat:Int),.int .u64 ((lo r).toNat:Int)]
theorem lE(h l:BitVec 64):rv (h++l)=.agg #[.int .u64 (h.toNat:Int),.int .u64 (l.toNat:Int)]:=by rw[rv,yP,yT]
theorem IJ(u:BitVec 64)(c:Int):(u.toNat:Int)*2^min c.toNat 64%18446744073709551616=((u<<<c.toNat).toNat:Int):=by
 rw[BitVec.toNat_shiftLeft,Nat.shiftLeft_eq];rcases jM c.toNat 64 with h|h
 ·rw[Nat.min_eq_left zYX];simp
 ·rw[Nat.min_eq_right zYX];have e1:u.toNat*2^c.toNat%2^64=0:=by
   rw[show c.toNat=(c.toNat-64)+64 by omega,Nat.pow_add,←Nat.mul_assoc];exact Nat.mul_mod_left _ _
  rw[e1];omega
theorem zWO(u:BitVec 64)(c:Int):(u.toNat:Int)/2^min c.toNat 64=((u>>>c.toNat).toNat:Int):=by
 rw[BitVec.toNat_ushiftRight,Nat.shiftRight_eq_div_pow];rcases jM c.toNat 64 with h|h
 ·rw[Nat.min_eq_left zYX];simp
 ·rw[Nat.min_eq_right zYX];have h2:u.toNat<2^c.toNat:=zF u.isLt (Nat.pow_le_pow_right zYY zYX);rw[Nat.div_eq_of_lt h2];have:=u.isLt;omega
theorem gL(u:BitVec 64):BitVec.ofInt 64 (u.toNat:Int)=u:=by
 apply BitVec.eq_of_toNat_eq
 rw[BitVec.toNat_ofInt]
 have:=u.isLt;omega
theorem ZF(u:BitVec 64):IntKind.u64.wrap (u.toNat:Int)=(u.toNat:Int):=by
 rw[IntKind.wrap_u64];have:=u.isLt;omega
theorem zXM(u v:BitVec 64):bits .or .u64 (u.toNat:Int) (v.toNat:Int)=((u|||v).toNat:Int):=by
 show IntKind.u64.wrap (((BitVec.ofInt 64 (u.toNat:Int)|||BitVec.ofInt 64 (v.toNat:Int)).toNat:Nat):Int)=_;rw[gL,gL,ZF]
theorem zW7(u v:BitVec 64):bits .and .u64 (u.toNat:Int) (v.toNat:Int)=((u&&&v).toNat:Int):=by
 show IntKind.u64.wrap (((BitVec.ofInt 64 (u.toNat:Int)&&&BitVec.ofInt 64 (v.toNat:Int)).toNat:Nat):Int)=_;rw[gL,gL,ZF]
theorem zWU(u v:BitVec 64):bits .xor .u64 (u.toNat:Int) (v.toNat:Int)=((u^^^v).toNat:Int):=by
 show IntKind.u64.wrap (((BitVec.ofInt 64 (u.toNat:Int)^^^BitVec.ofInt 64 (v.toNat:Int)).toNat:Nat):Int)=_;rw[gL,gL,ZF]
theorem rA{n:Nat}(x:BitVec n)(i:Nat)(h:n≤i):x.getMsbD i=false:=by
 rw[BitVec.getMsbD_eq_getLsbD,zC zYX];rfl
theorem IP(h l:BitVec 64)(k k1 k2:Nat)(e:(k≤64∧k1=64-k)∨(64<k∧64≤k1))(e2:(64≤k∧k2=k-64)∨(k<64∧64≤k2)):
  (h>>>k)++(l>>>k|||h<<<k1|||h>>>k2)=(h++l)>>>k:=by
 apply kJ
 intro i hi'
 simp only[jU,BitVec.getMsbD_ushiftRight,BitVec.getMsbD_or,BitVec.getMsbD_shiftLeft];by_cases hlt:64≤i
 ·rw[zN hlt];rcases e with⟨a,b⟩|⟨a,b⟩
  ·rcases e2 with⟨c,d⟩|⟨c,d⟩
   ·have hk:k=64:=zYX;subst hk;subst b;subst d;rw[zL zYX];simp;rw[show decide (i-64<64)=true by simp;omega,show decide (i<128)=true by simp;omega,show decide (i<64)=false by simp;omega];simp
   ·rw[show decide (i-64<k2)=true by simp;omega,show decide (i-64<64)=true by simp;omega];subst b;by_cases hik:i-64<k
    ·rw[zL zYX,show i-64+(64-k)=i-k by omega,show decide (i-64<k)=true by simp;omega,show decide (i<k)=false by simp;omega];simp;omega
    ·rw[zN zYX,show decide (i-64<k)=false by simp;omega,show decide (i<k)=false by simp;omega,rA h (i-64+(64-k)) zYX,show i-64-k=i-k-64 by omega];simp;omega
  ·rcases e2 with⟨c,d⟩|⟨c,d⟩
   ·rw[show decide (i-64<64)=true by simp;omega,show decide (i-64<k)=true by simp;omega,rA h (i-64+k1) zYX];subst d;rw[zL zYX];by_cases hik:i<k
    ·rw[show decide (i-64<k-64)=true by simp;omega,show decide (i<k)=true by simp;omega];simp
    ·rw[show decide (i-64<k-64)=false by simp;omega,show decide (i<k)=false by simp;omega,show i-64-(k-64)=i-k by omega];simp;omega
   ·omega
 ·rw[zL hlt,zL zYX,show decide (i<64)=true by simp;omega,show decide (i<64+64)=true by simp;omega]
theorem zX1(h l:BitVec 64)(k k1 k2:Nat)(e:(k≤64∧k1=64-k)∨(64<k∧64≤k1))(e2:(64≤k∧k2=k-64)∨(k<64∧64≤k2)):
  (h<<<k|||l>>>k1|||l<<<k2)++(l<<<k)=(h++l)<<<k:=by
 apply kJ
 intro i hi'
 simp only[jU,BitVec.getMsbD_ushiftRight,BitVec.getMsbD_or,BitVec.getMsbD_shiftLeft];by_cases hlt:64≤i
 ·rw[zN hlt,zN zYX,show i-64+k=i+k-64 by omega]
 ·rw[zL hlt,show decide (i<64)=true by simp;omega];rcases e with⟨a,b⟩|⟨a,b⟩
  ·subst b;rcases e2 with⟨c,d⟩|⟨c,d⟩
   ·have hk:k=64:=zYX;subst hk;subst d;rw[zN zYX,rA h (i+64) zYX];simp
   ·rw[rA l (i+k2) zYX];by_cases hik:i+k<64
    ·rw[zL zYX,show decide (i<64-k)=true by simp;omega];simp
    ·rw[zN zYX,rA h (i+k) zYX,show decide (i<64-k)=false by simp;omega,show i-(64-k)=i+k-64 by omega];simp
  ·rcases e2 with⟨c,d⟩|⟨c,d⟩
   ·subst d;rw[zN zYX,rA h (i+k) zYX,show decide (i<k1)=true by simp;omega,show i+(k-64)=i+k-64 by omega];simp
   ·omega
def mv(r:BitVec 128)(n:Int):BitVec 128:=if n<0 then r<<<(-n).toNat else r>>>n.toNat
def yE(n:Int):BitVec 128:=mv (BitVec.allOnes 128) (n-128)
def yH(r:BitVec 128)(n width:Int):BitVec 128:=mv r n&&&yE width
def px(r:BitVec 128)(x:Nat):Bool:=r.getMsbD x
theorem tP{r s:BitVec 128}(h:∀x,x<128→px r x=px s x):r=s:=kJ h
theorem UZ(r:BitVec 128)(x:Nat)(h:128≤x):px r x=false:=rA r x h
theorem UJ(r s:BitVec 128)(x:Nat):px (r&&&s) x=(px r x&&px s x):=BitVec.getMsbD_and
theorem I9(r s:BitVec 128)(x:Nat):px (r^^^s) x=(px r x^^px s x):=BitVec.getMsbD_xor
theorem wH(x:Nat):px 0#128 x=false:=by simp[px]
def pxi(r:BitVec 128)(x:Int):Bool:=decide (0≤x)&&px r x.toNat
theorem UQ(r:BitVec 128)(n:Int)(x:Nat)(hx:x<128):px (mv r n) x=pxi r (x-n):=by
 unfold mv px pxi px;split
 ·rw[BitVec.getMsbD_shiftLeft,qZ zYX,show((x:Int)-n).toNat=x+(-n).toNat by omega];rfl
 ·rw[BitVec.getMsbD_ushiftRight,qZ hx];by_cases h:x<n.toNat
  ·rw[qZ h,zC zYX];rfl
  ·rw[zC h,qZ zYX,show((x:Int)-n).toNat=x-n.toNat by omega];rfl
theorem BH(n:Int)(x:Nat)(hx:x<128)(hn:n≤128):px (yE n) x=decide ((x:Int)<n):=by
 unfold yE;rw[UQ _ _ _ hx,pxi,px,BitVec.getMsbD_allOnes,Bool.eq_iff_iff];simp;omega
theorem LZ(r:BitVec 128)(n width:Int)(x:Nat)(hx:x<128)(hn:width≤128):px (yH r n width) x=(pxi r (x-n)&&decide ((x:Int)<width)):=by
 unfold yH;rw[UJ,UQ _ _ _ hx,BH _ _ hx hn]
end Num
namespace Num
open Go.RowKit
def pcn(f:Nat→Bool):Nat→Nat
 |0=>0
 |k+1=>pcn f k+(f k).toNat
theorem BP{f g:Nat→Bool}(k:Nat)(h:∀i,i<k→f i=g i):pcn f k=pcn g k:=by
 induction k with
 |zero=>rfl
 |succ k ih=>rw[pcn,pcn,ih fun i hi=>h i zYX,h k zYX]
theorem zXX(f:Nat→Bool)(j k:Nat):pcn f (j+k)=pcn f j+pcn (fun i=>f (j+i)) k:=by
 induction k with
 |zero=>rfl
 |succ k ih=>rw[←qT,pcn,pcn,ih];omega
theorem UY{f:Nat→Bool}{k:Nat}:pcn f k=0↔∀i,i<k→f i=false:=by
 induction k with
 |zero=>simp[pcn]
 |succ k ih=>
  rw[pcn]
  constructor
  ·intro h i hi
   rcases jM i k with hlt|hge
   ·exact ih.1 zYX i hlt
   ·have:i=k:=by omega
    subst this
    cases hf:f i
    ·rfl
    ·rw[hf]at h;simp at h
  ·intro h
   rw[ih.2 fun i hi=>h i zYX,h k zYX]
   rfl
def V:List Nat→Nat
 |[]=>0
 |d::ds=>256*V ds+d
def t1(d:Nat):Nat:=(d/2&&&85)+(d&&&85)
def t2(d:Nat):Nat:=(d/4&&&51)+(d&&&51)
def t3(d:Nat):Nat:=(d/16+d)&&&15
def zQ2(r:BitVec 128):Nat:=pcn (px r) 128
theorem NA(r:BitVec 128):zQ2 r=0↔r=0#128:=by
 rw[zQ2,UY];constructor
 ·intro h;exact tP fun x hx=>by rw[h x hx,wH]
 ·rintro rfl x _;exact wH x
end Num
namespace Num
open Go.RowKit
def spF(b c x m:Nat)(clip:Bool)(k j:Nat):Bool:=
 (decide (x≤j∧j<x+c∧j<m∧c+x≤j+k)&&b.testBit (c-1-(j-x)))||(!clip&&(decide (j+m<x+c∧c+x≤j+m+k)&&b.testBit (c-1-(j+m-x))))
def sp0(b c:Nat):BitVec 128:=(BitVec.ofNat 64 b<<<(64-c))++0#64
def uU(b c x m:Nat)(clip:Bool):BitVec 128:=if clip then yH (sp0 b c) x m else yH (sp0 b c) x m^^^mv (sp0 b c) ((x:Int)-m)
theorem px_sp0(b c i:Nat)(c1:c≤16):px (sp0 b c) i=(decide (i<c)&&b.testBit (c-1-i)):=by
 unfold sp0 px;rw[jU];split
 ·rw[zC zYX];simp
 ·rw[BitVec.getMsbD_shiftLeft,BitVec.getMsbD_eq_getLsbD,BitVec.getLsbD_ofNat];by_cases h:i<c
  ·rw[qZ zYX,qZ zYX,qZ h,show 64-1-(i+(64-c))=c-1-i by omega];simp
  ·rw[zC (p:=i+(64-c)<64) zYX,zC h];rfl
theorem RP(b c:Nat)(i:Int)(c1:c≤16):pxi (sp0 b c) i=(decide (0≤i∧i<c)&&b.testBit (c-1-i.toNat)):=by
 unfold pxi;rw[px_sp0 b c _ c1];by_cases h:0≤i
 ·rw[qZ h,show decide (i.toNat<c)=decide (0≤i∧i<c) by congr 1;simp;omega];rfl
 ·rw[zC h,zC (p:=0≤i∧i<(c:Int)) zYX];rfl
theorem BV(b c x m:Nat)(clip:Bool)(c1:c≤16)(hm:16≤m)(m1:m≤128)(hx:x<m)(j:Nat)(hj:j<128):px (uU b c x m clip) j=spF b c x m clip c j:=by
 have e1:px (yH (sp0 b c) x m) j=(decide (x≤j∧j<x+c∧j<m∧c+x≤j+c)&&b.testBit (c-1-(j-x))):=by
  rw[LZ _ _ _ _ hj zYX,RP _ _ _ c1,show((j:Int)-(x:Int)).toNat=j-x by omega];by_cases h:x≤j∧j<x+c∧j<m
  ·rw[qZ (p:=0≤(j:Int)-x∧(j:Int)-x<c) zYX,qZ (p:=(j:Int)<(m:Int)) zYX,qZ zYX];simp
  ·rw[zC (p:=x≤j∧_) zYX];by_cases h2:(j:Int)<(m:Int)
   ·rw[zC (p:=0≤(j:Int)-x∧(j:Int)-x<c) zYX];rfl
   ·rw[zC h2];simp
 have e2:px (mv (sp0 b c) ((x:Int)-m)) j=(decide (j+m<x+c∧c+x≤j+m+c)&&b.testBit (c-1-(j+m-x))):=by
  rw[UQ _ _ _ hj,RP _ _ _ c1,show((j:Int)-((x:Int)-(m:Int))).toNat=j+m-x by omega,
   show decide (0≤(j:Int)-((x:Int)-(m:Int))∧(j:Int)-((x:Int)-(m:Int))<c)=decide (j+m<x+c∧c+x≤j+m+c) by congr 1;simp;omega]
 unfold uU spF;cases clip
 ·rw[zL zYH,I9,e1,e2];by_cases h:x≤j
  ·rw[zC (p:=j+m<x+c∧_) zYX];simp
  ·rw[zC (p:=x≤j∧_) zYX];simp
 ·rw[zN rfl,e1];simp
theorem RU(r:BitVec 128)(i:Int)(h:i<0):pxi r i=false:=by
 rw[pxi,zC zYX,Bool.false_and]
theorem p9(r:BitVec 128)(i:Nat):pxi r (i:Int)=px r i:=by
 rw[pxi,qZ zYX,Bool.true_and,Int.toNat_natCast]
def JS(r:BitVec 128)(m:Nat):Prop:=∀i:Int,m≤i→pxi r i=false
theorem I8(i:Int):pxi 0#128 i=false:=by rw[pxi,wH,Bool.and_false]
theorem cE(r:BitVec 128):∃h l:BitVec 64,r=h++l:=⟨hi r,lo r,(sU r).symm⟩
end Num
namespace Num
open Go.RowKit
def sm(g:Nat→Nat):Nat→Nat
 |0=>0
 |k+1=>sm g k+g k
theorem KV{f g:Nat→Nat}(k:Nat)(h:∀i,i<k→f i=g i):sm f k=sm g k:=by
 induction k with
 |zero=>rfl
 |succ k ih=>rw[sm,sm,ih fun i hi=>h i zYX,h k zYX]
theorem RH{f:Nat→Nat}(k:Nat)(h:∀i,i<k→f i=0):sm f k=0:=by
 induction k with
 |zero=>rfl
 |succ k ih=>rw[sm,ih fun i hi=>h i zYX,h k zYX]
theorem KQ{f:Nat→Nat}{k:Nat}:sm f k=0↔∀i,i<k→f i=0:=by
 refine⟨?_,RH k⟩;induction k with
 |zero=>intro _ i hi;omega
 |succ k ih=>
  rw[sm]
  intro h i hi
  rcases jM i k with hlt|hge
  ·exact ih zYX i hlt
  ·obtain rfl:i=k:=by omega
   omega
theorem UL(f:Nat→Bool)(n k:Nat):pcn f (n*k)=sm (fun y=>pcn (fun x=>f (n*y+x)) n) k:=by
 induction k with
 |zero=>rfl
 |succ k ih=>rw[Nat.mul_succ,zXX,sm,ih]
abbrev Pl:=Nat→BitVec 128
def zW9(P:Pl)(m h:Nat):Prop:=(∀y,JS (P y) m)∧∀y,h≤y→P y=0#128
def pcount(P:Pl):Nat:=sm (fun y=>zQ2 (P y)) 64
def mB(P:Pl)(dx dy:Int)(m h:Nat):Pl:=fun y=>if(0≤(y:Int)-dy∧(y:Int)-dy<h)∧y<h then yH (P ((y:Int)-dy).toNat) dx m else 0#128
def spr(bits:Nat→Nat)(len c x y m h:Nat)(clip:Bool):Pl:=fun j=>
 if y≤j∧j<y+len∧j<h then uU (bits (j-y)) c x m clip else if clip=false∧j+h<y+len then uU (bits (j+h-y)) c x m clip else 0#128
def wZ(A B:Pl):Pl:=fun y=>A y^^^B y
theorem XB(m:Nat):JS 0#128 m:=fun i _=>I8 i
theorem CR(bits:Nat→Nat)(c x y m h:Nat)(clip:Bool)(hy:y<h)(j:Nat):spr bits 0 c x y m h clip j=0#128:=by
 unfold spr;rw[zL zYX];by_cases hc:clip=false∧j+h<y+0
 ·omega
 ·rw[zL hc]
theorem spr_in(bits:Nat→Nat)(i c x y m h:Nat)(clip:Bool)(hi:i<h)(hy:y<h)(hin:y+i<h)(j:Nat):
  spr bits (i+1) c x y m h clip j=if j=y+i then uU (bits i) c x m clip else spr bits i c x y m h clip j:=by
 unfold spr;by_cases e:j=y+i
 ·rw[zN e,zN zYX,show j-y=i by omega]
 ·rw[zL e];by_cases h1:y≤j∧j<y+i∧j<h
  ·rw[zN h1,zN zYX]
  ·rw[zL h1,zL zYX];by_cases h2:clip=false∧j+h<y+i
   ·omega
   ·rw[zL h2,zL zYX]
theorem zJT(bits:Nat→Nat)(i c x y m h:Nat)(hi:i<h)(hy:y<h)(hout:h≤y+i)(j:Nat):
  spr bits (i+1) c x y m h false j=if j=y+i-h then uU (bits i) c x m false else spr bits i c x y m h false j:=by
 unfold spr;by_cases e:j=y+i-h
 ·rw[zN e,zL zYX,zN ⟨rfl,by omega⟩,show j+h-y=i by omega]
 ·rw[zL e];by_cases h1:y≤j∧j<y+i∧j<h
  ·rw[zN h1,zN zYX]
  ·rw[zL h1,zL zYX];by_cases h2:j+h<y+i
   ·rw[zN (show false=false∧j+h<y+(i+1)from⟨rfl,by omega⟩),zN (show false=false∧j+h<y+i from⟨rfl,h2⟩)]
   ·rw[zL zYX,zL zYX]
theorem CD(bits:Nat→Nat)(i c x y m h:Nat)(hout:h≤y+i)(j:Nat):spr bits (i+1) c x y m h true j=spr bits i c x y m h true j:=by
 unfold spr;by_cases h1:y≤j∧j<y+i∧j<h
 ·rw[zN h1,zN zYX]
 ·rw[zL h1,zL zYX,zL zYH,zL zYH]
theorem dV(b c x m:Nat)(clip:Bool)(c1:c≤16)(hm:16≤m)(m1:m≤128)(hx:x<m):JS (uU b c x m clip) m:=fun i hi=>by
 obtain⟨k,rfl⟩:=jQ (show 0≤i by omega);rw[p9];by_cases hk:k<128
 ·rw[BV b c x m clip c1 hm m1 hx k hk];unfold spF;rw[zC (p:=x≤k∧_) zYX,zC (p:=k+m<x+c∧_) zYX];simp
 ·exact UZ _ _ zYX
theorem zJR(bits:Nat→Nat)(len c x y m h:Nat)(clip:Bool)(c1:c≤16)(hm:16≤m)(m1:m≤128)(hx:x<m)(hl:len≤h)(hy:y<h):zW9 (spr bits len c x y m h clip) m h:=by
 refine⟨fun j=>?_,fun j hj=>?_⟩
 ·unfold spr;split
  ·exact dV _ _ _ _ _ c1 hm m1 hx
  ·split
   ·exact dV _ _ _ _ _ c1 hm m1 hx
   ·exact XB m
 ·unfold spr;rw[zL zYX,zL zYX]
end Num
namespace Num
open Go.RowKit
def acc(g:Nat→Bool):Nat→Nat
 |0=>0
 |k+1=>2*acc g k+(g k).toNat
theorem acc_lt(g:Nat→Bool)(k:Nat):acc g k<2^k:=by
 induction k with
 |zero=>simp[acc]
 |succ k ih=>
  rw[acc,Nat.pow_succ]
  have:=Bool.toNat_le (g k)
  omega
theorem zWB(g:Nat→Bool)(k j:Nat):(acc g k).testBit j=(decide (j<k)&&g (k-1-j)):=by
 induction k generalizing j with
 |zero=>simp[acc]
 |succ k ih=>
  rw[acc]
  cases j with
  |zero=>
   rw[Nat.testBit_zero]
   cases hg:g k<;>simp[hg]<;>omega
  |succ j=>
   rw[Nat.testBit_succ,show(2*acc g k+(g k).toNat)/2=acc g k by have:=Bool.toNat_le (g k);omega,ih j,show k+1-1-(j+1)=k-1-j by omega,
    show decide (j<k)=decide (j+1<k+1) by congr 1;simp]
def wd(g:Nat→Bool):BitVec 64:=BitVec.ofNat 64 (acc g 64)
theorem wd_nat(g:Nat→Bool):(wd g).toNat=acc g 64:=by
 have:=acc_lt g 64;rw[wd,BitVec.toNat_ofNat,kV this]
theorem AE(g:Nat→Bool)(i:Nat)(hi:i<64):(wd g).getMsbD i=g i:=by
 rw[BitVec.getMsbD_eq_getLsbD,←BitVec.testBit_toNat,wd_nat,zWB,qZ hi,qZ zYX,show 64-1-(64-1-i)=i by omega,Bool.true_and,Bool.true_and]
def fwd(f:Nat→Bool):Pl:=fun y=>wd (fun i=>f (128*y+i))++wd (fun i=>f (128*y+(64+i)))
theorem yZ(f:Nat→Bool)(y x:Nat)(hx:x<128):px (fwd f y) x=f (128*y+x):=by
 unfold fwd px;rw[jU];split
 ·rw[AE _ _ zYX,show 64+(x-64)=x by omega]
 ·rw[AE _ _ zYX]
def cO(f:Nat→Bool)(m h:Nat):Prop:=∀i,f i=true→i%128<m∧i/128<h
theorem zKK{f:Nat→Bool}{m h:Nat}(hf:cO f m h):zW9 (fwd f) m h:=by
 refine⟨fun y i hi=>?_,fun y hy=>tP fun x hx=>?_⟩
 ·by_cases h0:0≤i
  ·obtain⟨k,rfl⟩:=jQ h0;rw[p9];by_cases hk:k<128
   ·rw[yZ _ _ _ hk];cases hg:f (128*y+k)
    ·rfl
    ·have:=(hf _ hg).1;omega
   ·exact UZ _ _ zYX
  ·exact RU _ _ zYX
 ·rw[yZ _ _ _ hx,wH];cases hg:f (128*y+x)
  ·rfl
  ·have:=(hf _ hg).2;omega
theorem YA(f:Nat→Bool):pcount (fwd f)=pcn f (128*64):=by
 rw[UL];exact KV 64 fun y hy=>BP 128 fun x hx=>yZ f y x hx
def dY(f:Nat→Bool)(dx dy:Int)(m h:Nat)(i:Nat):Bool:=
 decide ((i/128<h∧i%128<m)∧(0≤((i%128:Nat):Int)-dx∧((i%128:Nat):Int)-dx<m)∧(0≤((i/128:Nat):Int)-dy∧((i/128:Nat):Int)-dy<h))&&f (128*(((i/128:Nat):Int)-dy)+(((i%128:Nat):Int)-dx)).toNat
theorem VR(f:Nat→Bool)(dx dy:Int)(m h:Nat)(hm:m≤128)(hf:cO f m h)(y:Nat):fwd (dY f dx dy m h) y=mB (fwd f) dx dy m h y:=tP fun x hx=>by
 rw[yZ _ _ _ hx];unfold dY mB;rw[show(128*y+x)/128=y by omega,show(128*y+x)%128=x by omega];by_cases h1:(0≤(y:Int)-dy∧(y:Int)-dy<h)∧y<h
 ·rw[zN h1,LZ _ _ _ _ hx zYX];obtain⟨d,hd⟩:∃d:Nat,(y:Int)-dy=(d:Int):=⟨((y:Int)-dy).toNat,by omega⟩;rw[hd,Int.toNat_natCast];by_cases h2:x<m
  ·rw[qZ (p:=(x:Int)<(m:Int)) zYX,Bool.and_true];by_cases h3:0≤(x:Int)-dx∧(x:Int)-dx<m
   ·obtain⟨e,he⟩:∃e:Nat,(x:Int)-dx=(e:Int):=⟨((x:Int)-dx).toNat,by omega⟩;rw[he,p9,yZ _ _ _ zYX,qZ zYX,Bool.true_and,show(128*(d:Int)+(e:Int)).toNat=128*d+e by omega]
   ·rw[zC zYX,Bool.false_and];rcases Int.lt_or_le ((x:Int)-dx) 0 with h0|h0
    ·rw[RU _ _ h0]
    ·rw[(zKK hf).1 d _ zYX]
  ·rw[zC zYX,zC (p:=(x:Int)<(m:Int)) zYX,Bool.false_and,Bool.and_false]
 ·rw[zL h1,wH,zC zYX,Bool.false_and]
def zJA(bits:Nat→Nat)(len c x y m h:Nat)(clip:Bool)(i:Nat):Bool:=px (spr bits len c x y m h clip (i/128)) (i%128)
theorem VB(bits:Nat→Nat)(len c x y m h:Nat)(clip:Bool)(j:Nat):fwd (zJA bits len c x y m h clip) j=spr bits len c x y m h clip j:=tP fun k hk=>by
 rw[yZ _ _ _ hk,zJA,show(128*j+k)/128=j by omega,show(128*j+k)%128=k by omega]
theorem E9(f g:Nat→Bool)(y:Nat):fwd (fun i=>f i^^g i) y=wZ (fwd f) (fwd g) y:=tP fun x hx=>by
 show _=px (fwd f y^^^fwd g y) x;rw[yZ _ _ _ hx,I9,yZ _ _ _ hx,yZ _ _ _ hx]
theorem zKV(f g:Nat→Bool)(y:Nat):fwd (fun i=>f i&&g i) y=fwd f y&&&fwd g y:=tP fun x hx=>by
 rw[yZ _ _ _ hx,UJ,yZ _ _ _ hx,yZ _ _ _ hx]
theorem JJ(f g:Nat→Bool):pcn (fun i=>f i&&g i) (128*64)=sm (fun y=>zQ2 (fwd f y&&&fwd g y)) 64:=by
 rw[←YA];exact KV 64 fun y _=>by rw[zKV]
def tY(A B:Pl):Bool:=decide (sm (fun y=>zQ2 (A y&&&B y)) 64≠0)
theorem UV(A B:Pl):tY A B=true↔∃y,y<64∧A y&&&B y≠0#128:=by
 unfold tY;rw[qH];constructor
 ·intro h;rcases Classical.em (∃y,y<64∧A y&&&B y≠0#128)with h2|h2
  ·exact h2
  ·refine absurd (RH 64 fun y hy=>(NA _).2 ?_) h;rcases Classical.em (A y&&&B y=0#128)with h3|h3
   ·exact h3
   ·exact absurd ⟨y,hy,h3⟩ h2
 ·rintro⟨y,hy,h⟩ h2;exact h ((NA _).1 (KQ.1 h2 y hy))
theorem VN(f g:Nat→Bool):tY (fwd f) (fwd g)=decide (0<pcn (fun i=>f i&&g i) (128*64)):=by
 rw[JJ];unfold tY;rw[Bool.eq_iff_iff,qH,qH];omega
theorem t6(m h:Nat):cO (fun _=>false) m h:=fun i hi=>by cases hi
theorem zJU(f:Nat→Bool)(dx dy:Int)(m h:Nat):cO (dY f dx dy m h) m h:=fun i hi=>by
 unfold dY at hi;have:=qE (Bool.and_eq_true_iff.1 hi).1;exact⟨this.1.2,this.1.1⟩
end Num
end
section
open Go.RowKit Num
def xK(P:Pl)(j:Nat):Int:=if j%2=0 then((hi (P (j/2))).toNat:Int)else((lo (P (j/2))).toNat:Int)
def kO(P:Pl):Array Value:=((List.range 128).map fun j=>Value.int .u64 (xK P j)).toArray
theorem lK(P:Pl):(kO P).size=128:=by simp[kO]
theorem xM(P:Pl)(j:Nat)(hj:j<128):(kO P)[j]?=some (.int .u64 (xK P j)):=by simp[kO,hj]
theorem eJ(P:Pl)(y:Nat):xK P (2*y)=((hi (P y)).toNat:Int):=by
 rw[xK,zN zYX,show 2*y/2=y by omega]
theorem fY(P:Pl)(y:Nat):xK P (2*y+1)=((lo (P y)).toNat:Int):=by
 rw[xK,zL zYX,show(2*y+1)/2=y by omega]
theorem QH{P Q:Pl}(h:∀y,y<64→P y=Q y):kO P=kO Q:=by
 unfold kO;congr 1
 refine List.map_congr_left fun j hj=>?_
 have hj:=jN.1 hj;unfold xK;rw[h (j/2) zYX]
theorem vW(P:Pl):(kO P).all (·.oneCell')=true:=by
 rw[qU];intro v hv;simp[kO]at hv;obtain⟨j,_,rfl⟩:=hv;rfl
def JO(P:Pl)(y:Nat)(r:BitVec 128):Pl:=fun j=>if j=y then r else P j
theorem wO(P:Pl)(y:Nat)(r:BitVec 128):JO P y r y=r:=by simp[JO]
theorem rQ(P:Pl)(y j:Nat)(r:BitVec 128)(h:j≠y):JO P y r j=P j:=by simp[JO,h]
theorem YU(P:Pl)(y:Nat)(h l:BitVec 64)(hy:y<64):((kO P).setIfInBounds (2*y) (.int .u64 (h.toNat:Int))).setIfInBounds (2*y+1) (.int .u64 (l.toNat:Int))=kO (JO P y (h++l)):=by
 apply qV
 intro j
 by_cases hj:j<128
 ·rw[xM _ _ hj,qM,qM];by_cases e1:2*y+1=j
  ·subst e1;rw[zN rfl,zN (by simp[lK];omega),fY,wO,yT]
  ·rw[zL e1];by_cases e0:2*y=j
   ·subst e0;rw[zN rfl,zN (by simp[lK];omega),eJ,wO,yP]
   ·rw[zL e0,xM _ _ hj];unfold xK;rw[rQ _ _ _ _ zYX]
 ·rw[zD (by simp[lK];omega),zD (by simp[lK];omega)]
def mD(b:Nat)(t:TypeId)(P:Pl)(w:World):Prop:=w.heap[b]?=some (.cells (kO P) t (0,0))
section
variable {b:Nat} {t:TypeId} {P Q:Pl} {w w':World}
theorem mD.lt(H:mD b t P w):b<w.heap.size:=(qC.1 H).1
theorem mD.below(H:mD b t P w){n:Nat}(hb:Below n w w')(hn:b<n):mD b t P w':=(hb.block b hn).trans H
theorem mD.step(H:mD b t P w)(hb:Below w.heap.size w w'):mD b t P w':=H.below hb H.lt
theorem mD.new(w:World)(P:Pl)(t:TypeId):mD w.heap.size t P (w.alloc (.cells (kO P) t)):=jZ _ _
theorem mD.alloc(H:mD b t P w)(o:Obj):mD b t P (w.alloc o):=H.step ((zG _ _).alloc (zH _) _)
theorem mD.drew(H:mD b t P w):mD b t P w.drew:=H
theorem mD.congr(H:mD b t P w)(h:∀y,y<64→P y=Q y):mD b t Q w:=by
 unfold mD at*;rw[←QH h];exact H
theorem mD.other(H:mD b t P w){g:Nat}(hg:b≠g)(o:Nat)(v:Value):mD b t P (w.setCell ⟨g,o,none⟩ v):=(qK w ⟨g,o,none⟩ v b hg).trans H
theorem mD.otherRow(H:mD b t P w){g:Nat}(hg:b≠g)(cs:Array Value):mD b t P (w.setRow g cs):=(qQ w g b cs hg).trans H
theorem mD.cell(H:mD b t P w)(j:Nat)(hj:j<128):w.cell? ⟨b,j,none⟩=some (.int .u64 (xK P j)):=by
 rw[jC w b j (kO P) t (0,0) H];exact xM P j hj
theorem mD.left(H:mD b t P w)(y:Nat)(hy:y<64):w.cell? ⟨b,y*2,none⟩=some (.int .u64 ((hi (P y)).toNat:Int)):=by
 rw[Nat.mul_comm y 2,H.cell _ zYX,eJ]
theorem mD.right(H:mD b t P w)(y:Nat)(hy:y<64):w.cell? ⟨b,y*2+1,none⟩=some (.int .u64 ((lo (P y)).toNat:Int)):=by
 rw[Nat.mul_comm y 2,H.cell _ zYX,fY]
theorem mD.frozen(H:mD b t P w)(j:Nat):w.frozen? ⟨b,j,none⟩=false:=frozen_of_row w b j (kO P) t H
theorem mD.store(H:mD b t P w)(Q:Pl):mD b t Q (w.setRow b (kO Q)):=setRow_heap w b _ _ t (0,0) H
theorem mD.row(H:mD b t P w)(y:Nat)(hy:y<64)(h l:BitVec 64):mD b t (JO P y (h++l)) ((w.setCell ⟨b,y*2,none⟩ (.int .u64 (h.toNat:Int))).setCell ⟨b,y*2+1,none⟩ (.int .u64 (l.toNat:Int))):=by
 rw[Nat.mul_comm y 2];have e1:=setCell_eq_setRow w b (2*y) (kO P) t (0,0) (.int .u64 (h.toNat:Int)) H;have H1:(w.setRow b ((kO P).setIfInBounds (2*y) (.int .u64 (h.toNat:Int)))).heap[b]?=_:=setRow_heap w b _ _ t (0,0) H;have e2:=setCell_eq_setRow _ b (2*y+1) _ t (0,0) (.int .u64 (l.toNat:Int)) H1;rw[e1,e2,YU P y h l hy];exact setRow_heap _ b _ _ t (0,0) H1
end
theorem vD{B:Nat}{a w:World}(h:Below B a w){g:Nat}(hg:B≤g)(cs:Array Value):Below B a (w.setRow g cs):=
 h.trans ⟨rfl,rfl,rfl,by simp[World.setRow],fun k hk=>qQ w g k cs zYX⟩
section
variable {P:Program}
theorem rF(t:TypeId)(d:TypeDesc)(xs:Array Value)(off sz:Nat)(w:World)(hd:(match d with| .struct _| .array _ _=>true|_=>false)=true)(hu:P.underlying t=some d)(hi:(P.info? t).map (·.size)=some sz):
  (part t xs off).run P w=.ok (.agg (xs.extract off (off+sz))) w:=by
 cases hq:P.info? t with
 |none=>simp[hq]at hi
 |some i=>
  have hs:i.size=sz:=zY3
  have hagg:(isAgg t).run P w=.ok true w:=by
   unfold isAgg;rw[zO,q8 hu w];cases d<;>simp_all
  simp[part,zO,hagg,sizeOf,typeInfo,hq,hs]
end
end
section
open Go.RowKit
inductive pF where
 |last (is:List Nat)
 |call (is:List Nat) (c:Nat) (t:pF)
 |fork (is:List Nat) (c1:Nat) (t1:pF) (c2:Nat) (t2:pF)
section
variable {P:Program} {ops:Array Oper} {C:World→Prop} {Q:Exit→Act→World→Prop} {md:Region.Mode}
def cQ(P:Program)(ops:Array Oper)(C:World→Prop)(Q:Exit→Act→World→Prop)(c:Nat)(F:Act→World→Prop)(a:Act)(w:World):Prop:=
 match ops[c]? with
 |none=>False
 |some o=>if Region.wanted o (yielded ops a.tmps)then o.wp P a w (fun a'' w''=>C w''∧F a'' w'') Q else F (a.put o.dst undef) w
def n7(P:Program)(ops:Array Oper)(C:World→Prop)(Q:Exit→Act→World→Prop):pF→Act→World→Prop
 |.last is,a,w=>wpQuiet P ops C (fun a'=>Q .normal a' w) (lQ ops is) a
 |.call is c t,a,w=>wpQuiet P ops C (fun a'=>cQ P ops C Q c (fun a w=>n7 P ops C Q t a w) a' w) (lQ ops is) a
 |.fork is c1 t1 c2 t2,a,w=>wpQuiet P ops C (fun a'=>cQ P ops C Q c1 (fun a w=>n7 P ops C Q t1 a w) a' w∧cQ P ops C Q c2 (fun a w=>n7 P ops C Q t2 a w) a' w) (lQ ops is) a
def sR(md:Region.Mode)(ops:Array Oper):pF→Array Bool→Bool
 |.last is,listed=>iF md ops is listed&&(Region.ready md ops (mA listed is)).isEmpty
 |.call is c t,listed=>iF md ops is listed&&decide (Region.ready md ops (mA listed is)=[c])&&sR md ops t ((mA listed is).setIfInBounds c true)
 |.fork is c1 t1 c2 t2,listed=>iF md ops is listed&&decide (Region.ready md ops (mA listed is)=[c1,c2])&&sR md ops t1 ((mA listed is).setIfInBounds c1 true)&&sR md ops t2 ((mA listed is).setIfInBounds c2 true)
def tQ:pF→Nat
 |.last is=>is.length
 |.call is _ t=>tQ t+1+is.length
 |.fork is _ t1 _ _=>tQ t1+1+is.length
def oP:pF→Bool
 |.last _=>true
 |.call _ _ t=>oP t
 |.fork _ _ t1 _ t2=>oP t1&&oP t2&&decide (tQ t1=tQ t2)
theorem rW{K K':Act→Prop}(hK:∀a,K a→K' a):∀(l:List Oper) (a:Act),wpQuiet P ops C K l a→wpQuiet P ops C K' l a:=by
 exact zL0
theorem fJ{c:Nat}{F G:Act→World→Prop}{a:Act}{w:World}(hC:C w)(h:cQ P ops C Q c F a w)(hF:∀a w,C w→F a w→G a w):wpOp P ops Q c (fun a' w'=>C w'∧G a' w') a w:=by
 unfold cQ at h;unfold wpOp;cases ho:ops[c]? with
 |none=>rw[ho]at h;exact h.elim
 |some o=>
  rw[ho]at h
  simp only at h⊢
  split
  ·rename_i hw
   simp only[hw,if_true]at h
   exact .inl (Oper.wp_mono (fun a'' w'' ⟨h1,h2⟩=>⟨h1,hF _ _ h1 h2⟩) h)
  ·rename_i hw
   simp only[hw]at h
   exact⟨hC,hF _ _ hC h⟩
theorem gU(hs:Region.noSelect ops=true)(hQ:∀(c:_) (a:Act) (d:Option Tmp) (v:Value) (w:World),Q (.panic c) (a.put d v) w→Q (.panic c) a w)(k:Nat):∀(t:pF) (listed:Array Bool) (a:Act) (w:World),C w→
  oP t=true→sR md ops t listed=true→n7 P ops C Q t a w→wpAnyH P md ops Q C (k+tQ t) listed a w
 |.last is,listed,a,w,hC,_,hB,h=>by
  simp only[sR,zA]at hB;have hr:Region.ready md ops (mA listed is)=[]:=by simpa using hB.2
  refine uV hs hQ k hC is listed a hB.1 ?_;simp only[n7]at h;exact rW (fun a h=>wpAnyH_done hr h k) _ _ h
 |.call is c t,listed,a,w,hC,he,hB,h=>by
  simp only[sR,zA]at hB;obtain⟨⟨hB1,hB2⟩,hB3⟩:=hB;have hr:Region.ready md ops (mA listed is)=[c]:=by simpa using hB2
  simp only[tQ];rw[←qT];refine uV hs hQ _ hC is listed a hB1 ?_;simp only[n7]at h;refine rW (fun a' ha=>?_) _ _ h;rw[←qT];refine wpAnyH_all hr zYH fun i hi=>?_;obtain rfl:i=c:=by simpa using hi
  exact fJ hC ha fun a'' w'' h1 h2=>gU hs hQ k t _ a'' w'' h1 he hB3 h2
 |.fork is c1 t1 c2 t2,listed,a,w,hC,he,hB,h=>by
  simp only[sR,zA]at hB;obtain⟨⟨⟨hB1,hB2⟩,hB3⟩,hB4⟩:=hB;have hr:Region.ready md ops (mA listed is)=[c1,c2]:=by simpa using hB2
  simp only[oP,zA,qH]at he;obtain⟨⟨e1,e2⟩,e3⟩:=he;simp only[tQ];rw[←qT];refine uV hs hQ _ hC is listed a hB1 ?_;simp only[n7]at h;refine rW (fun a' ha=>?_) _ _ h;rw[←qT];refine wpAnyH_all hr zYH fun i hi=>?_;rcases(by simpa using hi:i=c1∨i=c2)with rfl|rfl
  ·exact fJ hC ha.1 fun a'' w'' h1 h2=>gU hs hQ k t1 _ a'' w'' h1 e1 hB3 h2
  ·refine fJ hC ha.2 fun a'' w'' h1 h2=>?_;rw[e3];exact gU hs hQ k t2 _ a'' w'' h1 e2 hB4 h2
theorem xU{id:Nat}{a:Act}{w:World}{l:List Oper}(t:pF)(hm:P.follows .mixedOrders=true)
  (hB:(Region.noSelect l.toArray&&sR .any l.toArray t (Array.replicate l.toArray.size false)&&oP t&&decide (tQ t≤l.toArray.size))=true)
  (hQ:∀(c:_) (a:Act) (d:Option Tmp) (v:Value) (w:World),Q (.panic c) (a.put d v) w→Q (.panic c) a w) (hC:C w.drew)
  (h:∀wd,wd=w.drew→n7 P l.toArray C Q t a wd):(Code.region id l.toArray true).wp P Q a w:=by
 simp only[zA,qH]at hB;obtain⟨⟨⟨hs,hb⟩,he⟩,hle⟩:=hB;refine wp_region_held (S:=C) hm ?_;have:=gU (md:=.any) hs hQ (l.toArray.size-tQ t) t (Array.replicate l.toArray.size false) a w.drew hC he hb (h _ rfl);rwa [Nat.sub_add_cancel hle]at this
theorem rI{is:List Nat}{l:List Oper}{a:Act}{w:World}(hl:lQ ops is=l)(h:wpQuiet P ops C (fun a'=>Q .normal a' w) l a):n7 P ops C Q (.last is) a w:=by
 subst hl;exact h
theorem r9{is:List Nat}{c:Nat}{t:pF}{l:List Oper}{a:Act}{w:World}(hl:lQ ops is=l)(h:wpQuiet P ops C (cQ P ops C Q c (fun a w=>n7 P ops C Q t a w) · w) l a):n7 P ops C Q (.call is c t) a w:=by
 subst hl;exact h
theorem rO{is:List Nat}{c1 c2:Nat}{t1 t2:pF}{l:List Oper}{a:Act}{w:World}(hl:lQ ops is=l)
  (h:wpQuiet P ops C (fun a=>cQ P ops C Q c1 (fun a w=>n7 P ops C Q t1 a w) a w∧cQ P ops C Q c2 (fun a w=>n7 P ops C Q t2 a w) a w) l a):n7 P ops C Q (.fork is c1 t1 c2 t2) a w:=by
 subst hl;exact h
theorem m5{c:Nat}{t:pF}{o:Oper}{a:Act}{w:World}(ho:ops[c]?=some o)(hw:Region.wanted o (yielded ops a.tmps)=true)(h:∀K:Act→World→Prop,(∀a w,C w→n7 P ops C Q t a w→K a w)→o.wp P a w K Q):cQ P ops C Q c (fun a w=>n7 P ops C Q t a w) a w:=by
 unfold cQ;rw[ho];simp only[hw,if_true];exact h _ fun a w hc h=>⟨hc,h⟩
end
end
section
open Go.RowKit Go.ChangeShapes Go.WideShapes Num
def rR(w:World)(A:Option Addr)(L:List Nat):Prop:=L≠[]→∃ad,A=some ad∧ad.block<w.heap.size∧∀j (h:j<L.length),w.cell? (ad.add j)=some (.int .u16 (L[j]:Int))
theorem pJ(a:Addr)(n:Nat):(a.add n).block=a.block:=by unfold Addr.add;split<;>rfl
section
variable {w w':World} {A:Option Addr} {L:List Nat}
theorem rR.nil:rR w A []:=fun h=>absurd rfl h
theorem rR.at_(h:rR w A L){k:Nat}(hk:k<L.length):∃ad,A=some ad∧ad.block<w.heap.size∧w.cell? (ad.add k)=some (.int .u16 (L.getD k 0:Int)):=by
 obtain⟨ad,hA,hb,hc⟩:=h zY1;exact⟨ad,hA,hb,by rw[hc k hk];simp[hk]⟩
theorem rR.below(h:rR w A L)(hb:Below w.heap.size w w'):rR w' A L:=fun hne=>by
 obtain⟨ad,hA,hlt,hc⟩:=h hne;exact⟨ad,hA,zF hlt hb.size,fun j hj=>(hb.cell (p:=ad.add j) (by rw[pJ];exact hlt)).trans (hc j hj)⟩
end
def nth(L:List Nat)(i:Nat):Nat:=L.getD i 0
theorem nth_le{L:List Nat}(h:∀x∈L,x≤65535)(i:Nat):nth L i≤65535:=by
 unfold nth;rw[qJ];rcases jM i L.length with hi|hi
 ·rw[zP hi];exact h _ (kK hi)
 ·rw[qX hi];simp
section
variable {H:Type} {enc:TypeId×Value→H} {W:World} {r:Reach} {base:Nat}
end
end
end Go.Proofs.YthknmadinmigfaaGreatDoor
