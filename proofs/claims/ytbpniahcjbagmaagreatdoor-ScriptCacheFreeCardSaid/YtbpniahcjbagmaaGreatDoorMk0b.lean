/- FontCat, FontTab, Mem, MemLog, MemWrite, MemNew, MemBytes, FontRef, Tail, MemPut, MemRef2, Opc, FlaAllow, DecFin. -/
import Derived.Test.YtbpniahcjbagmaaGreatDoorRows
import Derived.Test.YtbpniahcjbagmaaGreatDoorMk0a
set_option maxRecDepth 400000
set_option maxHeartbeats 64000000
set_option linter.unusedVariables false
set_option linter.unusedSimpArgs false
namespace Go.Proofs.YtbpniahcjbagmaaGreatDoor
section
open Go.RowKit Num
theorem index5(k:Nat)(h:k<16):∀w:World,(Instr.index 173 (.agg (arr vQ)) (.int .i64 k)).run Tryz.prog w=.ok (.agg (arr (bX k))) w:=by
 exact zB6
theorem zNA(w:World):Calls Tryz.prog 71 #[.agg (arr vQ)] w (dK 5 vQ w):=by
 obtain⟨i0,hi,hz0,hz1,hz2⟩:=kA t7;have hbox:(w.alloc (.cells (arr vQ) 173)).heap[w.heap.size]?=some (.cells (arr vQ) 173 (0,0)):=jH _ _;have hb1:Below w.heap.size w (w.alloc (.cells (arr vQ) 173)):=(zB _ _).alloc (zG _) _;go_enter Tryz.func71,Tryz.ntmps71;go_upto_region 2 with fail;refine zH ?_;refine kL rfl 173 (.tmp 1) rfl w.heap.size rfl 173 (arr vQ) (0,0) _ hbox Tryz.underlying173 rfl zGV ?_;generalize w.alloc (Obj.cells (arr vQ) 173)=w1 at*;go_wp2;go_loopw [3,7] (fun o c wr=>∃k:Nat,k≤16∧c=.int .i64 k∧wr.ownsRow w.heap.size 5 1 o (5*k) ((vQ.take (5*k)).map (Value.int .u8))∧Below w.heap.size w wr) (fun _ c _=>16-(intOf c).toNat)
 case atStart=>exact⟨0,qW _,rfl,kH _ _ _ _,hb1⟩
 case round=>
  obtain⟨k,hk,rfl,hown,hb⟩:=hrel
  clear hb1 hbox
  by_cases hlt:k<16
  ·have ik:=index5 k hlt
   have ht:=H4 k
   obtain⟨x0,x1,x2,x3,x4,hx⟩:=five (H6 hlt)
   rw[hx]at ik ht
   have ik':∀w:World,(Instr.index 173 (.agg (arr vQ)) (.int .i64 k)).run Tryz.prog w=.ok (.agg #[.int .u8 x0,.int .u8 x1,.int .u8 x2,.int .u8 x3,.int .u8 x4]) w:=ik
   clear ik hx
   go_wp2_with fail
   refine(add5 [x0,x1,x2,x3,x4] rfl _ (5*k) (vQ.take (5*k)) w.heap.size _ (hown.alloc _) zGO zGX).mono ?_
   rintro e w' ⟨v',rfl,hown',hb'⟩
   go_wp2
   go_roundw
   case rel=>exact⟨k+1,by omega,by go_num,by rw[ht];exact hown',(hb.alloc hb.size _).trans hb'⟩
   case measure=>simp[intOf];omega
  ·have hkn:k=16:=zGX
   subst hkn
   go_wp2
   go_ret
   rw[qV (by rw[cW];decide)]at hown
   exact⟨_,rfl,by rw[cW];exact hown,hb⟩
theorem zL2(k:Nat)(h:k<16):∀w:World,(Instr.index 176 (.agg (arr wK)) (.int .i64 k)).run Tryz.prog w=.ok (.agg (arr (TJ k))) w:=by
 exact zB6
theorem zVT(w:World):Calls Tryz.prog 72 #[.agg (arr wK)] w (dK 5 wK w):=by
 obtain⟨i0,hi,hz0,hz1,hz2⟩:=kA t7;have hbox:(w.alloc (.cells (arr wK) 176)).heap[w.heap.size]?=some (.cells (arr wK) 176 (0,0)):=jH _ _;have hb1:Below w.heap.size w (w.alloc (.cells (arr wK) 176)):=(zB _ _).alloc (zG _) _;go_enter Tryz.func72,Tryz.ntmps72;go_upto_region 2 with fail;refine zH ?_;refine kL rfl 176 (.tmp 1) rfl w.heap.size rfl 176 (arr wK) (0,0) _ hbox Tryz.underlying176 rfl zGV ?_;generalize w.alloc (Obj.cells (arr wK) 176)=w1 at*;go_wp2;go_loopw [3,7] (fun o c wr=>∃k:Nat,k≤16∧c=.int .i64 k∧wr.ownsRow w.heap.size 5 1 o (10*k) ((wK.take (10*k)).map (Value.int .u8))∧Below w.heap.size w wr) (fun _ c _=>16-(intOf c).toNat)
 case atStart=>exact⟨0,qW _,rfl,kH _ _ _ _,hb1⟩
 case round=>
  obtain⟨k,hk,rfl,hown,hb⟩:=hrel
  clear hb1 hbox
  by_cases hlt:k<16
  ·have ik:=zL2 k hlt
   have ht:=zV6 k
   obtain⟨x0,x1,x2,x3,x4,x5,x6,x7,x8,x9,hx⟩:=ten (zV8 hlt)
   rw[hx]at ik ht
   have ik':∀w:World,(Instr.index 176 (.agg (arr wK)) (.int .i64 k)).run Tryz.prog w=.ok (.agg #[.int .u8 x0,.int .u8 x1,.int .u8 x2,.int .u8 x3,.int .u8 x4,.int .u8 x5,.int .u8 x6,.int .u8 x7,.int .u8 x8,.int .u8 x9]) w:=ik
   clear ik hx
   go_wp2_with fail
   refine(add10 [x0,x1,x2,x3,x4,x5,x6,x7,x8,x9] rfl _ (10*k) (wK.take (10*k)) w.heap.size _ (hown.alloc _) zGO zGX).mono ?_
   rintro e w' ⟨v',rfl,hown',hb'⟩
   go_wp2
   go_roundw
   case rel=>exact⟨k+1,by omega,by go_num,by rw[ht];exact hown',(hb.alloc hb.size _).trans hb'⟩
   case measure=>simp[intOf];omega
  ·have hkn:k=16:=zGX
   subst hkn
   go_wp2
   go_ret
   rw[qV (by rw[yY];decide)]at hown
   exact⟨_,rfl,by rw[yY];exact hown,hb⟩
structure cQ(w:World):Prop where
 lt:1<w.heap.size
 big:∀j (h:j<wK.length),w.cell? ⟨1,j,none⟩=some (.int .u8 wK[j])
 small:∀j (h:j<vQ.length),w.cell? ⟨0,j,none⟩=some (.int .u8 vQ[j])
theorem cQ.below{w w':World}{n:Nat}(h:cQ w)(hb:Below n w w')(hn:1<n):cQ w':=
 ⟨zD h.lt hb.size,fun j hj=>(hb.cell (p:=⟨1,j,none⟩) zGH).trans (h.big j hj),fun j hj=>(hb.cell (p:=⟨0,j,none⟩) zGH).trans (h.small j hj)⟩
theorem cQ.step{w w':World}(h:cQ w)(hb:Below w.heap.size w w'):cQ w':=h.below hb h.lt
theorem pU(g o j:Nat):(⟨g,o,none⟩:Addr).add j=⟨g,o+j,none⟩:=by unfold Addr.add;split<;>simp_all
theorem UQ(w:World)(hL:cQ w):Calls Tryz.prog 58 #[] w (dK 5 vQ w):=by
 go_enter Tryz.func58,Tryz.ntmps58;go_upto_region 1 with fail;refine zH ?_;refine uU rfl 173 (.global 0) rfl ⟨0,0,none⟩ rfl vQ _ (fun j h=>by rw[pU,qL];exact hL.small j h) Tryz.underlying173 rfl (by rw[cW];kernel_rfl) ?_;go_wp2_with fail;refine(zNA _).mono ?_;rintro e w' ⟨v,rfl,hown,hb⟩;go_wp2;go_ret;exact⟨_,rfl,hown,hb⟩
theorem zN2(w:World)(hL:cQ w):Calls Tryz.prog 59 #[] w (dK 5 wK w):=by
 go_enter Tryz.func59,Tryz.ntmps59;go_upto_region 1 with fail;refine zH ?_;refine uU rfl 176 (.global 1) rfl ⟨1,0,none⟩ rfl wK _ (fun j h=>by rw[pU,qL];exact hL.big j h) Tryz.underlying176 rfl (by rw[yY];kernel_rfl) ?_;go_wp2_with fail;refine(zVT _).mono ?_;rintro e w' ⟨v,rfl,hown,hb⟩;go_wp2;go_ret;exact⟨_,rfl,hown,hb⟩
theorem t6(n:Int)(k:Nat)(w:World)(h:n%65536=k):Calls Tryz.prog 77 #[.int .i64 n] w fun e w'=>e=.returned (.int .i64 k)∧w'=w:=by
 have hb:=TW n;rw[h]at hb;clear h;go_enter Tryz.func77,Tryz.ntmps77;go_wp2;exact zRX
def Reads(v:Value)(w:World)(e:Ending)(w':World):Prop:=e=.returned v∧∃n,w'=w.drewN n
theorem O9:(Tryz.prog.info? 168).map (fun i=>(i.zero,i.size,i.bytes))=some (some (.agg #[.int .i64 0,.int .i64 0]),2,16):=by kernel_rfl
def zWN(p:Nat)(M:List Int)(base n:Nat)(xs:List Value)(v:Value)(w:World)(e:Ending)(w':World):Prop:=
 e=.returned (.tuple #[])∧∃v',nV p M v' w'∧w'.ownsRow base 168 2 v' n xs∧nW p v.ownBlock w w'∧(v'.ownBlock=v.ownBlock∨∃g,v'.ownBlock=some g∧w.heap.size≤g)
theorem zX3(w:World)(x y:Value)(t:TypeId):∀j u,[x,y][j]?=some u→(w.alloc (.cells #[x,y] t)).cell? ((⟨w.heap.size,0,none⟩:Addr).add j)=some u:=by
 intro j u hj;rw[xE,jO _ _ _ _ _ _ (jH w _)];simpa using hj
theorem zQZ{p:Nat}{M:List Int}{v:Value}{w1 w2:World}{base n:Nat}{xs:List Value}{o:Obj}(hp:nV p M v w1)(hv:w1.ownsRow base 168 2 v n xs)(hg:(w1.drew.alloc o).grownBy w2 v.ownBlock):nV p M v w2:=by
 have hlt:=hp.lt;have hne:=tX hv hp zGL;refine hp.keep ((hg.block p zGH (fun e=>hne e.symm)).trans ?_);exact heap_alloc_old w1.drew _ hlt
theorem IR{p:Nat}{M:List Int}{v:Value}{base n cap gg:Nat}{xs:List Value}{w w1 w2:World}{o:Obj}(hM:M.length=65536)(ha:nW p v.ownBlock w w1)(hs:w1.heap.size=w.heap.size+1)(q:nV p M v w2)
  (hown:w2.ownsRow base 168 2 (.slice (some ⟨gg,0,none⟩) (n+1) cap) (n+1) xs) (hg:(w1.alloc o).drew.grownBy w2 v.ownBlock) (hat:v.ownBlock=some gg∨gg=(w1.alloc o).drew.heap.size):
  zWN p M base (n+1) xs v w (.returned (.tuple #[])) (w2.setCell ⟨p,65536,none⟩ (.slice (some ⟨gg,0,none⟩) (n+1) cap)):=by
 have hne:=tX hown q zGL;refine⟨rfl,_,q.setLog hM _,tI hown (p:=p) (g:=none) (nW.setCell _ _) hne (fun k hk=>by cases hk),?_,?_⟩
 ·have h1:nW p v.ownBlock w1 (w1.alloc o).drew:=(nW.of_below ((zB _ _).alloc (zG _) _)).drew;exact((ha.trans h1).trans (nW.of_grown hg)).trans (nW.setCell _ _)
 ·rcases hat with h|h
  ·exact .inl h.symm
  ·refine .inr ⟨gg,rfl,?_⟩;rw[h];show w.heap.size≤(w1.alloc o).heap.size;simp;omega
theorem zHK(p:Nat)(M:List Int)(v:Value)(n base:Nat)(xs:List Value)(x y:Int)(w:World)(hM:M.length=65536)(hp:nV p M v w)(hv:w.ownsRow base 168 2 v n xs)(hb:base≤w.heap.size)(hn:n≤1000):
  Calls Tryz.prog 197 #[.pointer (some ⟨p,65536,none⟩),.agg #[.int .i64 x,.int .i64 y]] w (zWN p M base (n+1) (xs++[.int .i64 x,.int .i64 y]) v w):=by
 obtain⟨i0,hi,hz0,hz1,hz2⟩:=kA O9;have hlt:=hp.lt;have cl:(w.alloc (.cells #[.int .i64 x,.int .i64 y] 168)).cell? ⟨p,65536,none⟩=some v:=by
  rw[qU (w:=w) (heap_alloc_old _ _ hlt)];exact hp.log hM
 have clf:(w.alloc (.cells #[.int .i64 x,.int .i64 y] 168)).frozen? ⟨p,65536,none⟩=false:=by
  rw[World.frozen?_of_block (w:=w) (heap_alloc_old _ _ hlt)];exact hp.frozen _
 have c0:(w.alloc (.cells #[.int .i64 x,.int .i64 y] 168)).cell? ⟨w.heap.size,0,none⟩=some (.int .i64 x):=by rw[jO _ _ _ _ _ _ (jH w _)];rfl
 have c1:(w.alloc (.cells #[.int .i64 x,.int .i64 y] 168)).cell? ⟨w.heap.size,1,none⟩=some (.int .i64 y):=by rw[jO _ _ _ _ _ _ (jH w _)];rfl
 have P:=zW (zM hp hv);clear hp hv;go_enter Tryz.func197,Tryz.ntmps197;go_wp2;obtain⟨w1,hw1⟩:∃w1,w1=w.alloc (.cells #[.int .i64 x,.int .i64 y] 168):=⟨_,rfl⟩;rw[←hw1]at cl clf c0 c1⊢;have hp1:nV p M v w1:=P.out.1.keep (by rw[hw1];exact heap_alloc_old _ _ hlt);have hv1:w1.ownsRow base 168 2 v n xs:=by rw[hw1];exact P.out.2.alloc _
 have hs1:w1.heap.size=w.heap.size+1:=by rw[hw1];simp
 have ha1:nW p v.ownBlock w w1:=by rw[hw1];exact nW.of_below ((zB _ _).alloc (zG _) _)
 have Q:=zW (zM hp1 (zM hv1 (zM ha1 hs1)));clear hw1 hp1 hv1 ha1 hs1;have g1:w.heap.size<w1.heap.size:=by have:=Q.out.2.2.2;omega
 have g2:p<w1.heap.size:=zGX;go_region_law ((refine step_append_lies _ zGM _ _ _ zGM base 168 i0 _ 2 16 Tryz.underlying136 hi hz0 hz1 hz2 rfl zGX v n xs zGM (World.ownsRow.alloc (w:=w1.drew) Q.out.2.1 _) ⟨w1.heap.size,0,none⟩ 1 1 [.int .i64 x,.int .i64 y] zGM zGM (zX3 w1.drew _ _ _) zBW zGX zGD zGX zGH _ rfl ?_;intro gg cap w2 hown2 hgrow hat hlt2;have q2:=zQZ Q.out.1 Q.out.2.1 hgrow;have ql:=q2.log hM;have qf:=q2.frozen 65536;have Q2:=zW (zM q2 (zM hown2 (zM hgrow hat)));clear q2 hown2 hgrow hat))
 all_goals
  go_wp2
  go_end0
  exact IR hM Q.out.2.2.1 Q.out.2.2.2 Q2.out.1 Q2.out.2.1 Q2.out.2.2.1 Q2.out.2.2.2
def Took(p:Nat)(M:List Int)(v:Value)(w:World)(e:Ending)(w':World):Prop:=e=.returned v∧nV p M (.slice none 0 0) w'∧∀g,nW p g w w'
theorem zZ7(p:Nat)(M:List Int)(A:Option Addr)(n c:Nat)(w:World)(hM:M.length=65536)(hp:nV p M (.slice A n c) w):
  Calls Tryz.prog 69 #[.pointer (some ⟨p,65536,none⟩)] w (Took p M (.slice A n c) w):=by
 have cl:=hp.log hM;have clf:=hp.frozen 65536;have P:=zW (zM hp hM);clear hp hM;go_enter Tryz.func69,Tryz.ntmps69;go_wp2;go_ret;exact⟨rfl,P.out.1.setLog P.out.2 _,fun g=>nW.setCell _ _⟩
theorem zQG(p:Nat)(M:List Int)(A:Option Addr)(n c:Nat)(w:World)(hM:M.length=65536)(hp:nV p M (.slice A n c) w):
  Calls Tryz.prog 54 #[.pointer (some ⟨p,0,none⟩)] w (Took p M (.slice A n c) w):=by
 have P:=zW (zM hp hM);clear hp hM;go_enter Tryz.func54,Tryz.ntmps54;go_wp2_with fail;refine(zZ7 p M A n c _ P.out.2 P.out.1).mono ?_;rintro e w' ⟨rfl,h⟩;go_wp2;go_ret;exact⟨rfl,h⟩
theorem DK:Tryz.prog.arrayLen 140=65536:=by kernel_rfl
theorem pB(p k:Nat)(hk:k<65536)(w:World):(Instr.sliceAt 140 (.pointer (some ⟨p,0,none⟩)) (some (.int .i64 (k:Int))) none none).run Tryz.prog w=.ok (.slice (some ⟨p,k,none⟩) (65536-k) (65536-k)) w:=by
 have h:=run_sliceAt_array_l (P:=Tryz.prog) w 140 ⟨p,0,none⟩ Tryz.underlying140 .i64 k zGX (by rw[DK];omega);rw[h,DK];show Result.ok (slicedAt _ _ _ _ 1) w=_;unfold slicedAt;rw[zL zGH,xE];simp
theorem IX(p N:Nat)(hN:N=65536)(w:World):(Instr.sliceAt 140 (.pointer (some ⟨p,0,none⟩)) none none none).run Tryz.prog w=.ok (.slice (some ⟨p,0,none⟩) N N) w:=by
 subst hN;have h:=run_sliceAt_array_all (P:=Tryz.prog) w 140 ⟨p,0,none⟩ Tryz.underlying140;rw[h,DK];show Result.ok (slicedAt _ _ _ _ 1) w=_;unfold slicedAt;rw[zL zGX,xE]
theorem IT(p:Nat)(M:List Int)(v:Value)(n base:Nat)(xs:List Value)(a:Int)(k:Nat)(A:Option Addr)(m c:Nat)(L:List Int)(w:World)(hM:M.length=65536)(hp:nV p M v w)
  (hv:w.ownsRow base 168 2 v n xs) (hb:base≤w.heap.size) (hn:n≤1000) (hk:a%65536=k) (hL:L.length=m) (m0:0<m) (m1:m≤65536) (hmc:m≤c) (hR:Rd w A L) (hA:∀ad,A=some ad→ad.block≠p):
  Calls Tryz.prog 168 #[.pointer (some ⟨p,0,none⟩),.int .i64 a,.slice A m c] w (zWN p (put M a L) base (n+1) (xs++[.int .i64 k,.int .i64 m]) v w):=by
 have k0:0≤(k:Int):=zGX;have k1:(k:Int)<65536:=zGX;have k2:k<65536:=zGX;have ks:=pB p k k2;have k3:((m:Int)==0)=false:=by simp;omega
 have H:=zW (zM hk (zM hL (zM hM (zM hp (zM hv (zM hR hA))))));clear hk hL hM hp hv hR hA;go_enter Tryz.func168,Tryz.ntmps168;go_wp2_with fail;refine(t6 _ _ _ H.out.1).mono ?_;rintro e w0 ⟨rfl,h⟩;subst h;go_wp2_with fail;obtain⟨d,hd⟩:∃d,d=min m (65536-k):=⟨_,rfl⟩;obtain⟨w1,hrun,hp1,ha1⟩:=uK 3 p k (65536-k) (65536-k) A m c d hd L H.out.2.1 H.out.2.2.2.2.2.1 M v H.out.2.2.1 H.out.2.2.2.1 zGX;have D:=zW hd;have d0:0≤(d:Int):=zGX;have d1:(d:Int)≤(m:Int):=zGX;have d2:(d:Int)≤(c:Int):=zGX;have P1:=zW (zM hp1 ha1);clear hd hp1 ha1;rw[hrun];clear hrun ks;go_wp2_with fail;obtain⟨N,hN⟩:∃N,N=65536:=⟨_,rfl⟩;have kl:=IX p N hN;have HN:=zW hN;clear hN;refine mT (C:=fun w'=>∃x:yM,w'=x.w) [([0,1,2,3,4,5,6],7)] [] zGV zGV (fun _ _ d _ _ h=>by cases d<;>exact h) (yM.any _) ?_;intro wd hwd;have P2:nV p (splice M k (L.take (65536-k))) v wd∧∀g,nW p g w0 wd:=by rw[hwd];exact⟨P1.out.1,fun g=>(P1.out.2 g).drew⟩
 have PD:=zW P2;clear hwd P2 P1;refine mD zGW zGM ?_;repeat(go_big_quiet_step (fail))
 refine zY ?_;refine mH zGM ?_;intro K hK;have hl1:(splice M k (L.take (65536-k))).length=65536:=by
  have h1:=H.out.2.1;have h2:=H.out.2.2.1;rw[yR _ _ _ (by rw[qX];omega)];exact h2
 have R1:Rd wd A L:=H.out.2.2.2.2.2.1.keep ((PD.out.2 none).size) fun ad e hlt=>(PD.out.2 none).block ad.block hlt (H.out.2.2.2.2.2.2 ad e) zGN;obtain⟨w2,hrun,hp2,ha2⟩:=uK 3 p 0 N N (if c=d then A else A.map (·.add d)) (m-d) (c-d) (m-d) (by have:=HN.out;omega) (L.drop d) (by rw[jF,H.out.2.1]) (R1.cut (by rw[H.out.2.1];exact hmc)) _ v hl1 PD.out.1 (by have:=HN.out;omega);refine cK (.tmp 27) (.tmp 30) rfl 3 rfl _ _ _ zGM zGM hrun 31 zGM ?_;simp only[zQ,zZ,zJ];refine hK _ _ (yM.any _) ?_;clear hK K hrun;generalize Value.slice (if c=d then A else A.map (·.add d)) (m-d) (c-d)=V1;generalize Value.int .i64 ((m-d:Nat):Int)=V2;refine vW zGW ?_;repeat(go_big_quiet_step (fail))
 refine zY ?_;have e2:splice (splice M k (L.take (65536-k))) 0 ((L.drop d).take N)=put M a L:=by
  rw[HN.out];have h1:=H.out.2.1;have h4:=D.out;exact QL M L a k d H.out.1 zGX H.out.2.2.1 zGX
 rw[e2]at hp2;have a02:∀g,nW p g w0 w2:=fun g=>(PD.out.2 g).trans (ha2 g);have P2:=zW (zM hp2 a02);clear e2 hl1 hp2 ha2 kl a02 R1;go_wp2_with fail;have hv2:w2.ownsRow base 168 2 v n xs:=tI (g:=none) H.out.2.2.2.2.1 (P2.out.2 none) (tX H.out.2.2.2.2.1 H.out.2.2.2.1 zGL) (fun k hk=>by cases hk);refine(zHK p (put M a L) v n base xs k m w2 (by rw[xZ];exact H.out.2.2.1) P2.out.1 hv2 (zR hb (P2.out.2 none).size) hn).mono ?_;rintro e w3 ⟨rfl,h⟩;have H3:=zW h;clear h;go_wp2;go_end0
 obtain⟨v',h1,h2,h3,h4⟩:=H3.out;refine⟨rfl,v',h1,h2,(P2.out.2 _).trans h3,h4.imp id ?_⟩;rintro⟨g,e,h⟩;exact⟨g,e,zR (P2.out.2 none).size h⟩
def Made(L:List Int)(w:World)(e:Ending)(w':World):Prop:=
 ∃p,e=.returned (.tuple #[.pointer (some ⟨p,0,none⟩),.int .i64 0])∧w.heap.size≤p∧nV p (wH L) (.slice none 0 0) w'∧Below w.heap.size w w'
theorem dK.slice{ty:TypeId}{L:List Int}{w w':World}{e:Ending}{n:Nat}(h:dK ty L w e w')(hn:L.length=n)(h0:0<n):
  ∃g c,e=.returned (.slice (some ⟨g,0,none⟩) n c)∧n≤c∧w.heap.size≤g∧Rd w' (some ⟨g,0,none⟩) L∧Below w.heap.size w w':=by
 obtain⟨v,rfl,hown,hb⟩:=h;rw[hn]at hown;obtain⟨g,c,rfl,hg,hlt⟩:=hown.form h0;refine⟨g,c,rfl,?_,hg,NH hown,hb⟩;rcases hown.2 with⟨h1,_⟩|⟨g',c',cur,h1,_,_,hc,_⟩
 ·cases h1
 ·injection h1 with _ _ h2
  omega
theorem new_no(A:Option Addr)(n c:Nat)(w:World)(hn:65024<n):
  Calls Tryz.prog 44 #[.slice A n c] w fun e w'=>e=.returned (.tuple #[.pointer none,.int .i64 7])∧w=w':=by
 have k1:(65024:Int)<(n:Int):=zGX;go_enter Tryz.func44,Tryz.ntmps44;go_wp2;go_ret2;exact⟨rfl,rfl⟩
theorem zLR(A:Option Addr)(n c:Nat)(L:List Int)(w:World)(hn:n≤65024)(hL:L.length=n)(hR:Rd w A L)(hF:cQ w):
  Calls Tryz.prog 44 #[.slice A n c] w (Made L w):=by
 have k1:¬(65024:Int)<(n:Int):=zGX;have hz:=zWE;have H:=zW (zM hL (zM hR hF));clear hL hR hF;go_enter Tryz.func44,Tryz.ntmps44;go_wp2_with fail;clear hz;have B1:Below w.heap.size w (w.alloc (.cells (cells xM (.slice none 0 0)) 144)):=(zB _ _).alloc (zG _) _;have M1:=nV.new w;obtain⟨p,hp⟩:∃p,p=w.heap.size:=⟨_,rfl⟩;generalize w.alloc (.cells (cells xM (.slice none 0 0)) 144)=w1 at*;rw[←hp]at M1⊢;have P1:=zW (zM B1 (zM M1 hp));clear B1 M1 hp;have c80:∀w,(Instr.sliceAt 140 (.pointer (some ⟨p,0,none⟩)) (some (.int .i64 80)) none none).run Tryz.prog w=.ok (.slice (some ⟨p,80,none⟩) 65456 65456) w:=pB p 80 zGX;have c160:∀w,(Instr.sliceAt 140 (.pointer (some ⟨p,0,none⟩)) (some (.int .i64 160)) none none).run Tryz.prog w=.ok (.slice (some ⟨p,160,none⟩) 65376 65376) w:=pB p 160 zGX;have c512:∀w,(Instr.sliceAt 140 (.pointer (some ⟨p,0,none⟩)) (some (.int .i64 512)) none none).run Tryz.prog w=.ok (.slice (some ⟨p,512,none⟩) 65024 65024) w:=pB p 512 zGX;refine mT (C:=fun w'=>∃x:yM,w'=x.w) [([0,1,2,3],4),([],5)] [] zGV zGV (fun _ _ d _ _ h=>by cases d<;>exact h) (yM.any _) ?_;intro wd hwd;have P2:Below w.heap.size w wd∧nV p xM (.slice none 0 0) wd∧p=w.heap.size:=by rw[hwd];exact⟨P1.out.1.drew,P1.out.2⟩
 have PD:=zW P2;clear hwd P2 P1;refine mD zGW zGM ?_;repeat(go_big_quiet_step (fail))
 refine zY ?_;refine mH zGM ?_;intro K hK;go_wp2_with fail;refine(UQ _ (H.out.2.2.step PD.out.1)).mono ?_;rintro e w2 h;obtain⟨g,c2,rfl,_,_,R2,b2⟩:=h.slice cW zGX;have P2:Below w.heap.size w w2∧nV p xM (.slice none 0 0) w2∧p=w.heap.size:=⟨PD.out.1.trans (b2.mono PD.out.1.size),PD.out.2.1.keep (b2.block p PD.out.2.1.lt),PD.out.2.2⟩;obtain⟨v2,hrun,hm2,ha2⟩:=uK 3 p 80 65456 65456 (some ⟨g,0,none⟩) 80 c2 80 zGX vQ cW R2 xM (.slice none 0 0) (by exact xX) P2.2.1 zGX;rw[qV (by rw[cW];omega),eS _ _ _ (by exact xX) (by rw[cW];omega)]at hm2;have Q2:=zW (zM (P2.1.trans ((ha2 none).below P2.1.size (by have:=P2.2.2;omega) (fun k hk=>by cases hk))) (zM hm2 P2.2.2));clear h PD R2 b2 P2 hm2 ha2;simp only[];refine hK _ _ (yM.any _) ?_;clear hK K;refine mD zGW zGM ?_;refine zY ?_;refine mH zGM ?_;intro K hK;refine cK (.tmp 12) (.tmp 13) rfl 3 rfl _ _ _ zGM zGM hrun 14 zGM ?_;simp only[zQ,zZ,zJ];refine hK _ _ (yM.any _) ?_;clear hK K hrun;refine vW zGW ?_;refine zY ?_;clear c80;go_wp2_with fail;refine mT (C:=fun w'=>∃x:yM,w'=x.w) [([0,1,2,3],4),([],5)] [] zGV zGV (fun _ _ d _ _ h=>by cases d<;>exact h) (yM.any _) ?_;intro wd hwd;have P2:Below w.heap.size w wd∧nV p (put xM 80 vQ) (.slice none 0 0) wd∧p=w.heap.size:=by rw[hwd];exact⟨Q2.out.1.drew,Q2.out.2⟩
 have PD:=zW P2;clear hwd P2 Q2;refine mD zGW zGM ?_;repeat(go_big_quiet_step (fail))
 refine zY ?_;refine mH zGM ?_;intro K hK;go_wp2_with fail;refine(zN2 _ (H.out.2.2.step PD.out.1)).mono ?_;rintro e w3 h;obtain⟨g,c3,rfl,_,_,R3,b3⟩:=h.slice yY zGX;have P3:Below w.heap.size w w3∧nV p (put xM 80 vQ) (.slice none 0 0) w3∧p=w.heap.size:=⟨PD.out.1.trans (b3.mono PD.out.1.size),PD.out.2.1.keep (b3.block p PD.out.2.1.lt),PD.out.2.2⟩;obtain⟨v3,hrun,hm3,ha3⟩:=uK 3 p 160 65376 65376 (some ⟨g,0,none⟩) 160 c3 160 zGX wK yY R3 (put xM 80 vQ) (.slice none 0 0) (by rw[xZ];exact xX) P3.2.1 zGX;rw[qV (by rw[yY];omega),eS _ _ _ (by rw[xZ];exact xX) (by rw[yY];omega)]at hm3;have Q3:=zW (zM (P3.1.trans ((ha3 none).below P3.1.size (by have:=P3.2.2;omega) (fun k hk=>by cases hk))) (zM hm3 P3.2.2));clear h PD R3 b3 P3 hm3 ha3;simp only[];refine hK _ _ (yM.any _) ?_;clear hK K;refine mD zGW zGM ?_;refine zY ?_;refine mH zGM ?_;intro K hK;refine cK (.tmp 18) (.tmp 19) rfl 3 rfl _ _ _ zGM zGM hrun 20 zGM ?_;simp only[zQ,zZ,zJ];refine hK _ _ (yM.any _) ?_;clear hK K hrun;refine vW zGW ?_;refine zY ?_;clear c160;go_wp2_with fail;have R3:Rd v3 A L:=H.out.2.1.below Q3.out.1;obtain⟨w4,hrun,hm4,ha4⟩:=uK 3 p 512 65024 65024 A n c n zGX L H.out.1 R3 (put (put xM 80 vQ) 160 wK) (.slice none 0 0) (by rw[xZ,xZ];exact xX) Q3.out.2.1 zGX;rw[qV (by rw[H.out.1];omega),eS _ _ _ (by rw[xZ,xZ];exact xX) (by rw[H.out.1];omega)]at hm4;have Q4:=zW (zM (Q3.out.1.trans ((ha4 none).below Q3.out.1.size (by have:=Q3.out.2.2;omega) (fun k hk=>by cases hk))) (zM hm4 Q3.out.2.2));clear R3 hm4 ha4 Q3 c512;rw[hrun];clear hrun;go_wp2;go_ret2;exact⟨p,rfl,by have:=Q4.out.2.2;omega,Q4.out.2.1,Q4.out.1⟩
def Gave(n:Nat)(L:List Int)(w:World)(e:Ending)(w':World):Prop:=
 ∃g,e=.returned (.slice (some ⟨g,0,none⟩) n n)∧w.heap.size≤g∧Rd w' (some ⟨g,0,none⟩) L∧Below w.heap.size w w'
theorem KY(p:Nat)(M:List Int)(v:Value)(a:Int)(k n:Nat)(w:World)(hM:M.length=65536)(hp:nV p M v w)(hk:a%65536=k)(hn:n≤65536):
  Calls Tryz.prog 73 #[.pointer (some ⟨p,0,none⟩),.int .i64 a,.int .i64 (n:Int)] w (Gave n (seg M a n) w):=by
 have m1:max (n:Int) 0=n:=zGX;have m2:min (n:Int) 65536=n:=zGX;have mk:=ZK n n rfl zGX;have H:=zW (zM hM (zM hp hk));clear hM hp hk;go_enter Tryz.func73,Tryz.ntmps73;go_wp2_with fail;clear mk m1 m2;have B1:Below w.heap.size w (w.alloc (.cells (arr (List.replicate n 0)) 5)):=(zB _ _).alloc (zG _) _;have G1:(w.alloc (.cells (arr (List.replicate n 0)) 5)).heap[w.heap.size]?=some (.cells (arr (List.replicate n 0)) 5 (0,0)):=jH _ _;obtain⟨g,hg⟩:∃g,g=w.heap.size:=⟨_,rfl⟩;generalize w.alloc (.cells (arr (List.replicate n 0)) 5)=w1 at*;rw[←hg]at G1⊢;have P1:=zW (zM B1 (zM G1 hg));clear B1 G1 hg;have k2:k<65536:=by have:=H.out.2.2;omega
 have c1:=pB p k k2;obtain⟨N,hN⟩:∃N,N=65536:=⟨_,rfl⟩;have c2:=IX p N hN;obtain⟨d,hd⟩:∃d,d=min (65536-k) n:=⟨_,rfl⟩;obtain⟨D,hD⟩:∃D,D=if n=d then some (⟨g,0,none⟩:Addr)else some ⟨g,d,none⟩:=⟨_,rfl⟩;have c3:=zNE g n d zGX D hD;have HD:=zW (zM hN (zM hd hD));clear hN hd hD;refine mT (C:=fun w'=>∃x:yM,w'=x.w) [([0,1,2,3,4],5),([6],7)] [8] zGV zGV (fun _ _ d _ _ h=>by cases d<;>exact h) (yM.any _) ?_;intro wd hwd;have P2:Below w.heap.size w wd∧wd.heap[g]?=some (.cells (arr (List.replicate n 0)) 5 (0,0))∧g=w.heap.size:=by rw[hwd];exact⟨P1.out.1.drew,P1.out.2⟩
 have PD:=zW P2;clear hwd P2 P1;refine mD zGW zGM ?_;repeat(go_big_quiet_step (fail))
 refine zY ?_;refine mH zGM ?_;intro K hK;go_wp2_with fail;refine(t6 _ k _ H.out.2.2).mono ?_;rintro e w' ⟨rfl,h⟩;replace h:=h.symm;subst h;simp only[];refine hK _ _ (yM.any _) ?_;clear hK K;refine mD zGW zGM ?_;repeat(go_big_quiet_step (fail))
 refine zY ?_;refine mH zGM ?_;intro K hK;have mp:nV p M v wd:=H.out.2.1.keep (PD.out.1.block p H.out.2.1.lt);have R1:Rd wd (some ⟨p,k,none⟩) (M.drop k):=fun _=>⟨_,rfl,mp.lt,fun j hj=>by
  have hM:=H.out.1;rw[jF]at hj;rw[xE,mp.cell hM (k+j) zGX,List.getElem_drop]⟩
 obtain⟨w2,hrun,hg2,ha2⟩:=bL 3 g 0 n n (some ⟨g,0,none⟩) (fun _=>rfl) (some ⟨p,k,none⟩) (65536-k) (65536-k) d HD.out.2.1 (M.drop k) (by rw[jF,H.out.1]) R1 (List.replicate n 0) 5 PD.out.2.1 zGN;refine cK (.tmp 15) (.tmp 21) rfl 3 rfl _ _ _ zGM zGM hrun 22 zGM ?_;simp only[zQ,zZ,zJ];refine hK _ _ (yM.any _) ?_;have Q2:=zW (zM (PD.out.1.trans ((ha2 none).below PD.out.1.size (by have:=PD.out.2.2;omega) (fun k hk=>by cases hk))) (zM hg2 PD.out.2.2));clear hK K hrun hg2 ha2 mp R1 PD c1;refine vW zGW ?_;repeat(go_big_quiet_step (fail))
 refine zY ?_;go_wp2_with fail;refine mT (C:=fun w'=>∃x:yM,w'=x.w) [([0,1,2,3,4,5,6],7)] [] zGV zGV (fun _ _ d _ _ h=>by cases d<;>exact h) (yM.any _) ?_;intro wd hwd;have P2:Below w.heap.size w wd∧wd.heap[g]?=some (.cells (arr (splice (List.replicate n 0) 0 ((M.drop k).take n))) 5 (0,0))∧g=w.heap.size:=by rw[hwd];exact⟨Q2.out.1.drew,Q2.out.2⟩
 have PD:=zW P2;clear hwd P2 Q2;refine mD zGW zGM ?_;repeat(go_big_quiet_step (fail))
 refine zY ?_;refine mH zGM ?_;intro K hK;have mp:nV p M v wd:=H.out.2.1.keep (PD.out.1.block p H.out.2.1.lt);have R1:Rd wd (some ⟨p,0,none⟩) M:=fun _=>⟨_,rfl,mp.lt,fun j hj=>by
  have hM:=H.out.1;rw[xE,qL,mp.cell hM j zGX]⟩
 have hl2:(splice (List.replicate n (0:Int)) 0 ((M.drop k).take n)).length=n:=by
  rw[yR _ _ _ (by rw[qX,List.length_replicate];omega),List.length_replicate]
 have hdn:d≤n:=by have:=HD.out.2.1;omega
 obtain⟨w3,hrun,hg3,ha3⟩:=bL 3 g d (n-d) (n-d) D (fun h=>by rw[HD.out.2.2,zL zGX]) (some ⟨p,0,none⟩) N N (n-d) (by have:=HD.out.1;omega) M (by rw[HD.out.1];exact H.out.1) R1 _ 5 PD.out.2.1 (by rw[hl2];omega);refine cK (.tmp 25) (.tmp 29) rfl 3 rfl _ _ _ zGM zGM hrun 30 zGM ?_;simp only[zQ,zZ,zJ];refine hK _ _ (yM.any _) ?_;rw[MZ M (List.replicate n 0) a k n d H.out.2.2 HD.out.2.1 H.out.1 hn List.length_replicate]at hg3;have Q3:=zW (zM (PD.out.1.trans ((ha3 none).below PD.out.1.size (by have:=PD.out.2.2;omega) (fun k hk=>by cases hk))) (zM hg3 PD.out.2.2));clear hK K hrun hg3 ha3 mp R1 PD hl2 c2 c3;refine vW zGW ?_;refine zY ?_;go_wp2;go_ret;refine⟨g,rfl,by have:=Q3.out.2.2;omega,?_,Q3.out.1⟩;intro _;have hg:=Q3.out.2.1;refine⟨_,rfl,(qM.1 hg).1,fun j hj=>?_⟩;rw[xE,qL,jO _ _ _ _ _ _ hg];exact pT _ j hj

end
section
open Go.RowKit
theorem rI{P:Program}{id:Nat}{Q:Exit→Act→World→Prop}{a:Act}{w:World}{l:List Oper}(n:Nat)(hm:P.follows .mixedOrders=true)(hB:Region.lexTailB .any l.toArray n=true)
  (h:∀wd,wd=w.drew→wpStill P l.toArray wd (fun a'=>wpList P l.toArray Q (l.drop n) a' wd) (l.take n) a):(Code.region id l.toArray true).wp P Q a w:=
 wp_region_still_tail n hm hB (h w.drew rfl)
end
section
open Go.RowKit Num

theorem dK.bytes{L:List Int}{w w':World}{e:Ending}{n:Nat}(h:dK 5 L w e w')(hn:L.length=n)(h0:0<n):
  ∃g c,e=.returned (.slice (some ⟨g,0,none⟩) n c)∧w.heap.size≤g∧g<w'.heap.size∧w'.ownsRow w.heap.size 5 1 (.slice (some ⟨g,0,none⟩) n c) n (L.map (Value.int .u8))∧Below w.heap.size w w':=by
 obtain⟨v,rfl,hown,hb⟩:=h;rw[hn]at hown;obtain⟨g,c,rfl,hg,hlt⟩:=hown.form h0;exact⟨g,c,rfl,hg,hlt,hown,hb⟩
theorem o8(h l:Int)(w:World)(h0:0≤h)(h1:h≤255)(l0:0≤l)(l1:l≤255):
  Calls Tryz.prog 85 #[.int .u8 h,.int .u8 l] w fun e w'=>e=.returned (.int .i64 (h*256+l))∧w=w':=by
 go_enter Tryz.func85,Tryz.ntmps85;go_wp2;go_ret;exact⟨wM (or256 h l h0 h1 l0 l1),rfl⟩
theorem I8(h l:Int)(w:World)(h0:0≤h)(h1:h≤255)(l0:0≤l)(l1:l≤255):
  Calls Tryz.prog 83 #[.int .u8 h,.int .u8 l] w fun e w'=>
   e=.returned (.agg #[.int .i64 (h/16),.int .i64 (h%16),.int .i64 (l/16),.int .i64 (l%16),.int .i64 l,.int .i64 (h%16*256+l)])∧Below w.heap.size w w':=by
 go_enter Tryz.func83,Tryz.ntmps83;go_wp2_with (go_at_call 85;refine(o8 _ _ _ h0 h1 l0 l1).mono ?_;rintro e w' ⟨rfl,rfl⟩);go_returns;refine⟨?_,by go_grown⟩;rw[zWZ _ zGX zGX,zWZ _ zGX zGX,zWZ _ zGX zGX,and255 _ zGX zGX,zN7 _ zGX zGX];exact zJ6 zGX zGX zGX zGX zGX zGX
end
section
open Go.RowKit Num Go.Maps
theorem xY{H:Type}{P:Program}(w:World){ops:Array Oper}{rest:List Oper}{o:Oper}{a:Act}{Q:Exit→Act→World→Prop}
  (hg:o.guard=none) (m x v:Operand) (t:TypeId) (hop:o.op=Op.insert t m x v)
  (k e:TypeId) (K:Keyed P k) (ht:P.underlying t=some (.map k e)) (R:Value→Option (DataW H×List MemPlace)) (b n:Nat) (D:DataW H)
  (hm:a.eval m=.map (some b)) (hown:w.ownsMap P k R b n D) (hn:n<maxLen) (key val:Value) (kl:Lit) (hx:a.eval x=key) (hv:a.eval v=val) (hkey:keyOf P k key=some kl)
  (d:DataW H) (ps:List MemPlace) (hval:R val=some (d,ps))
  (hK:∀w',w'.ownsMap P k R b (n+1) (D.put kl d)→w.grownBy w' (some b)→wpList P ops Q rest (a.put o.dst undef) w'):
  wpList P ops Q (o::rest) a w:=by
 refine qZ hg fun K' hK'=>?_;obtain⟨w',hrun,r1,r2⟩:=hown.update K ht hn hkey hval;unfold Oper.wp;simp[execOp,hop,hm,hx,hv,hrun,Result.andThen];exact hK' _ _ (hK w' r1 r2)
def Z7(l x:Int):Bool:=decide ((l=2∧0≤x∧x≤7)∨(l=3∧0≤x∧x≤15))
theorem uG:Keyed Tryz.prog 3:=int_keyed Tryz.underlying3
theorem rZ(l:Int)(h:(Lit.int .i64 l).wf=true):keyOf Tryz.prog 3 (.int .i64 l)=some (.int .i64 l):=keyOf_int_mk Tryz.underlying3 h
theorem zWC(w:World):(zeroValue 3).run Tryz.prog w=.ok (.int .i64 0) w:=by kernel_rfl
def fM:DataW Unit:=((DataW.map []).put (.int .i64 2) (.lit (.int .i64 7))).put (.int .i64 3) (.lit (.int .i64 15))
theorem CM(l:Int):WideAt.IsKeyLit (.int .i64 l):=by first|trivial|simp[WideAt.IsKeyLit]
theorem NU:IsMap (DataW.map []:DataW Unit):=⟨_,rfl⟩
theorem OC(l:Int):has fM (.int .i64 l)=(decide (l=2)||decide (l=3)):=by
 unfold fM;by_cases h3:l=3
 ·subst h3;rw[has_put_same (NU.put _ _) (CM 3)];rfl
 ·rw[has_put_other (by intro c;injection c with _ c;exact h3 c),zO h3,Bool.or_false];by_cases h2:l=2
  ·subst h2;rw[has_put_same NU (CM 2)];rfl
  ·rw[has_put_other (by intro c;injection c with _ c;exact h2 c),zO h2];rfl
theorem zKL(l:Int)(z:DataW Unit):fM.atKey (.int .i64 l) z=if l=3 then .lit (.int .i64 15)else if l=2 then .lit (.int .i64 7)else z:=by
 unfold fM;by_cases h3:l=3
 ·subst h3;rw[zN rfl,atKey_put_same (NU.put _ _) (CM 3)]
 ·rw[zL h3,atKey_put_other (by intro c;injection c with _ c;exact h3 c)];by_cases h2:l=2
  ·subst h2;rw[zN rfl,atKey_put_same NU (CM 2)]
  ·rw[zL h2,atKey_put_other (by intro c;injection c with _ c;exact h2 c)];rfl
theorem N0(w:World):Calls Tryz.prog 160 #[] w fun e w'=>∃b,e=.returned (.map (some b))∧w'.ownsMap Tryz.prog 3 (plainElem Tryz.prog 3) b 2 fM∧Below w.heap.size w w':=by
 have hmm:= @run_makeMap Tryz.prog;go_enter Tryz.func160,Tryz.ntmps160;go_upto_region 1 with fail;refine zH ?_;iterate 3 go_step
 have B0:=zW ((zB w.heap.size w).alloc (zG _) (.map #[] 0));refine xY (H:=Unit) _ rfl (.tmp 1) (.const (.int .i64 2)) (.const (.int .i64 7)) 250 rfl 3 3 uG Tryz.underlying250 (plainElem Tryz.prog 3) w.heap.size 0 (.map []) rfl (World.ownsMap_made w _ _ _) zGD _ _ (.int .i64 2) rfl rfl (rZ 2 zGL) (.lit (.int .i64 7)) [] (plainElem_int Tryz.underlying3 zGL) ?_;intro w1 o1 g1;have B1:=zW (B0.out.grown g1 B0.out.size (fun j hj=>by cases hj;exact zG _));have O1:=zW o1;clear o1 g1 B0 hmm;simp only[Act.put];refine xY _ rfl (.tmp 1) (.const (.int .i64 3)) (.const (.int .i64 15)) 250 rfl 3 3 uG Tryz.underlying250 (plainElem Tryz.prog 3) w.heap.size 1 _ rfl O1.out zGD _ _ (.int .i64 3) rfl rfl (rZ 3 zGL) (.lit (.int .i64 15)) [] (plainElem_int Tryz.underlying3 zGL) ?_;intro w2 o2 g2;have Z:=zW (zM o2 (B1.out.grown g2 B1.out.size (fun j hj=>by cases hj;exact zG _)));clear o2 g2 O1 B1;simp only[Act.put];go_wp2_with fail;go_ret;exact⟨_,rfl,Z.out.1,Z.out.2⟩
theorem aE(l x:Int)(w:World)(hl:(Lit.int .i64 l).wf=true):Calls Tryz.prog 121 #[.int .i64 l,.int .i64 x] w fun e w'=>e=.returned (.bool (Z7 l x))∧Below w.heap.size w w':=by
 have hk:=zW (rZ l hl);clear hl;go_enter Tryz.func121,Tryz.ntmps121;go_wp2_with fail;refine(N0 _).mono ?_;rintro e w1 ⟨b,rfl,ho,hb⟩;have O:=zW (zM ho hb);clear ho hb;simp only[];go_at_K
 iterate 4 go_step
 refine wpList_lookup_own_ok_int _ rfl (.tmp 8) (.tmp 9) 250 rfl 3 3 .i64 uG Tryz.underlying250 Tryz.underlying3 (zWC _) b 2 fM rfl O.out.1 _ _ rfl hk.out ?_;intro c hat _;rw[OC];rw[zKL]at hat;have F:Z7 l x=((decide (l=2)||decide (l=3))&&(decide (0≤x)&&decide (x≤c))):=by
  unfold Z7;by_cases h3:l=3
  ·rw[zN h3]at hat;injection hat with hat
   injection hat with _ hat
   subst hat h3;simp[Bool.decide_and]
  ·rw[zL h3]at hat;by_cases h2:l=2
   ·rw[zN h2]at hat;injection hat with hat
    injection hat with _ hat
    subst hat h2;simp[Bool.decide_and]
   ·simp[h2,h3]
 have FH:=zW F;clear F hat;generalize (decide (l=2)||decide (l=3))=s at*;simp only[Act.put];have B:=zW O.out.2;clear O hk;cases s
 ·go_wp2;go_ret;exact⟨by rw[FH.out];rfl,B.out⟩
 ·by_cases hx:0≤x
  ·by_cases hc:x≤c
   ·have e:=zW (show Z7 l x=true by rw[FH.out];simp[hx,hc]);exact zRO
   ·have e:=zW (show Z7 l x=false by rw[FH.out];simp only[zO hc,Bool.and_false]);exact zRO
  ·have e:=zW (show Z7 l x=false by rw[FH.out];simp only[zO hx,Bool.false_and,Bool.and_false]);exact zRO
end
section
namespace Dec
def gI(n:Nat):Nat:=bif Nat.beq (Nat.land n 65535) 224 then 1 else bif Nat.beq (Nat.land n 65535) 238 then 2 else bif Nat.beq (Nat.land n 61440) 4096 then 3 else bif Nat.beq (Nat.land n 61440) 8192 then 4 else bif Nat.beq (Nat.land n 61440) 12288 then 5 else bif Nat.beq (Nat.land n 61440) 16384 then 6 else bif Nat.beq (Nat.land n 61455) 20480 then 7 else bif Nat.beq (Nat.land n 61440) 24576 then 8 else bif Nat.beq (Nat.land n 61440) 28672 then 9 else bif Nat.beq (Nat.land n 61455) 32768 then 10 else bif Nat.beq (Nat.land n 61455) 32769 then 11 else bif Nat.beq (Nat.land n 61455) 32770 then 12 else bif Nat.beq (Nat.land n 61455) 32771 then 13 else bif Nat.beq (Nat.land n 61455) 32772 then 14 else bif Nat.beq (Nat.land n 61455) 32773 then 15 else bif Nat.beq (Nat.land n 61455) 32774 then 16 else bif Nat.beq (Nat.land n 61455) 32775 then 17 else bif Nat.beq (Nat.land n 61455) 32782 then 18 else bif Nat.beq (Nat.land n 61455) 36864 then 19 else bif Nat.beq (Nat.land n 61440) 40960 then 20 else bif Nat.beq (Nat.land n 61440) 45056 then 21 else bif Nat.beq (Nat.land n 61440) 49152 then 22 else bif Nat.beq (Nat.land n 61455) 53248 then 41 else bif Nat.beq (Nat.land n 61440) 53248 then 23 else bif Nat.beq (Nat.land n 61695) 57502 then 24 else bif Nat.beq (Nat.land n 61695) 57505 then 25 else bif Nat.beq (Nat.land n 61695) 61447 then 26 else bif Nat.beq (Nat.land n 61695) 61450 then 27 else bif Nat.beq (Nat.land n 61695) 61461 then 28 else bif Nat.beq (Nat.land n 61695) 61464 then 29 else bif Nat.beq (Nat.land n 61695) 61470 then 30 else bif Nat.beq (Nat.land n 61695) 61481 then 31 else bif Nat.beq (Nat.land n 61695) 61491 then 32 else bif Nat.beq (Nat.land n 61695) 61525 then 33 else bif Nat.beq (Nat.land n 61695) 61541 then 34 else bif Nat.beq (Nat.land n 65520) 192 then 35 else bif Nat.beq (Nat.land n 65535) 251 then 36 else bif Nat.beq (Nat.land n 65535) 252 then 37 else bif Nat.beq (Nat.land n 65535) 253 then 38 else bif Nat.beq (Nat.land n 65535) 254 then 39 else bif Nat.beq (Nat.land n 65535) 255 then 40 else bif Nat.beq (Nat.land n 61695) 61488 then 42 else bif Nat.beq (Nat.land n 61695) 61557 then 43 else bif Nat.beq (Nat.land n 61695) 61573 then 44 else bif Nat.beq (Nat.land n 65520) 208 then 45 else bif Nat.beq (Nat.land n 61455) 20482 then 46 else bif Nat.beq (Nat.land n 61455) 20483 then 47 else bif Nat.beq (Nat.land n 65535) 61440 then 48 else bif Nat.beq (Nat.land n 61695) 61441 then 49 else bif Nat.beq (Nat.land n 65535) 61442 then 50 else bif Nat.beq (Nat.land n 61695) 61498 then 51 else 0
theorem zHE:∀(n:Nat) (l:List Rl),(tP n l).op=l.foldr (fun r m=>bif Nat.beq (Nat.land n r.mask) r.code then r.op else m) 0
 |n,[]=>rfl
 |n,r::rs=>by
  unfold tP fit;rw[List.foldr_cons];cases Nat.beq (Nat.land n r.mask) r.code
  ·exact zHE n rs
  ·rfl
theorem zW9(n:Nat):(top n).op=gI n:=zHE n rls
end Dec
end
end Go.Proofs.YtbpniahcjbagmaaGreatDoor
