/- FontCat, FontTab, Mem, MemLog, MemWrite, MemNew, MemBytes, FontRef, Tail, MemPut, MemRef2, Opc, FlaAllow, DecFin. -/
import Derived.Test.YtbpniahcjbagmaaGreatDoorRows
import Derived.Test.YtbpniahcjbagmaaGreatDoorMk0a
set_option maxRecDepth 400000
set_option maxHeartbeats 64000000
set_option linter.unusedVariables false
set_option linter.unusedSimpArgs false
namespace Go.Proofs.YtbpniahcjbagmaaGreatDoor
section
open Go.RowKit Num
theorem index5(k:Nat)(h:k<16):∀w:World,(Instr.index 173 (.agg (arr nG)) (.int .i64 k)).run Tryz.prog w=.ok (.agg (arr (t9 k))) w:=by
 exact zNL
theorem zW8(w:World):Calls Tryz.prog 71 #[.agg (arr nG)] w (gS 5 nG w):=by
 obtain⟨i0,hi,hz0,hz1,hz2⟩:=kH rO;have hbox:(w.alloc (.cells (arr nG) 173)).heap[w.heap.size]?=some (.cells (arr nG) 173 (0,0)):=jM _ _;have hb1:Below w.heap.size w (w.alloc (.cells (arr nG) 173)):=(zG _ _).alloc (zH _) _;go_enter Tryz.func71,Tryz.ntmps71;go_upto_region 2 with fail;refine zB ?_;refine j8 rfl 173 (.tmp 1) rfl w.heap.size rfl 173 (arr nG) (0,0) _ hbox Tryz.underlying173 rfl zLP ?_;generalize w.alloc (Obj.cells (arr nG) 173)=w1 at*;go_wp2;go_loopw [3,7] (fun o c wr=>∃k:Nat,k≤16∧c=.int .i64 k∧wr.ownsRow w.heap.size 5 1 o (5*k) ((nG.take (5*k)).map (Value.int .u8))∧Below w.heap.size w wr) (fun _ c _=>16-(intOf c).toNat)
 case atStart=>exact⟨0,qC _,rfl,kX _ _ _ _,hb1⟩
 case round=>
  obtain⟨k,hk,rfl,hown,hb⟩:=hrel
  clear hb1 hbox
  by_cases hlt:k<16
  ·have ik:=index5 k hlt
   have ht:=VK k
   obtain⟨x0,x1,x2,x3,x4,hx⟩:=five (VM hlt)
   rw[hx]at ik ht
   have ik':∀w:World,(Instr.index 173 (.agg (arr nG)) (.int .i64 k)).run Tryz.prog w=.ok (.agg #[.int .u8 x0,.int .u8 x1,.int .u8 x2,.int .u8 x3,.int .u8 x4]) w:=ik
   clear ik hx
   go_wp2_with fail
   refine(add5 [x0,x1,x2,x3,x4] rfl _ (5*k) (nG.take (5*k)) w.heap.size _ (hown.alloc _) zMJ zLF).mono ?_
   rintro e w' ⟨v',rfl,hown',hb'⟩
   go_wp2
   go_roundw
   case rel=>exact⟨k+1,by omega,by go_num,by rw[ht];exact hown',(hb.alloc hb.size _).trans hb'⟩
   case measure=>simp[intOf];omega
  ·have hkn:k=16:=zLF
   subst hkn
   go_wp2
   go_ret
   rw[qW (by rw[vG];decide)]at hown
   exact⟨_,rfl,by rw[vG];exact hown,hb⟩
theorem zVK(k:Nat)(h:k<16):∀w:World,(Instr.index 176 (.agg (arr uX)) (.int .i64 k)).run Tryz.prog w=.ok (.agg (arr (YM k))) w:=by
 exact zNL
theorem zZ4(w:World):Calls Tryz.prog 72 #[.agg (arr uX)] w (gS 5 uX w):=by
 obtain⟨i0,hi,hz0,hz1,hz2⟩:=kH rO;have hbox:(w.alloc (.cells (arr uX) 176)).heap[w.heap.size]?=some (.cells (arr uX) 176 (0,0)):=jM _ _;have hb1:Below w.heap.size w (w.alloc (.cells (arr uX) 176)):=(zG _ _).alloc (zH _) _;go_enter Tryz.func72,Tryz.ntmps72;go_upto_region 2 with fail;refine zB ?_;refine j8 rfl 176 (.tmp 1) rfl w.heap.size rfl 176 (arr uX) (0,0) _ hbox Tryz.underlying176 rfl zLP ?_;generalize w.alloc (Obj.cells (arr uX) 176)=w1 at*;go_wp2;go_loopw [3,7] (fun o c wr=>∃k:Nat,k≤16∧c=.int .i64 k∧wr.ownsRow w.heap.size 5 1 o (10*k) ((uX.take (10*k)).map (Value.int .u8))∧Below w.heap.size w wr) (fun _ c _=>16-(intOf c).toNat)
 case atStart=>exact⟨0,qC _,rfl,kX _ _ _ _,hb1⟩
 case round=>
  obtain⟨k,hk,rfl,hown,hb⟩:=hrel
  clear hb1 hbox
  by_cases hlt:k<16
  ·have ik:=zVK k hlt
   have ht:=zJV k
   obtain⟨x0,x1,x2,x3,x4,x5,x6,x7,x8,x9,hx⟩:=ten (zJY hlt)
   rw[hx]at ik ht
   have ik':∀w:World,(Instr.index 176 (.agg (arr uX)) (.int .i64 k)).run Tryz.prog w=.ok (.agg #[.int .u8 x0,.int .u8 x1,.int .u8 x2,.int .u8 x3,.int .u8 x4,.int .u8 x5,.int .u8 x6,.int .u8 x7,.int .u8 x8,.int .u8 x9]) w:=ik
   clear ik hx
   go_wp2_with fail
   refine(add10 [x0,x1,x2,x3,x4,x5,x6,x7,x8,x9] rfl _ (10*k) (uX.take (10*k)) w.heap.size _ (hown.alloc _) zMJ zLF).mono ?_
   rintro e w' ⟨v',rfl,hown',hb'⟩
   go_wp2
   go_roundw
   case rel=>exact⟨k+1,by omega,by go_num,by rw[ht];exact hown',(hb.alloc hb.size _).trans hb'⟩
   case measure=>simp[intOf];omega
  ·have hkn:k=16:=zLF
   subst hkn
   go_wp2
   go_ret
   rw[qW (by rw[xB];decide)]at hown
   exact⟨_,rfl,by rw[xB];exact hown,hb⟩
structure xQ(w:World):Prop where
 lt:1<w.heap.size
 big:∀j (h:j<uX.length),w.cell? ⟨1,j,none⟩=some (.int .u8 uX[j])
 small:∀j (h:j<nG.length),w.cell? ⟨0,j,none⟩=some (.int .u8 nG[j])
theorem xQ.below{w w':World}{n:Nat}(h:xQ w)(hb:Below n w w')(hn:1<n):xQ w':=
 ⟨zF h.lt hb.size,fun j hj=>(hb.cell (p:=⟨1,j,none⟩) zL1).trans (h.big j hj),fun j hj=>(hb.cell (p:=⟨0,j,none⟩) zL1).trans (h.small j hj)⟩
theorem xQ.step{w w':World}(h:xQ w)(hb:Below w.heap.size w w'):xQ w':=h.below hb h.lt
theorem eE(g o j:Nat):(⟨g,o,none⟩:Addr).add j=⟨g,o+j,none⟩:=by unfold Addr.add;split<;>simp_all
theorem EL(w:World)(hL:xQ w):Calls Tryz.prog 58 #[] w (gS 5 nG w):=by
 go_enter Tryz.func58,Tryz.ntmps58;go_upto_region 1 with fail;refine zB ?_;refine yO rfl 173 (.global 0) rfl ⟨0,0,none⟩ rfl nG _ (fun j h=>by rw[eE,qH];exact hL.small j h) Tryz.underlying173 rfl (by rw[vG];kernel_rfl) ?_;go_wp2_with fail;refine(zW8 _).mono ?_;rintro e w' ⟨v,rfl,hown,hb⟩;go_wp2;go_ret;exact⟨_,rfl,hown,hb⟩
theorem zYX(w:World)(hL:xQ w):Calls Tryz.prog 59 #[] w (gS 5 uX w):=by
 go_enter Tryz.func59,Tryz.ntmps59;go_upto_region 1 with fail;refine zB ?_;refine yO rfl 176 (.global 1) rfl ⟨1,0,none⟩ rfl uX _ (fun j h=>by rw[eE,qH];exact hL.big j h) Tryz.underlying176 rfl (by rw[xB];kernel_rfl) ?_;go_wp2_with fail;refine(zZ4 _).mono ?_;rintro e w' ⟨v,rfl,hown,hb⟩;go_wp2;go_ret;exact⟨_,rfl,hown,hb⟩
theorem rI(n:Int)(k:Nat)(w:World)(h:n%65536=k):Calls Tryz.prog 77 #[.int .i64 n] w fun e w'=>e=.returned (.int .i64 k)∧w'=w:=by
 have hb:=YH n;rw[h]at hb;clear h;go_enter Tryz.func77,Tryz.ntmps77;go_wp2;exact zNT
def Reads(v:Value)(w:World)(e:Ending)(w':World):Prop:=e=.returned v∧∃n,w'=w.drewN n
theorem FG:(Tryz.prog.info? 168).map (fun i=>(i.zero,i.size,i.bytes))=some (some (.agg #[.int .i64 0,.int .i64 0]),2,16):=by kernel_rfl
def zJE(p:Nat)(M:List Int)(base n:Nat)(xs:List Value)(v:Value)(w:World)(e:Ending)(w':World):Prop:=
 e=.returned (.tuple #[])∧∃v',mF p M v' w'∧w'.ownsRow base 168 2 v' n xs∧mP p v.ownBlock w w'∧(v'.ownBlock=v.ownBlock∨∃g,v'.ownBlock=some g∧w.heap.size≤g)
theorem zQN(w:World)(x y:Value)(t:TypeId):∀j u,[x,y][j]?=some u→(w.alloc (.cells #[x,y] t)).cell? ((⟨w.heap.size,0,none⟩:Addr).add j)=some u:=by
 intro j u hj;rw[cO,jU _ _ _ _ _ _ (jM w _)];simpa using hj
theorem FU{p:Nat}{M:List Int}{v:Value}{w1 w2:World}{base n:Nat}{xs:List Value}{o:Obj}(hp:mF p M v w1)(hv:w1.ownsRow base 168 2 v n xs)(hg:(w1.drew.alloc o).grownBy w2 v.ownBlock):mF p M v w2:=by
 have hlt:=hp.lt;have hne:=rQ hv hp zLC;refine hp.keep ((hg.block p zL1 (fun e=>hne e.symm)).trans ?_);exact heap_alloc_old w1.drew _ hlt
theorem DM{p:Nat}{M:List Int}{v:Value}{base n cap gg:Nat}{xs:List Value}{w w1 w2:World}{o:Obj}(hM:M.length=65536)(ha:mP p v.ownBlock w w1)(hs:w1.heap.size=w.heap.size+1)(q:mF p M v w2)
  (hown:w2.ownsRow base 168 2 (.slice (some ⟨gg,0,none⟩) (n+1) cap) (n+1) xs) (hg:(w1.alloc o).drew.grownBy w2 v.ownBlock) (hat:v.ownBlock=some gg∨gg=(w1.alloc o).drew.heap.size):
  zJE p M base (n+1) xs v w (.returned (.tuple #[])) (w2.setCell ⟨p,65536,none⟩ (.slice (some ⟨gg,0,none⟩) (n+1) cap)):=by
 have hne:=rQ hown q zLC;refine⟨rfl,_,q.setLog hM _,rA hown (p:=p) (g:=none) (mP.setCell _ _) hne (fun k hk=>by cases hk),?_,?_⟩
 ·have h1:mP p v.ownBlock w1 (w1.alloc o).drew:=(mP.of_below ((zG _ _).alloc (zH _) _)).drew;exact((ha.trans h1).trans (mP.of_grown hg)).trans (mP.setCell _ _)
 ·rcases hat with h|h
  ·exact .inl h.symm
  ·refine .inr ⟨gg,rfl,?_⟩;rw[h];show w.heap.size≤(w1.alloc o).heap.size;simp;omega
theorem zYD(p:Nat)(M:List Int)(v:Value)(n base:Nat)(xs:List Value)(x y:Int)(w:World)(hM:M.length=65536)(hp:mF p M v w)(hv:w.ownsRow base 168 2 v n xs)(hb:base≤w.heap.size)(hn:n≤1000):
  Calls Tryz.prog 197 #[.pointer (some ⟨p,65536,none⟩),.agg #[.int .i64 x,.int .i64 y]] w (zJE p M base (n+1) (xs++[.int .i64 x,.int .i64 y]) v w):=by
 obtain⟨i0,hi,hz0,hz1,hz2⟩:=kH FG;have hlt:=hp.lt;have cl:(w.alloc (.cells #[.int .i64 x,.int .i64 y] 168)).cell? ⟨p,65536,none⟩=some v:=by
  rw[qE (w:=w) (heap_alloc_old _ _ hlt)];exact hp.log hM
 have clf:(w.alloc (.cells #[.int .i64 x,.int .i64 y] 168)).frozen? ⟨p,65536,none⟩=false:=by
  rw[World.frozen?_of_block (w:=w) (heap_alloc_old _ _ hlt)];exact hp.frozen _
 have c0:(w.alloc (.cells #[.int .i64 x,.int .i64 y] 168)).cell? ⟨w.heap.size,0,none⟩=some (.int .i64 x):=by rw[jU _ _ _ _ _ _ (jM w _)];rfl
 have c1:(w.alloc (.cells #[.int .i64 x,.int .i64 y] 168)).cell? ⟨w.heap.size,1,none⟩=some (.int .i64 y):=by rw[jU _ _ _ _ _ _ (jM w _)];rfl
 have P:=zW (zM hp hv);clear hp hv;go_enter Tryz.func197,Tryz.ntmps197;go_wp2;obtain⟨w1,hw1⟩:∃w1,w1=w.alloc (.cells #[.int .i64 x,.int .i64 y] 168):=⟨_,rfl⟩;rw[←hw1]at cl clf c0 c1⊢;have hp1:mF p M v w1:=P.out.1.keep (by rw[hw1];exact heap_alloc_old _ _ hlt);have hv1:w1.ownsRow base 168 2 v n xs:=by rw[hw1];exact P.out.2.alloc _
 have hs1:w1.heap.size=w.heap.size+1:=by rw[hw1];simp
 have ha1:mP p v.ownBlock w w1:=by rw[hw1];exact mP.of_below ((zG _ _).alloc (zH _) _)
 have Q:=zW (zM hp1 (zM hv1 (zM ha1 hs1)));clear hw1 hp1 hv1 ha1 hs1;have g1:w.heap.size<w1.heap.size:=by have:=Q.out.2.2.2;omega
 have g2:p<w1.heap.size:=zLF;go_region_law ((refine step_append_lies _ zLU _ _ _ zLU base 168 i0 _ 2 16 Tryz.underlying136 hi hz0 hz1 hz2 rfl zLF v n xs zLU (World.ownsRow.alloc (w:=w1.drew) Q.out.2.1 _) ⟨w1.heap.size,0,none⟩ 1 1 [.int .i64 x,.int .i64 y] zLU zLU (zQN w1.drew _ _ _) zMS zLF zL5 zLF zL1 _ rfl ?_;intro gg cap w2 hown2 hgrow hat hlt2;have q2:=FU Q.out.1 Q.out.2.1 hgrow;have ql:=q2.log hM;have qf:=q2.frozen 65536;have Q2:=zW (zM q2 (zM hown2 (zM hgrow hat)));clear q2 hown2 hgrow hat))
 all_goals
  go_wp2
  go_end0
  exact DM hM Q.out.2.2.1 Q.out.2.2.2 Q2.out.1 Q2.out.2.1 Q2.out.2.2.1 Q2.out.2.2.2
def Took(p:Nat)(M:List Int)(v:Value)(w:World)(e:Ending)(w':World):Prop:=e=.returned v∧mF p M (.slice none 0 0) w'∧∀g,mP p g w w'
theorem UZ(p:Nat)(M:List Int)(A:Option Addr)(n c:Nat)(w:World)(hM:M.length=65536)(hp:mF p M (.slice A n c) w):
  Calls Tryz.prog 69 #[.pointer (some ⟨p,65536,none⟩)] w (Took p M (.slice A n c) w):=by
 have cl:=hp.log hM;have clf:=hp.frozen 65536;have P:=zW (zM hp hM);clear hp hM;go_enter Tryz.func69,Tryz.ntmps69;go_wp2;go_ret;exact⟨rfl,P.out.1.setLog P.out.2 _,fun g=>mP.setCell _ _⟩
theorem AK(p:Nat)(M:List Int)(A:Option Addr)(n c:Nat)(w:World)(hM:M.length=65536)(hp:mF p M (.slice A n c) w):
  Calls Tryz.prog 54 #[.pointer (some ⟨p,0,none⟩)] w (Took p M (.slice A n c) w):=by
 have P:=zW (zM hp hM);clear hp hM;go_enter Tryz.func54,Tryz.ntmps54;go_wp2_with fail;refine(UZ p M A n c _ P.out.2 P.out.1).mono ?_;rintro e w' ⟨rfl,h⟩;go_wp2;go_ret;exact⟨rfl,h⟩
theorem WY:Tryz.prog.arrayLen 140=65536:=by kernel_rfl
theorem eH(p k:Nat)(hk:k<65536)(w:World):(Instr.sliceAt 140 (.pointer (some ⟨p,0,none⟩)) (some (.int .i64 (k:Int))) none none).run Tryz.prog w=.ok (.slice (some ⟨p,k,none⟩) (65536-k) (65536-k)) w:=by
 have h:=run_sliceAt_array_l (P:=Tryz.prog) w 140 ⟨p,0,none⟩ Tryz.underlying140 .i64 k zLF (by rw[WY];omega);rw[h,WY];show Result.ok (slicedAt _ _ _ _ 1) w=_;unfold slicedAt;rw[zL zL1,cO];simp
theorem BR(p N:Nat)(hN:N=65536)(w:World):(Instr.sliceAt 140 (.pointer (some ⟨p,0,none⟩)) none none none).run Tryz.prog w=.ok (.slice (some ⟨p,0,none⟩) N N) w:=by
 subst hN;have h:=run_sliceAt_array_all (P:=Tryz.prog) w 140 ⟨p,0,none⟩ Tryz.underlying140;rw[h,WY];show Result.ok (slicedAt _ _ _ _ 1) w=_;unfold slicedAt;rw[zL zLF,cO]
theorem DN(p:Nat)(M:List Int)(v:Value)(n base:Nat)(xs:List Value)(a:Int)(k:Nat)(A:Option Addr)(m c:Nat)(L:List Int)(w:World)(hM:M.length=65536)(hp:mF p M v w)
  (hv:w.ownsRow base 168 2 v n xs) (hb:base≤w.heap.size) (hn:n≤1000) (hk:a%65536=k) (hL:L.length=m) (m0:0<m) (m1:m≤65536) (hmc:m≤c) (hR:Rd w A L) (hA:∀ad,A=some ad→ad.block≠p):
  Calls Tryz.prog 168 #[.pointer (some ⟨p,0,none⟩),.int .i64 a,.slice A m c] w (zJE p (put M a L) base (n+1) (xs++[.int .i64 k,.int .i64 m]) v w):=by
 have k0:0≤(k:Int):=zLF;have k1:(k:Int)<65536:=zLF;have k2:k<65536:=zLF;have ks:=eH p k k2;have k3:((m:Int)==0)=false:=by simp;omega
 have H:=zW (zM hk (zM hL (zM hM (zM hp (zM hv (zM hR hA))))));clear hk hL hM hp hv hR hA;go_enter Tryz.func168,Tryz.ntmps168;go_wp2_with fail;refine(rI _ _ _ H.out.1).mono ?_;rintro e w0 ⟨rfl,h⟩;subst h;go_wp2_with fail;obtain⟨d,hd⟩:∃d,d=min m (65536-k):=⟨_,rfl⟩;obtain⟨w1,hrun,hp1,ha1⟩:=yG 3 p k (65536-k) (65536-k) A m c d hd L H.out.2.1 H.out.2.2.2.2.2.1 M v H.out.2.2.1 H.out.2.2.2.1 zLF;have D:=zW hd;have d0:0≤(d:Int):=zLF;have d1:(d:Int)≤(m:Int):=zLF;have d2:(d:Int)≤(c:Int):=zLF;have P1:=zW (zM hp1 ha1);clear hd hp1 ha1;rw[hrun];clear hrun ks;go_wp2_with fail;obtain⟨N,hN⟩:∃N,N=65536:=⟨_,rfl⟩;have kl:=BR p N hN;have HN:=zW hN;clear hN;refine mJ (C:=fun w'=>∃x:xT,w'=x.w) [([0,1,2,3,4,5,6],7)] [] zLP zLP (fun _ _ d _ _ h=>by cases d<;>exact h) (xT.any _) ?_;intro wd hwd;have P2:mF p (splice M k (L.take (65536-k))) v wd∧∀g,mP p g w0 wd:=by rw[hwd];exact⟨P1.out.1,fun g=>(P1.out.2 g).drew⟩
 have PD:=zW P2;clear hwd P2 P1;refine mV zLE zLU ?_;repeat(go_big_quiet_step (fail))
 refine zY ?_;refine lU zLU ?_;intro K hK;have hl1:(splice M k (L.take (65536-k))).length=65536:=by
  have h1:=H.out.2.1;have h2:=H.out.2.2.1;rw[xC _ _ _ (by rw[qT];omega)];exact h2
 have R1:Rd wd A L:=H.out.2.2.2.2.2.1.keep ((PD.out.2 none).size) fun ad e hlt=>(PD.out.2 none).block ad.block hlt (H.out.2.2.2.2.2.2 ad e) zLI;obtain⟨w2,hrun,hp2,ha2⟩:=yG 3 p 0 N N (if c=d then A else A.map (·.add d)) (m-d) (c-d) (m-d) (by have:=HN.out;omega) (L.drop d) (by rw[jH,H.out.2.1]) (R1.cut (by rw[H.out.2.1];exact hmc)) _ v hl1 PD.out.1 (by have:=HN.out;omega);refine vH (.tmp 27) (.tmp 30) rfl 3 rfl _ _ _ zLU zLU hrun 31 zLU ?_;simp only[zQ,zZ,zJ];refine hK _ _ (xT.any _) ?_;clear hK K hrun;generalize Value.slice (if c=d then A else A.map (·.add d)) (m-d) (c-d)=V1;generalize Value.int .i64 ((m-d:Nat):Int)=V2;refine nF zLE ?_;repeat(go_big_quiet_step (fail))
 refine zY ?_;have e2:splice (splice M k (L.take (65536-k))) 0 ((L.drop d).take N)=put M a L:=by
  rw[HN.out];have h1:=H.out.2.1;have h4:=D.out;exact oV M L a k d H.out.1 zLF H.out.2.2.1 zLF
 rw[e2]at hp2;have a02:∀g,mP p g w0 w2:=fun g=>(PD.out.2 g).trans (ha2 g);have P2:=zW (zM hp2 a02);clear e2 hl1 hp2 ha2 kl a02 R1;go_wp2_with fail;have hv2:w2.ownsRow base 168 2 v n xs:=rA (g:=none) H.out.2.2.2.2.1 (P2.out.2 none) (rQ H.out.2.2.2.2.1 H.out.2.2.2.1 zLC) (fun k hk=>by cases hk);refine(zYD p (put M a L) v n base xs k m w2 (by rw[cJ];exact H.out.2.2.1) P2.out.1 hv2 (zR hb (P2.out.2 none).size) hn).mono ?_;rintro e w3 ⟨rfl,h⟩;have H3:=zW h;clear h;go_wp2;go_end0
 obtain⟨v',h1,h2,h3,h4⟩:=H3.out;refine⟨rfl,v',h1,h2,(P2.out.2 _).trans h3,h4.imp id ?_⟩;rintro⟨g,e,h⟩;exact⟨g,e,zR (P2.out.2 none).size h⟩
def Made(L:List Int)(w:World)(e:Ending)(w':World):Prop:=
 ∃p,e=.returned (.tuple #[.pointer (some ⟨p,0,none⟩),.int .i64 0])∧w.heap.size≤p∧mF p (uL L) (.slice none 0 0) w'∧Below w.heap.size w w'
theorem gS.slice{ty:TypeId}{L:List Int}{w w':World}{e:Ending}{n:Nat}(h:gS ty L w e w')(hn:L.length=n)(h0:0<n):
  ∃g c,e=.returned (.slice (some ⟨g,0,none⟩) n c)∧n≤c∧w.heap.size≤g∧Rd w' (some ⟨g,0,none⟩) L∧Below w.heap.size w w':=by
 obtain⟨v,rfl,hown,hb⟩:=h;rw[hn]at hown;obtain⟨g,c,rfl,hg,hlt⟩:=hown.form h0;refine⟨g,c,rfl,?_,hg,JB hown,hb⟩;rcases hown.2 with⟨h1,_⟩|⟨g',c',cur,h1,_,_,hc,_⟩
 ·cases h1
 ·injection h1 with _ _ h2
  omega
theorem new_no(A:Option Addr)(n c:Nat)(w:World)(hn:65024<n):
  Calls Tryz.prog 44 #[.slice A n c] w fun e w'=>e=.returned (.tuple #[.pointer none,.int .i64 7])∧w=w':=by
 have k1:(65024:Int)<(n:Int):=zLF;go_enter Tryz.func44,Tryz.ntmps44;go_wp2;go_ret2;exact⟨rfl,rfl⟩
theorem zK5(A:Option Addr)(n c:Nat)(L:List Int)(w:World)(hn:n≤65024)(hL:L.length=n)(hR:Rd w A L)(hF:xQ w):
  Calls Tryz.prog 44 #[.slice A n c] w (Made L w):=by
 have k1:¬(65024:Int)<(n:Int):=zLF;have hz:=zJ6;have H:=zW (zM hL (zM hR hF));clear hL hR hF;go_enter Tryz.func44,Tryz.ntmps44;go_wp2_with fail;clear hz;have B1:Below w.heap.size w (w.alloc (.cells (cells cH (.slice none 0 0)) 144)):=(zG _ _).alloc (zH _) _;have M1:=mF.new w;obtain⟨p,hp⟩:∃p,p=w.heap.size:=⟨_,rfl⟩;generalize w.alloc (.cells (cells cH (.slice none 0 0)) 144)=w1 at*;rw[←hp]at M1⊢;have P1:=zW (zM B1 (zM M1 hp));clear B1 M1 hp;have c80:∀w,(Instr.sliceAt 140 (.pointer (some ⟨p,0,none⟩)) (some (.int .i64 80)) none none).run Tryz.prog w=.ok (.slice (some ⟨p,80,none⟩) 65456 65456) w:=eH p 80 zLF;have c160:∀w,(Instr.sliceAt 140 (.pointer (some ⟨p,0,none⟩)) (some (.int .i64 160)) none none).run Tryz.prog w=.ok (.slice (some ⟨p,160,none⟩) 65376 65376) w:=eH p 160 zLF;have c512:∀w,(Instr.sliceAt 140 (.pointer (some ⟨p,0,none⟩)) (some (.int .i64 512)) none none).run Tryz.prog w=.ok (.slice (some ⟨p,512,none⟩) 65024 65024) w:=eH p 512 zLF;refine mJ (C:=fun w'=>∃x:xT,w'=x.w) [([0,1,2,3],4),([],5)] [] zLP zLP (fun _ _ d _ _ h=>by cases d<;>exact h) (xT.any _) ?_;intro wd hwd;have P2:Below w.heap.size w wd∧mF p cH (.slice none 0 0) wd∧p=w.heap.size:=by rw[hwd];exact⟨P1.out.1.drew,P1.out.2⟩
 have PD:=zW P2;clear hwd P2 P1;refine mV zLE zLU ?_;repeat(go_big_quiet_step (fail))
 refine zY ?_;refine lU zLU ?_;intro K hK;go_wp2_with fail;refine(EL _ (H.out.2.2.step PD.out.1)).mono ?_;rintro e w2 h;obtain⟨g,c2,rfl,_,_,R2,b2⟩:=h.slice vG zLF;have P2:Below w.heap.size w w2∧mF p cH (.slice none 0 0) w2∧p=w.heap.size:=⟨PD.out.1.trans (b2.mono PD.out.1.size),PD.out.2.1.keep (b2.block p PD.out.2.1.lt),PD.out.2.2⟩;obtain⟨v2,hrun,hm2,ha2⟩:=yG 3 p 80 65456 65456 (some ⟨g,0,none⟩) 80 c2 80 zLF nG vG R2 cH (.slice none 0 0) (by exact cK) P2.2.1 zLF;rw[qW (by rw[vG];omega),dJ _ _ _ (by exact cK) (by rw[vG];omega)]at hm2;have Q2:=zW (zM (P2.1.trans ((ha2 none).below P2.1.size (by have:=P2.2.2;omega) (fun k hk=>by cases hk))) (zM hm2 P2.2.2));clear h PD R2 b2 P2 hm2 ha2;simp only[];refine hK _ _ (xT.any _) ?_;clear hK K;refine mV zLE zLU ?_;refine zY ?_;refine lU zLU ?_;intro K hK;refine vH (.tmp 12) (.tmp 13) rfl 3 rfl _ _ _ zLU zLU hrun 14 zLU ?_;simp only[zQ,zZ,zJ];refine hK _ _ (xT.any _) ?_;clear hK K hrun;refine nF zLE ?_;refine zY ?_;clear c80;go_wp2_with fail;refine mJ (C:=fun w'=>∃x:xT,w'=x.w) [([0,1,2,3],4),([],5)] [] zLP zLP (fun _ _ d _ _ h=>by cases d<;>exact h) (xT.any _) ?_;intro wd hwd;have P2:Below w.heap.size w wd∧mF p (put cH 80 nG) (.slice none 0 0) wd∧p=w.heap.size:=by rw[hwd];exact⟨Q2.out.1.drew,Q2.out.2⟩
 have PD:=zW P2;clear hwd P2 Q2;refine mV zLE zLU ?_;repeat(go_big_quiet_step (fail))
 refine zY ?_;refine lU zLU ?_;intro K hK;go_wp2_with fail;refine(zYX _ (H.out.2.2.step PD.out.1)).mono ?_;rintro e w3 h;obtain⟨g,c3,rfl,_,_,R3,b3⟩:=h.slice xB zLF;have P3:Below w.heap.size w w3∧mF p (put cH 80 nG) (.slice none 0 0) w3∧p=w.heap.size:=⟨PD.out.1.trans (b3.mono PD.out.1.size),PD.out.2.1.keep (b3.block p PD.out.2.1.lt),PD.out.2.2⟩;obtain⟨v3,hrun,hm3,ha3⟩:=yG 3 p 160 65376 65376 (some ⟨g,0,none⟩) 160 c3 160 zLF uX xB R3 (put cH 80 nG) (.slice none 0 0) (by rw[cJ];exact cK) P3.2.1 zLF;rw[qW (by rw[xB];omega),dJ _ _ _ (by rw[cJ];exact cK) (by rw[xB];omega)]at hm3;have Q3:=zW (zM (P3.1.trans ((ha3 none).below P3.1.size (by have:=P3.2.2;omega) (fun k hk=>by cases hk))) (zM hm3 P3.2.2));clear h PD R3 b3 P3 hm3 ha3;simp only[];refine hK _ _ (xT.any _) ?_;clear hK K;refine mV zLE zLU ?_;refine zY ?_;refine lU zLU ?_;intro K hK;refine vH (.tmp 18) (.tmp 19) rfl 3 rfl _ _ _ zLU zLU hrun 20 zLU ?_;simp only[zQ,zZ,zJ];refine hK _ _ (xT.any _) ?_;clear hK K hrun;refine nF zLE ?_;refine zY ?_;clear c160;go_wp2_with fail;have R3:Rd v3 A L:=H.out.2.1.below Q3.out.1;obtain⟨w4,hrun,hm4,ha4⟩:=yG 3 p 512 65024 65024 A n c n zLF L H.out.1 R3 (put (put cH 80 nG) 160 uX) (.slice none 0 0) (by rw[cJ,cJ];exact cK) Q3.out.2.1 zLF;rw[qW (by rw[H.out.1];omega),dJ _ _ _ (by rw[cJ,cJ];exact cK) (by rw[H.out.1];omega)]at hm4;have Q4:=zW (zM (Q3.out.1.trans ((ha4 none).below Q3.out.1.size (by have:=Q3.out.2.2;omega) (fun k hk=>by cases hk))) (zM hm4 Q3.out.2.2));clear R3 hm4 ha4 Q3 c512;rw[hrun];clear hrun;go_wp2;go_ret2;exact⟨p,rfl,by have:=Q4.out.2.2;omega,Q4.out.2.1,Q4.out.1⟩
def Gave(n:Nat)(L:List Int)(w:World)(e:Ending)(w':World):Prop:=
 ∃g,e=.returned (.slice (some ⟨g,0,none⟩) n n)∧w.heap.size≤g∧Rd w' (some ⟨g,0,none⟩) L∧Below w.heap.size w w'
theorem Z7(p:Nat)(M:List Int)(v:Value)(a:Int)(k n:Nat)(w:World)(hM:M.length=65536)(hp:mF p M v w)(hk:a%65536=k)(hn:n≤65536):
  Calls Tryz.prog 73 #[.pointer (some ⟨p,0,none⟩),.int .i64 a,.int .i64 (n:Int)] w (Gave n (seg M a n) w):=by
 have m1:max (n:Int) 0=n:=zLF;have m2:min (n:Int) 65536=n:=zLF;have mk:=WK n n rfl zLF;have H:=zW (zM hM (zM hp hk));clear hM hp hk;go_enter Tryz.func73,Tryz.ntmps73;go_wp2_with fail;clear mk m1 m2;have B1:Below w.heap.size w (w.alloc (.cells (arr (List.replicate n 0)) 5)):=(zG _ _).alloc (zH _) _;have G1:(w.alloc (.cells (arr (List.replicate n 0)) 5)).heap[w.heap.size]?=some (.cells (arr (List.replicate n 0)) 5 (0,0)):=jM _ _;obtain⟨g,hg⟩:∃g,g=w.heap.size:=⟨_,rfl⟩;generalize w.alloc (.cells (arr (List.replicate n 0)) 5)=w1 at*;rw[←hg]at G1⊢;have P1:=zW (zM B1 (zM G1 hg));clear B1 G1 hg;have k2:k<65536:=by have:=H.out.2.2;omega
 have c1:=eH p k k2;obtain⟨N,hN⟩:∃N,N=65536:=⟨_,rfl⟩;have c2:=BR p N hN;obtain⟨d,hd⟩:∃d,d=min (65536-k) n:=⟨_,rfl⟩;obtain⟨D,hD⟩:∃D,D=if n=d then some (⟨g,0,none⟩:Addr)else some ⟨g,d,none⟩:=⟨_,rfl⟩;have c3:=zW5 g n d zLF D hD;have HD:=zW (zM hN (zM hd hD));clear hN hd hD;refine mJ (C:=fun w'=>∃x:xT,w'=x.w) [([0,1,2,3,4],5),([6],7)] [8] zLP zLP (fun _ _ d _ _ h=>by cases d<;>exact h) (xT.any _) ?_;intro wd hwd;have P2:Below w.heap.size w wd∧wd.heap[g]?=some (.cells (arr (List.replicate n 0)) 5 (0,0))∧g=w.heap.size:=by rw[hwd];exact⟨P1.out.1.drew,P1.out.2⟩
 have PD:=zW P2;clear hwd P2 P1;refine mV zLE zLU ?_;repeat(go_big_quiet_step (fail))
 refine zY ?_;refine lU zLU ?_;intro K hK;go_wp2_with fail;refine(rI _ k _ H.out.2.2).mono ?_;rintro e w' ⟨rfl,h⟩;replace h:=h.symm;subst h;simp only[];refine hK _ _ (xT.any _) ?_;clear hK K;refine mV zLE zLU ?_;repeat(go_big_quiet_step (fail))
 refine zY ?_;refine lU zLU ?_;intro K hK;have mp:mF p M v wd:=H.out.2.1.keep (PD.out.1.block p H.out.2.1.lt);have R1:Rd wd (some ⟨p,k,none⟩) (M.drop k):=fun _=>⟨_,rfl,mp.lt,fun j hj=>by
  have hM:=H.out.1;rw[jH]at hj;rw[cO,mp.cell hM (k+j) zLF,List.getElem_drop]⟩
 obtain⟨w2,hrun,hg2,ha2⟩:=hE 3 g 0 n n (some ⟨g,0,none⟩) (fun _=>rfl) (some ⟨p,k,none⟩) (65536-k) (65536-k) d HD.out.2.1 (M.drop k) (by rw[jH,H.out.1]) R1 (List.replicate n 0) 5 PD.out.2.1 zLI;refine vH (.tmp 15) (.tmp 21) rfl 3 rfl _ _ _ zLU zLU hrun 22 zLU ?_;simp only[zQ,zZ,zJ];refine hK _ _ (xT.any _) ?_;have Q2:=zW (zM (PD.out.1.trans ((ha2 none).below PD.out.1.size (by have:=PD.out.2.2;omega) (fun k hk=>by cases hk))) (zM hg2 PD.out.2.2));clear hK K hrun hg2 ha2 mp R1 PD c1;refine nF zLE ?_;repeat(go_big_quiet_step (fail))
 refine zY ?_;go_wp2_with fail;refine mJ (C:=fun w'=>∃x:xT,w'=x.w) [([0,1,2,3,4,5,6],7)] [] zLP zLP (fun _ _ d _ _ h=>by cases d<;>exact h) (xT.any _) ?_;intro wd hwd;have P2:Below w.heap.size w wd∧wd.heap[g]?=some (.cells (arr (splice (List.replicate n 0) 0 ((M.drop k).take n))) 5 (0,0))∧g=w.heap.size:=by rw[hwd];exact⟨Q2.out.1.drew,Q2.out.2⟩
 have PD:=zW P2;clear hwd P2 Q2;refine mV zLE zLU ?_;repeat(go_big_quiet_step (fail))
 refine zY ?_;refine lU zLU ?_;intro K hK;have mp:mF p M v wd:=H.out.2.1.keep (PD.out.1.block p H.out.2.1.lt);have R1:Rd wd (some ⟨p,0,none⟩) M:=fun _=>⟨_,rfl,mp.lt,fun j hj=>by
  have hM:=H.out.1;rw[cO,qH,mp.cell hM j zLF]⟩
 have hl2:(splice (List.replicate n (0:Int)) 0 ((M.drop k).take n)).length=n:=by
  rw[xC _ _ _ (by rw[qT,List.length_replicate];omega),List.length_replicate]
 have hdn:d≤n:=by have:=HD.out.2.1;omega
 obtain⟨w3,hrun,hg3,ha3⟩:=hE 3 g d (n-d) (n-d) D (fun h=>by rw[HD.out.2.2,zL zLF]) (some ⟨p,0,none⟩) N N (n-d) (by have:=HD.out.1;omega) M (by rw[HD.out.1];exact H.out.1) R1 _ 5 PD.out.2.1 (by rw[hl2];omega);refine vH (.tmp 25) (.tmp 29) rfl 3 rfl _ _ _ zLU zLU hrun 30 zLU ?_;simp only[zQ,zZ,zJ];refine hK _ _ (xT.any _) ?_;rw[QC M (List.replicate n 0) a k n d H.out.2.2 HD.out.2.1 H.out.1 hn List.length_replicate]at hg3;have Q3:=zW (zM (PD.out.1.trans ((ha3 none).below PD.out.1.size (by have:=PD.out.2.2;omega) (fun k hk=>by cases hk))) (zM hg3 PD.out.2.2));clear hK K hrun hg3 ha3 mp R1 PD hl2 c2 c3;refine nF zLE ?_;refine zY ?_;go_wp2;go_ret;refine⟨g,rfl,by have:=Q3.out.2.2;omega,?_,Q3.out.1⟩;intro _;have hg:=Q3.out.2.1;refine⟨_,rfl,(qX.1 hg).1,fun j hj=>?_⟩;rw[cO,qH,jU _ _ _ _ _ _ hg];exact f7 _ j hj

end
section
open Go.RowKit
theorem uN{P:Program}{id:Nat}{Q:Exit→Act→World→Prop}{a:Act}{w:World}{l:List Oper}(n:Nat)(hm:P.follows .mixedOrders=true)(hB:Region.lexTailB .any l.toArray n=true)
  (h:∀wd,wd=w.drew→wpStill P l.toArray wd (fun a'=>wpList P l.toArray Q (l.drop n) a' wd) (l.take n) a):(Code.region id l.toArray true).wp P Q a w:=
 wp_region_still_tail n hm hB (h w.drew rfl)
end
section
open Go.RowKit Num

theorem gS.bytes{L:List Int}{w w':World}{e:Ending}{n:Nat}(h:gS 5 L w e w')(hn:L.length=n)(h0:0<n):
  ∃g c,e=.returned (.slice (some ⟨g,0,none⟩) n c)∧w.heap.size≤g∧g<w'.heap.size∧w'.ownsRow w.heap.size 5 1 (.slice (some ⟨g,0,none⟩) n c) n (L.map (Value.int .u8))∧Below w.heap.size w w':=by
 obtain⟨v,rfl,hown,hb⟩:=h;rw[hn]at hown;obtain⟨g,c,rfl,hg,hlt⟩:=hown.form h0;exact⟨g,c,rfl,hg,hlt,hown,hb⟩
theorem iQ(h l:Int)(w:World)(h0:0≤h)(h1:h≤255)(l0:0≤l)(l1:l≤255):
  Calls Tryz.prog 85 #[.int .u8 h,.int .u8 l] w fun e w'=>e=.returned (.int .i64 (h*256+l))∧w=w':=by
 go_enter Tryz.func85,Tryz.ntmps85;go_wp2;go_ret;exact⟨uW (or256 h l h0 h1 l0 l1),rfl⟩
theorem EW(h l:Int)(w:World)(h0:0≤h)(h1:h≤255)(l0:0≤l)(l1:l≤255):
  Calls Tryz.prog 83 #[.int .u8 h,.int .u8 l] w fun e w'=>
   e=.returned (.agg #[.int .i64 (h/16),.int .i64 (h%16),.int .i64 (l/16),.int .i64 (l%16),.int .i64 l,.int .i64 (h%16*256+l)])∧Below w.heap.size w w':=by
 go_enter Tryz.func83,Tryz.ntmps83;go_wp2_with (go_at_call 85;refine(iQ _ _ _ h0 h1 l0 l1).mono ?_;rintro e w' ⟨rfl,rfl⟩);go_returns;refine⟨?_,by go_grown⟩;rw[zJN _ zLF zLF,zJN _ zLF zLF,zJN _ zLF zLF,and255 _ zLF zLF,zYM _ zLF zLF];exact OQ zLF zLF zLF zLF zLF zLF
end
section
open Go.RowKit Num Go.Maps
theorem cL{H:Type}{P:Program}(w:World){ops:Array Oper}{rest:List Oper}{o:Oper}{a:Act}{Q:Exit→Act→World→Prop}
  (hg:o.guard=none) (m x v:Operand) (t:TypeId) (hop:o.op=Op.insert t m x v)
  (k e:TypeId) (K:Keyed P k) (ht:P.underlying t=some (.map k e)) (R:Value→Option (DataW H×List MemPlace)) (b n:Nat) (D:DataW H)
  (hm:a.eval m=.map (some b)) (hown:w.ownsMap P k R b n D) (hn:n<maxLen) (key val:Value) (kl:Lit) (hx:a.eval x=key) (hv:a.eval v=val) (hkey:keyOf P k key=some kl)
  (d:DataW H) (ps:List MemPlace) (hval:R val=some (d,ps))
  (hK:∀w',w'.ownsMap P k R b (n+1) (D.put kl d)→w.grownBy w' (some b)→wpList P ops Q rest (a.put o.dst undef) w'):
  wpList P ops Q (o::rest) a w:=by
 refine qG hg fun K' hK'=>?_;obtain⟨w',hrun,r1,r2⟩:=hown.update K ht hn hkey hval;unfold Oper.wp;simp[execOp,hop,hm,hx,hv,hrun,Result.andThen];exact hK' _ _ (hK w' r1 r2)
def iO(l x:Int):Bool:=decide ((l=2∧0≤x∧x≤7)∨(l=3∧0≤x∧x≤15))
theorem yS:Keyed Tryz.prog 3:=int_keyed Tryz.underlying3
theorem uI(l:Int)(h:(Lit.int .i64 l).wf=true):keyOf Tryz.prog 3 (.int .i64 l)=some (.int .i64 l):=keyOf_int_mk Tryz.underlying3 h
theorem zJ7(w:World):(zeroValue 3).run Tryz.prog w=.ok (.int .i64 0) w:=by kernel_rfl
def sY:DataW Unit:=((DataW.map []).put (.int .i64 2) (.lit (.int .i64 7))).put (.int .i64 3) (.lit (.int .i64 15))
theorem GP(l:Int):WideAt.IsKeyLit (.int .i64 l):=by first|trivial|simp[WideAt.IsKeyLit]
theorem JC:IsMap (DataW.map []:DataW Unit):=⟨_,rfl⟩
theorem FK(l:Int):has sY (.int .i64 l)=(decide (l=2)||decide (l=3)):=by
 unfold sY;by_cases h3:l=3
 ·subst h3;rw[has_put_same (JC.put _ _) (GP 3)];rfl
 ·rw[has_put_other (by intro c;injection c with _ c;exact h3 c),qQ h3,Bool.or_false];by_cases h2:l=2
  ·subst h2;rw[has_put_same JC (GP 2)];rfl
  ·rw[has_put_other (by intro c;injection c with _ c;exact h2 c),qQ h2];rfl
theorem zQ0(l:Int)(z:DataW Unit):sY.atKey (.int .i64 l) z=if l=3 then .lit (.int .i64 15)else if l=2 then .lit (.int .i64 7)else z:=by
 unfold sY;by_cases h3:l=3
 ·subst h3;rw[zN rfl,atKey_put_same (JC.put _ _) (GP 3)]
 ·rw[zL h3,atKey_put_other (by intro c;injection c with _ c;exact h3 c)];by_cases h2:l=2
  ·subst h2;rw[zN rfl,atKey_put_same JC (GP 2)]
  ·rw[zL h2,atKey_put_other (by intro c;injection c with _ c;exact h2 c)];rfl
theorem JI(w:World):Calls Tryz.prog 160 #[] w fun e w'=>∃b,e=.returned (.map (some b))∧w'.ownsMap Tryz.prog 3 (plainElem Tryz.prog 3) b 2 sY∧Below w.heap.size w w':=by
 have hmm:= @run_makeMap Tryz.prog;go_enter Tryz.func160,Tryz.ntmps160;go_upto_region 1 with fail;refine zB ?_;iterate 3 go_step
 have B0:=zW ((zG w.heap.size w).alloc (zH _) (.map #[] 0));refine cL (H:=Unit) _ rfl (.tmp 1) (.const (.int .i64 2)) (.const (.int .i64 7)) 250 rfl 3 3 yS Tryz.underlying250 (plainElem Tryz.prog 3) w.heap.size 0 (.map []) rfl (World.ownsMap_made w _ _ _) zL5 _ _ (.int .i64 2) rfl rfl (uI 2 zLC) (.lit (.int .i64 7)) [] (plainElem_int Tryz.underlying3 zLC) ?_;intro w1 o1 g1;have B1:=zW (B0.out.grown g1 B0.out.size (fun j hj=>by cases hj;exact zH _));have O1:=zW o1;clear o1 g1 B0 hmm;simp only[Act.put];refine cL _ rfl (.tmp 1) (.const (.int .i64 3)) (.const (.int .i64 15)) 250 rfl 3 3 yS Tryz.underlying250 (plainElem Tryz.prog 3) w.heap.size 1 _ rfl O1.out zL5 _ _ (.int .i64 3) rfl rfl (uI 3 zLC) (.lit (.int .i64 15)) [] (plainElem_int Tryz.underlying3 zLC) ?_;intro w2 o2 g2;have Z:=zW (zM o2 (B1.out.grown g2 B1.out.size (fun j hj=>by cases hj;exact zH _)));clear o2 g2 O1 B1;simp only[Act.put];go_wp2_with fail;go_ret;exact⟨_,rfl,Z.out.1,Z.out.2⟩
theorem pU(l x:Int)(w:World)(hl:(Lit.int .i64 l).wf=true):Calls Tryz.prog 121 #[.int .i64 l,.int .i64 x] w fun e w'=>e=.returned (.bool (iO l x))∧Below w.heap.size w w':=by
 have hk:=zW (uI l hl);clear hl;go_enter Tryz.func121,Tryz.ntmps121;go_wp2_with fail;refine(JI _).mono ?_;rintro e w1 ⟨b,rfl,ho,hb⟩;have O:=zW (zM ho hb);clear ho hb;simp only[];go_at_K
 iterate 4 go_step
 refine wpList_lookup_own_ok_int _ rfl (.tmp 8) (.tmp 9) 250 rfl 3 3 .i64 yS Tryz.underlying250 Tryz.underlying3 (zJ7 _) b 2 sY rfl O.out.1 _ _ rfl hk.out ?_;intro c hat _;rw[FK];rw[zQ0]at hat;have F:iO l x=((decide (l=2)||decide (l=3))&&(decide (0≤x)&&decide (x≤c))):=by
  unfold iO;by_cases h3:l=3
  ·rw[zN h3]at hat;injection hat with hat
   injection hat with _ hat
   subst hat h3;simp[Bool.decide_and]
  ·rw[zL h3]at hat;by_cases h2:l=2
   ·rw[zN h2]at hat;injection hat with hat
    injection hat with _ hat
    subst hat h2;simp[Bool.decide_and]
   ·simp[h2,h3]
 have FH:=zW F;clear F hat;generalize (decide (l=2)||decide (l=3))=s at*;simp only[Act.put];have B:=zW O.out.2;clear O hk;cases s
 ·go_wp2;go_ret;exact⟨by rw[FH.out];rfl,B.out⟩
 ·by_cases hx:0≤x
  ·by_cases hc:x≤c
   ·have e:=zW (show iO l x=true by rw[FH.out];simp[hx,hc]);exact zN9
   ·have e:=zW (show iO l x=false by rw[FH.out];simp only[qQ hc,Bool.and_false]);exact zN9
  ·have e:=zW (show iO l x=false by rw[FH.out];simp only[qQ hx,Bool.false_and,Bool.and_false]);exact zN9
end
section
namespace Dec
def tI(n:Nat):Nat:=bif Nat.beq (Nat.land n 65535) 224 then 1 else bif Nat.beq (Nat.land n 65535) 238 then 2 else bif Nat.beq (Nat.land n 61440) 4096 then 3 else bif Nat.beq (Nat.land n 61440) 8192 then 4 else bif Nat.beq (Nat.land n 61440) 12288 then 5 else bif Nat.beq (Nat.land n 61440) 16384 then 6 else bif Nat.beq (Nat.land n 61455) 20480 then 7 else bif Nat.beq (Nat.land n 61440) 24576 then 8 else bif Nat.beq (Nat.land n 61440) 28672 then 9 else bif Nat.beq (Nat.land n 61455) 32768 then 10 else bif Nat.beq (Nat.land n 61455) 32769 then 11 else bif Nat.beq (Nat.land n 61455) 32770 then 12 else bif Nat.beq (Nat.land n 61455) 32771 then 13 else bif Nat.beq (Nat.land n 61455) 32772 then 14 else bif Nat.beq (Nat.land n 61455) 32773 then 15 else bif Nat.beq (Nat.land n 61455) 32774 then 16 else bif Nat.beq (Nat.land n 61455) 32775 then 17 else bif Nat.beq (Nat.land n 61455) 32782 then 18 else bif Nat.beq (Nat.land n 61455) 36864 then 19 else bif Nat.beq (Nat.land n 61440) 40960 then 20 else bif Nat.beq (Nat.land n 61440) 45056 then 21 else bif Nat.beq (Nat.land n 61440) 49152 then 22 else bif Nat.beq (Nat.land n 61455) 53248 then 41 else bif Nat.beq (Nat.land n 61440) 53248 then 23 else bif Nat.beq (Nat.land n 61695) 57502 then 24 else bif Nat.beq (Nat.land n 61695) 57505 then 25 else bif Nat.beq (Nat.land n 61695) 61447 then 26 else bif Nat.beq (Nat.land n 61695) 61450 then 27 else bif Nat.beq (Nat.land n 61695) 61461 then 28 else bif Nat.beq (Nat.land n 61695) 61464 then 29 else bif Nat.beq (Nat.land n 61695) 61470 then 30 else bif Nat.beq (Nat.land n 61695) 61481 then 31 else bif Nat.beq (Nat.land n 61695) 61491 then 32 else bif Nat.beq (Nat.land n 61695) 61525 then 33 else bif Nat.beq (Nat.land n 61695) 61541 then 34 else bif Nat.beq (Nat.land n 65520) 192 then 35 else bif Nat.beq (Nat.land n 65535) 251 then 36 else bif Nat.beq (Nat.land n 65535) 252 then 37 else bif Nat.beq (Nat.land n 65535) 253 then 38 else bif Nat.beq (Nat.land n 65535) 254 then 39 else bif Nat.beq (Nat.land n 65535) 255 then 40 else bif Nat.beq (Nat.land n 61695) 61488 then 42 else bif Nat.beq (Nat.land n 61695) 61557 then 43 else bif Nat.beq (Nat.land n 61695) 61573 then 44 else bif Nat.beq (Nat.land n 65520) 208 then 45 else bif Nat.beq (Nat.land n 61455) 20482 then 46 else bif Nat.beq (Nat.land n 61455) 20483 then 47 else bif Nat.beq (Nat.land n 65535) 61440 then 48 else bif Nat.beq (Nat.land n 61695) 61441 then 49 else bif Nat.beq (Nat.land n 65535) 61442 then 50 else bif Nat.beq (Nat.land n 61695) 61498 then 51 else 0
theorem zY3:∀(n:Nat) (l:List Rl),(rT n l).op=l.foldr (fun r m=>bif Nat.beq (Nat.land n r.mask) r.code then r.op else m) 0
 |n,[]=>rfl
 |n,r::rs=>by
  unfold rT fit;rw[List.foldr_cons];cases Nat.beq (Nat.land n r.mask) r.code
  ·exact zY3 n rs
  ·rfl
theorem zXH(n:Nat):(top n).op=tI n:=zY3 n rls
end Dec
end
end Go.Proofs.YtbpniahcjbagmaaGreatDoor
